/- The known case of layer 14. -/
import Derived.Test.YtbhkgpbhimeniaaDoorEnI
import Derived.Test.YtbhkgpbhimeniaaDoorEnS
import Derived.Deep.DeepCutAuto
import Derived.Deep.CutBlock
namespace Go.Proofs.YtbhkgpbhimeniaaDoor
open Go.RowKit
set_option linter.unusedVariables false
set_option maxRecDepth 100000

theorem less_to {a b : Ent} {r : Bool} (h : lessE a b = r) (ha : In64 a.prio) (hb : In64 b.prio) (w : World) : Calls Tryd.prog 9 #[enV a, enV b] w fun e w' => e = .returned (.bool r) ∧ Below w.heap.size w w' := h ▸ less_any a b ha hb w
theorem gone_to {e : Ent} {now : Int} {r : Bool} (h : goneE e now = r) (w : World) : Calls Tryd.prog 8 #[enV e, .int .i64 now] w fun x w' => x = .returned (.bool r) ∧ Below w.heap.size w w' := h ▸ gone_any e now w
theorem for_to {e : Ent} {o : Opt} {now : Int} {r : Ent} (h : forE e o now = r) (w : World) : Calls Tryd.prog 7 #[enV e, opV o, .int .i64 now] w fun x w' => x = .returned (enV r) ∧ Below w.heap.size w w' := h ▸ for_any e o now w
theorem limit_to {o : Opt} {r : Int} (h : limitO o = r) (w : World) : Calls Tryd.prog 12 #[opV o] w fun x w' => x = .returned (.int .i64 r) ∧ Below w.heap.size w w' := h ▸ limit_any o w
theorem isopts_to {o : Opt} {r : Bool} (h : isO o = r) (w : World) (hT : Most w.heap.size w) : Calls Tryd.prog 10 #[opV o] w fun x w' => x = .returned (.bool r) ∧ Below w.heap.size w w' := h ▸ isopts_any o w hT
theorem same_to {a b : Opt} {r : Bool} (h : sameO a b = r) (w : World) : Calls Tryd.prog 11 #[opV a, opV b] w fun x w' => x = .returned (.bool r) ∧ Below w.heap.size w w' := h ▸ same_any a b w

def eA : Ent := ⟨2, 0, 0, [], [], 1, 0, 0, false, 0⟩
def eB : Ent := ⟨1, 0, 0, [], [], 0, 0, 0, false, 0⟩
def eF : Ent := ⟨1, 0, 0, [], [], 2, 5, 13, false, 0⟩
/-- .. of three entries of one's own. -/
structure En3 (w wr : World) (x y z : Nat) : Prop where
  below : Below w.heap.size w wr
  a_ : EnAt wr x eA
  b_ : EnAt wr y eB
  f_ : EnAt wr z eF
theorem En3.step {w wr w' : World} {x y z : Nat} (h : En3 w wr x y z) (hb : Below wr.heap.size wr w') : En3 w w' x y z := ⟨bel h.below hb, h.a_.step hb, h.b_.step hb, h.f_.step hb⟩

set_option maxHeartbeats 4000000 in
theorem known14_true (w : World) (hT : Most w.heap.size w) : Calls Tryd.prog 6 #[] w fun e w' => e = .returned (.bool true) ∧ Below w.heap.size w w' := by
  have hW : Hid (∀ w', Below w.heap.size w w' → Most w'.heap.size w') := Lib.hid fun w' hb => hT.on hb
  have k1 : Hid (∀ w, Calls Tryd.prog 7 #[.agg #[.int .i64 1, .int .i64 0, .int .i64 0, tx [], tx [], .int .i64 9, .int .i64 5, .int .i64 0, .bool false, .int .i64 0], .agg #[tx [], tx [], .int .i64 0, .int .i64 3, .int .i64 2, .int .i64 0], .int .i64 10] w fun e w' => e = .returned (.agg #[.int .i64 1, .int .i64 0, .int .i64 0, tx [], tx [], .int .i64 2, .int .i64 5, .int .i64 13, .bool false, .int .i64 0]) ∧ Below w.heap.size w w') := Lib.hid fun w => for_to (e := (⟨1, 0, 0, [], [], 9, 5, 0, false, 0⟩ : Ent)) (o := (⟨[], [], 0, 3, 2, 0⟩ : Opt)) (r := (⟨1, 0, 0, [], [], 2, 5, 13, false, 0⟩ : Ent)) (by kernel_rfl) w
  have k2 : Hid (∀ w, Calls Tryd.prog 9 #[.agg #[.int .i64 2, .int .i64 0, .int .i64 0, tx [], tx [], .int .i64 1, .int .i64 0, .int .i64 0, .bool false, .int .i64 0], .agg #[.int .i64 1, .int .i64 0, .int .i64 0, tx [], tx [], .int .i64 0, .int .i64 0, .int .i64 0, .bool false, .int .i64 0]] w fun e w' => e = .returned (.bool true) ∧ Below w.heap.size w w') := Lib.hid fun w => less_to (a := (⟨2, 0, 0, [], [], 1, 0, 0, false, 0⟩ : Ent)) (b := (⟨1, 0, 0, [], [], 0, 0, 0, false, 0⟩ : Ent)) (by decide) (by unfold In64; decide) (by unfold In64; decide) w
  have k3 : Hid (∀ w, Calls Tryd.prog 9 #[.agg #[.int .i64 1, .int .i64 0, .int .i64 0, tx [], tx [], .int .i64 0, .int .i64 0, .int .i64 0, .bool false, .int .i64 0], .agg #[.int .i64 2, .int .i64 0, .int .i64 0, tx [], tx [], .int .i64 1, .int .i64 0, .int .i64 0, .bool false, .int .i64 0]] w fun e w' => e = .returned (.bool false) ∧ Below w.heap.size w w') := Lib.hid fun w => less_to (a := (⟨1, 0, 0, [], [], 0, 0, 0, false, 0⟩ : Ent)) (b := (⟨2, 0, 0, [], [], 1, 0, 0, false, 0⟩ : Ent)) (by decide) (by unfold In64; decide) (by unfold In64; decide) w
  have k4 : Hid (∀ w, Calls Tryd.prog 8 #[.agg #[.int .i64 1, .int .i64 0, .int .i64 0, tx [], tx [], .int .i64 2, .int .i64 5, .int .i64 13, .bool false, .int .i64 0], .int .i64 13] w fun e w' => e = .returned (.bool true) ∧ Below w.heap.size w w') := Lib.hid fun w => gone_to (e := (⟨1, 0, 0, [], [], 2, 5, 13, false, 0⟩ : Ent)) (by decide) w
  have k5 : Hid (∀ w, Calls Tryd.prog 8 #[.agg #[.int .i64 1, .int .i64 0, .int .i64 0, tx [], tx [], .int .i64 2, .int .i64 5, .int .i64 13, .bool false, .int .i64 0], .int .i64 12] w fun e w' => e = .returned (.bool false) ∧ Below w.heap.size w w') := Lib.hid fun w => gone_to (e := (⟨1, 0, 0, [], [], 2, 5, 13, false, 0⟩ : Ent)) (by decide) w
  have k6 : Hid (∀ w, Calls Tryd.prog 12 #[.agg #[tx [], tx [], .int .i64 3, .int .i64 0, .int .i64 0, .int .i64 0]] w fun e w' => e = .returned (.int .i64 3) ∧ Below w.heap.size w w') := Lib.hid fun w => limit_to (o := (⟨[], [], 3, 0, 0, 0⟩ : Opt)) (by decide) w
  have k7 : Hid (∀ w, Calls Tryd.prog 12 #[.agg #[tx [], tx [], .int .i64 0, .int .i64 0, .int .i64 0, .int .i64 0]] w fun e w' => e = .returned (.int .i64 60) ∧ Below w.heap.size w w') := Lib.hid fun w => limit_to (o := (⟨[], [], 0, 0, 0, 0⟩ : Opt)) (by decide) w
  have k8 := Lib.hid (isopts_to (o := (⟨[], [], 0, 0, 0, 0⟩ : Opt)) (r := true) (by decide))
  have k9 := Lib.hid (isopts_to (o := (⟨[], [], 0, 0, 4, 0⟩ : Opt)) (r := false) (by decide))
  have k10 : Hid (∀ w, Calls Tryd.prog 11 #[.agg #[tx [], tx [], .int .i64 0, .int .i64 0, .int .i64 0, .int .i64 8], .agg #[tx [], tx [], .int .i64 0, .int .i64 0, .int .i64 0, .int .i64 0]] w fun e w' => e = .returned (.bool true) ∧ Below w.heap.size w w') := Lib.hid fun w => same_to (a := (⟨[], [], 0, 0, 0, 8⟩ : Opt)) (b := (⟨[], [], 0, 0, 0, 0⟩ : Opt)) (by decide) w
  have hX0 := Lib.hid (two_new w (enO eA) (enO eB))
  have hA0 := Lib.hid (En2.mk (wr := (w.alloc (enO eA)).alloc (enO eB)) ((EnAt.start w eA).step (new_below _ _)) (by have := EnAt.start (w.alloc (enO eA)) eB; rwa [World.size_alloc] at this))
  clear hT
  go_enter Tryd.func6, Tryd.ntmps6
  go_wp2_with fail
  refine (k1.out _).mono ?_
  rintro e w1 ⟨rfl, hb⟩
  have h1 := en2Hold (en2Hold hA0.out hb) (new_below _ (enO eF))
  have h3 : En3 w (w1.alloc (enO eF)) w.heap.size (w.heap.size + 1) w1.heap.size := ⟨bel (bel hX0.out hb) (new_below _ _), h1.1, h1.2, EnAt.start w1 eF⟩
  obtain ⟨W2, hW2⟩ : ∃ W2, w1.alloc (.cells #[.int .i64 1, .int .i64 0, .int .i64 0, tx [], tx [], .int .i64 2, .int .i64 5, .int .i64 13, .bool false, .int .i64 0] 25) = W2 := ⟨_, rfl⟩
  replace h3 : Hid (En3 w W2 w.heap.size (w.heap.size + 1) w1.heap.size) := Lib.hid (hW2 ▸ h3)
  replace hW2 := Lib.hid hW2
  clear hb h1 hX0 hA0 k1
  go_upto_region 3 with fail
  rw [hW2.out]
  obtain ⟨a0, a1, a2, a3, a4, a5, a6, a7, a8, a9⟩ := h3.out.a_
  obtain ⟨b0, b1, b2, b3, b4, b5, b6, b7, b8, b9⟩ := h3.out.b_
  simp only [eA, eB] at a0 a1 a2 a3 a4 a5 a6 a7 a8 a9 b0 b1 b2 b3 b4 b5 b6 b7 b8 b9
  go_wp2_with fail
  refine (k2.out _).mono ?_
  rintro e w2 ⟨rfl, hb⟩
  replace h3 := Lib.hid (h3.out.step hb)
  clear hb k2 a0 a1 a2 a3 a4 a5 a6 a7 a8 a9 b0 b1 b2 b3 b4 b5 b6 b7 b8 b9
  obtain ⟨a0, a1, a2, a3, a4, a5, a6, a7, a8, a9⟩ := h3.out.a_
  obtain ⟨b0, b1, b2, b3, b4, b5, b6, b7, b8, b9⟩ := h3.out.b_
  simp only [eA, eB] at a0 a1 a2 a3 a4 a5 a6 a7 a8 a9 b0 b1 b2 b3 b4 b5 b6 b7 b8 b9
  go_wp2_with fail
  refine (k3.out _).mono ?_
  rintro e w3 ⟨rfl, hb⟩
  replace h3 := Lib.hid (h3.out.step hb)
  clear hb k3 a0 a1 a2 a3 a4 a5 a6 a7 a8 a9 b0 b1 b2 b3 b4 b5 b6 b7 b8 b9
  obtain ⟨a0, a1, a2, a3, a4, a5, a6, a7, a8, a9⟩ := h3.out.f_
  simp only [eF] at a0 a1 a2 a3 a4 a5 a6 a7 a8 a9
  go_wp2_with fail
  refine (k4.out _).mono ?_
  rintro e w4 ⟨rfl, hb⟩
  replace h3 := Lib.hid (h3.out.step hb)
  clear hb k4 a0 a1 a2 a3 a4 a5 a6 a7 a8 a9
  obtain ⟨a0, a1, a2, a3, a4, a5, a6, a7, a8, a9⟩ := h3.out.f_
  simp only [eF] at a0 a1 a2 a3 a4 a5 a6 a7 a8 a9
  go_wp2_with fail
  refine (k5.out _).mono ?_
  rintro e w5 ⟨rfl, hb⟩
  replace h3 := Lib.hid (bel h3.out.below hb)
  clear hb k5 a0 a1 a2 a3 a4 a5 a6 a7 a8 a9
  go_wp2_with fail
  refine (k6.out _).mono ?_
  rintro e w6 ⟨rfl, hb⟩
  replace h3 := Lib.hid (bel h3.out hb)
  clear hb k6
  go_wp2_with fail
  refine (k7.out _).mono ?_
  rintro e w7 ⟨rfl, hb⟩
  replace h3 := Lib.hid (bel h3.out hb)
  clear hb k7
  go_wp2_with fail
  refine (k8.out _ (hW.out _ h3.out)).mono ?_
  rintro e w8 ⟨rfl, hb⟩
  replace h3 := Lib.hid (bel h3.out hb)
  clear hb k8
  go_wp2_with fail
  refine (k9.out _ (hW.out _ h3.out)).mono ?_
  rintro e w9 ⟨rfl, hb⟩
  replace h3 := Lib.hid (bel h3.out hb)
  clear hb k9
  go_wp2_with fail
  refine (k10.out _).mono ?_
  rintro e w10 ⟨rfl, hb⟩
  replace h3 := Lib.hid (bel h3.out hb)
  clear hb k10
  go_wp2_with fail
  go_ret
  exact ⟨rfl, h3.out⟩
end Go.Proofs.YtbhkgpbhimeniaaDoor
