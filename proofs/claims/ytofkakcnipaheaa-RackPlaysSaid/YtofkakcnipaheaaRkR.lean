/- What is known of racks by hand. -/
import Derived.Test.YtofkakcnipaheaaRkQ
namespace Go.Proofs.Ytofkakcnipaheaa
open Go.RowKit
open Go.ChangeMaps (setBlock)
set_option linter.unusedVariables false
set_option linter.unusedSectionVars false
set_option linter.unusedSimpArgs false
set_option maxRecDepth 100000

/-- An entry of an ID, a Prio, a time. -/
abbrev oE (n p t : Int) : Ent := ⟨n, 0, 0, [], [], p, 0, t, false, 0⟩
abbrev oV (n p t : Int) : Value := .agg #[.int .i64 n, .int .i64 0, .int .i64 0, tx [], tx [], .int .i64 p, .int .i64 0, .int .i64 t, .bool false, .int .i64 0]
section
variable {B : Nat} {w0 w : World} {rk : Nat} {M N : List Ent} {F : List (Nat × Obj)} {ok : Bool}
theorem put_to {n p t : Int} (hok : putOk M (oE n p t) = ok) (hN : putM M (oE n p t) = N) (h : RackIs B w0 w rk M F) (hl : M.length < 100000) : Calls Try.prog 10 #[rptr rk, oV n p t] w fun r w' => r = .returned (.bool ok) ∧ RackIs B w0 w' rk N F := by
  subst hok hN
  exact rk_put (e := oE n p t) h (by simp) (by simp) hl

abbrev k2 : Ent := oE 2 0 0
abbrev k3 : Ent := oE 3 1 0
abbrev k1 : Ent := oE 1 0 0
set_option maxHeartbeats 4000000 in
theorem known15_true (w : World) : Calls Try.prog 7 #[] w fun e w' => e = .returned (.bool true) ∧ Below w.heap.size w w' := by
  have c0 := Lib.hid (rk_new (St.start w))
  have p1 : Hid (∀ rk w', RackIs w.heap.size w w' rk [] [] → Calls Try.prog 10 #[rptr rk, oV 2 0 0] w' fun r w'' => r = .returned (.bool true) ∧ RackIs w.heap.size w w'' rk [k2] []) := Lib.hid fun rk w' h => put_to (by decide) rfl h (by decide)
  have p2 : Hid (∀ rk w', RackIs w.heap.size w w' rk [k2] [] → Calls Try.prog 10 #[rptr rk, oV 3 1 0] w' fun r w'' => r = .returned (.bool true) ∧ RackIs w.heap.size w w'' rk [k3, k2] []) := Lib.hid fun rk w' h => put_to (by decide) rfl h (by simp)
  have p3 : Hid (∀ rk w', RackIs w.heap.size w w' rk [k3, k2] [] → Calls Try.prog 10 #[rptr rk, oV 2 3 0] w' fun r w'' => r = .returned (.bool false) ∧ RackIs w.heap.size w w'' rk [k3, k2] []) := Lib.hid fun rk w' h => put_to (by decide) rfl h (by simp)
  have p4 : Hid (∀ rk w', RackIs w.heap.size w w' rk [k3, k2] [] → Calls Try.prog 10 #[rptr rk, oV 1 0 0] w' fun r w'' => r = .returned (.bool true) ∧ RackIs w.heap.size w w'' rk [k3, k1, k2] []) := Lib.hid fun rk w' h => put_to (by decide) rfl h (by simp)
  have p5 : Hid (∀ rk w' F, RackIs w.heap.size w w' rk [k3, k1] F → Calls Try.prog 10 #[rptr rk, oV 9 4 0] w' fun r w'' => r = .returned (.bool false) ∧ RackIs w.heap.size w w'' rk [k3, k1] F) := Lib.hid fun rk w' F h => put_to (by decide) rfl h (by simp)
  have hf : Hid (∀ rk w', RackIs w.heap.size w w' rk [k3, k1, k2] [] → Calls Try.prog 18 #[rptr rk] w' fun r w'' => r = .returned (.tuple #[oV 3 1 0, .bool true]) ∧ RackIs w.heap.size w (w''.alloc (enO k3)) rk [k3, k1, k2] [(w''.heap.size, enO k3)]) := Lib.hid fun rk w' h => by
    refine (rk_first h).mono ?_
    rintro r w'' ⟨rfl, hb⟩
    exact ⟨rfl, (h.grow hb).alloc _⟩
  have hw : Hid (∀ rk w' fb, RackIs w.heap.size w w' rk [k3, k1, k2] [(fb, enO k3)] → Calls Try.prog 19 #[rptr rk] w' fun r w'' => r = .returned (.tuple #[oV 1 0 0, .bool true]) ∧ RackIs w.heap.size w (w''.alloc (enO k1)) rk [k3, k1, k2] [(w''.heap.size, enO k1), (fb, enO k3)]) := Lib.hid fun rk w' fb h => by
    refine (rk_worst h).mono ?_
    rintro r w'' ⟨⟨x, b, rfl, hx⟩, hb⟩
    rcases hx with ⟨h1, -⟩ | ⟨h1, rfl⟩
    · simp at h1
    · have h2 : IsWorst [k3, k1, k2] k1 := ⟨by simp, by
        intro x hx
        simp only [List.mem_cons, List.not_mem_nil, or_false] at hx
        rcases hx with rfl | rfl | rfl <;> simp⟩
      rw [h1.eq h.ok h2]
      exact ⟨rfl, (h.grow hb).alloc _⟩
  have hd : Hid (∀ rk w' F, RackIs w.heap.size w w' rk [k3, k1, k2] F → Calls Try.prog 13 #[rptr rk, .int .i64 2] w' fun r w'' => r = .returned (.tuple #[oV 2 0 0, .bool true]) ∧ RackIs w.heap.size w (w''.alloc (enO k2)) rk [k3, k1] ((w''.heap.size, enO k2) :: F)) := Lib.hid fun rk w' F h => by
    refine (rk_drop_hit (e := k2) h (by simp)).mono ?_
    rintro r w'' ⟨rfl, h2⟩
    exact ⟨rfl, (show RackIs w.heap.size w w'' rk [k3, k1] F from h2).alloc _⟩
  have hl : Hid (∀ rk w' F, RackIs w.heap.size w w' rk [k3, k1] F → Calls Try.prog 22 #[rptr rk] w' fun r w'' => r = .returned (.int .i64 2) ∧ w'' = w') := Lib.hid fun rk w' F h => rk_len h
  have hg : Hid (∀ rk w' F, RackIs w.heap.size w w' rk [k3, k1] F → Calls Try.prog 17 #[rptr rk, .int .i64 5] w' fun r w'' => (∃ a c, r = .returned (.slice a 0 c)) ∧ RackIs w.heap.size w w'' rk [k3, k1] F) := Lib.hid fun rk w' F h => by
    refine (rk_gone h 5).mono ?_
    rintro r w'' ⟨a, c, S, rfl, -, h2⟩
    exact ⟨⟨a, c, rfl⟩, (show RackIs w.heap.size w w'' rk [k3, k1] (S ++ F) from h2).sub (List.sublist_append_right _ _)⟩
  have hal : Hid (∀ rk w' F, RackIs w.heap.size w w' rk [k3, k1] F → Calls Try.prog 21 #[rptr rk] w' fun r w'' => (∃ a c, r = .returned (.slice a 2 c)) ∧ RackIs w.heap.size w w'' rk [k3, k1] F) := Lib.hid fun rk w' F h => by
    refine (rk_all h).mono ?_
    rintro r w'' ⟨a, c, S, rfl, -, h2⟩
    exact ⟨⟨a, c, rfl⟩, h2.sub (List.sublist_append_right _ _)⟩
  go_enter Try.func7, Try.ntmps7
  go_wp2_with fail
  refine c0.out.mono ?_
  rintro r w1 ⟨rfl, h1⟩
  replace h1 := Lib.hid (p1.out _ _ h1)
  clear c0 p1
  go_wp2_with fail
  refine h1.out.mono ?_
  rintro r w2 ⟨rfl, h2⟩
  replace h2 := Lib.hid (p2.out _ _ h2)
  clear h1 p2
  go_wp2_with fail
  refine h2.out.mono ?_
  rintro r w3 ⟨rfl, h3⟩
  replace h3 := Lib.hid (p3.out _ _ h3)
  clear h2 p3
  go_wp2_with fail
  refine h3.out.mono ?_
  rintro r w4 ⟨rfl, h4⟩
  replace h4 := Lib.hid (p4.out _ _ h4)
  clear h3 p4
  go_wp2_with fail
  refine h4.out.mono ?_
  rintro r w5 ⟨rfl, h5⟩
  replace h5 := Lib.hid (hf.out _ _ h5)
  clear h4 hf
  go_wp2_with fail
  refine h5.out.mono ?_
  rintro r w6 ⟨rfl, h6⟩
  replace h6 := Lib.hid (hw.out _ _ _ h6)
  clear h5 hw
  go_wp2_with fail
  refine h6.out.mono ?_
  rintro r w7 ⟨rfl, h7⟩
  replace h7 := Lib.hid (hd.out _ _ _ h7)
  clear h6 hd
  go_wp2_with fail
  refine h7.out.mono ?_
  rintro r w8 ⟨rfl, h8⟩
  have f0 := (h8.at_block (k := w6.heap.size) (e := k3) (by simp)).1.1
  have f1 := (h8.at_block (k := w7.heap.size) (e := k1) (by simp)).1.1
  have f2 := (h8.at_block (k := w8.heap.size) (e := k2) (by simp)).1.1
  have cl := Lib.hid (hl.out _ _ _ h8)
  replace h8 := Lib.hid h8
  clear h7 hl
  go_wp2_with fail
  refine cl.out.mono ?_
  rintro r w9 ⟨rfl, rfl⟩
  replace h8 := Lib.hid (hg.out _ _ _ h8.out)
  clear cl hg f0 f1 f2
  go_wp2_with fail
  refine h8.out.mono ?_
  rintro r w10 ⟨⟨a, c, rfl⟩, h9⟩
  replace h9 := Lib.hid (hal.out _ _ _ h9)
  clear h8 hal
  go_wp2_with fail
  refine h9.out.mono ?_
  rintro r w11 ⟨⟨a2, c2, rfl⟩, h10⟩
  replace h10 := Lib.hid (p5.out _ _ _ h10)
  clear h9 p5
  go_wp2_with fail
  refine h10.out.mono ?_
  rintro r w12 ⟨rfl, h11⟩
  have fin := Lib.hid h11.below
  clear h10 h11
  go_wp2_with fail
  go_ret
  exact ⟨rfl, fin.out⟩
end
end Go.Proofs.Ytofkakcnipaheaa
