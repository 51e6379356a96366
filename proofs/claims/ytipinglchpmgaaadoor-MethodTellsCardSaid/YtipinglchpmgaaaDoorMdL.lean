/- The known case of layer 8. -/
import Derived.Test.YtipinglchpmgaaaDoorMdJ
import Derived.Test.YtipinglchpmgaaaDoorMdF
namespace Go.Proofs.YtipinglchpmgaaaDoor
open Go.RowKit
set_option linter.unusedVariables false

abbrev aV (m : Meth) (a : Option Addr) (c : Nat) (a2 : Option Addr) (c2 : Nat) : Value := .agg #[.int .i64 m.kind, .slice a m.S.length c, .slice a2 m.N.length c2, .int .i64 m.bits]
theorem RdM.form {w : World} {v : Value} {m : Meth} (h : RdM w v m) : ∃ a c a2 c2, v = aV m a c a2 c2 := by
  obtain ⟨s, n, rfl, ⟨a, c, rfl, -⟩, ⟨a2, c2, rfl, -⟩⟩ := h
  exact ⟨a, c, a2, c2, rfl⟩
def ReadB (w : World) (m : Meth) (en : Int) (e : Ending) (w' : World) : Prop := ∃ a c a2 c2, e = .returned (.tuple #[aV m a c a2 c2, .int .i64 en]) ∧ RdM w' (aV m a c a2 c2) m ∧ Below w.heap.size w w'
theorem ReadR.b {w w' : World} {R : Meth × Int} {e : Ending} (h : ReadR w R e w') : ReadB w R.1 R.2 e w' := by
  obtain ⟨v, rfl, h1, h2⟩ := h
  obtain ⟨a, c, a2, c2, rfl⟩ := h1.form
  exact ⟨a, c, a2, c2, rfl, h1, h2⟩
theorem read_b {l : List UInt8} {m : Meth} {en : Int} (hr : readM l = (m, en)) (hl : l.length ≤ 100000) (w : World) (hT : Kinds w.heap.size w) : Calls Tryd.prog 10 #[tx l] w (ReadB w m en) := by
  refine (readM_any hl w hT).mono fun e w' h => ?_
  rw [hr] at h
  exact h.b

theorem shape_b (k : Int) (w : World) (hT : Kinds w.heap.size w) : Calls Tryd.prog 12 #[.int .i64 k] w fun e w' => e = .returned (.tuple #[.int .i64 (shT k), .int .i64 (shN k), .bool (shB k), .bool (isKd k)]) ∧ Below w.heap.size w w' := by
  refine (shape_any k w hT).mono ?_
  rintro e w' ⟨rfl, rfl⟩
  exact ⟨rfl, Below.refl _ _⟩

def m33 : Meth := ⟨33, [[], [113]], [], 1⟩
def m6 : Meth := ⟨6, [], [], 0⟩
theorem m33_is : isM m33 = true := by decide +kernel
theorem m33_bytes : bytesM m33 = [0, 33, 0, 1, 113, 1] := by decide +kernel
theorem m33_read : readM [0, 33, 0, 1, 113, 1] = (m33, 0) := by
  have h := readM_raw (isM_iff.1 m33_is)
  rw [← bytesM_of (isM_iff.1 m33_is), m33_bytes] at h
  exact h
theorem m33_more : readM [0, 33, 0, 1, 113, 1, 120] = bad := by
  have h := readM_more (isM_iff.1 m33_is) (r := [120]) (by decide)
  rw [← bytesM_of (isM_iff.1 m33_is), m33_bytes] at h
  exact h
theorem none_read : readM [127, 0] = (zeroM, 540) := by
  unfold readM
  rw [if_neg (by decide), if_neg (by decide +kernel)]
theorem m6_bytes : bytesM m6 = [0, 6] := by decide +kernel

set_option maxHeartbeats 4000000 in
theorem known8_true (w : World) (hT : Kinds w.heap.size w) : Calls Tryd.prog 8 #[] w fun e w' => e = .returned (.bool true) ∧ Below w.heap.size w w' := by
  have hK : Hid (∀ w', Below w.heap.size w w' → Kinds w'.heap.size w') := Lib.hid fun w' hb => (hT.below hb).mono hb.size
  have c1 := Lib.hid (fun (w' : World) v h h2 => bytesM_any (m := m33) (v := v) (w := w') h h2)
  rw [m33_bytes] at c1
  have c2 := Lib.hid (read_b m33_read (by decide))
  have c3 := Lib.hid (read_b (m := zeroM) (en := 502) m33_more (by decide))
  have c4 := Lib.hid (read_b none_read (by decide))
  have c5 := Lib.hid (shape_b 35)
  rw [show shT 35 = 3 from rfl, show shN 35 = 1 from rfl, show shB 35 = true from rfl, show isKd 35 = true from rfl] at c5
  have c6 := Lib.hid (fun (w' : World) v h h2 => is_any (m := m33) (v := v) (w := w') h h2)
  rw [m33_is] at c6
  have c7 := Lib.hid (fun (w' : World) v v2 h h2 => same_any (m1 := m33) (m2 := m33) (v1 := v) (v2 := v2) (w := w') h h2)
  rw [sameM_self] at c7
  have c8 := Lib.hid (fun w' h => client_any (B := w'.heap.size) 33 w' h)
  rw [show clientK 33 = true from rfl] at c8
  have c9 := Lib.hid (fun w' h => client_any (B := w'.heap.size) 35 w' h)
  rw [show clientK 35 = false from rfl] at c9
  have c10 := Lib.hid (fun (w' : World) v h h2 => bytesM_any (m := m6) (v := v) (w := w') h h2)
  rw [m6_bytes] at c10
  clear hT
  go_enter Tryd.func8, Tryd.ntmps8
  have hb0 := new_below w (.cells #[tx [], tx [113]] 9)
  have hb1 := bel hb0 (new_below (w.alloc (.cells #[tx [], tx [113]] 9)) (mO 33 (.slice (some ⟨w.heap.size, 0, none⟩) 2 2) (.slice none 0 0) 1))
  have hR : Hid (RdM ((w.alloc (.cells #[tx [], tx [113]] 9)).alloc (mO 33 (.slice (some ⟨w.heap.size, 0, none⟩) 2 2) (.slice none 0 0) 1)) (.agg #[.int .i64 33, .slice (some ⟨w.heap.size, 0, none⟩) 2 2, .slice none 0 0, .int .i64 1]) m33) := Lib.hid (by
    refine ⟨_, _, rfl, ⟨_, 2, rfl, Nat.le_refl _, by decide, fun i x hi => ?_⟩, ⟨none, 0, rfl, Nat.le_refl _, Nat.zero_le _, fun i x hi => by simp [m33] at hi⟩⟩
    match i, hi with
    | 0, hi =>
      obtain rfl : [] = x := by simpa [m33] using hi
      exact ⟨by decide, w.heap.size, 0, rfl, by simp⟩
    | 1, hi =>
      obtain rfl : [113] = x := by simpa [m33] using hi
      exact ⟨by decide, w.heap.size, 0, rfl, by simp⟩
    | i + 2, hi => simp [m33] at hi)
  have hH : Hid (MdHeld (w.alloc (.cells #[tx [], tx [113]] 9)) _ (w.heap.size + 1) 33 (.slice (some ⟨w.heap.size, 0, none⟩) 2 2) (.slice none 0 0) 1) :=
    Lib.hid (World.size_alloc w (.cells #[tx [], tx [113]] 9) ▸ MdHeld.start (w.alloc (.cells #[tx [], tx [113]] 9)) 33 (.slice (some ⟨w.heap.size, 0, none⟩) 2 2) (.slice none 0 0) 1)
  replace hb1 := Lib.hid hb1
  have hadd := fun W => run_string_add_lists (P := Tryd.prog) W [0, 33, 0, 1, 113, 1] [120] (by decide) (by decide)
  go_wp2_with fail
  refine (c1.out _ _ (hK.out _ hb1.out) hR.out).mono ?_
  rintro e w2 ⟨rfl, hb2⟩
  replace hH := Lib.hid (hH.out.step hb2)
  replace hR := Lib.hid (hR.out.below hb2)
  replace hb1 := Lib.hid (bel hb1.out hb2)
  clear hb2 c1
  go_wp2_with fail
  refine (c2.out _ (hK.out _ hb1.out)).mono ?_
  rintro e w3 ⟨a, c, a2, c2', rfl, hx, hb2⟩
  have hH2 := Lib.hid (MdHeld.start w3 m33.kind (.slice a m33.S.length c) (.slice a2 m33.N.length c2') m33.bits)
  have hn := new_below w3 (mO m33.kind (.slice a m33.S.length c) (.slice a2 m33.N.length c2') m33.bits)
  replace hx := Lib.hid (hx.below hn)
  replace hb2 := bel hb2 hn
  replace hH := Lib.hid (hH.out.step hb2)
  replace hR := Lib.hid (hR.out.below hb2)
  replace hb1 := Lib.hid (bel hb1.out hb2)
  clear hb2 c2 hn
  go_wp2_with fail
  refine (c3.out _ (hK.out _ hb1.out)).mono ?_
  rintro e w4 ⟨a3, c3', a4, c4', rfl, -, hb2⟩
  replace hb2 := bel hb2 (new_below w4 (mO zeroM.kind (.slice a3 zeroM.S.length c3') (.slice a4 zeroM.N.length c4') zeroM.bits))
  replace hH := Lib.hid (hH.out.step hb2)
  replace hH2 := Lib.hid (hH2.out.step hb2)
  replace hR := Lib.hid (hR.out.below hb2)
  replace hx := Lib.hid (hx.out.below hb2)
  replace hb1 := Lib.hid (bel hb1.out hb2)
  clear hb2 c3
  go_wp2_with fail
  refine (c4.out _ (hK.out _ hb1.out)).mono ?_
  rintro e w5 ⟨a5, c5', a6, c6', rfl, -, hb2⟩
  replace hb2 := bel hb2 (new_below w5 (mO zeroM.kind (.slice a5 zeroM.S.length c5') (.slice a6 zeroM.N.length c6') zeroM.bits))
  replace hH := Lib.hid (hH.out.step hb2)
  replace hH2 := Lib.hid (hH2.out.step hb2)
  replace hR := Lib.hid (hR.out.below hb2)
  replace hx := Lib.hid (hx.out.below hb2)
  replace hb1 := Lib.hid (bel hb1.out hb2)
  clear hb2 c4
  go_wp2_with fail
  refine (c5.out _ (hK.out _ hb1.out)).mono ?_
  rintro e w6 ⟨rfl, hb2⟩
  replace hH := Lib.hid (hH.out.step hb2)
  replace hH2 := Lib.hid (hH2.out.step hb2)
  replace hR := Lib.hid (hR.out.below hb2)
  replace hx := Lib.hid (hx.out.below hb2)
  replace hb1 := Lib.hid (bel hb1.out hb2)
  clear hb2
  have q0 := hH.out.c0
  have q1 := hH.out.c1
  have q2 := hH.out.c2
  have q3 := hH.out.c3
  go_wp2_with fail
  refine (c6.out _ _ (hK.out _ hb1.out) hR.out).mono ?_
  rintro e w7 ⟨rfl, hb2⟩
  replace hH := Lib.hid (hH.out.step hb2)
  replace hH2 := Lib.hid (hH2.out.step hb2)
  replace hR := Lib.hid (hR.out.below hb2)
  replace hx := Lib.hid (hx.out.below hb2)
  replace hb1 := Lib.hid (bel hb1.out hb2)
  clear hb2 c6 c5 q0 q1 q2 q3
  have q0 := hH.out.c0
  have q1 := hH.out.c1
  have q2 := hH.out.c2
  have q3 := hH.out.c3
  have p0 := hH2.out.c0
  have p1 := hH2.out.c1
  have p2 := hH2.out.c2
  have p3 := hH2.out.c3
  go_wp2_with fail
  refine (c7.out _ _ _ hR.out hx.out).mono ?_
  rintro e w7 ⟨rfl, hb2⟩
  replace hb1 := Lib.hid (bel hb1.out hb2)
  clear hb2 c7 q0 q1 q2 q3 p0 p1 p2 p3 hH hH2 hR hx
  go_wp2_with fail
  refine (c8.out _ (hK.out _ hb1.out)).mono ?_
  rintro e w8 ⟨rfl, rfl⟩
  go_wp2_with fail
  refine (c9.out _ (hK.out _ hb1.out)).mono ?_
  rintro e w8 ⟨rfl, rfl⟩
  go_wp2_with fail
  refine (c10.out _ _ (hK.out _ hb1.out) ⟨_, _, rfl, ⟨none, 0, rfl, Nat.le_refl _, Nat.zero_le _, fun i x hi => by simp [m6] at hi⟩, ⟨none, 0, rfl, Nat.le_refl _, Nat.zero_le _, fun i x hi => by simp [m6] at hi⟩⟩).mono ?_
  rintro e w8 ⟨rfl, hb2⟩
  replace hb1 := Lib.hid (bel hb1.out hb2)
  clear hb2
  go_wp2_with fail
  go_ret
  exact ⟨rfl, hb1.out⟩
end Go.Proofs.YtipinglchpmgaaaDoor
