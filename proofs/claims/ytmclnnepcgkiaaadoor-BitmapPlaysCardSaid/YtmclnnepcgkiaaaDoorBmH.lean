/- The laws' known example; one place that is set is next from everywhere. -/
import Derived.Test.YtmclnnepcgkiaaaDoorBmG
import Derived.OpenShut
namespace Go.Proofs.YtmclnnepcgkiaaaDoor
open Go.RowKit
set_option linter.unusedVariables false

theorem Tab.below {w w' : World} (h : Tab w.heap.size w) (hb : Below w.heap.size w w') : Tab w'.heap.size w' := by
  refine ⟨Nat.lt_of_lt_of_le h.1 hb.size, fun j hj => ?_⟩
  have := h.2 j hj
  exact (hb.cell (p := ⟨0, j, none⟩) h.1).trans this

section
variable {B : Nat} {w0 w : World} {bb k : Nat} {F : List (Nat × Obj)} {s : Nat → Bool}

theorem BmIs.below (h : BmIs B w0 w bb s k F) : Below B w0 w := by
  obtain ⟨-, -, L, ov, oF, -, -, h⟩ := h
  exact h.st.below

/-! The calls, each with what it answers written out. -/
theorem bm_next (h : BmIs B w0 w bb s k F) (i : Int) (hi : i ≤ 9223372036854775807) {r : Option Nat} (hr : nextAt s k i.toNat = r) :
    Calls Tryd.prog 9 #[bptr bb, .int .i64 i] w fun e w' => e = .returned (.tuple #[.int .i64 ((r.getD 0 : Nat) : Int), .bool r.isSome]) ∧ BmIs B w0 w' bb s k F :=
  (next_any h i hi).mono fun e w' ⟨h1, h2⟩ => ⟨by rw [h1, hr]; rfl, h.drews h2⟩
theorem bm_set (h : BmIs B w0 w bb s k F) (i : Int) (on : Bool) {t : Nat → Bool} (ht : setB s k i on = t) :
    Calls Tryd.prog 8 #[bptr bb, .int .i64 i, .bool on] w fun e w' => e = .returned (.tuple #[]) ∧ BmIs B w0 w' bb t k F :=
  (set_any h i on).mono fun e w' ⟨h1, h2⟩ => ⟨h1, ht ▸ h2⟩
theorem bm_has (h : BmIs B w0 w bb s k F) (i : Int) {b : Bool} (hb : hasB s k i = b) :
    Calls Tryd.prog 11 #[bptr bb, .int .i64 i] w fun e w' => e = .returned (.bool b) ∧ BmIs B w0 w' bb s k F :=
  (has_any h i).mono fun e w' ⟨h1, h2⟩ => ⟨by rw [h1, hb], h.drews h2⟩
theorem bm_count (h : BmIs B w0 w bb s k F) {c : Nat} (hc : cntB s k = c) :
    Calls Tryd.prog 12 #[bptr bb] w fun e w' => e = .returned (.int .i64 (c : Int)) ∧ BmIs B w0 w' bb s k F :=
  (count_any h).mono fun e w' ⟨h1, h2⟩ => ⟨by rw [h1, hc], h2 ▸ h⟩

def none0 : Nat → Bool := fun _ => false
theorem bm_new (hT : Tab B w0) (hst : St B w0 w F) (hk : k ≤ 5000) :
    Calls Tryd.prog 7 #[.int .i64 k] w fun e w' => ∃ bb, e = .returned (bptr bb) ∧ BmIs B w0 w' bb none0 k F :=
  new_any hT hst k k hk (.inr (.inl rfl))
end

set_option maxHeartbeats 2000000 in
set_option maxRecDepth 100000 in
theorem known4_true (w : World) (hT : Tab w.heap.size w) : Calls Tryd.prog 6 #[] w fun e w' => e = .returned (.bool true) ∧ Below w.heap.size w w' := by
  have cn := Lib.hid (bm_new (k := 5) hT (St.start w) (by decide))
  clear hT
  go_enter Tryd.func6, Tryd.ntmps6
  go_wp2_with fail
  refine cn.out.mono ?_
  rintro e w1 ⟨bb, rfl, h1⟩
  have h1 := Lib.hid h1
  go_wp2_with fail
  refine (bm_next h1.out 0 (by decide) (r := none) (by decide)).mono ?_
  rintro e w2 ⟨rfl, h2⟩
  replace h2 := Lib.hid h2
  go_wp2_with fail
  refine (bm_set h2.out 2 true rfl).mono ?_
  rintro e w3 ⟨rfl, h3⟩
  replace h3 := Lib.hid h3
  go_wp2_with fail
  refine (bm_set h3.out 7 true rfl).mono ?_
  rintro e w4 ⟨rfl, h4⟩
  replace h4 := Lib.hid h4
  go_wp2_with fail
  refine (bm_next h4.out 3 (by decide) (r := some 2) (by decide)).mono ?_
  rintro e w5 ⟨rfl, h5⟩
  replace h5 := Lib.hid h5
  go_wp2_with fail
  refine (bm_has h5.out 2 (b := true) (by decide)).mono ?_
  rintro e w6 ⟨rfl, h6⟩
  replace h6 := Lib.hid h6
  go_wp2_with fail
  refine (bm_has h6.out 3 (b := false) (by decide)).mono ?_
  rintro e w7 ⟨rfl, h7⟩
  replace h7 := Lib.hid h7
  go_wp2_with fail
  refine (bm_has h7.out 7 (b := false) (by decide)).mono ?_
  rintro e w8 ⟨rfl, h8⟩
  replace h8 := Lib.hid h8
  go_wp2_with fail
  refine (bm_count h8.out (c := 1) (by decide)).mono ?_
  rintro e w9 ⟨rfl, h9⟩
  replace h9 := Lib.hid h9.below
  go_wp2_with fail
  go_ret
  exact ⟨rfl, h9.out⟩

/-! ### one place -/
def one (p : Nat) : Nat → Bool := ins none0 p
theorem one_is {p q : Nat} : one p q = decide (q = p) := by
  simp only [one, ins, none0, Bool.or_false]
  by_cases h : q = p <;> simp [h]
theorem one_next {p k : Nat} (hp : p < k) (a : Nat) : nextAt (one p) k a = some p := by
  have hb : ∀ q, one p q = true → q < k := fun q hq => by rw [one_is, decide_eq_true_eq] at hq; omega
  have hs : one p p = true := by simp [one_is]
  have h0 : ∀ a, NoneIn (one p) a p := fun a q h1 h2 => by rw [one_is]; simp; omega
  unfold nextAt
  rw [firstAt_some hb hs (Nat.zero_le p) (h0 0)]
  by_cases ha : a ≤ p
  · rw [firstAt_some hb hs ha (h0 a)]; rfl
  · rw [firstAt_none fun q hq => by rw [one_is]; simp; omega]; rfl
theorem none_next (k a : Nat) : nextAt none0 k a = none := by
  unfold nextAt
  rw [firstAt_none (s := none0) (a := a) (fun q _ => rfl), firstAt_none (s := none0) (a := 0) (fun q _ => rfl)]; rfl
theorem place_in {p k : Nat} (hp : p < k) : isPlaceB k (p : Int) = true := by simp [isPlaceB, hp]
theorem one_set {p k : Nat} (hp : p < k) : setB none0 k (p : Int) true = one p := by simp [setB, place_in hp, one]
theorem one_again {p k : Nat} (hp : p < k) : setB (one p) k (p : Int) true = one p := by
  simp only [setB, place_in hp, if_true, Int.toNat_natCast]
  exact ins_same (by simp [one_is])
theorem one_off {p k : Nat} (hp : p < k) : setB (one p) k (p : Int) false = none0 := by
  simp only [setB, place_in hp, if_true, Int.toNat_natCast, Bool.false_eq_true, if_false]
  funext q
  simp only [del, one_is, none0]
  by_cases h : q = p <;> simp [h]
theorem one_cnt {p k : Nat} (hp : p < k) : cntB (one p) k = 1 := by
  rw [one, cntB_ins hp rfl]
  show cntB (fun _ => false) k + 1 = 1
  rw [cntB_none]

set_option maxHeartbeats 4000000 in
set_option maxRecDepth 100000 in
theorem far_walk (a0 a1 a2 : Int) (w0 : (Lit.int .u16 a0).wf = true) (w1 : (Lit.int .u16 a1).wf = true) (w2 : (Lit.int .u16 a2).wf = true) (w : World) (hT : Tab w.heap.size w) :
    Calls Tryd.prog 5 #[.int .u16 a0, .int .u16 a1, .int .u16 a2] w fun e w' => e = .returned (.bool true) ∧ Below w.heap.size w w' := by
  have hk := Lib.hid (known4_true w hT)
  have b0 := bounds_u16 w0
  have b1 := bounds_u16 w1
  have b2 := bounds_u16 w2
  obtain ⟨k, hk0⟩ : ∃ k : Nat, a0 % 5000 + 1 = k := ⟨(a0 % 5000 + 1).toNat, by omega⟩
  have hkp : 0 < k := by omega
  have hk5 : k ≤ 5000 := by omega
  obtain ⟨p, hp0⟩ : ∃ p : Nat, a1 % (k : Int) = p := ⟨(a1 % (k : Int)).toNat, by have := Int.emod_nonneg a1 (show (k : Int) ≠ 0 by omega); omega⟩
  have hpk : p < k := by have := Int.emod_lt_of_pos a1 (show (0 : Int) < k by omega); omega
  have hkne : ((k : Int) == 0) = false := by rw [beq_eq_false_iff_ne]; omega
  have cn : Hid (∀ w', Below w.heap.size w w' → Calls Tryd.prog 7 #[.int .i64 k] w' fun e w'' => ∃ bb, e = .returned (bptr bb) ∧ BmIs w'.heap.size w' w'' bb none0 k []) := Lib.hid fun w' hb => bm_new (hT.below hb) (St.start w') hk5
  have e1 := Lib.hid (one_set hpk)
  have e2 := Lib.hid (one_again hpk)
  have e3 := Lib.hid (one_off hpk)
  have e4 := Lib.hid (one_cnt hpk)
  have e5 := Lib.hid (fun a => one_next hpk a)
  have hk1 : (k : Int) ≤ 5000 := by omega
  have hk2 : (0 : Int) < k := by omega
  have hp1 : (p : Int) < k := by omega
  have hp2 : (0 : Int) ≤ p := by omega
  obtain ⟨q0, q1⟩ := b0
  obtain ⟨q2, q3⟩ := b1
  obtain ⟨q4, q5⟩ := b2
  clear hT w0 w1 w2
  go_enter Tryd.func5, Tryd.ntmps5
  go_wp2_with fail
  refine hk.out.mono ?_
  rintro e w1 ⟨rfl, hb⟩
  replace hb := Lib.hid hb
  go_wp2_with fail
  refine (cn.out _ hb.out).mono ?_
  rintro e w2 ⟨bb, rfl, h2⟩
  replace h2 := Lib.hid h2
  clear cn hk
  go_wp2_with fail
  refine (bm_set h2.out p true e1.out).mono ?_
  rintro e w3 ⟨rfl, h3⟩
  replace h3 := Lib.hid h3
  clear h2
  go_wp2_with fail
  refine (bm_next h3.out a2 (by omega) (e5.out _)).mono ?_
  rintro e w4 ⟨rfl, h4⟩
  replace h4 := Lib.hid h4
  clear h3
  go_wp2_with fail
  refine (bm_next h4.out p (by omega) (e5.out _)).mono ?_
  rintro e w5 ⟨rfl, h5⟩
  replace h5 := Lib.hid h5
  clear h4
  go_wp2_with fail
  refine (bm_next h5.out ((p : Int) + 1) (by omega) (e5.out _)).mono ?_
  rintro e w6 ⟨rfl, h6⟩
  replace h6 := Lib.hid h6
  clear h5
  go_wp2_with fail
  refine (bm_next h6.out (-a2) (by omega) (e5.out _)).mono ?_
  rintro e w7 ⟨rfl, h7⟩
  replace h7 := Lib.hid h7
  clear h6
  go_wp2_with fail
  refine (bm_set h7.out p true e2.out).mono ?_
  rintro e w8 ⟨rfl, h8⟩
  replace h8 := Lib.hid h8
  clear h7
  go_wp2_with fail
  refine (bm_count h8.out e4.out).mono ?_
  rintro e w9 ⟨rfl, h9⟩
  replace h9 := Lib.hid h9
  clear h8
  go_wp2_with fail
  refine (bm_set h9.out p false e3.out).mono ?_
  rintro e w10 ⟨rfl, h10⟩
  replace h10 := Lib.hid h10
  clear h9
  go_wp2_with fail
  refine (bm_next h10.out 0 (by decide) (none_next _ _)).mono ?_
  rintro e w11 ⟨rfl, h11⟩
  replace h11 := Lib.hid h11
  clear h10
  simp only [Option.getD_none, Option.isSome_none]
  go_wp2_with fail
  refine (bm_count h11.out (cntB_none _)).mono ?_
  rintro e w12 ⟨rfl, h12⟩
  have hfin := Lib.hid (hb.out.trans (h12.below.mono hb.out.size))
  clear h11 h12 hb
  go_wp2_with fail
  go_ret
  exact ⟨rfl, hfin.out⟩
end Go.Proofs.YtmclnnepcgkiaaaDoor
