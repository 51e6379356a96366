/- The known case of layer 6; OctetsMost. -/
import Derived.Test.YtecifdbakkpcaaaOcD
import Derived.Test.YtecifdbakkpcaaaArgs
namespace Go.Proofs.Ytecifdbakkpcaaa
open Go.RowKit
set_option linter.unusedVariables false

/-! ### what a law's walk takes up: all that turns is new -/
theorem num_b (n k : Int) (w : World) {l : List UInt8} (h : low (heldN k) n = l) : Calls Try.prog 13 #[.int .i64 n, .int .i64 k] w fun e w' => e = .returned (tx l) ∧ Below w.heap.size w w' := h ▸ num_any n k w
theorem take_b {l r : List UInt8} {k : Int} {m : Nat} {en : Int} (hx : takeL l k = (m, r, en)) (hl : l.length ≤ maxLen) (w : World) :
    Calls Try.prog 8 #[tx l, .int .i64 k] w fun e w' => e = .returned (.tuple #[.int .i64 m, tx r, .int .i64 en]) ∧ Below w.heap.size w w' := by
  refine (take_to hx hl w).mono ?_
  rintro e w' ⟨rfl, n, rfl⟩
  exact ⟨rfl, drewN_below _ _⟩
theorem rtake_b {l r : List UInt8} {k : Int} {m : Nat} {en : Int} (hx : takeL l k = (m, r, en)) (hl : l.length ≤ maxLen) (w : World) :
    Calls Try.prog 9 #[tx l, .int .i64 k] w fun e w' => e = .returned (.tuple #[.int .i64 m, tx r, .int .i64 en]) ∧ Below w.heap.size w w' := by
  refine (rtake_to hx hl w).mono ?_
  rintro e w' ⟨rfl, n, rfl⟩
  exact ⟨rfl, drewN_below _ _⟩
theorem rtaketext_b {l t r : List UInt8} {most en : Int} (hx : takeTextL l most = (t, r, en)) (hl : l.length ≤ 16777216) (w : World) :
    Calls Try.prog 11 #[tx l, .int .i64 most] w fun e w' => e = .returned (.tuple #[tx t, tx r, .int .i64 en]) ∧ Below w.heap.size w w' := by
  refine (rtaketext_to hx hl w).mono ?_
  rintro e w' ⟨rfl, n, rfl⟩
  exact ⟨rfl, drewN_below _ _⟩
/-- What is new to one is new to who came ahead. -/
theorem bel {a b c : World} (h : Below a.heap.size a b) (k : Below b.heap.size b c) : Below a.heap.size a c := h.trans (k.mono h.size)

set_option maxHeartbeats 1000000 in
theorem known6_true (w : World) : Calls Try.prog 7 #[] w fun e w' => e = .returned (.bool true) ∧ Below w.heap.size w w' := by
  have c1 := Lib.hid (take_b (l := [0, 1, 2, 120]) (r := [120]) (k := 3) (m := 258) (en := 0) (by decide +kernel) (by decide))
  have c2 := Lib.hid (taketext_to (l := [2, 97, 98, 121]) (t := [97, 98]) (r := [121]) (most := 5) (en := 0) (by decide +kernel) (by decide))
  have c3 := Lib.hid (take_b (l := [97]) (r := [97]) (k := 2) (m := 0) (en := 11) (by decide +kernel) (by decide))
  have c4 := Lib.hid (taketext_to (l := [3, 97, 98]) (t := []) (r := [3, 97, 98]) (most := 2) (en := 15) (by decide +kernel) (by decide))
  have c5 := Lib.hid (text_to (l := [97, 98]) (r := [2, 97, 98]) (en := 0) (by decide +kernel) (by decide))
  have c6 := Lib.hid (fun w => num_b 258 3 w (l := [0, 1, 2]) (by decide +kernel))
  go_enter Try.func7, Try.ntmps7
  go_wp2_with fail
  refine (c1.out _).mono ?_
  rintro e w1 ⟨rfl, h1⟩
  replace h1 := Lib.hid h1
  go_wp2_with fail
  refine (c2.out _).mono ?_
  rintro e w2 ⟨rfl, h2⟩
  replace h2 := Lib.hid h2
  go_wp2_with fail
  refine (c3.out _).mono ?_
  rintro e w3 ⟨rfl, h3⟩
  replace h3 := Lib.hid h3
  go_wp2_with fail
  refine (c4.out _).mono ?_
  rintro e w4 ⟨rfl, h4⟩
  replace h4 := Lib.hid h4
  go_wp2_with fail
  refine (c5.out _).mono ?_
  rintro e w5 ⟨rfl, h5⟩
  replace h5 := Lib.hid h5
  go_wp2_with fail
  refine (c6.out _).mono ?_
  rintro e w6 ⟨rfl, h6⟩
  replace h6 := Lib.hid h6
  go_wp2_with fail
  go_ret
  exact ⟨rfl, bel (bel (bel (bel (bel h1.out h2.out) h3.out) h4.out) h5.out) h6.out⟩

/-! ### OctetsMost -/
theorem zeros_conv (w : World) (k : Nat) : (convert 42 9 (.slice (some ⟨w.heap.size, 0, none⟩) k k)).run Try.prog (w.alloc (rowOf (List.replicate k 0))) = .ok (tx (List.replicate k 0)) (w.alloc (rowOf (List.replicate k 0))) :=
  run_conv_bytes (by simp) fun i c hi => by
    rw [Nat.zero_add, rowOf, World.cell?_alloc_mark]
    show ((List.replicate k (0 : UInt8)).map _).toArray[i]? = _
    rw [List.getElem?_toArray, List.getElem?_map, hi]
    rfl

set_option maxHeartbeats 2000000 in
theorem most_nat (k m : Nat) (hk : k ≤ 255) (hm : m ≤ 255) (w : World) : Calls Try.prog 6 #[.int .u8 k, .int .u8 m] w fun e w' => e = .returned (.bool true) ∧ Below w.heap.size w w' := by
  have c1 := Lib.hid known6_true
  have hlr : (List.replicate k (0 : UInt8)).length = k := by simp
  have ho : (oct (k : Int)).toNat = k := by
    have := oct_nat (k : Int)
    omega
  have ht := textL_eq (l := List.replicate k 0) (by omega)
  rw [hlr] at ht
  have c2 := Lib.hid (text_to ht (by omega))
  have mk := fun w => mk_row w k (by omega)
  have cv := fun w => zeros_conv w k
  have ex : (⟨(oct (k : Int) :: List.replicate k 0).toArray⟩ : ByteArray).extract 0 1 = ⟨[oct (k : Int)].toArray⟩ := by
    rw [ByteArray.extract_mk]
    rfl
  have hlen : (oct (k : Int) :: List.replicate k 0).length = k + 1 := by simp
  have hk0 : (0 : Int) ≤ k := by omega
  have hk1 : (k : Int) ≤ 255 := by omega
  have hm0 : (0 : Int) ≤ m := by omega
  have hm1 : (m : Int) ≤ 255 := by omega
  go_enter Try.func6, Try.ntmps6
  by_cases h : m < k
  · have hmk : (m : Int) < k := by omega
    have c3 : Hid (∀ w, _) := Lib.hid (taketext_to (l := oct (k : Int) :: List.replicate k 0) (most := m) (t := []) (r := oct (k : Int) :: List.replicate k 0) (en := 15) (by simp only [takeTextL]; rw [ho, if_pos hmk]) (by omega))
    have c4 := Lib.hid (taketext_to (l := [oct (k : Int)]) (most := m) (t := []) (r := [oct (k : Int)]) (en := 15) (by simp only [takeTextL]; rw [ho, if_pos hmk]) (by simp))
    replace ho := Lib.hid ho
    generalize oct (k : Int) :: List.replicate k 0 = T at *
    generalize oct (k : Int) = o at *
    generalize List.replicate k (0 : UInt8) = R at *
    clear ht
    go_wp2_with fail
    refine (c1.out _).mono ?_
    rintro e w1 ⟨rfl, h1⟩
    replace h1 := Lib.hid h1
    go_wp2_with fail
    refine (c2.out _).mono ?_
    rintro e w2 ⟨rfl, h2⟩
    replace h2 := Lib.hid h2
    go_wp2_with fail
    refine (c3.out _).mono ?_
    rintro e w3 ⟨rfl, h3⟩
    replace h3 := Lib.hid h3
    go_wp2_with fail
    refine (c4.out _).mono ?_
    rintro e w4 ⟨rfl, h4⟩
    replace h4 := Lib.hid h4
    go_wp2_with fail
    go_ret
    exact ⟨rfl, bel (bel (bel h1.out (bel ((Below.refl _ _).alloc (Nat.le_refl _) _) h2.out)) h3.out) h4.out⟩
  · have hmk : ¬ (m : Int) < k := by omega
    have ht3 : takeTextL (oct (k : Int) :: List.replicate k 0) m = (List.replicate k 0, [], 0) := by
      have := takeTextL_text (l := List.replicate k 0) (r := []) (most := m) (by omega) (by omega)
      rwa [List.append_nil, hlr] at this
    have c3 := Lib.hid (taketext_to ht3 (by omega))
    rcases Nat.eq_zero_or_pos k with h0 | h0
    · have c4 := Lib.hid (taketext_to (l := [oct (k : Int)]) (most := m) (t := []) (r := []) (en := 0) (by simp only [takeTextL]; rw [ho, if_neg hmk, h0]; rfl) (by simp))
      replace h0 := Lib.hid h0
      replace ho := Lib.hid ho
      generalize oct (k : Int) :: List.replicate k 0 = T at *
      generalize oct (k : Int) = o at *
      generalize List.replicate k (0 : UInt8) = R at *
      clear ht ht3
      go_wp2_with fail
      refine (c1.out _).mono ?_
      rintro e w1 ⟨rfl, h1⟩
      replace h1 := Lib.hid h1
      go_wp2_with fail
      refine (c2.out _).mono ?_
      rintro e w2 ⟨rfl, h2⟩
      replace h2 := Lib.hid h2
      go_wp2_with fail
      refine (c3.out _).mono ?_
      rintro e w3 ⟨rfl, h3⟩
      replace h3 := Lib.hid h3
      go_wp2_with fail
      refine (c4.out _).mono ?_
      rintro e w4 ⟨rfl, h4⟩
      replace h4 := Lib.hid h4
      go_wp2_with fail
      go_ret
      exact ⟨ret_bool (by simp), bel (bel (bel h1.out (bel ((Below.refl _ _).alloc (Nat.le_refl _) _) h2.out)) h3.out) h4.out⟩
    · have c4 := Lib.hid (taketext_to (l := [oct (k : Int)]) (most := m) (t := []) (r := [oct (k : Int)]) (en := 11) (by simp only [takeTextL]; rw [ho, if_neg hmk, if_pos (by simpa using h0)]) (by simp))
      have h0' : (0 : Int) < k := by omega
      replace ho := Lib.hid ho
      generalize oct (k : Int) :: List.replicate k 0 = T at *
      generalize oct (k : Int) = o at *
      generalize List.replicate k (0 : UInt8) = R at *
      clear ht ht3
      go_wp2_with fail
      refine (c1.out _).mono ?_
      rintro e w1 ⟨rfl, h1⟩
      replace h1 := Lib.hid h1
      go_wp2_with fail
      refine (c2.out _).mono ?_
      rintro e w2 ⟨rfl, h2⟩
      replace h2 := Lib.hid h2
      go_wp2_with fail
      refine (c3.out _).mono ?_
      rintro e w3 ⟨rfl, h3⟩
      replace h3 := Lib.hid h3
      go_wp2_with fail
      refine (c4.out _).mono ?_
      rintro e w4 ⟨rfl, h4⟩
      replace h4 := Lib.hid h4
      go_wp2_with fail
      go_ret
      exact ⟨ret_bool (by simp; omega), bel (bel (bel h1.out (bel ((Below.refl _ _).alloc (Nat.le_refl _) _) h2.out)) h3.out) h4.out⟩

theorem most_walk (n m : Int) (w0 : (Lit.int .u8 n).wf = true) (w1 : (Lit.int .u8 m).wf = true) (w : World) :
    Calls Try.prog 6 #[.int .u8 n, .int .u8 m] w fun e w' => e = .returned (.bool true) ∧ Below w.heap.size w w' := by
  obtain ⟨h1, h2⟩ := bounds_u8 w0
  obtain ⟨h3, h4⟩ := bounds_u8 w1
  obtain ⟨k, rfl⟩ := Int.eq_ofNat_of_zero_le h1
  obtain ⟨j, rfl⟩ := Int.eq_ofNat_of_zero_le h3
  exact most_nat k j (by omega) (by omega) w
end Go.Proofs.Ytecifdbakkpcaaa
