/- OctetsBack. -/
import Derived.Test.YtecifdbakkpcaaaOcE
namespace Go.Proofs.Ytecifdbakkpcaaa
open Go.RowKit
set_option linter.unusedVariables false

set_option maxHeartbeats 8000000 in
set_option maxRecDepth 100000 in
theorem back_nat (n c d : Nat) (s r : List UInt8) (hn : n < 18446744073709551616) (hc : c ≤ 255) (hd : d ≤ 255) (hs : s.length ≤ maxLen) (hr : r.length ≤ maxLen) (w : World) :
    Calls Try.prog 4 #[.int .u64 n, .int .u8 c, tx s, tx r, .int .u8 d] w fun e w' => e = .returned (.bool true) ∧ Below w.heap.size w w' := by
  have c1 := Lib.hid known6_true
  by_cases hsl : 255 < s.length
  · have hsl' : (255 : Int) < s.length := by omega
    go_enter Try.func4, Try.ntmps4
    go_wp2_with fail
    refine (c1.out _).mono ?_
    rintro e w1 ⟨rfl, h1⟩
    replace h1 := Lib.hid h1
    go_wp2_with fail
    go_ret
    exact ⟨rfl, h1.out⟩
  by_cases hrl : 200 < r.length
  · have hsl' : ¬ (255 : Int) < s.length := by omega
    have hrl' : (200 : Int) < r.length := by omega
    go_enter Try.func4, Try.ntmps4
    go_wp2_with fail
    refine (c1.out _).mono ?_
    rintro e w1 ⟨rfl, h1⟩
    replace h1 := Lib.hid h1
    go_wp2_with fail
    go_ret
    exact ⟨rfl, h1.out⟩
  have hsl' : ¬ (255 : Int) < s.length := by omega
  have hrl' : ¬ (200 : Int) < r.length := by omega
  obtain ⟨q, hq⟩ : ∃ q : Nat, q = c % 7 := ⟨_, rfl⟩
  have hq0 : (0 : Int) ≤ q := by omega
  have hq6 : (q : Int) ≤ 6 := by omega
  have hqi : (c : Int) % 7 = q := by omega
  have hc0 : (0 : Int) ≤ c := by omega
  have hc1 : (c : Int) ≤ 255 := by omega
  obtain ⟨m, hm⟩ : ∃ m : Nat, m = n / 2 ^ (64 - 8 * (q + 1)) := ⟨_, rfl⟩
  have hm1 : m < 256 ^ (q + 1) := by
    rw [hm, show (256 : Nat) = 2 ^ 8 from rfl, ← Nat.pow_mul, Nat.div_lt_iff_lt_mul (Nat.two_pow_pos _), ← Nat.pow_add, show 8 * (q + 1) + (64 - 8 * (q + 1)) = 64 by omega]
    exact hn
  have hm2 := Nat.lt_of_lt_of_le hm1 (pow256_le (k := q + 1) (by omega))
  have hmi : wrap64 ((n : Int) / 2 ^ (64 - 8 * (q + 1))) = m := by
    rw [show (n : Int) / 2 ^ (64 - 8 * (q + 1)) = ((n / 2 ^ (64 - 8 * (q + 1)) : Nat) : Int) by simp, ← hm]
    unfold wrap64
    omega
  have hcast : ((q + 1 : Nat) : Int) = (q : Int) + 1 := by omega
  have hb : ∃ b, low (q + 1) (m : Int) = b ∧ b.length = q + 1 := ⟨_, rfl, low_length _ _⟩
  obtain ⟨b, hb, hbl⟩ := hb
  have c2 := Lib.hid (fun w => num_b (m : Int) ((q : Int) + 1) w (l := b) (by rw [← hcast, heldN_of (by omega), hb]))
  have hb1 : takeL (b ++ r) ((q : Int) + 1) = (m, r, 0) := by
    rw [← hb, ← hcast]
    exact takeL_low (q + 1) m (by omega) hm1 r
  have hb2 : takeL (b.take q) ((q : Int) + 1) = (0, b.take q, 11) := by
    rw [← hcast]
    exact takeL_short (by omega) (by rw [List.length_take]; omega)
  have c4 := Lib.hid (take_b hb1 (by rw [List.length_append]; unfold maxLen; omega))
  have c7 := Lib.hid (take_b hb2 (by rw [List.length_take]; unfold maxLen; omega))
  have hT : ∃ T, oct (s.length : Int) :: s = T ∧ T.length = s.length + 1 := ⟨_, rfl, rfl⟩
  obtain ⟨T, hT, hTl⟩ := hT
  have ht := textL_eq (l := s) (by omega)
  rw [hT] at ht
  have c3 := Lib.hid (text_to ht (by omega))
  have ht1 : takeTextL (T ++ r) 255 = (s, r, 0) := by
    rw [← hT]
    exact takeTextL_text (by omega) (by omega)
  have c5 := Lib.hid (taketext_to ht1 (by rw [List.length_append]; omega))
  obtain ⟨x, hx⟩ : ∃ x : Nat, x = d % (s.length + 1) := ⟨_, rfl⟩
  have hx1 : x ≤ s.length := by
    have := Nat.mod_lt d (show 0 < s.length + 1 by omega)
    omega
  have ht2 : takeTextL (T.take x) 255 = ([], T.take x, 11) := by
    rw [← hT]
    exact takeTextL_cut (by omega) hx1
  have c6 := Lib.hid (taketext_to ht2 (by rw [List.length_take]; omega))
  have a1 : ∀ W : World, (Op.stringOp .add ⟨b.toArray⟩ ⟨r.toArray⟩).run Try.prog W = .ok (tx (b ++ r)) W := fun W => run_string_add_lists W _ _ (by omega) (by omega)
  have a2 : ∀ W : World, (Op.stringOp .add ⟨T.toArray⟩ ⟨r.toArray⟩).run Try.prog W = .ok (tx (T ++ r)) W := fun W => run_string_add_lists W _ _ (by omega) (by omega)
  have ex1 : (⟨T.toArray⟩ : ByteArray).extract 0 x = ⟨(T.take x).toArray⟩ := by
    rw [ByteArray.extract_mk]
    simp
  have ex2 : (⟨b.toArray⟩ : ByteArray).extract 0 q = ⟨(b.take q).toArray⟩ := by
    rw [ByteArray.extract_mk]
    simp
  have hxi : (d : Int) % ((s.length : Int) + 1) = x := by
    rw [hx]
    simp
  have hx0 : (0 : Int) ≤ x := by omega
  have hx2 : (x : Int) ≤ s.length := by omega
  have hd0 : (0 : Int) ≤ d := by omega
  have hd1 : (d : Int) ≤ 255 := by omega
  have hTl' : (T.length : Int) = s.length + 1 := by omega
  have hbl' : (b.length : Int) = q + 1 := by omega
  replace hm1 := Lib.hid hm1
  replace hT := Lib.hid hT
  replace hb := Lib.hid hb
  replace hx := Lib.hid hx
  replace hm := Lib.hid hm
  replace hmi := Lib.hid hmi
  clear hb1 hb2 ht ht1 ht2 hcast hm2
  replace hq := Lib.hid hq
  replace hn := Lib.hid hn
  clear hc hd
  go_enter Try.func4, Try.ntmps4
  go_wp2_with fail
  refine (c1.out _).mono ?_
  rintro e w1 ⟨rfl, h1⟩
  replace h1 := Lib.hid h1
  go_wp2_with fail
  rw [hmi.out]
  refine (c2.out _).mono ?_
  rintro e w2 ⟨rfl, h2⟩
  replace h2 := Lib.hid h2
  go_wp2_with fail
  refine (c3.out _).mono ?_
  rintro e w3 ⟨rfl, h3⟩
  replace h3 := Lib.hid h3
  go_wp2_with fail
  refine (c4.out _).mono ?_
  rintro e w4 ⟨rfl, h4⟩
  replace h4 := Lib.hid h4
  go_wp2_with fail
  refine (c5.out _).mono ?_
  rintro e w5 ⟨rfl, h5⟩
  replace h5 := Lib.hid h5
  go_wp2_with fail
  refine (c6.out _).mono ?_
  rintro e w6 ⟨rfl, h6⟩
  replace h6 := Lib.hid h6
  go_wp2_with fail
  refine (c7.out _).mono ?_
  rintro e w7 ⟨rfl, h7⟩
  replace h7 := Lib.hid h7
  go_wp2_with fail
  go_ret
  exact ⟨rfl, bel (bel (bel (bel (bel (bel h1.out h2.out) h3.out) h4.out) h5.out) h6.out) h7.out⟩

theorem back_row {n c d : Int} {s r : ByteArray} {w : World} (rn : Read Try.prog w 37 [.int .u64 n]) (rc : Read Try.prog w 5 [.int .u8 c]) (rs : Read Try.prog w 9 [.string s]) (rr : Read Try.prog w 9 [.string r]) (rd : Read Try.prog w 5 [.int .u8 d]) :
    Calls Try.prog 4 #[.int .u64 n, .int .u8 c, .string s, .string r, .int .u8 d] w fun e w' => e = .returned (.bool true) ∧ Below w.heap.size w w' := by
  have uU64 : Try.prog.underlying 37 = some (.int .u64) := by kernel_rfl
  obtain ⟨n', h1, wn⟩ := rn.int uU64
  obtain ⟨c', h2, wc⟩ := rc.int uU86
  obtain ⟨s', h3, hs⟩ := rs.string uStr6
  obtain ⟨r', h4, hr⟩ := rr.string uStr6
  obtain ⟨d', h5, wd⟩ := rd.int uU86
  simp only [List.cons.injEq, and_true, Value.string.injEq, Value.int.injEq, true_and] at h1 h2 h3 h4 h5
  subst h1 h2 h3 h4 h5
  obtain ⟨n0, n1⟩ := bounds_u64 wn
  obtain ⟨c0, c1⟩ := bounds_u8 wc
  obtain ⟨d0, d1⟩ := bounds_u8 wd
  obtain ⟨n, rfl⟩ := Int.eq_ofNat_of_zero_le n0
  obtain ⟨c, rfl⟩ := Int.eq_ofNat_of_zero_le c0
  obtain ⟨d, rfl⟩ := Int.eq_ofNat_of_zero_le d0
  exact back_nat n c d s.data.toList r.data.toList (by omega) (by omega) (by omega) hs hr w
end Go.Proofs.Ytecifdbakkpcaaa
