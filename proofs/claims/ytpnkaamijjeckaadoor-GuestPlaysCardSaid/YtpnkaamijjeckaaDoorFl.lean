/- Whole numbers as floats: float64(n) of a number below 2^53 is exact; so are comparisons of two of them, and the way back. -/
import Derived.Laws.ComplexArith
namespace Go.Proofs.YtpnkaamijjeckaaDoor
open Ieee

theorem nearest_exact (s : Bool) (m k : Nat) (h0 : 0 < m) (hk : m.log2 + k = 52) : double.read (double.nearest s m 0) = .number s (m * 2 ^ k) (-(k : Int)) := by
  have h1 := Nat.log2_self_le (n := m) (by omega)
  have h2 := @Nat.lt_log2_self m
  have hX1 : 4503599627370496 ≤ m * 2 ^ k := by
    have : 2 ^ m.log2 * 2 ^ k ≤ m * 2 ^ k := Nat.mul_le_mul_right _ h1
    rw [← Nat.pow_add, hk] at this
    exact this
  have hX2 : m * 2 ^ k < 9007199254740992 := by
    have : m * 2 ^ k < 2 ^ (m.log2 + 1) * 2 ^ k := Nat.mul_lt_mul_of_pos_right h2 (Nat.two_pow_pos k)
    rw [← Nat.pow_add, show m.log2 + 1 + k = 53 by omega] at this
    exact this
  have hlast : max ((0 : Int) + m.log2 - (52 : Nat)) (-1074) = -(k : Int) := by omega
  have hlp : double.leastPlace = -1074 := by decide
  have hbin : double.binade = 4503599627370496 := by decide
  have hinf : double.infRung = 9218868437227405312 := by decide
  have hsw : double.signWeight = 9223372036854775808 := by decide
  have hfb : double.fractionBits = 52 := rfl
  have hcut : Toward.even.cut s (m <<< (0 - -(k : Int)).toNat) ((-(k : Int)) - 0).toNat = m * 2 ^ k := by
    rw [show (0 - -(k : Int)).toNat = k by omega, show ((-(k : Int)) - 0).toNat = 0 by omega, Nat.shiftLeft_eq]
    simp [Toward.cut]
    omega
  have hnear : double.nearest s m 0 = double.word s ((1074 - k) * 4503599627370496 + m * 2 ^ k) := by
    unfold Format.nearest
    rw [if_neg (by omega)]
    simp only [hfb, hlp, hlast, hcut, hbin, hinf]
    rw [show (-(k : Int) - -1074).toNat = 1074 - k by omega, Nat.min_eq_left (by omega)]
  rw [hnear]
  generalize hR : m * 2 ^ k = X at *
  have hrung : (1074 - k) * 4503599627370496 + X < 9218868437227405312 := by omega
  have hw : double.word s ((1074 - k) * 4503599627370496 + X) / 9223372036854775808 % 2 = (if s then 1 else 0) ∧ double.word s ((1074 - k) * 4503599627370496 + X) % 9223372036854775808 = (1074 - k) * 4503599627370496 + X := by
    unfold Format.word
    rw [hsw]
    cases s
    · rw [if_neg (by simp), if_neg (by simp)]; omega
    · rw [if_pos rfl, if_pos rfl]; omega
  unfold Format.read
  simp only [hsw, hbin, hlp, hinf, hw.1, hw.2]
  rw [if_neg (by omega), if_pos hrung]
  congr 1
  · cases s <;> rfl
  · omega
  · omega

/-- d stands for the whole number n. -/
def Stands (d : Datum) (n : Int) : Prop := ∃ k : Nat, d = .number (decide (n < 0)) (n.natAbs * 2 ^ k) (-(k : Int))

theorem fl_stands (n : Int) (h1 : -9007199254740992 < n) (h2 : n < 9007199254740992) : Stands (FloatKind.f64.decode (floatOfInt .f64 n)) n := by
  by_cases h0 : n = 0
  · subst h0
    refine ⟨1074, ?_⟩
    simp only [Int.natAbs_zero, Nat.zero_mul]
    decide +kernel
  · have hm : 0 < n.natAbs := by omega
    have hl : n.natAbs.log2 < 53 := by
      rw [Nat.log2_lt (by omega)]
      have : (2 : Nat) ^ 53 = 9007199254740992 := by decide
      omega
    exact ⟨52 - n.natAbs.log2, nearest_exact _ _ _ hm (by omega)⟩

theorem signed_eq (n : Int) (k j : Nat) : signed (decide (n < 0)) (n.natAbs * 2 ^ k) j = n * ((2 ^ (k + j) : Nat) : Int) := by
  have e : (((n.natAbs * 2 ^ k) <<< j : Nat) : Int) = (n.natAbs : Int) * ((2 ^ (k + j) : Nat) : Int) := by
    rw [Nat.shiftLeft_eq, Nat.mul_assoc, ← Nat.pow_add]; simp
  unfold signed
  by_cases h : n < 0
  · rw [decide_eq_true h, if_pos rfl, e, ← Int.neg_mul]
    congr 1
    omega
  · rw [decide_eq_false h, if_neg (by simp), e]
    congr 1
    omega

theorem compare_mul (a b K : Int) (hK : 0 < K) : compare (a * K) (b * K) = compare a b := by
  rcases Int.lt_trichotomy a b with h | h | h
  · rw [Int.compare_eq_lt.2 h, Int.compare_eq_lt.2 (Int.mul_lt_mul_of_pos_right h hK)]
  · subst h; simp
  · rw [Int.compare_eq_gt.2 h, Int.compare_eq_gt.2 (Int.mul_lt_mul_of_pos_right h hK)]

theorem order_stands {d d' : Datum} {a b : Int} (h : Stands d a) (h' : Stands d' b) : d.order d' = some (compare a b) := by
  obtain ⟨i, rfl⟩ := h
  obtain ⟨j, rfl⟩ := h'
  simp only [Datum.order, signed_eq]
  rw [show i + (-(i : Int) - min (-(i : Int)) (-(j : Int))).toNat = max i j by omega, show j + (-(j : Int) - min (-(i : Int)) (-(j : Int))).toNat = max i j by omega]
  rw [compare_mul _ _ _ (by have := Nat.two_pow_pos (max i j); omega)]

theorem toInt_stands {d : Datum} {n : Int} (h : Stands d n) : d.toInt .zero = some n := by
  obtain ⟨k, rfl⟩ := h
  simp only [Datum.toInt, Datum.integral]
  have hc : Toward.zero.cut (decide (n < 0)) ((n.natAbs * 2 ^ k) <<< (-(k : Int)).toNat) (- -(k : Int)).toNat = n.natAbs := by
    rw [show (-(k : Int)).toNat = 0 by omega, show (- -(k : Int)).toNat = k by omega, Nat.shiftLeft_zero]
    unfold Toward.cut
    by_cases h0 : n.natAbs = 0
    · simp [h0]
    · have hp := Nat.two_pow_pos k
      have hle : k ≤ (n.natAbs * 2 ^ k).log2 := by
        rw [Nat.le_log2 (by intro e; rcases Nat.mul_eq_zero.1 e with e | e <;> omega)]
        exact Nat.le_mul_of_pos_left _ (by omega)
      simp only [Bool.toNat_false, Nat.add_zero]
      rw [Nat.min_eq_left (by omega), Nat.one_shiftLeft, Nat.mul_div_cancel _ hp]
  rw [hc]
  have := signed_eq n 0 0
  simp only [Nat.pow_zero, Nat.mul_one] at this
  rw [this]
  simp

/-! ### float64(n) -/
theorem fl_order (a b : Int) (h1 : -9007199254740992 < a) (h2 : a < 9007199254740992) (h3 : -9007199254740992 < b) (h4 : b < 9007199254740992) :
    FloatKind.f64.format.order (floatOfInt .f64 a) (floatOfInt .f64 b) = some (compare a b) := order_stands (fl_stands a h1 h2) (fl_stands b h3 h4)
theorem fl_int (n : Int) (h1 : -9007199254740992 < n) (h2 : n < 9007199254740992) : floatToIntVal .f64 (floatOfInt .f64 n) .i64 = some n := by
  unfold floatToIntVal
  rw [toInt_stands (fl_stands n h1 h2)]
  simp only
  rw [if_pos]
  constructor
  · show -9223372036854775808 ≤ n; omega
  · show n ≤ 9223372036854775807; omega
end Go.Proofs.YtpnkaamijjeckaaDoor
