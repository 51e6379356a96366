/- Heads of contents: plain data. Which are any, their bytes, what is read of bytes. -/
import Derived.Test.YtnnpcjhjmghobaaDoorOcA
namespace Go.Proofs.YtnnpcjhjmghobaaDoor
open Go.RowKit
set_option linter.unusedVariables false

def isC (s p t : Int) : Bool := (decide (0 ≤ s) && decide (s ≤ 200)) && ((decide (0 ≤ p) && decide (p ≤ 255)) && (decide (0 ≤ t) && decide (t ≤ 10000)))
theorem isC_iff {s p t : Int} : isC s p t = true ↔ (0 ≤ s ∧ s ≤ 200) ∧ (0 ≤ p ∧ p ≤ 255) ∧ (0 ≤ t ∧ t ≤ 10000) := by simp [isC]
def rawC (s p t : Int) : List UInt8 := low 4 s ++ (low 1 p ++ low 4 t)
theorem rawC_len (s p t : Int) : (rawC s p t).length = 9 := by simp [rawC, low_length]
def bytesC (s p t : Int) : List UInt8 := if isC s p t = true then rawC s p t else []

/-- What is read: three numbers and an error. -/
abbrev Red := (Int × Int × Int) × Int
def badC : Red := ((0, 0, 0), 502)
def goD (x y z : Int) (r : List UInt8) : Red := if r = [] ∧ isC x y z = true then ((x, y, z), 0) else badC
def goC2 (x y : Int) (r : List UInt8) : Red := if (takeL r 4).2.2 = 0 then goD x y (takeL r 4).1 (takeL r 4).2.1 else badC
def goC1 (x : Int) (r : List UInt8) : Red := if (takeL r 1).2.2 = 0 then goC2 x (takeL r 1).1 (takeL r 1).2.1 else badC
def readC (r : List UInt8) : Red := if (takeL r 4).2.2 = 0 then goC1 (takeL r 4).1 (takeL r 4).2.1 else badC

theorem takeL_ok {k : Nat} (hk : k ≤ 7) {l : List UInt8} (h : k ≤ l.length) : takeL l k = (num (l.take k), l.drop k, 0) := by
  unfold takeL
  rw [heldN_of hk, if_neg (by omega)]
theorem takeL_en (l : List UInt8) (k : Int) : (takeL l k).2.2 = 0 ∨ (takeL l k).2.2 = 11 := by
  unfold takeL
  split
  · exact .inr rfl
  · exact .inl rfl

theorem take4_short {l : List UInt8} (h : l.length < 4) : takeL l 4 = (0, l, 11) := takeL_short (k := 4) (by decide) h
theorem take4_ok {l : List UInt8} (h : 4 ≤ l.length) : takeL l 4 = (num (l.take 4), l.drop 4, 0) := takeL_ok (k := 4) (by decide) h
theorem take1_short {l : List UInt8} (h : l.length < 1) : takeL l 1 = (0, l, 11) := takeL_short (k := 1) (by decide) h
theorem take1_ok {l : List UInt8} (h : 1 ≤ l.length) : takeL l 1 = (num (l.take 1), l.drop 1, 0) := takeL_ok (k := 1) (by decide) h

/-- All at once: of nine bytes, three numbers. -/
theorem readC_eq (l : List UInt8) : readC l = if l.length = 9 ∧ isC (num (l.take 4)) (num ((l.drop 4).take 1)) (num ((l.drop 5).take 4)) = true then ((↑(num (l.take 4)), ↑(num ((l.drop 4).take 1)), ↑(num ((l.drop 5).take 4))), 0) else badC := by
  unfold readC
  by_cases h4 : l.length < 4
  · rw [take4_short h4, if_neg (by simp), if_neg (by omega)]
  rw [take4_ok (by omega), if_pos rfl]
  unfold goC1
  by_cases h5 : (l.drop 4).length < 1
  · rw [take1_short h5, if_neg (by simp), if_neg (by rw [List.length_drop] at h5; omega)]
  rw [List.length_drop] at h5
  rw [take1_ok (by rw [List.length_drop]; omega), if_pos rfl]
  unfold goC2
  simp only [List.drop_drop]
  by_cases h9 : (l.drop (4 + 1)).length < 4
  · rw [take4_short h9, if_neg (by simp), if_neg (by rw [List.length_drop] at h9; omega)]
  rw [List.length_drop] at h9
  rw [take4_ok (by rw [List.length_drop]; omega), if_pos rfl]
  unfold goD
  simp only [List.drop_drop]
  have e : l.drop (4 + 1 + 4) = [] ↔ l.length = 9 := by
    rw [List.drop_eq_nil_iff]
    omega
  simp only [e]

theorem num_low_of {k : Nat} {z : Int} (h0 : 0 ≤ z) (h1 : z < 256 ^ k) : (num (low k z) : Int) = z := by
  obtain ⟨n, rfl⟩ := Int.eq_ofNat_of_zero_le h0
  rw [num_low, Nat.mod_eq_of_lt (Int.ofNat_lt.1 (by rw [Int.natCast_pow]; exact h1))]
theorem readC_raw {s p t : Int} (h : isC s p t = true) : readC (rawC s p t) = ((s, p, t), 0) := by
  obtain ⟨⟨s0, s1⟩, ⟨p0, p1⟩, ⟨t0, t1⟩⟩ := isC_iff.1 h
  have l4 := low_length 4 s
  have l1 := low_length 1 p
  have l44 := low_length 4 t
  have e1 : (rawC s p t).take 4 = low 4 s := by unfold rawC; exact List.take_left' l4
  have e2 : ((rawC s p t).drop 4).take 1 = low 1 p := by unfold rawC; rw [List.drop_left' l4, List.take_left' l1]
  have e3 : ((rawC s p t).drop 5).take 4 = low 4 t := by
    unfold rawC
    rw [← List.append_assoc, List.drop_left' (by rw [List.length_append]; omega), List.take_of_length_le (by omega)]
  rw [readC_eq, e1, e2, e3, num_low_of s0 (by omega), num_low_of p0 (by omega), num_low_of t0 (by omega), if_pos ⟨rawC_len s p t, h⟩]
theorem readC_en (l : List UInt8) : (readC l).2 = 0 ∨ (readC l = badC) := by
  rw [readC_eq]
  split
  · exact .inl rfl
  · exact .inr rfl
theorem readC_nil : readC [] = badC := by
  rw [readC_eq, if_neg (by simp)]
end Go.Proofs.YtnnpcjhjmghobaaDoor
