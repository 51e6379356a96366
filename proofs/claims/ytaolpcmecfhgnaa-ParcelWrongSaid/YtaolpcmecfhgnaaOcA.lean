/- Numbers and texts as bytes: plain data. The lowest bytes of a number, the highest first; the number of bytes; what is taken from the front. -/
import Derived.Test.YtaolpcmecfhgnaaOwn
import Derived.Laws.BitsLemmas
import Derived.Laws.Strings
namespace Go.Proofs.Ytaolpcmecfhgnaa
open Go.RowKit

/-- A text by its bytes. -/
abbrev tx (l : List UInt8) : Value := .string ⟨l.toArray⟩
def oct (z : Int) : UInt8 := UInt8.ofNat (z % 256).toNat
theorem oct_nat (z : Int) : ((oct z).toNat : Int) = z % 256 := by
  unfold oct
  rw [UInt8.toNat_ofNat']
  omega
/-- The k lowest bytes of n, the highest first. -/
def low : Nat → Int → List UInt8
  | 0, _ => []
  | k + 1, n => oct (n / 256 ^ k) :: low k n
theorem div_pow (n : Int) (j : Nat) : n / 256 ^ (j + 1) = n / 256 ^ j / 256 := by
  have h : (0 : Int) ≤ 256 ^ j := Int.pow_nonneg (by decide)
  rw [Int.pow_succ, Int.ediv_mul, if_neg (by omega), Int.add_zero]
theorem low_length (k : Nat) (n : Int) : (low k n).length = k := by
  induction k with
  | zero => rfl
  | succ k ih => simp [low, ih]
/-- The number of so many bytes. -/
def num (l : List UInt8) : Nat := l.foldl (fun a b => a * 256 + b.toNat) 0
theorem num_nil : num [] = 0 := rfl
theorem num_snoc (l : List UInt8) (b : UInt8) : num (l ++ [b]) = num l * 256 + b.toNat := by simp [num]
theorem u8_lt (b : UInt8) : b.toNat < 256 := UInt8.toNat_lt b
theorem num_from (l : List UInt8) (a : Nat) : l.foldl (fun a b => a * 256 + b.toNat) a = a * 256 ^ l.length + num l := by
  induction l generalizing a with
  | nil => simp [num]
  | cons b l ih =>
    simp only [List.foldl_cons, num, Nat.zero_mul, Nat.zero_add, List.length_cons]
    rw [ih (a * 256 + b.toNat), ih b.toNat, Nat.pow_succ, Nat.add_mul, Nat.mul_assoc, Nat.mul_comm 256 (256 ^ l.length)]
    omega
theorem num_cons (b : UInt8) (l : List UInt8) : num (b :: l) = b.toNat * 256 ^ l.length + num l := by
  show l.foldl _ (0 * 256 + b.toNat) = _
  rw [Nat.zero_mul, Nat.zero_add, num_from]
theorem num_lt (l : List UInt8) : num l < 256 ^ l.length := by
  induction l with
  | nil => simp [num]
  | cons b l ih =>
    rw [num_cons, List.length_cons, Nat.pow_succ]
    have h1 := u8_lt b
    have h2 : b.toNat * 256 ^ l.length ≤ 255 * 256 ^ l.length := Nat.mul_le_mul_right _ (by omega)
    omega
theorem num_low (k m : Nat) : num (low k (m : Int)) = m % 256 ^ k := by
  induction k with
  | zero => simp [low, num, Nat.mod_one]
  | succ k ih =>
    have e : (oct ((m : Int) / 256 ^ k)).toNat = m / 256 ^ k % 256 := by
      have := oct_nat ((m : Int) / 256 ^ k)
      have c : ((m : Int) / 256 ^ k) % 256 = ((m / 256 ^ k % 256 : Nat) : Int) := by simp
      omega
    rw [low, num_cons, low_length, ih, e, Nat.pow_succ, Nat.mod_mul, Nat.mul_comm (m / 256 ^ k % 256)]
    omega
theorem num_take {l : List UInt8} {i : Nat} {b : UInt8} (h : l[i]? = some b) : num (l.take (i + 1)) = num (l.take i) * 256 + b.toNat := by
  rw [List.take_add_one, h, Option.toList_some, num_snoc]

/-- Of how many bytes a number is made or taken. -/
def heldN (k : Int) : Nat := (min (max k 0) 7).toNat
theorem heldN_le (k : Int) : heldN k ≤ 7 := by unfold heldN; omega
theorem heldN_of {k : Nat} (h : k ≤ 7) : heldN (k : Int) = k := by unfold heldN; omega
theorem pow256_le {k : Nat} (h : k ≤ 7) : 256 ^ k ≤ 72057594037927936 := Nat.le_trans (Nat.pow_le_pow_right (by decide) h) (by decide)
theorem num_le {l : List UInt8} (h : l.length ≤ 7) : num l < 72057594037927936 := Nat.lt_of_lt_of_le (num_lt l) (pow256_le h)

def takeL (l : List UInt8) (k : Int) : Nat × List UInt8 × Int :=
  if l.length < heldN k then (0, l, 11) else (num (l.take (heldN k)), l.drop (heldN k), 0)
def textL (l : List UInt8) : List UInt8 × Int := if 255 < l.length then ([], 15) else (oct l.length :: l, 0)
def takeTextL (l : List UInt8) (most : Int) : List UInt8 × List UInt8 × Int :=
  match l with
  | [] => ([], [], 11)
  | b :: r => if most < b.toNat then ([], b :: r, 15) else if r.length < b.toNat then ([], b :: r, 11) else (r.take b.toNat, r.drop b.toNat, 0)

theorem low_one (n : Int) : low 1 n = [oct n] := by simp [low]
theorem textL_eq {l : List UInt8} (h : l.length ≤ 255) : textL l = (oct l.length :: l, 0) := if_neg (by omega)
theorem oct_len {l : List UInt8} (h : l.length ≤ 255) : (oct (l.length : Int)).toNat = l.length := by
  have := oct_nat (l.length : Int)
  omega
/-- What is put is taken, whatever is behind. -/
theorem takeL_low (k m : Nat) (hk : k ≤ 7) (hm : m < 256 ^ k) (r : List UInt8) : takeL (low k (m : Int) ++ r) k = (m, r, 0) := by
  have hl := low_length k (m : Int)
  unfold takeL
  rw [heldN_of hk, if_neg (by rw [List.length_append]; omega), List.take_left' hl, List.drop_left' hl, num_low, Nat.mod_eq_of_lt hm]
theorem takeL_short {k : Nat} (hk : k ≤ 7) {l : List UInt8} (h : l.length < k) : takeL l k = (0, l, 11) := by
  unfold takeL
  rw [heldN_of hk, if_pos h]
theorem takeTextL_text {l r : List UInt8} {most : Int} (h : l.length ≤ 255) (hm : (l.length : Int) ≤ most) : takeTextL (oct l.length :: l ++ r) most = (l, r, 0) := by
  have ho := oct_len h
  simp only [List.cons_append, takeTextL]
  rw [ho, if_neg (by omega), if_neg (by rw [List.length_append]; omega), List.take_left, List.drop_left]
theorem takeTextL_cut {l : List UInt8} {c : Nat} (h : l.length ≤ 255) (hc : c ≤ l.length) : takeTextL ((oct l.length :: l).take c) 255 = ([], (oct l.length :: l).take c, 11) := by
  have ho := oct_len h
  cases c with
  | zero => rfl
  | succ c =>
    simp only [List.take_succ_cons, takeTextL]
    rw [ho, if_neg (by omega), if_pos (by rw [List.length_take]; omega)]
end Go.Proofs.Ytaolpcmecfhgnaa
