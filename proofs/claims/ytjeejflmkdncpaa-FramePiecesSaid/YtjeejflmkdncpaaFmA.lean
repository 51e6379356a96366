/- Frames: plain data. A frame's bytes; the next one of a row of bytes; data in frames. -/
import Derived.Test.YtjeejflmkdncpaaOcA
namespace Go.Proofs.Ytjeejflmkdncpaa
open Go.RowKit
set_option linter.unusedVariables false

/-- A frame by its numbers and its bytes, a Value. -/
abbrev frV (k c : Int) (d : List UInt8) : Value := .agg #[.int .i64 k, .int .i64 c, tx d]

def isK (k : Int) : Bool := k == 1 || k == 2 || k == 3 || k == 8

def frOk (k c : Int) : Prop := (0 ≤ k ∧ k ≤ 255) ∧ 0 ≤ c ∧ c ≤ 65535
instance (k c : Int) : Decidable (frOk k c) := inferInstanceAs (Decidable (_ ∧ _))
/-- The bytes of a frame whose numbers fit. -/
def frRaw (k c : Int) (d : List UInt8) : List UInt8 := low 1 k ++ low 2 c ++ low 4 d.length ++ d ++ [206]
def frBytes (k c : Int) (d : List UInt8) : List UInt8 := if frOk k c then frRaw k c d else []

theorem frRaw_length (k c : Int) (d : List UInt8) : (frRaw k c d).length = d.length + 8 := by
  simp [frRaw, low_length]
  omega

/-- What is next: an error; bytes lack; a frame of that kind, channel, so many bytes. -/
inductive Got where
  | bad | lack | one (k c : Nat) (n : Nat)
deriving DecidableEq

/-- How many bytes does the frame at the front say that it holds. -/
def sizeOfL (L : List UInt8) : Nat := num ((L.drop 3).take 4)
def stepL (M : Nat) (L : List UInt8) : Got :=
  match L with
  | [] => .lack
  | b :: _ =>
    if isK b.toNat = false then .bad
    else if L.length < 7 then .lack
    else if M < sizeOfL L + 8 then .bad
    else if L.length < sizeOfL L + 8 then .lack
    else if L[sizeOfL L + 7]? ≠ some 206 then .bad
    else .one b.toNat (num ((L.drop 1).take 2)) (sizeOfL L)

/-- A parser's state: whether it erred, its bytes; the next frame, whether there is one, the error, the state behind. -/
def nextL (M : Nat) (bad : Bool) (L : List UInt8) : (Int × Int × List UInt8) × Bool × Int × Bool × List UInt8 :=
  if bad then ((0, 0, []), false, 501, true, [])
  else match stepL M L with
    | .bad => ((0, 0, []), false, 501, true, [])
    | .lack => ((0, 0, []), false, 0, false, L)
    | .one k c n => ((k, c, (L.drop 7).take n), true, 0, false, L.drop (n + 8))

/-- So many bytes may frames have together. -/
def heldM (most : Int) : Nat := (min (max most 64) 4096).toNat
theorem heldM_bd (most : Int) : 64 ≤ heldM most ∧ heldM most ≤ 4096 := by unfold heldM; omega

/-- Data in pieces of at most r bytes. -/
def cutsL (r : Nat) (d : List UInt8) : List (List UInt8) :=
  if h : d = [] ∨ r = 0 then [] else d.take r :: cutsL r (d.drop r)
termination_by d.length
decreasing_by
  have h1 : d ≠ [] := fun e => h (.inl e)
  have := List.length_pos_iff.2 h1
  rw [List.length_drop]
  omega

/-! ### what comes of a frame's own bytes -/
theorem getElem?_frRaw_last (k c : Int) (d r : List UInt8) : (frRaw k c d ++ r)[d.length + 7]? = some 206 := by
  have h1 : (low 1 k ++ low 2 c ++ low 4 (d.length : Int) ++ d).length = d.length + 7 := by
    simp [low_length]
    omega
  unfold frRaw
  rw [List.append_assoc _ [206] r, List.getElem?_append_right (by omega), h1]
  simp
theorem frRaw_form (k c : Int) (d : List UInt8) : frRaw k c d = oct k :: (low 2 c ++ low 4 d.length ++ d ++ [206]) := by
  unfold frRaw
  rw [low_one]
  simp
theorem frRaw_drop7 (k c : Int) (d r : List UInt8) : (frRaw k c d ++ r).drop 7 = d ++ (206 :: r) := by
  have h : (low 1 k ++ low 2 c ++ low 4 (d.length : Int)).length = 7 := by simp [low_length]
  unfold frRaw
  rw [show low 1 k ++ low 2 c ++ low 4 (d.length : Int) ++ d ++ [206] ++ r = (low 1 k ++ low 2 c ++ low 4 (d.length : Int)) ++ (d ++ (206 :: r)) by simp, List.drop_left' h]
theorem frRaw_size {k c : Int} {d r : List UInt8} (hd : d.length < 4294967296) : sizeOfL (frRaw k c d ++ r) = d.length := by
  have h : (low 1 k ++ low 2 c).length = 3 := by simp [low_length]
  have e : ((frRaw k c d ++ r).drop 3).take 4 = low 4 (d.length : Int) := by
    unfold frRaw
    rw [show low 1 k ++ low 2 c ++ low 4 (d.length : Int) ++ d ++ [206] ++ r = (low 1 k ++ low 2 c) ++ (low 4 (d.length : Int) ++ (d ++ [206] ++ r)) by simp, List.drop_left' h, List.take_left' (low_length _ _)]
  unfold sizeOfL
  rw [e, num_low, Nat.mod_eq_of_lt (by simpa using hd)]
theorem frRaw_chan {k : Int} {c : Nat} {d r : List UInt8} (hc : c ≤ 65535) : num (((frRaw k c d ++ r).drop 1).take 2) = c := by
  have e : ((frRaw k c d ++ r).drop 1).take 2 = low 2 (c : Int) := by
    rw [frRaw_form]
    simp only [List.cons_append, List.drop_succ_cons, List.drop_zero]
    rw [show low 2 (c : Int) ++ low 4 (d.length : Int) ++ d ++ [206] ++ r = low 2 (c : Int) ++ (low 4 (d.length : Int) ++ d ++ [206] ++ r) by simp, List.take_left' (low_length _ _)]
  rw [e, num_low, Nat.mod_eq_of_lt (by simp; omega)]
theorem oct_small {k : Nat} (h : k ≤ 255) : (oct (k : Int)).toNat = k := by
  have := oct_nat (k : Int)
  omega
/-- What is told of a frame's bytes, whatever is behind. -/
theorem stepL_raw {M k c : Nat} {d r : List UInt8} (hk : isK k = true) (hk2 : k ≤ 255) (hc : c ≤ 65535) (hd : d.length + 8 ≤ M) (hM : M ≤ 4096) : stepL M (frRaw k c d ++ r) = .one k c d.length := by
  have hs := frRaw_size (k := k) (c := c) (d := d) (r := r) (by omega)
  have hch := frRaw_chan (k := k) (c := c) (d := d) (r := r) hc
  have hl := frRaw_length k c d
  have hlast := getElem?_frRaw_last k c d r
  have hlen : (frRaw k c d ++ r).length = d.length + 8 + r.length := by rw [List.length_append, hl]
  have hf : frRaw k c d ++ r = oct k :: (low 2 c ++ low 4 d.length ++ d ++ [206] ++ r) := by rw [frRaw_form, List.cons_append]
  generalize hX : frRaw k c d ++ r = X at *
  subst hf
  unfold stepL
  simp only
  rw [hs, hch, oct_small hk2, hk, hlast, hlen, if_neg (by simp), if_neg (by omega), if_neg (by omega), if_neg (by omega), if_neg (by simp)]
theorem nextL_raw {M k c : Nat} {d r : List UInt8} (hk : isK k = true) (hk2 : k ≤ 255) (hc : c ≤ 65535) (hd : d.length + 8 ≤ M) (hM : M ≤ 4096) : nextL M false (frRaw k c d ++ r) = (((k : Int), (c : Int), d), true, 0, false, r) := by
  unfold nextL
  rw [stepL_raw hk hk2 hc hd hM]
  simp only [Bool.false_eq_true, if_false, frRaw_drop7, List.take_left]
  rw [List.drop_left' (frRaw_length k c d)]
theorem nextL_nil (M : Nat) : nextL M false [] = ((0, 0, []), false, 0, false, []) := rfl
theorem nextL_bad (M : Nat) (L : List UInt8) : nextL M true L = ((0, 0, []), false, 501, true, []) := rfl
/-- A frame cut off: bytes lack. -/
theorem stepL_cut {M k c : Nat} {d : List UInt8} {n : Nat} (hk : isK k = true) (hk2 : k ≤ 255) (hd : d.length + 8 ≤ M) (hM : M ≤ 4096) (hn : n < d.length + 8) : stepL M ((frRaw k c d).take n) = .lack := by
  have hl := frRaw_length k c d
  have hs := frRaw_size (k := k) (c := c) (d := d) (r := []) (by omega)
  rw [List.append_nil] at hs
  cases n with
  | zero => rfl
  | succ n =>
    have hf : (frRaw k c d).take (n + 1) = oct k :: (low 2 c ++ low 4 d.length ++ d ++ [206]).take n := by rw [frRaw_form, List.take_succ_cons]
    have hlen : ((frRaw k c d).take (n + 1)).length = n + 1 := by rw [List.length_take]; omega
    by_cases h7 : n + 1 < 7
    · generalize (frRaw k c d).take (n + 1) = X at *
      subst hf
      unfold stepL
      simp only
      rw [oct_small hk2, hk, hlen, if_neg (by simp), if_pos h7]
    · have hz : sizeOfL ((frRaw k c d).take (n + 1)) = d.length := by
        rw [← hs]
        unfold sizeOfL
        rw [List.drop_take, List.take_take, Nat.min_eq_left (by omega)]
      generalize (frRaw k c d).take (n + 1) = X at *
      subst hf
      unfold stepL
      simp only
      rw [oct_small hk2, hk, hz, hlen, if_neg (by simp), if_neg h7, if_neg (by omega), if_pos hn]
theorem nextL_cut {M k c : Nat} {d : List UInt8} {n : Nat} (hk : isK k = true) (hk2 : k ≤ 255) (hd : d.length + 8 ≤ M) (hM : M ≤ 4096) (hn : n < d.length + 8) : nextL M false ((frRaw k c d).take n) = ((0, 0, []), false, 0, false, (frRaw k c d).take n) := by
  unfold nextL
  rw [stepL_cut hk hk2 hd hM hn]
  simp
end Go.Proofs.Ytjeejflmkdncpaa
