/- Which places are set, told by words over words: plain data. A bit of a word of level l stands for 64^l places; it is set when one of these is. -/
import Derived.Test.YtpnkaamijjeckaaDoorOwn
import Derived.Lib.TrailingZeros
import Derived.Laws.BitsAllLaws
namespace Go.Proofs.YtpnkaamijjeckaaDoor
open Go.RowKit

/-- One of the places that bit i of level l stands for is set. -/
def Up (s : Nat → Bool) (l i : Nat) : Prop := ∃ p, p / 64 ^ l = i ∧ s p = true
def ins (s : Nat → Bool) (i : Nat) : Nat → Bool := fun p => p == i || s p
def del (s : Nat → Bool) (i : Nat) : Nat → Bool := fun p => p != i && s p

theorem div_up (p l : Nat) : p / 64 ^ (l + 1) = p / 64 ^ l / 64 := by rw [Nat.pow_succ, Nat.div_div_eq_div_mul]
theorem up_zero {s : Nat → Bool} {i : Nat} : Up s 0 i ↔ s i = true := by
  constructor
  · rintro ⟨p, h, hs⟩
    rw [Nat.pow_zero, Nat.div_one] at h
    exact h ▸ hs
  · intro h
    exact ⟨i, by rw [Nat.pow_zero, Nat.div_one], h⟩
theorem Up.climb {s : Nat → Bool} {l i : Nat} (h : Up s l i) : Up s (l + 1) (i / 64) := by
  obtain ⟨p, h, hs⟩ := h
  exact ⟨p, by rw [div_up, h], hs⟩
theorem up_below {s : Nat → Bool} {l j : Nat} : Up s (l + 1) j ↔ ∃ b, b < 64 ∧ Up s l (64 * j + b) := by
  constructor
  · rintro ⟨p, h, hs⟩
    rw [div_up] at h
    exact ⟨p / 64 ^ l % 64, Nat.mod_lt _ (by decide), p, by omega, hs⟩
  · rintro ⟨b, hb, p, h, hs⟩
    exact ⟨p, by rw [div_up, h]; omega, hs⟩

theorem up_ins {s : Nat → Bool} {l i p : Nat} : Up (ins s p) l i ↔ Up s l i ∨ i = p / 64 ^ l := by
  constructor
  · rintro ⟨q, h, hs⟩
    simp only [ins, Bool.or_eq_true, beq_iff_eq] at hs
    rcases hs with rfl | hs
    · exact .inr h.symm
    · exact .inl ⟨q, h, hs⟩
  · rintro (⟨q, h, hs⟩ | rfl)
    · exact ⟨q, h, by simp [ins, hs]⟩
    · exact ⟨p, rfl, by simp [ins]⟩
theorem up_del {s : Nat → Bool} {l i p : Nat} (h : Up (del s p) l i) : Up s l i := by
  obtain ⟨q, h, hs⟩ := h
  simp only [del, Bool.and_eq_true] at hs
  exact ⟨q, h, hs.2⟩
theorem up_del_other {s : Nat → Bool} {l i p : Nat} (hi : i ≠ p / 64 ^ l) (h : Up s l i) : Up (del s p) l i := by
  obtain ⟨q, h, hs⟩ := h
  refine ⟨q, h, ?_⟩
  simp only [del, Bool.and_eq_true, bne_iff_ne, ne_eq]
  refine ⟨?_, hs⟩
  rintro rfl
  exact hi h.symm
theorem up_del_zero {s : Nat → Bool} {p : Nat} : ¬ Up (del s p) 0 (p / 64 ^ 0) := by
  rw [Nat.pow_zero, Nat.div_one, up_zero]
  simp [del]

/-- The words of level l. -/
def Bits (s : Nat → Bool) (l : Nat) (ws : List Nat) : Prop := ∀ j u, ws[j]? = some u → u < 2 ^ 64 ∧ ∀ b, b < 64 → (u.testBit b = true ↔ Up s l (64 * j + b))

section
variable {s t : Nat → Bool} {l j u : Nat} {ws : List Nat}

theorem Bits.alike (h : Bits s l ws) (he : ∀ i, Up s l i ↔ Up t l i) : Bits t l ws := fun j u hu => ⟨(h j u hu).1, fun b hb => ((h j u hu).2 b hb).trans (he _)⟩
theorem Bits.blank (n : Nat) : Bits (fun _ => false) l (List.replicate n 0) := by
  intro j u hu
  obtain rfl : u = 0 := by
    rw [List.getElem?_replicate] at hu
    split at hu
    · exact (Option.some.inj hu).symm
    · cases hu
  refine ⟨by decide, fun b _ => ?_⟩
  rw [Nat.zero_testBit]
  constructor
  · intro h; cases h
  · rintro ⟨p, _, h⟩; cases h

theorem bit_lt {u b : Nat} (hu : u < 2 ^ 64) (h : u.testBit b = true) : b < 64 := by
  apply Nat.lt_of_not_le
  intro hb
  rw [Nat.testBit_lt_two_pow (Nat.lt_of_lt_of_le hu (Nat.pow_le_pow_right (by decide) hb))] at h
  cases h

/-- A word has a bit set: one of its places is. -/
theorem Bits.told (h : Bits s l ws) (hu : ws[j]? = some u) : u ≠ 0 ↔ Up s (l + 1) j := by
  obtain ⟨hlt, hb⟩ := h j u hu
  rw [up_below]
  constructor
  · intro hn
    obtain ⟨b, h1⟩ := Nat.exists_testBit_of_ne_zero hn
    exact ⟨b, bit_lt hlt h1, (hb b (bit_lt hlt h1)).1 h1⟩
  · rintro ⟨b, h1, h2⟩ rfl
    have := (hb b h1).2 h2
    rw [Nat.zero_testBit] at this
    cases this

theorem set_getElem? {ws : List Nat} {i j u v : Nat} (h : (ws.set i v)[j]? = some u) : (j = i ∧ u = v) ∨ (j ≠ i ∧ ws[j]? = some u) := by
  rw [List.getElem?_set] at h
  split at h
  · rename_i e
    split at h
    · exact .inl ⟨e.symm, (Option.some.inj h).symm⟩
    · cases h
  · rename_i e
    exact .inr ⟨fun e' => e e'.symm, h⟩

theorem pow_lt_64 (k : Nat) (h : k < 64) : 2 ^ k < 2 ^ 64 := Nat.pow_lt_pow_right (by decide) h

/-- A place is set: its bit of this level. -/
theorem Bits.put {p : Nat} (h : Bits s l ws) (hu : ws[p / 64 ^ l / 64]? = some u) : Bits (ins s p) l (ws.set (p / 64 ^ l / 64) (u ||| 2 ^ (p / 64 ^ l % 64))) := by
  intro j v hv
  rcases set_getElem? hv with ⟨rfl, rfl⟩ | ⟨hj, hv⟩
  · obtain ⟨h1, h2⟩ := h _ u hu
    refine ⟨Nat.or_lt_two_pow h1 (pow_lt_64 _ (Nat.mod_lt _ (by decide))), fun b hb => ?_⟩
    rw [Nat.testBit_or, Nat.testBit_two_pow, Bool.or_eq_true, h2 b hb, up_ins, decide_eq_true_eq]
    exact or_congr Iff.rfl ⟨fun e => by omega, fun e => by omega⟩
  · obtain ⟨h1, h2⟩ := h j v hv
    refine ⟨h1, fun b hb => ?_⟩
    rw [h2 b hb, up_ins]
    exact ⟨.inl, fun h => h.elim id fun e => absurd (show j = p / 64 ^ l / 64 by omega) hj⟩
/-- .. where the bit of a lower level was told of already. -/
theorem up_ins_same {p : Nat} (h : Up s l (p / 64 ^ l)) : ∀ d i, Up s (l + d) i ↔ Up (ins s p) (l + d) i := by
  have key : ∀ d, Up s (l + d) (p / 64 ^ (l + d)) := by
    intro d
    induction d with
    | zero => exact h
    | succ d ih => rw [← Nat.add_assoc, div_up]; exact ih.climb
  intro d i
  rw [up_ins]
  exact ⟨.inl, fun h => h.elim id fun e => e ▸ key d⟩

/-- A place is unset: its bit of this level, no other place of it being set. -/
theorem Bits.cut {p : Nat} (h : Bits s l ws) (hp : ¬ Up (del s p) l (p / 64 ^ l)) (hu : ws[p / 64 ^ l / 64]? = some u) :
    Bits (del s p) l (ws.set (p / 64 ^ l / 64) (u &&& (18446744073709551615 - 2 ^ (p / 64 ^ l % 64)))) := by
  have hk : 2 ^ (p / 64 ^ l % 64) < 2 ^ 64 := pow_lt_64 _ (Nat.mod_lt _ (by decide))
  intro j v hv
  rcases set_getElem? hv with ⟨rfl, rfl⟩ | ⟨hj, hv⟩
  · obtain ⟨h1, h2⟩ := h _ u hu
    refine ⟨Nat.lt_of_le_of_lt Nat.and_le_left h1, fun b hb => ?_⟩
    have e : 18446744073709551615 - 2 ^ (p / 64 ^ l % 64) = 2 ^ 64 - (2 ^ (p / 64 ^ l % 64) + 1) := by omega
    rw [e, Nat.testBit_and, Nat.testBit_two_pow_sub_succ hk, Nat.testBit_two_pow, Bool.and_eq_true, h2 b hb]
    simp only [hb, decide_true, Bool.true_and, Bool.not_eq_true', decide_eq_false_iff_not]
    constructor
    · rintro ⟨h3, h4⟩
      exact up_del_other (by omega) h3
    · intro h3
      refine ⟨up_del h3, fun e => hp ?_⟩
      have : p / 64 ^ l = 64 * (p / 64 ^ l / 64) + b := by omega
      rw [this]; exact h3
  · obtain ⟨h1, h2⟩ := h j v hv
    refine ⟨h1, fun b hb => ?_⟩
    rw [h2 b hb]
    exact ⟨fun h3 => up_del_other (by omega) h3, up_del⟩
theorem up_del_same {p : Nat} (h : Up (del s p) l (p / 64 ^ l)) : ∀ d i, Up s (l + d) i ↔ Up (del s p) (l + d) i := by
  have key : ∀ d, Up (del s p) (l + d) (p / 64 ^ (l + d)) := by
    intro d
    induction d with
    | zero => exact h
    | succ d ih => rw [← Nat.add_assoc, div_up]; exact ih.climb
  intro d i
  refine ⟨fun h => ?_, up_del⟩
  by_cases e : i = p / 64 ^ (l + d)
  · exact e ▸ key d
  · exact up_del_other e h

/-! ### the search -/
theorem ctz_at {x : Nat} (h0 : x ≠ 0) (h : x < 2 ^ 64) : Lib.ctz 64 x < 64 ∧ x.testBit (Lib.ctz 64 x) = true ∧ ∀ b, b < Lib.ctz 64 x → x.testBit b = false := by
  obtain ⟨m, hm, hk⟩ := Lib.ctzFrom_spec 64 x (by omega) h
  have e : Lib.ctz 64 x = Lib.ctzFrom 64 x := by simp [Lib.ctz, h0]
  rw [e]
  generalize Lib.ctzFrom 64 x = k at hm hk
  subst hm
  refine ⟨hk, ?_, fun b hb => ?_⟩
  · rw [Nat.mul_comm, Nat.testBit_mul_two_pow]
    simp [Nat.testBit_zero]
  · rw [Nat.mul_comm, Nat.testBit_mul_two_pow]
    simp; omega

/-- What of a word lies at bit k or behind it. -/
def restOf (u k : Nat) : Nat := u &&& (18446744073709551615 - (2 ^ k - 1))
theorem rest_bit (u : Nat) {k b : Nat} (hk : k < 64) (hb : b < 64) : (restOf u k).testBit b = (u.testBit b && decide (k ≤ b)) := by
  have h := pow_lt_64 k hk
  have h0 : 0 < 2 ^ k := Nat.two_pow_pos k
  have e : 18446744073709551615 - (2 ^ k - 1) = 2 ^ 64 - (2 ^ k - 1 + 1) := by omega
  unfold restOf
  rw [e, Nat.testBit_and, Nat.testBit_two_pow_sub_succ (by omega), Nat.testBit_two_pow_sub_one]
  simp only [hb, decide_true, Bool.true_and]
  congr 1
  by_cases h : b < k
  · simp [h]
  · simp [h]; omega
theorem rest_lt (u k : Nat) (h : u < 2 ^ 64) : restOf u k < 2 ^ 64 := Nat.lt_of_le_of_lt Nat.and_le_left h

/-- None is set from a on below b. -/
def NoneIn (s : Nat → Bool) (a b : Nat) : Prop := ∀ p, a ≤ p → p < b → s p = false
theorem NoneIn.join {a b c : Nat} (h1 : NoneIn s a b) (h2 : NoneIn s b c) : NoneIn s a c := fun p h3 h4 => by
  rcases Nat.lt_or_ge p b with h | h
  · exact h1 p h3 h
  · exact h2 p h h4
/-- .. by the bits of a level. -/
theorem noneIn_up {a b : Nat} (h : ∀ i, a ≤ i → i < b → ¬ Up s l i) : NoneIn s (a * 64 ^ l) (b * 64 ^ l) := by
  intro p h1 h2
  have hp : 0 < 64 ^ l := Nat.pow_pos (by decide)
  have e1 : a ≤ p / 64 ^ l := (Nat.le_div_iff_mul_le hp).2 h1
  have e2 : p / 64 ^ l < b := (Nat.div_lt_iff_lt_mul hp).2 h2
  cases hs : s p with
  | false => rfl
  | true => exact absurd ⟨p, rfl, hs⟩ (h _ e1 e2)

theorem mul_pow_up (a l : Nat) : a * 64 ^ (l + 1) = a * 64 * 64 ^ l := by rw [Nat.pow_succ, Nat.mul_comm (64 ^ l), Nat.mul_assoc]

/-- A word without a bit from bit i on: the search climbs. -/
theorem climb_none {i0 i : Nat} (h : Bits s l ws) (hu : ws[i / 64]? = some u) (hr : restOf u (i % 64) = 0) (hn : NoneIn s i0 (i * 64 ^ l)) (hi : i0 ≤ i * 64 ^ l) :
    NoneIn s i0 ((i / 64 + 1) * 64 ^ (l + 1)) ∧ i0 ≤ (i / 64 + 1) * 64 ^ (l + 1) := by
  obtain ⟨h1, h2⟩ := h _ u hu
  have hle : i ≤ (i / 64 + 1) * 64 := by omega
  refine ⟨hn.join ?_, Nat.le_trans hi ?_⟩
  · rw [mul_pow_up]
    refine noneIn_up fun q h3 h4 hup => ?_
    obtain ⟨b, hb, rfl⟩ : ∃ b, b < 64 ∧ q = 64 * (i / 64) + b := ⟨q - 64 * (i / 64), by omega, by omega⟩
    have h5 := (h2 b hb).2 hup
    have h6 := rest_bit u (k := i % 64) (Nat.mod_lt _ (by decide)) hb
    rw [hr, Nat.zero_testBit, h5] at h6
    simp at h6
    omega
  · rw [mul_pow_up]
    exact Nat.mul_le_mul_right _ hle
/-- A word with one: it is found. -/
theorem climb_some {i0 i : Nat} (h : Bits s l ws) (hu : ws[i / 64]? = some u) (hr : restOf u (i % 64) ≠ 0) (hn : NoneIn s i0 (i * 64 ^ l)) (hi : i0 ≤ i * 64 ^ l) :
    Lib.ctz 64 (restOf u (i % 64)) < 64 ∧ Up s l (i / 64 * 64 + Lib.ctz 64 (restOf u (i % 64))) ∧ NoneIn s i0 ((i / 64 * 64 + Lib.ctz 64 (restOf u (i % 64))) * 64 ^ l) ∧ i0 ≤ (i / 64 * 64 + Lib.ctz 64 (restOf u (i % 64))) * 64 ^ l := by
  obtain ⟨h1, h2⟩ := h _ u hu
  obtain ⟨c1, c2, c3⟩ := ctz_at hr (rest_lt u _ h1)
  have hb := rest_bit u (k := i % 64) (Nat.mod_lt _ (by decide)) c1
  rw [c2] at hb
  generalize Lib.ctz 64 (restOf u (i % 64)) = c at *
  have hb' := hb.symm
  rw [Bool.and_eq_true, decide_eq_true_eq] at hb'
  have hle : i ≤ i / 64 * 64 + c := by omega
  refine ⟨c1, ?_, hn.join (noneIn_up fun q h3 h4 hup => ?_), Nat.le_trans hi (Nat.mul_le_mul_right _ hle)⟩
  · have := (h2 c c1).1 hb'.1
    rw [Nat.mul_comm]; exact this
  · obtain ⟨b, hb, rfl⟩ : ∃ b, b < 64 ∧ q = 64 * (i / 64) + b := ⟨q - 64 * (i / 64), by omega, by omega⟩
    have h5 := (h2 b hb).2 hup
    have h6 := rest_bit u (k := i % 64) (Nat.mod_lt _ (by decide)) hb
    rw [c3 b (by omega), h5] at h6
    simp at h6
    omega
/-- One level down: the first bit of the word below. -/
theorem descend_some {i0 i : Nat} (h : Bits s l ws) (hu : ws[i]? = some u) (hup : Up s (l + 1) i) (hn : NoneIn s i0 (i * 64 ^ (l + 1))) (hi : i0 ≤ i * 64 ^ (l + 1)) :
    Lib.ctz 64 u < 64 ∧ Up s l (i * 64 + Lib.ctz 64 u) ∧ NoneIn s i0 ((i * 64 + Lib.ctz 64 u) * 64 ^ l) ∧ i0 ≤ (i * 64 + Lib.ctz 64 u) * 64 ^ l := by
  obtain ⟨h1, h2⟩ := h _ u hu
  obtain ⟨c1, c2, c3⟩ := ctz_at ((h.told hu).2 hup) h1
  generalize Lib.ctz 64 u = c at *
  rw [mul_pow_up] at hn hi
  refine ⟨c1, ?_, hn.join (noneIn_up fun q h3 h4 hup => ?_), Nat.le_trans hi (Nat.mul_le_mul_right _ (Nat.le_add_right _ _))⟩
  · have := (h2 c c1).1 c2
    rw [Nat.mul_comm]; exact this
  · obtain ⟨b, hb, rfl⟩ : ∃ b, b < 64 ∧ q = 64 * i + b := ⟨q - 64 * i, by omega, by omega⟩
    have h5 := (h2 b hb).2 hup
    rw [c3 b (by omega)] at h5
    cases h5

/-! ### the answer -/
/-- The first place set from a on, of k places. -/
def firstAt (s : Nat → Bool) (k a : Nat) : Option Nat := (List.range k).find? fun p => decide (a ≤ p) && s p
theorem find_range {f : Nat → Bool} {k m : Nat} (hm : m < k) (h1 : f m = true) (h2 : ∀ p, p < m → f p = false) : (List.range k).find? f = some m := by
  rw [List.find?_eq_some_iff_getElem]
  refine ⟨h1, m, by simpa using hm, by simp, fun j hj => ?_⟩
  simp [h2 j hj]
theorem firstAt_some {k a m : Nat} (hk : ∀ p, s p = true → p < k) (hm : s m = true) (ha : a ≤ m) (hn : NoneIn s a m) : firstAt s k a = some m :=
  find_range (hk m hm) (by simp [hm, ha]) fun p hp => by
    by_cases h : a ≤ p
    · simp [hn p h hp]
    · simp [h]
theorem firstAt_none {k a : Nat} (hn : ∀ p, a ≤ p → s p = false) : firstAt s k a = none := by
  rw [firstAt, List.find?_eq_none]
  intro p _
  by_cases h : a ≤ p
  · simp [hn p h]
  · simp [h]
theorem firstAt_is {k a m : Nat} (h : firstAt s k a = some m) : m < k ∧ s m = true ∧ a ≤ m ∧ NoneIn s a m := by
  rw [firstAt, List.find?_eq_some_iff_getElem] at h
  obtain ⟨h1, i, hi, h2, h3⟩ := h
  simp only [List.length_range] at hi
  simp only [List.getElem_range] at h2
  subst h2
  simp only [Bool.and_eq_true, decide_eq_true_eq] at h1
  refine ⟨hi, h1.2, h1.1, fun p hp hlt => ?_⟩
  have := h3 p hlt
  simp only [List.getElem_range, Bool.not_eq_true', Bool.and_eq_false_imp, decide_eq_true_eq] at this
  exact this hp
theorem firstAt_isnone {k a : Nat} (h : firstAt s k a = none) : ∀ p, a ≤ p → p < k → s p = false := by
  rw [firstAt, List.find?_eq_none] at h
  intro p h1 h2
  have := h p (List.mem_range.2 h2)
  simpa [h1] using this

/-- Which is next from 'a' on, else ahead of it. -/
def nextAt (s : Nat → Bool) (k a : Nat) : Option Nat := (firstAt s k a).or (firstAt s k 0)
/-- How many of k places are set. -/
def cntB (s : Nat → Bool) (k : Nat) : Nat := (List.range k).countP s
theorem cntB_succ (s : Nat → Bool) (k : Nat) : cntB s (k + 1) = cntB s k + (s k).toNat := by
  unfold cntB
  rw [List.range_succ, List.countP_append, List.countP_singleton]
  cases s k <;> rfl
theorem cntB_le (s : Nat → Bool) (k : Nat) : cntB s k ≤ k := by
  have := List.countP_le_length (p := s) (l := List.range k)
  simpa [cntB] using this
theorem cntB_alike {k : Nat} (h : ∀ p, p < k → s p = t p) : cntB s k = cntB t k := by
  unfold cntB
  exact List.countP_congr fun p hp => by rw [h p (List.mem_range.1 hp)]
theorem cntB_ins {p : Nat} : ∀ {k : Nat}, p < k → s p = false → cntB (ins s p) k = cntB s k + 1
  | k + 1, h, hs => by
    rw [cntB_succ, cntB_succ]
    by_cases e : p = k
    · subst e
      rw [cntB_alike (s := ins s p) (t := s) fun q hq => by simp [ins, Nat.ne_of_lt hq], hs]
      simp [ins]
    · rw [cntB_ins (by omega) hs]
      have : ins s p k = s k := by simp [ins, Ne.symm e]
      rw [this]; omega
theorem cntB_del {p : Nat} : ∀ {k : Nat}, p < k → s p = true → cntB (del s p) k + 1 = cntB s k
  | k + 1, h, hs => by
    rw [cntB_succ, cntB_succ]
    by_cases e : p = k
    · subst e
      rw [cntB_alike (s := del s p) (t := s) fun q hq => by simp [del, Nat.ne_of_lt hq], hs]
      simp [del]
    · have := cntB_del (k := k) (by omega) hs
      have e2 : del s p k = s k := by simp [del, Ne.symm e]
      rw [e2]; omega
theorem cntB_none (k : Nat) : cntB (fun _ => false) k = 0 := by
  induction k with
  | zero => rfl
  | succ k ih => rw [cntB_succ, ih]; rfl
end
end Go.Proofs.YtpnkaamijjeckaaDoor
