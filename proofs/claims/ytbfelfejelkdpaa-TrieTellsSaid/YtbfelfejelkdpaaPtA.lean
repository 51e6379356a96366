/- Keys with stars, plain: words, patterns held against words (at once, greedily, by a table), names. -/
import Derived.Test.YtbfelfejelkdpaaOcA
import Derived.Lib.Bytealg
namespace Go.Proofs.Ytbfelfejelkdpaa
open Go.RowKit
set_option linter.unusedVariables false

/-! ### words -/
/-- What stands between points. -/
def wordsL : List UInt8 → List (List UInt8)
  | [] => [[]]
  | c :: l => if c = 46 then [] :: wordsL l else match wordsL l with
    | [] => [[c]]
    | w :: r => (c :: w) :: r
theorem words_pos (l : List UInt8) : 0 < (wordsL l).length := by
  cases l with
  | nil => simp [wordsL]
  | cons c l =>
    unfold wordsL
    split
    · simp
    · split <;> simp
theorem words_len (l : List UInt8) : (wordsL l).length ≤ l.length + 1 := by
  induction l with
  | nil => simp [wordsL]
  | cons c l ih =>
    unfold wordsL
    split
    · simpa using ih
    · split
      · simp
      · rename_i w r h
        rw [h] at ih
        simp only [List.length_cons] at ih ⊢
        omega
theorem words_none {l : List UInt8} (h : 46 ∉ l) : wordsL l = [l] := by
  induction l with
  | nil => rfl
  | cons c l ih =>
    simp only [List.mem_cons, not_or] at h
    rw [wordsL, if_neg (fun e => h.1 e.symm), ih h.2]
theorem words_cut {w : List UInt8} (h : 46 ∉ w) (r : List UInt8) : wordsL (w ++ 46 :: r) = w :: wordsL r := by
  induction w with
  | nil => simp [wordsL]
  | cons c w ih =>
    simp only [List.mem_cons, not_or] at h
    rw [List.cons_append, wordsL, if_neg (fun e => h.1 e.symm), ih h.2]
theorem cut_cases (l : List UInt8) : 46 ∉ l ∨ ∃ w r, l = w ++ 46 :: r ∧ 46 ∉ w := by
  induction l with
  | nil => exact .inl (by simp)
  | cons c l ih =>
    by_cases hc : c = 46
    · subst hc
      exact .inr ⟨[], l, rfl, by simp⟩
    · rcases ih with h | ⟨w, r, rfl, h⟩
      · exact .inl (by simp only [List.mem_cons, not_or]; exact ⟨fun e => hc e.symm, h⟩)
      · exact .inr ⟨c :: w, r, rfl, by simp only [List.mem_cons, not_or]; exact ⟨fun e => hc e.symm, h⟩⟩
theorem index_none {l : List UInt8} (h : 46 ∉ l) : Lib.indexByte l 46 = -1 := by
  induction l with
  | nil => rfl
  | cons c l ih =>
    simp only [List.mem_cons, not_or] at h
    have hb : (c == (46 : UInt8)) = false := by simpa using fun e => h.1 e.symm
    rw [Lib.indexByte, hb, ih h.2]
    rfl
theorem index_some {w : List UInt8} (h : 46 ∉ w) (r : List UInt8) : Lib.indexByte (w ++ 46 :: r) 46 = w.length := by
  induction w with
  | nil => simp [Lib.indexByte]
  | cons c w ih =>
    simp only [List.mem_cons, not_or] at h
    have hb : (c == (46 : UInt8)) = false := by simpa using fun e => h.1 e.symm
    have hn : (((w.length : Nat) : Int) == -1) = false := by
      rw [beq_eq_false_iff_ne]
      omega
    rw [List.cons_append, Lib.indexByte, hb, ih h.2, hn]
    simp
/-- What is behind the last point, of the rest. -/
theorem words_step {l w : List UInt8} {i : Nat} {f : Nat} (hw : (l.drop f).take (i - f) = w) (hf : f ≤ i) (h : 46 ∉ w) (hi : l[i]? = some 46) : wordsL (l.drop f) = w :: wordsL (l.drop (i + 1)) := by
  have e : l.drop f = w ++ 46 :: l.drop (i + 1) := by
    conv => lhs; rw [← List.take_append_drop (i - f) (l.drop f)]
    rw [hw, List.drop_drop, show f + (i - f) = i by omega]
    have hlt := (List.getElem?_eq_some_iff.1 hi).1
    rw [List.drop_eq_getElem_cons hlt, List.getElem?_eq_getElem hlt] at *
    rw [Option.some.inj hi]
  rw [e, words_cut h]

/-! ### patterns -/
abbrev Wds := List (List UInt8)
def stands (p x : List UInt8) : Bool := p == [42] || p == x
def hashL (f : Wds → Bool) : Wds → Bool
  | [] => f []
  | x :: k => f (x :: k) || hashL f k
/-- May the pattern's words stand for the key's. -/
def gl : Wds → Wds → Bool
  | [], k => k.isEmpty
  | p :: ps, k => if p = [35] then hashL (gl ps) k else match k with
    | [] => false
    | x :: ks => stands p x && gl ps ks
theorem gl_nil (k : Wds) : gl [] k = k.isEmpty := rfl
theorem gl_hash (ps k : Wds) : gl ([35] :: ps) k = hashL (gl ps) k := by
  cases k with
  | nil =>
    show (if [35] = [35] then hashL (gl ps) [] else false) = _
    rw [if_pos rfl]
  | cons x k =>
    show (if [35] = [35] then hashL (gl ps) (x :: k) else (stands [35] x && gl ps k)) = _
    rw [if_pos rfl]
theorem gl_short {p : List UInt8} (h : p ≠ [35]) (ps : Wds) : gl (p :: ps) [] = false := by
  show (if p = [35] then hashL (gl ps) [] else false) = false
  rw [if_neg h]
theorem gl_one {p : List UInt8} (h : p ≠ [35]) (ps : Wds) (x : List UInt8) (k : Wds) : gl (p :: ps) (x :: k) = (stands p x && gl ps k) := by
  show (if p = [35] then hashL (gl ps) (x :: k) else (stands p x && gl ps k)) = _
  rw [if_neg h]
theorem hashL_iff (f : Wds → Bool) (k : Wds) : hashL f k = true ↔ ∃ j, j ≤ k.length ∧ f (k.drop j) = true := by
  induction k with
  | nil =>
    rw [hashL]
    constructor
    · exact fun h => ⟨0, Nat.le_refl _, h⟩
    · rintro ⟨j, _, h⟩
      rwa [List.drop_nil] at h
  | cons x k ih =>
    rw [hashL, Bool.or_eq_true, ih]
    constructor
    · rintro (h | ⟨j, hj, h⟩)
      · exact ⟨0, Nat.zero_le _, h⟩
      · exact ⟨j + 1, by simpa using hj, h⟩
    · rintro ⟨j, hj, h⟩
      cases j with
      | zero => exact .inl h
      | succ j => exact .inr ⟨j, by simpa using hj, h⟩

/-! ### greedily -/
/-- These words of a pattern, no hash, stand for these of a key one by one. -/
def Fit : Wds → Wds → Prop
  | [], [] => True
  | s :: S, a :: A => s ≠ [35] ∧ stands s a = true ∧ Fit S A
  | _, _ => False
theorem Fit.len : ∀ {S A : Wds}, Fit S A → S.length = A.length
  | [], [], _ => rfl
  | s :: S, a :: A, h => by simp [Fit.len (S := S) (A := A) h.2.2]
  | [], _ :: _, h => h.elim
  | _ :: _, [], h => h.elim
theorem Fit.gl_eq : ∀ {S A : Wds} (h : Fit S A) (R Y : Wds), gl (S ++ R) (A ++ Y) = gl R Y
  | [], [], _, _, _ => rfl
  | s :: S, a :: A, h, R, Y => by rw [List.cons_append, List.cons_append, gl_one h.1, h.2.1, Bool.true_and, Fit.gl_eq h.2.2]
  | [], _ :: _, h, _, _ => h.elim
  | _ :: _, [], h, _, _ => h.elim
theorem Fit.snoc : ∀ {S A : Wds} {s a : List UInt8}, Fit S A → s ≠ [35] → stands s a = true → Fit (S ++ [s]) (A ++ [a])
  | [], [], _, _, _, h1, h2 => ⟨h1, h2, trivial⟩
  | _ :: _, _ :: _, _, _, h, h1, h2 => ⟨h.1, h.2.1, Fit.snoc h.2.2 h1 h2⟩
  | [], _ :: _, _, _, h, _, _ => h.elim
  | _ :: _, [], _, _, h, _, _ => h.elim
theorem Fit.plain : ∀ {S A : Wds}, Fit S A → ∀ s ∈ S, s ≠ [35]
  | [], [], _ => by simp
  | s :: S, a :: A, h => by
    intro x hx
    rcases List.mem_cons.1 hx with rfl | hx
    · exact h.1
    · exact Fit.plain h.2.2 x hx
  | [], _ :: _, h => h.elim
  | _ :: _, [], h => h.elim
theorem gl_plain : ∀ {S : Wds} (h : ∀ s ∈ S, s ≠ [35]) {T Z : Wds}, gl (S ++ T) Z = true → S.length ≤ Z.length ∧ gl T (Z.drop S.length) = true
  | [], _, T, Z, h => ⟨Nat.zero_le _, by simpa using h⟩
  | s :: S, hs, T, [], h => by
    rw [List.cons_append, gl_short (hs s (by simp))] at h
    cases h
  | s :: S, hs, T, z :: Z, h => by
    rw [List.cons_append, gl_one (hs s (by simp)), Bool.and_eq_true] at h
    have := gl_plain (fun x hx => hs x (by simp [hx])) h.2
    exact ⟨by simpa using this.1, by simpa using this.2⟩

/-- What holds where the words at, to are looked at next: behind, free tell the last hash and what it stands for, if there was one. -/
def Held (P K : Wds) (at_ to : Nat) (behind : Int) (free : Nat) : Prop :=
  at_ ≤ P.length ∧ to ≤ K.length ∧ free ≤ to ∧ ((behind = -1 ∧ free = 0 ∧ gl P K = gl (P.drop at_) (K.drop to)) ∨
    ∃ (b : Nat) (S A : Wds), behind = b ∧ b ≤ at_ ∧ P.drop b = S ++ P.drop at_ ∧ K.drop free = A ++ K.drop to ∧ Fit S A ∧ gl P K = hashL (gl (P.drop b)) (K.drop free))
/-- Neither goes on there, nor is all met. -/
def Miss (P K : Wds) (at_ to : Nat) : Prop := ¬ (at_ = P.length ∧ to = K.length) ∧ ∀ p, P[at_]? = some p → p ≠ [35] ∧ ∀ x, K[to]? = some x → stands p x = false

section
variable {P K : Wds} {a t f : Nat} {b : Int}
theorem drop_at {l : Wds} {i : Nat} {x : List UInt8} (h : l[i]? = some x) : l.drop i = x :: l.drop (i + 1) := by
  have hlt := (List.getElem?_eq_some_iff.1 h).1
  rw [List.drop_eq_getElem_cons hlt]
  rw [List.getElem?_eq_getElem hlt] at h
  rw [Option.some.inj h]
theorem Held.start (P K : Wds) : Held P K 0 0 (-1) 0 := ⟨Nat.zero_le _, Nat.zero_le _, Nat.le_refl _, .inl ⟨rfl, rfl, rfl⟩⟩
theorem Miss.gl_eq (h : Miss P K a t) (ha : a ≤ P.length) (ht : t ≤ K.length) : gl (P.drop a) (K.drop t) = false := by
  by_cases hp : a < P.length
  · have e := List.getElem?_eq_getElem hp
    obtain ⟨h1, h2⟩ := h.2 _ e
    rw [drop_at e]
    by_cases hk : t < K.length
    · have e2 := List.getElem?_eq_getElem hk
      rw [drop_at e2, gl_one h1, h2 _ e2, Bool.false_and]
    · rw [List.drop_of_length_le (show K.length ≤ t by omega), gl_short h1]
  · have hk : t < K.length := by
      have := h.1
      omega
    rw [List.drop_of_length_le (by omega), gl_nil, drop_at (List.getElem?_eq_getElem hk)]
    rfl
theorem Held.hash (h : Held P K a t b f) (hp : P[a]? = some [35]) : Held P K (a + 1) t ((a + 1 : Nat) : Int) t := by
  obtain ⟨h1, h2, h3, h⟩ := h
  have hlt := (List.getElem?_eq_some_iff.1 hp).1
  have e := drop_at hp
  refine ⟨hlt, h2, Nat.le_refl _, .inr ⟨a + 1, [], [], rfl, Nat.le_refl _, rfl, rfl, trivial, ?_⟩⟩
  rcases h with ⟨rfl, rfl, hg⟩ | ⟨b, S, A, rfl, hb, hP, hK, hF, hg⟩
  · rw [hg, e, gl_hash]
  · rw [hg, hP, e, hK]
    apply Bool.eq_iff_iff.2
    constructor
    · intro h
      obtain ⟨j, hj, h⟩ := (hashL_iff _ _).1 h
      obtain ⟨h4, h5⟩ := gl_plain hF.plain h
      rw [gl_hash, List.drop_drop] at h5
      obtain ⟨i, hi, h5⟩ := (hashL_iff _ _).1 h5
      have hl := hF.len
      rw [List.drop_drop] at h5
      have e2 : (A ++ List.drop t K).drop (j + S.length + i) = (List.drop t K).drop (j + i) := by
        rw [show j + S.length + i = A.length + (j + i) by omega, List.drop_append]
        simp
      rw [e2] at h5
      refine (hashL_iff _ _).2 ?_
      by_cases hji : j + i ≤ (K.drop t).length
      · exact ⟨j + i, hji, h5⟩
      · refine ⟨(K.drop t).length, Nat.le_refl _, ?_⟩
        rw [List.drop_of_length_le (l := List.drop t K) (by omega)] at h5
        rw [List.drop_of_length_le (Nat.le_refl _)]
        exact h5
    · intro h
      refine (hashL_iff _ _).2 ⟨0, Nat.zero_le _, ?_⟩
      rw [List.drop_zero, hF.gl_eq, gl_hash]
      exact h
theorem Held.one (h : Held P K a t b f) {p x : List UInt8} (hp : P[a]? = some p) (hn : p ≠ [35]) (hx : K[t]? = some x) (hs : stands p x = true) : Held P K (a + 1) (t + 1) b f := by
  obtain ⟨h1, h2, h3, h⟩ := h
  have hlt := (List.getElem?_eq_some_iff.1 hp).1
  have hlt2 := (List.getElem?_eq_some_iff.1 hx).1
  refine ⟨hlt, hlt2, by omega, ?_⟩
  rcases h with ⟨rfl, rfl, hg⟩ | ⟨b, S, A, rfl, hb, hP, hK, hF, hg⟩
  · refine .inl ⟨rfl, rfl, ?_⟩
    rw [hg, drop_at hp, drop_at hx, gl_one hn, hs, Bool.true_and]
  · refine .inr ⟨b, S ++ [p], A ++ [x], rfl, by omega, ?_, ?_, hF.snoc hn hs, hg⟩
    · rw [hP, drop_at hp]; simp
    · rw [hK, drop_at hx]; simp
theorem Held.met (h : Held P K P.length K.length b f) : gl P K = true := by
  obtain ⟨h1, h2, h3, h⟩ := h
  rcases h with ⟨rfl, rfl, hg⟩ | ⟨b, S, A, rfl, hb, hP, hK, hF, hg⟩
  · rw [hg, List.drop_of_length_le (Nat.le_refl _), List.drop_of_length_le (Nat.le_refl _)]
    rfl
  · rw [hg]
    refine (hashL_iff _ _).2 ⟨0, Nat.zero_le _, ?_⟩
    rw [List.drop_zero, hP, hK, hF.gl_eq, List.drop_of_length_le (Nat.le_refl _), List.drop_of_length_le (Nat.le_refl _)]
    rfl
theorem Held.not (h : Held P K a t b f) (hm : Miss P K a t) (hc : b < 0 ∨ t = K.length) : gl P K = false := by
  obtain ⟨h1, h2, h3, h⟩ := h
  rcases h with ⟨rfl, rfl, hg⟩ | ⟨b, S, A, rfl, hb, hP, hK, hF, hg⟩
  · rw [hg, hm.gl_eq h1 h2]
  · obtain rfl : t = K.length := by omega
    rw [hg]
    apply Bool.eq_false_iff.2
    intro hh
    obtain ⟨j, hj, hh⟩ := (hashL_iff _ _).1 hh
    have hp : a < P.length := by
      have := hm.1
      omega
    have e := List.getElem?_eq_getElem hp
    obtain ⟨n1, _⟩ := hm.2 _ e
    rw [hP, drop_at e, hK, show S ++ P[a] :: List.drop (a + 1) P = (S ++ [P[a]]) ++ List.drop (a + 1) P by simp] at hh
    have := gl_plain (S := S ++ [P[a]]) (fun x hx => by
      rcases List.mem_append.1 hx with hx | hx
      · exact hF.plain x hx
      · rw [List.mem_singleton] at hx
        rw [hx]
        exact n1) hh
    have hl := hF.len
    simp only [List.length_append, List.length_drop, List.length_singleton] at this
    omega
theorem Held.more (h : Held P K a t b f) (hm : Miss P K a t) (hc : ¬ b < 0) (ht : t < K.length) : ∃ n : Nat, b = n ∧ n ≤ P.length ∧ Held P K n (f + 1) b (f + 1) := by
  obtain ⟨h1, h2, h3, h⟩ := h
  rcases h with ⟨rfl, rfl, hg⟩ | ⟨b, S, A, rfl, hb, hP, hK, hF, hg⟩
  · omega
  · refine ⟨b, rfl, by omega, by omega, by omega, Nat.le_refl _, .inr ⟨b, [], [], rfl, Nat.le_refl _, rfl, rfl, trivial, ?_⟩⟩
    have hg2 := hm.gl_eq h1 h2
    have e := List.getElem?_eq_getElem (show f < K.length by omega)
    have e0 : gl (P.drop b) (K.drop f) = false := by rw [hP, hK, hF.gl_eq, hg2]
    rw [drop_at e] at e0
    rw [hg, drop_at e, hashL, e0, Bool.false_or]
end

/-! ### by a table -/
section
variable {P K : Wds}
/-- The row behind a word of the pattern that is a hash. -/
def hashR (r : Nat → Bool) : Nat → Bool
  | 0 => r 0
  | k + 1 => r (k + 1) || hashR r k
/-- .. that is none. -/
def oneR (r : Nat → Bool) (p : List UInt8) (K : Wds) : Nat → Bool
  | 0 => false
  | k + 1 => r k && stands p (K.getD k [])
def nextR (r : Nat → Bool) (p : List UInt8) (K : Wds) : Nat → Bool := if p = [35] then hashR r else oneR r p K
def rowR (P K : Wds) : Nat → Nat → Bool
  | 0 => fun k => k == 0
  | i + 1 => nextR (rowR P K i) (P.getD i []) K
theorem hashR_iff (r : Nat → Bool) (k : Nat) : hashR r k = true ↔ ∃ j, j ≤ k ∧ r j = true := by
  induction k with
  | zero =>
    rw [hashR]
    constructor
    · exact fun h => ⟨0, Nat.le_refl _, h⟩
    · rintro ⟨j, hj, h⟩
      obtain rfl : j = 0 := by omega
      exact h
  | succ k ih =>
    rw [hashR, Bool.or_eq_true, ih]
    constructor
    · rintro (h | ⟨j, hj, h⟩)
      · exact ⟨k + 1, Nat.le_refl _, h⟩
      · exact ⟨j, by omega, h⟩
    · rintro ⟨j, hj, h⟩
      by_cases e : j = k + 1
      · subst e; exact .inl h
      · exact .inr ⟨j, by omega, h⟩
theorem row_inv {i : Nat} (hi : i ≤ P.length) : gl P K = true ↔ ∃ k, k ≤ K.length ∧ rowR P K i k = true ∧ gl (P.drop i) (K.drop k) = true := by
  induction i with
  | zero =>
    constructor
    · exact fun h => ⟨0, Nat.zero_le _, rfl, h⟩
    · rintro ⟨k, _, h1, h2⟩
      obtain rfl : k = 0 := by simpa [rowR] using h1
      exact h2
  | succ i ih =>
    rw [ih (by omega)]
    have e : P[i]? = some P[i] := List.getElem?_eq_getElem (by omega)
    have hd : P.getD i [] = P[i] := by simp [List.getD_eq_getElem?_getD, e]
    rw [drop_at e, rowR, hd]
    generalize P[i] = p at *
    generalize List.drop (i + 1) P = R
    unfold nextR
    by_cases hp : p = [35]
    · subst hp
      rw [if_pos rfl]
      constructor
      · rintro ⟨k, hk, h1, h2⟩
        rw [gl_hash] at h2
        obtain ⟨j, hj, h2⟩ := (hashL_iff _ _).1 h2
        rw [List.length_drop] at hj
        rw [List.drop_drop] at h2
        exact ⟨k + j, by omega, (hashR_iff _ _).2 ⟨k, by omega, h1⟩, h2⟩
      · rintro ⟨k, hk, h1, h2⟩
        obtain ⟨j, hj, h1⟩ := (hashR_iff _ _).1 h1
        refine ⟨j, by omega, h1, ?_⟩
        rw [gl_hash]
        refine (hashL_iff _ _).2 ⟨k - j, by rw [List.length_drop]; omega, ?_⟩
        rw [List.drop_drop, show j + (k - j) = k by omega]
        exact h2
    · rw [if_neg hp]
      constructor
      · rintro ⟨k, hk, h1, h2⟩
        by_cases hlt : k < K.length
        · have e2 : K[k]? = some K[k] := List.getElem?_eq_getElem hlt
          rw [drop_at e2, gl_one hp, Bool.and_eq_true] at h2
          refine ⟨k + 1, by omega, ?_, h2.2⟩
          rw [oneR, h1, Bool.true_and]
          simp [List.getD_eq_getElem?_getD, e2, h2.1]
        · rw [List.drop_of_length_le (by omega), gl_short hp] at h2
          cases h2
      · rintro ⟨k, hk, h1, h2⟩
        cases k with
        | zero => cases h1
        | succ k =>
          rw [oneR, Bool.and_eq_true] at h1
          have e2 : K[k]? = some K[k] := List.getElem?_eq_getElem hk
          refine ⟨k, by omega, h1.1, ?_⟩
          rw [drop_at e2, gl_one hp, Bool.and_eq_true]
          refine ⟨?_, h2⟩
          have := h1.2
          simpa [List.getD_eq_getElem?_getD, e2] using this
theorem row_last : rowR P K P.length K.length = gl P K := by
  apply Bool.eq_iff_iff.2
  rw [row_inv (Nat.le_refl _)]
  constructor
  · intro h
    refine ⟨K.length, Nat.le_refl _, h, ?_⟩
    rw [List.drop_of_length_le (Nat.le_refl _), List.drop_of_length_le (Nat.le_refl _)]
    rfl
  · rintro ⟨k, hk, h1, h2⟩
    rw [List.drop_of_length_le (Nat.le_refl _), gl_nil, List.isEmpty_iff, List.drop_eq_nil_iff] at h2
    obtain rfl : k = K.length := by omega
    exact h1
end

/-! ### names -/
def inNm (c : UInt8) : Bool := decide (97 ≤ c.toNat ∧ c.toNat ≤ 122) || decide (65 ≤ c.toNat ∧ c.toNat ≤ 90) || decide (48 ≤ c.toNat ∧ c.toNat ≤ 57) || decide (c.toNat = 45)
def isNm (l : List UInt8) : Bool := decide (1 ≤ l.length) && decide (l.length ≤ 12) && l.all inNm
end Go.Proofs.Ytbfelfejelkdpaa
