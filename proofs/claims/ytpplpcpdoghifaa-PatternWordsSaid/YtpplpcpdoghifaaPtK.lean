/- Words put together, plain. -/
import Derived.Test.YtpplpcpdoghifaaPtJ
namespace Go.Proofs.Ytpplpcpdoghifaa
open Go.RowKit
set_option linter.unusedVariables false

/-- Words, points between. -/
def jn : Wds → List UInt8
  | [] => []
  | [w] => w
  | w :: x :: r => w ++ 46 :: jn (x :: r)
theorem jn_cons (w : List UInt8) {r : Wds} (h : r ≠ []) : jn (w :: r) = w ++ 46 :: jn r := by
  cases r with
  | nil => exact absurd rfl h
  | cons x r => rfl
theorem jn_snoc {l : Wds} (h : l ≠ []) (w : List UInt8) : jn (l ++ [w]) = jn l ++ [46] ++ w := by
  induction l with
  | nil => exact absurd rfl h
  | cons x r ih =>
    by_cases hr : r = []
    · subst hr
      simp [jn]
    · rw [List.cons_append, jn_cons x (by simp), ih hr, jn_cons x hr]
      simp
/-- No points in them. -/
def NoDot (l : Wds) : Prop := ∀ w ∈ l, 46 ∉ w
theorem words_jn {l : Wds} (h : NoDot l) (hl : l ≠ []) : wordsL (jn l) = l := by
  induction l with
  | nil => exact absurd rfl hl
  | cons x r ih =>
    by_cases hr : r = []
    · subst hr
      exact words_none (h x (by simp))
    · rw [jn_cons x hr, words_cut (h x (by simp)), ih (fun w hw => h w (by simp [hw])) hr]
/-- .. a point behind each. -/
def dj (l : Wds) : List UInt8 := l.flatMap fun w => w ++ [46]
theorem dj_snoc (l : Wds) (w : List UInt8) : dj (l ++ [w]) = dj l ++ w ++ [46] := by simp [dj]
theorem dj_jn {l : Wds} (hl : l ≠ []) : dj l = jn l ++ [46] := by
  induction l with
  | nil => exact absurd rfl hl
  | cons x r ih =>
    by_cases hr : r = []
    · subst hr
      simp [dj, jn]
    · rw [jn_cons x hr]
      have := ih hr
      simp only [dj, List.flatMap_cons] at this ⊢
      rw [this]
      simp
/-- All of them at most that long. -/
def Most (k : Nat) (l : Wds) : Prop := ∀ w ∈ l, w.length ≤ k
theorem dj_len {k : Nat} {l : Wds} (h : Most k l) : (dj l).length ≤ (k + 1) * l.length := by
  induction l with
  | nil => simp [dj]
  | cons x r ih =>
    have h1 := h x (by simp)
    have h2 := ih fun w hw => h w (by simp [hw])
    simp only [dj, List.flatMap_cons, List.length_append, List.length_cons, List.length_nil] at h2 ⊢
    rw [Nat.mul_add]
    omega
theorem jn_len {k : Nat} {l : Wds} (h : Most k l) : (jn l).length ≤ (k + 1) * l.length := by
  by_cases hl : l = []
  · subst hl
    simp [jn]
  · have := dj_len h
    rw [dj_jn hl, List.length_append] at this
    omega

/-- The first words, with mid in the place of those from a to m. -/
def mixed (L mid : Wds) (a m i : Nat) : Wds := if i ≤ a then L.take i else L.take a ++ mid ++ (L.take i).drop m
section
variable {L mid : Wds} {a m i : Nat} {w : List UInt8}
theorem mixed_zero : mixed L mid a m 0 = [] := by simp [mixed]
theorem mixed_head (h : i < a) (hw : L[i]? = some w) : mixed L mid a m (i + 1) = mixed L mid a m i ++ [w] := by
  rw [mixed, if_pos (by omega), mixed, if_pos (by omega), List.take_add_one, hw]
  rfl
theorem mixed_mid (h : a < m) : mixed L mid a m (a + 1) = mixed L mid a m a ++ mid := by
  rw [mixed, if_neg (by omega), mixed, if_pos (Nat.le_refl _), List.drop_of_length_le (by rw [List.length_take]; omega), List.append_nil]
theorem mixed_tail (h : a < i) (hm : m ≤ i) (hw : L[i]? = some w) : mixed L mid a m (i + 1) = mixed L mid a m i ++ [w] := by
  have hlt := (List.getElem?_eq_some_iff.1 hw).1
  rw [mixed, if_neg (by omega), mixed, if_neg (by omega), List.take_add_one, hw, Option.toList_some, List.drop_append_of_le_length (by rw [List.length_take]; omega)]
  simp
theorem mixed_skip (h : a < i) (hm : i < m) : mixed L mid a m (i + 1) = mixed L mid a m i := by
  rw [mixed, if_neg (by omega), mixed, if_neg (by omega), List.drop_of_length_le (by rw [List.length_take]; omega), List.drop_of_length_le (by rw [List.length_take]; omega)]
theorem mixed_mem {x : List UInt8} (h : x ∈ mixed L mid a m i) : x ∈ L ∨ x ∈ mid := by
  unfold mixed at h
  split at h
  · exact .inl (List.mem_of_mem_take h)
  · rcases List.mem_append.1 h with h | h
    · rcases List.mem_append.1 h with h | h
      · exact .inl (List.mem_of_mem_take h)
      · exact .inr h
    · exact .inl (List.mem_of_mem_take (List.mem_of_mem_drop h))
theorem mixed_all (ha : a < L.length) : mixed L mid a m L.length = L.take a ++ mid ++ L.drop m := by
  rw [mixed, if_neg (by omega), List.take_of_length_le (Nat.le_refl _)]
theorem mixed_len (hm : mid.length = 1) (ham : a < m) (hi : i ≤ L.length) : (mixed L mid a m i).length ≤ i := by
  unfold mixed
  split
  · rw [List.length_take]; omega
  · simp only [List.length_append, List.length_take, List.length_drop, hm]
    omega
end

/-! ### what matches -/
def Plain (l : Wds) : Prop := ∀ w ∈ l, w ≠ [35]
theorem fit_self {l : Wds} (h : Plain l) : Fit l l := by
  induction l with
  | nil => exact trivial
  | cons x r ih => exact ⟨h x (by simp), by simp [stands], ih fun w hw => h w (by simp [hw])⟩
theorem gl_fit {S A : Wds} (h : Fit S A) : gl S A = true := by
  have := h.gl_eq [] []
  rwa [List.append_nil, List.append_nil, gl_nil] at this
theorem gl_any (K : Wds) : gl [[35]] K = true := by
  rw [gl_hash]
  refine (hashL_iff _ _).2 ⟨K.length, Nat.le_refl _, ?_⟩
  rw [List.drop_of_length_le (Nat.le_refl _)]
  rfl
theorem gl_any2 (K : Wds) : gl [[35], [35]] K = true := by
  rw [gl_hash]
  refine (hashL_iff _ _).2 ⟨0, Nat.zero_le _, ?_⟩
  rw [List.drop_zero, gl_any]
theorem gl_hashed {L : Wds} {a m : Nat} (h : Plain L) (ha : a < m) : gl (L.take a ++ [[35]] ++ L.drop m) L = true := by
  have hp : Plain (L.take a) := fun w hw => h w (List.mem_of_mem_take hw)
  have hd : Plain (L.drop m) := fun w hw => h w (List.mem_of_mem_drop hw)
  have e := (fit_self hp).gl_eq ([[35]] ++ L.drop m) (L.drop a)
  rw [List.take_append_drop] at e
  rw [List.append_assoc, e, List.singleton_append, gl_hash]
  refine (hashL_iff _ _).2 ?_
  by_cases hm : m ≤ L.length
  · refine ⟨m - a, by rw [List.length_drop]; omega, ?_⟩
    rw [List.drop_drop, show a + (m - a) = m by omega]
    exact gl_fit (fit_self hd)
  · refine ⟨(L.drop a).length, Nat.le_refl _, ?_⟩
    rw [List.drop_of_length_le (Nat.le_refl _), List.drop_of_length_le (show L.length ≤ m by omega)]
    rfl
theorem gl_other {L : Wds} {a : Nat} {w : List UInt8} (h : Plain L) (hw : L[a]? = some w) : gl (L.take a ++ [w ++ [120]] ++ L.drop (a + 1)) L = false := by
  have hp : Plain (L.take a) := fun w hw => h w (List.mem_of_mem_take hw)
  have e := (fit_self hp).gl_eq ([w ++ [120]] ++ L.drop (a + 1)) (L.drop a)
  rw [List.take_append_drop] at e
  have hne : w ++ [120] ≠ [35] := fun e => by
    have := congrArg List.getLast? e
    simp at this
  have hs : stands (w ++ [120]) w = false := by
    unfold stands
    rw [Bool.or_eq_false_iff]
    constructor
    · rw [beq_eq_false_iff_ne]
      intro e
      have := congrArg List.getLast? e
      simp at this
    · rw [beq_eq_false_iff_ne]
      intro e
      have := congrArg List.length e
      simp at this
  rw [List.append_assoc, e, List.singleton_append, drop_at hw, gl_one hne, hs, Bool.false_and]
end Go.Proofs.Ytpplpcpdoghifaa
