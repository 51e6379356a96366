/- The document's own sets, as plain data: what a turn makes of the rows. -/
import Derived.Test.YtkahncfhphdkfaaRgsA
namespace Go.Proofs.Ytkahncfhphdkfaa
set_option linter.unusedVariables false

/-- A set's rows, seen from a row p..q. -/
theorem parts_exist : ∀ {l : List Row}, Canon l → ∀ (p q : Int), p ≤ q + 1 → ∃ A M C, l = A ++ (M ++ C) ∧ (∀ a ∈ A, a.2 < p) ∧ (∀ m ∈ M, p ≤ m.2 ∧ m.1 ≤ q) ∧ (∀ c ∈ C, q < c.1)
  | [], _, _, _, _ => ⟨[], [], [], rfl, by simp, by simp, by simp⟩
  | r :: l, h, p, q, hpq => by
    have hf := h.fit r (by simp)
    by_cases h1 : r.2 < p
    · obtain ⟨A, M, C, e, hA, hM, hC⟩ := parts_exist h.tail p q hpq
      exact ⟨r :: A, M, C, by rw [e]; rfl, fun a ha => by rcases List.mem_cons.1 ha with rfl | ha; exact h1; exact hA a ha, hM, hC⟩
    · by_cases h2 : r.1 ≤ q
      · obtain ⟨A, M, C, e, hA, hM, hC⟩ := parts_exist h.tail p q hpq
        have hA0 : A = [] := by
          cases A with
          | nil => rfl
          | cons a A =>
            have h3 := h.head a (by rw [e]; simp)
            have h4 := hA a (by simp)
            have h5 := h.fit a (by rw [e]; simp)
            omega
        subst hA0
        exact ⟨[], r :: M, C, by rw [e]; rfl, by simp, fun m hm => by rcases List.mem_cons.1 hm with rfl | hm; exact ⟨by omega, h2⟩; exact hM m hm, hC⟩
      · refine ⟨[], [], r :: l, rfl, by simp, by simp, fun c hc => ?_⟩
        rcases List.mem_cons.1 hc with rfl | hc
        · omega
        · have := h.head c hc
          omega

/-! ### the document's loop -/
structure TS where
  out : List Row
  x : Row
  done : Bool

def touch (x y : Row) : Bool := decide (x.1 ≤ y.2 + 1) && decide (y.1 ≤ x.2 + 1)
def stepT (on : Bool) (lo hi : Int) (s : TS) (y : Row) : TS :=
  if (on && touch s.x y) = true then { s with x := joinR s.x y }
  else if (on && decide (s.x.2 < y.1) && !s.done) = true then ⟨s.out ++ [s.x, y], s.x, true⟩
  else if (on || decide (y.2 < lo) || decide (hi < y.1)) = true then { s with out := s.out ++ [y] }
  else { s with out := s.out ++ pieces lo hi y }
def startT (on : Bool) (lo hi : Int) : TS := ⟨[], (lo, hi), !on⟩
def runT (on : Bool) (lo hi : Int) (l : List Row) : TS := l.foldl (stepT on lo hi) (startT on lo hi)
def endT (s : TS) : List Row := if s.done = true then s.out else s.out ++ [s.x]
def turnL (on : Bool) (lo hi : Int) (l : List Row) : List Row := endT (runT on lo hi l)

theorem runT_succ {on : Bool} {lo hi : Int} {l : List Row} {k : Nat} {r : Row} (h : l[k]? = some r) : runT on lo hi (l.take (k + 1)) = stepT on lo hi (runT on lo hi (l.take k)) r := by
  unfold runT
  rw [List.take_add_one, h]
  simp

theorem fold_ahead {lo hi : Int} (hn : lo ≤ hi) : ∀ (A : List Row) (s : TS), s.x = (lo, hi) → (∀ a ∈ A, a.2 < lo - 1 ∧ a.1 ≤ a.2) → A.foldl (stepT true lo hi) s = { s with out := s.out ++ A }
  | [], s, _, _ => by simp
  | a :: A, s, hx, hA => by
    have h1 := hA a (by simp)
    have e : stepT true lo hi s a = { s with out := s.out ++ [a] } := by
      have h2 : touch s.x a = false := by simp [touch, hx]; omega
      have h3 : decide (s.x.2 < a.1) = false := by simp [hx]; omega
      simp [stepT, h2, h3]
    rw [List.foldl_cons, e, fold_ahead hn A ⟨s.out ++ [a], s.x, s.done⟩ hx fun b hb => hA b (by simp [hb])]
    simp
theorem fold_mid {lo hi : Int} : ∀ (M : List Row) (s : TS), s.x.1 ≤ lo → hi ≤ s.x.2 → (∀ m ∈ M, lo - 1 ≤ m.2 ∧ m.1 ≤ hi + 1) → M.foldl (stepT true lo hi) s = { s with x := joinAll s.x M }
  | [], s, _, _, _ => by simp [joinAll]
  | m :: M, s, h1, h2, hM => by
    have h3 := hM m (by simp)
    have e : stepT true lo hi s m = { s with x := joinR s.x m } := by
      have h4 : touch s.x m = true := by simp [touch]; omega
      simp [stepT, h4]
    rw [List.foldl_cons, e, fold_mid M _ (by show min s.x.1 m.1 ≤ lo; omega) (by show hi ≤ max s.x.2 m.2; omega) fun b hb => hM b (by simp [hb])]
    rfl
theorem fold_behind {lo hi : Int} : ∀ (C : List Row) (s : TS), s.done = true → (∀ c ∈ C, s.x.2 + 1 < c.1) → C.foldl (stepT true lo hi) s = { s with out := s.out ++ C }
  | [], s, _, _ => by simp
  | c :: C, s, hd, hC => by
    have h1 := hC c (by simp)
    have e : stepT true lo hi s c = { s with out := s.out ++ [c] } := by
      have h2 : touch s.x c = false := by simp [touch]; omega
      simp [stepT, h2, hd]
    rw [List.foldl_cons, e, fold_behind (lo := lo) (hi := hi) C ⟨s.out ++ [c], s.x, s.done⟩ hd fun b hb => hC b (by simp [hb])]
    simp
theorem turn_on {A M C : List Row} {lo hi : Int} (hn : lo ≤ hi) (h : Canon (A ++ (M ++ C))) (hA : ∀ a ∈ A, a.2 < lo - 1) (hM : ∀ m ∈ M, lo - 1 ≤ m.2 ∧ m.1 ≤ hi + 1) (hC : ∀ c ∈ C, hi + 1 < c.1) :
    turnL true lo hi (A ++ (M ++ C)) = A ++ ([joinAll (lo, hi) M] ++ C) := by
  obtain ⟨cA, cM, cC, p1, p2, p3⟩ := h.parts
  obtain ⟨g1, g2, g3, g4, g5⟩ := joinAll_is (lo, hi) M
  unfold turnL runT
  rw [List.foldl_append, List.foldl_append, fold_ahead hn A _ rfl fun a ha => ⟨hA a ha, (cA.fit a ha).2.1⟩]
  simp only [startT, List.nil_append, Bool.not_true]
  rw [fold_mid (lo := lo) (hi := hi) M ⟨A, (lo, hi), false⟩ (Int.le_refl _) (Int.le_refl _) hM]
  have hCx : ∀ c ∈ C, (joinAll (lo, hi) M).2 + 1 < c.1 := fun c hc => by
    have := hC c hc
    rcases g4 with g | ⟨m, hm, g⟩
    · rw [g]; exact this
    · have := p3 m hm c hc
      omega
  cases C with
  | nil => simp [endT]
  | cons c C =>
    have h1 := hCx c (by simp)
    have e : stepT true lo hi ⟨A, joinAll (lo, hi) M, false⟩ c = ⟨A ++ [joinAll (lo, hi) M, c], joinAll (lo, hi) M, true⟩ := by
      have h2 : touch (joinAll (lo, hi) M) c = false := by simp [touch]; omega
      have h3 : decide ((joinAll (lo, hi) M).2 < c.1) = true := by simp; omega
      simp [stepT, h2, h3]
    rw [List.foldl_cons, e, fold_behind (lo := lo) (hi := hi) C ⟨A ++ [joinAll (lo, hi) M, c], joinAll (lo, hi) M, true⟩ rfl fun b hb => hCx b (by simp [hb])]
    simp [endT]

theorem fold_off {lo hi : Int} : ∀ (l : List Row) (s : TS), l.foldl (stepT false lo hi) s = { s with out := s.out ++ l.flatMap fun y => if y.2 < lo ∨ hi < y.1 then [y] else pieces lo hi y }
  | [], s => by simp
  | y :: l, s => by
    have e : stepT false lo hi s y = { s with out := s.out ++ if y.2 < lo ∨ hi < y.1 then [y] else pieces lo hi y } := by
      by_cases h : y.2 < lo ∨ hi < y.1
      · simp [stepT, h]
      · simp [stepT, h]
    rw [List.foldl_cons, e, fold_off l]
    simp
theorem flat_stay {lo hi : Int} : ∀ {A : List Row}, (∀ a ∈ A, a.2 < lo ∨ hi < a.1) → (A.flatMap fun y => if y.2 < lo ∨ hi < y.1 then [y] else pieces lo hi y) = A
  | [], _ => rfl
  | a :: A, h => by rw [List.flatMap_cons, if_pos (h a (by simp)), flat_stay fun b hb => h b (by simp [hb])]; rfl
theorem flat_cut {lo hi : Int} : ∀ {M : List Row}, (∀ m ∈ M, lo ≤ m.2 ∧ m.1 ≤ hi) → (M.flatMap fun y => if y.2 < lo ∨ hi < y.1 then [y] else pieces lo hi y) = cutAll lo hi M
  | [], _ => rfl
  | m :: M, h => by
    have h1 := h m (by simp)
    rw [List.flatMap_cons, if_neg (by omega), flat_cut fun b hb => h b (by simp [hb])]
    rfl
theorem turn_off {A M C : List Row} {lo hi : Int} (hA : ∀ a ∈ A, a.2 < lo) (hM : ∀ m ∈ M, lo ≤ m.2 ∧ m.1 ≤ hi) (hC : ∀ c ∈ C, hi < c.1) :
    turnL false lo hi (A ++ (M ++ C)) = A ++ (cutAll lo hi M ++ C) := by
  unfold turnL runT
  rw [fold_off]
  simp only [startT, List.nil_append, Bool.not_false, endT, if_true, List.flatMap_append]
  rw [flat_stay fun a ha => .inl (hA a ha), flat_cut hM, flat_stay fun c hc => .inr (hC c hc)]

theorem turn_is {l : List Row} (h : Canon l) (on : Bool) {lo hi : Int} (h0 : 1 ≤ lo) (h1 : lo ≤ hi) (h2 : hi ≤ 1000000) :
    Canon (turnL on lo hi l) ∧ ∀ k, Inn (turnL on lo hi l) k ↔ if on = true then Inn l k ∨ (lo ≤ k ∧ k ≤ hi) else Inn l k ∧ ¬ (lo ≤ k ∧ k ≤ hi) := by
  cases on
  · obtain ⟨A, M, C, rfl, hA, hM, hC⟩ := parts_exist h lo hi (by omega)
    rw [turn_off hA hM hC]
    exact ⟨cut_canon h lo hi h0 h1 h2 hM, fun k => by rw [cut_inn lo hi hA hM hC]; simp⟩
  · obtain ⟨A, M, C, rfl, hA, hM, hC⟩ := parts_exist h (lo - 1) (hi + 1) (by omega)
    rw [turn_on h1 h hA hM hC]
    exact ⟨joined_canon h lo hi h0 h1 h2 hA hC, fun k => by rw [joined_inn lo hi hM]; simp⟩
end Go.Proofs.Ytkahncfhphdkfaa
