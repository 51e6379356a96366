/- Heaps, as plain data: marks in a row, each at its place; one out of order rises, then sinks. -/
import Derived.Test.YtldocgpnmfmnaaaDlA
namespace Go.Proofs.Ytldocgpnmfmnaaa
open Go.RowKit

structure Mk where
  b : Nat
  id : Int
  t : Int
  deriving Inhabited

/-- a isn't behind c. -/
def le (a c : Mk) : Prop := a.t < c.t ∨ (a.t = c.t ∧ a.id ≤ c.id)
def ahead (a c : Mk) : Prop := a.t < c.t ∨ (a.t = c.t ∧ a.id < c.id)
instance (a c : Mk) : Decidable (le a c) := inferInstanceAs (Decidable (_ ∨ _))
instance (a c : Mk) : Decidable (ahead a c) := inferInstanceAs (Decidable (_ ∨ _))
theorem le_refl (a : Mk) : le a a := .inr ⟨rfl, Int.le_refl _⟩
theorem le_trans {a b c : Mk} (h1 : le a b) (h2 : le b c) : le a c := by unfold le at *; omega
theorem le_of_ahead {a b : Mk} (h : ahead a b) : le a b := by unfold le ahead at *; omega
theorem not_ahead {a b : Mk} : ¬ ahead a b ↔ le b a := by unfold le ahead; omega

def V (M : List Mk) (k : Nat) : Mk := M.getD k default
def swapL (M : List Mk) (i j : Nat) : List Mk := (M.set i (V M j)).set j (V M i)

section
variable {M : List Mk} {i j p : Nat}

theorem V_get (h : i < M.length) : M[i]? = some (V M i) := by simp [V, List.getD_eq_getElem?_getD, h]
theorem V_eq {m : Mk} (h : M[i]? = some m) : V M i = m := by simp [V, List.getD_eq_getElem?_getD, h]
theorem V_mem (h : i < M.length) : V M i ∈ M := List.mem_of_getElem? (V_get h)
theorem swapL_len : (swapL M i j).length = M.length := by simp [swapL]
theorem V_swap (hi : i < M.length) (hj : j < M.length) (k : Nat) : V (swapL M i j) k = if k = j then V M i else if k = i then V M j else V M k := by
  unfold swapL
  simp only [V, List.getD_eq_getElem?_getD, List.getElem?_set, List.length_set]
  by_cases h1 : k = j
  · subst h1; simp [hj]
  · rw [if_neg (Ne.symm h1), if_neg h1]
    by_cases h2 : k = i
    · subst h2; simp [hi]
    · rw [if_neg (Ne.symm h2), if_neg h2]
theorem swapL_perm (hi : i < M.length) (hj : j < M.length) : (swapL M i j).Perm M := by
  have e1 : V M i = M[i] := V_eq (List.getElem?_eq_getElem hi)
  have e2 : V M j = M[j] := V_eq (List.getElem?_eq_getElem hj)
  unfold swapL
  rw [e1, e2]
  exact List.set_set_perm hi hj

/-- A heap. -/
def Heap (M : List Mk) : Prop := ∀ k, 0 < k → k < M.length → le (V M ((k - 1) / 2)) (V M k)
/-- A heap but for the mark at p: .. -/
def Rises (M : List Mk) (p : Nat) : Prop :=
  (∀ k, 0 < k → k < M.length → k ≠ p → (k - 1) / 2 ≠ p → le (V M ((k - 1) / 2)) (V M k)) ∧ (∀ k, 0 < k → k < M.length → (k - 1) / 2 = p → 0 < p → le (V M ((p - 1) / 2)) (V M k))
/-- .. which isn't ahead of the one above it. -/
def Sinks (M : List Mk) (p : Nat) : Prop :=
  (∀ k, 0 < k → k < M.length → (k - 1) / 2 ≠ p → le (V M ((k - 1) / 2)) (V M k)) ∧ (∀ k, 0 < k → k < M.length → (k - 1) / 2 = p → 0 < p → le (V M ((p - 1) / 2)) (V M k))

theorem Heap.rises (h : Heap M) (p : Nat) (m : Mk) : Rises (M.set p m) p := by
  have hv : ∀ k, k ≠ p → V (M.set p m) k = V M k := fun k hk => by
    simp only [V, List.getD_eq_getElem?_getD, List.getElem?_set]
    rw [if_neg (Ne.symm hk)]
  refine ⟨fun k h0 h1 h2 h3 => ?_, fun k h0 h1 h2 h3 => ?_⟩
  · rw [List.length_set] at h1
    rw [hv _ h2, hv _ h3]
    exact h k h0 h1
  · rw [List.length_set] at h1
    rw [hv _ (by omega), hv _ (by omega)]
    refine le_trans ?_ (h k h0 h1)
    rw [h2]
    exact h p h3 (by omega)

theorem Rises.sinks (h : Rises M p) (hp : p = 0 ∨ le (V M ((p - 1) / 2)) (V M p)) : Sinks M p := by
  refine ⟨fun k h0 h1 h2 => ?_, h.2⟩
  by_cases hk : k = p
  · subst hk
    rcases hp with rfl | hp
    · omega
    · exact hp
  · exact h.1 k h0 h1 hk h2

theorem Rises.step (h : Rises M p) (h0 : 0 < p) (hp : p < M.length) (ha : ahead (V M p) (V M ((p - 1) / 2))) : Rises (swapL M p ((p - 1) / 2)) ((p - 1) / 2) := by
  obtain ⟨q, hq⟩ : ∃ q, q = (p - 1) / 2 := ⟨_, rfl⟩
  rw [← hq] at ha ⊢
  have hqp : q < p := by omega
  have hql : q < M.length := by omega
  have hv := V_swap hp hql
  have hpq := le_of_ahead ha
  refine ⟨fun k k0 k1 k2 k3 => ?_, fun k k0 k1 k2 k3 => ?_⟩
  · rw [swapL_len] at k1
    have hkp : k ≠ p := fun e => k3 (by rw [e, hq])
    rw [hv k, if_neg k2, if_neg hkp, hv ((k - 1) / 2), if_neg k3]
    by_cases hpar : (k - 1) / 2 = p
    · rw [if_pos hpar]
      have := h.2 k k0 k1 hpar h0
      rwa [← hq] at this
    · rw [if_neg hpar]
      exact h.1 k k0 k1 hkp hpar
  · rw [swapL_len] at k1
    have hup : le (V M ((q - 1) / 2)) (V M q) := h.1 q k3 hql (by omega) (by omega)
    rw [hv ((q - 1) / 2), if_neg (by omega), if_neg (by omega), hv k, if_neg (by omega)]
    by_cases hkp : k = p
    · rw [if_pos hkp]; exact hup
    · rw [if_neg hkp]
      refine le_trans hup ?_
      have := h.1 k k0 k1 hkp (by omega)
      rwa [k2] at this

/-- The first of the marks below p. -/
def below (M : List Mk) (p : Nat) : Option Nat :=
  if M.length ≤ 2 * p + 1 then none else if 2 * p + 2 < M.length ∧ ahead (V M (2 * p + 2)) (V M (2 * p + 1)) then some (2 * p + 2) else some (2 * p + 1)

theorem below_some {c : Nat} (h : below M p = some c) : (c - 1) / 2 = p ∧ p < c ∧ c < M.length ∧ ∀ k, 0 < k → k < M.length → (k - 1) / 2 = p → le (V M c) (V M k) := by
  unfold below at h
  split at h
  · cases h
  · rename_i h1
    split at h
    · rename_i h2
      cases h
      refine ⟨by omega, by omega, h2.1, fun k k0 k1 k2 => ?_⟩
      rcases (show k = 2 * p + 1 ∨ k = 2 * p + 2 by omega) with rfl | rfl
      · exact le_of_ahead h2.2
      · exact le_refl _
    · rename_i h2
      cases h
      refine ⟨by omega, by omega, by omega, fun k k0 k1 k2 => ?_⟩
      rcases (show k = 2 * p + 1 ∨ k = 2 * p + 2 by omega) with rfl | rfl
      · exact le_refl _
      · exact not_ahead.1 fun h => h2 ⟨k1, h⟩
theorem below_none (h : below M p = none) : M.length ≤ 2 * p + 1 := by
  unfold below at h
  split at h
  · assumption
  · split at h <;> cases h

theorem Sinks.heap (h : Sinks M p) (hd : ∀ c, below M p = some c → le (V M p) (V M c)) : Heap M := by
  intro k k0 k1
  by_cases hk : (k - 1) / 2 = p
  · rw [hk]
    cases hb : below M p with
    | none => have := below_none hb; omega
    | some c => exact le_trans (hd c hb) ((below_some hb).2.2.2 k k0 k1 hk)
  · exact h.1 k k0 k1 hk

theorem Sinks.step {c : Nat} (h : Sinks M p) (hc : below M p = some c) (ha : ahead (V M c) (V M p)) : Sinks (swapL M p c) c := by
  obtain ⟨c1, c2, c3, c4⟩ := below_some hc
  have hp : p < M.length := by omega
  have hv := V_swap hp c3
  have hcp := le_of_ahead ha
  refine ⟨fun k k0 k1 k2 => ?_, fun k k0 k1 k2 k3 => ?_⟩
  · rw [swapL_len] at k1
    rw [hv k, hv ((k - 1) / 2), if_neg k2]
    by_cases hkc : k = c
    · subst hkc
      rw [if_pos rfl, if_pos c1]
      exact hcp
    · rw [if_neg hkc]
      by_cases hkp : k = p
      · subst hkp
        rw [if_pos rfl, if_neg (by omega)]
        exact h.2 c (by omega) c3 c1 k0
      · rw [if_neg hkp]
        by_cases hpar : (k - 1) / 2 = p
        · rw [if_pos hpar]
          exact c4 k k0 k1 hpar
        · rw [if_neg hpar]
          exact h.1 k k0 k1 hpar
  · rw [swapL_len] at k1
    rw [hv ((c - 1) / 2), c1, if_neg (by omega), if_pos rfl, hv k, if_neg (by omega), if_neg (by omega)]
    have := h.1 k k0 k1 (by omega)
    rwa [k2] at this

/-- The first one of a heap. -/
theorem Heap.first (h : Heap M) : ∀ k, k < M.length → le (V M 0) (V M k) := by
  intro k
  induction k using Nat.strongRecOn with
  | _ k ih =>
    intro hk
    rcases Nat.eq_zero_or_pos k with rfl | h0
    · exact le_refl _
    · exact le_trans (ih ((k - 1) / 2) (by omega) (by omega)) (h k h0 hk)
theorem Heap.nil : Heap [] := fun k _ h => by simp at h
/-- A heap's beginning is one. -/
theorem Heap.take (h : Heap M) (n : Nat) : Heap (M.take n) := by
  have hv : ∀ k, k < n → V (M.take n) k = V M k := fun k hk => by simp [V, List.getD_eq_getElem?_getD, hk]
  intro k k0 k1
  rw [List.length_take] at k1
  rw [hv _ (by omega), hv _ (by omega)]
  exact h k k0 (by omega)
end
end Go.Proofs.Ytldocgpnmfmnaaa
