/- A row of bools as cells. -/
import Derived.WalkKit
namespace Go.Proofs.YtpnkaamijjeckaaDoor
open Go.RowKit

/-! ### rows of bools -/
def tabB (n : Nat) (p : Nat → Bool) : List Value := (List.range n).map fun k => Value.bool (p k)
theorem tabB_len (n : Nat) (p : Nat → Bool) : (tabB n p).length = n := by simp [tabB]
theorem tabB_at {n : Nat} (p : Nat → Bool) {k : Nat} (h : k < n) : (tabB n p)[k]? = some (.bool (p k)) := by simp [tabB, h]
def updB (p : Nat → Bool) (k : Nat) (b : Bool) : Nat → Bool := fun j => if j = k then b else p j
theorem tabB_set (n : Nat) (p : Nat → Bool) (k : Nat) (b : Bool) : (tabB n p).set k (.bool b) = tabB n (updB p k b) := by
  apply List.ext_getElem
  · simp [tabB]
  · intro i h1 h2
    simp only [tabB, List.length_map, List.length_range] at h2
    rw [List.getElem_set]
    simp only [tabB, List.getElem_map, List.getElem_range, updB]
    by_cases h : k = i
    · rw [if_pos h, if_pos h.symm]
    · rw [if_neg h, if_neg fun e => h e.symm]
theorem tabB_congr {n : Nat} {p q : Nat → Bool} (h : ∀ j, j < n → p j = q j) : tabB n p = tabB n q := by
  unfold tabB
  apply List.map_congr_left
  intro k hk
  rw [h k (List.mem_range.1 hk)]
end Go.Proofs.YtpnkaamijjeckaaDoor
