/- Sets of numbers: the numbers of rows. -/
import Derived.Test.YtdkchcbmhmlhnaaRgsA
namespace Go.Proofs.Ytdkchcbmhmlhnaa
open Go.RowKit
set_option linter.unusedVariables false

/-! ### the numbers of rows -/
def nums (r : Row) : List Int := (List.range (r.2 + 1 - r.1).toNat).map fun i : Nat => r.1 + i
def flat (l : List Row) : List Int := l.flatMap nums

theorem nums_len (r : Row) : (nums r).length = (r.2 + 1 - r.1).toNat := by simp [nums]
theorem nums_at {r : Row} {k : Nat} (h : (k : Int) < r.2 + 1 - r.1) : (nums r)[k]? = some (r.1 + k) := by
  have : k < (r.2 + 1 - r.1).toNat := by omega
  simp [nums, this]
theorem mem_nums {r : Row} {x : Int} (h : x ∈ nums r) : r.1 ≤ x ∧ x ≤ r.2 := by
  simp only [nums, List.mem_map, List.mem_range] at h
  obtain ⟨i, hi, rfl⟩ := h
  omega
theorem mem_nums_drop {r : Row} {x : Int} {k : Nat} (h : x ∈ (nums r).drop k) : r.1 + k ≤ x ∧ x ≤ r.2 := by
  obtain ⟨i, hi, rfl⟩ := List.mem_iff_getElem.1 h
  simp only [List.length_drop, nums_len] at hi
  rw [List.getElem_drop]
  simp only [nums, List.getElem_map, List.getElem_range]
  omega
theorem flat_cons (r : Row) (l : List Row) : flat (r :: l) = nums r ++ flat l := rfl
theorem flat_append (l m : List Row) : flat (l ++ m) = flat l ++ flat m := by simp [flat]
theorem mem_flat {l : List Row} {x : Int} : x ∈ flat l → ∃ r ∈ l, r.1 ≤ x ∧ x ≤ r.2 := fun h => by
  obtain ⟨r, hr, hx⟩ := List.mem_flatMap.1 h
  exact ⟨r, hr, mem_nums hx⟩
theorem flat_split {l : List Row} {j : Nat} {r : Row} (h : l[j]? = some r) (k : Nat) : flat l = (flat (l.take j) ++ (nums r).take k) ++ ((nums r).drop k ++ flat (l.drop (j + 1))) := by
  have hj : j < l.length := (List.getElem?_eq_some_iff.1 h).1
  have e : l = l.take j ++ (r :: l.drop (j + 1)) := by
    have : l[j] = r := by rw [List.getElem?_eq_getElem hj] at h; simpa using h
    rw [← this, ← List.drop_eq_getElem_cons hj, List.take_append_drop]
  rw [List.append_assoc, ← List.append_assoc ((nums r).take k), List.take_append_drop, ← flat_cons, ← flat_append, ← e]
end Go.Proofs.Ytdkchcbmhmlhnaa
