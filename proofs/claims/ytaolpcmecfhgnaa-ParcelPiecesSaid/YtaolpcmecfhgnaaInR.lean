/- A slice of integers that came in, out of what was read. -/
import Derived.Test.YtaolpcmecfhgnaaArgs
namespace Go.Proofs.Ytaolpcmecfhgnaa
open Go.RowKit
set_option maxRecDepth 100000

theorem IntsAt.rows {P : Program} {k : IntKind} {w : World} {e : TypeId} {a : Option Addr} {len : Nat} {rd : Nat → List Value} (he : P.underlying e = some (.int k)) (hco : P.cellsOf e = 1) (h : RowsAt P w e a len rd) : ∃ zs, IntsAt k w a len zs := by
  have key : ∀ i, ∃ z : Int, i < len → rd i = [.int k z] ∧ (Lit.int k z).wf = true := by
    intro i
    by_cases hi : i < len
    · obtain ⟨z, h1, h2⟩ := (h.at_ i hi).1.int he
      exact ⟨z, fun _ => ⟨h1, h2⟩⟩
    · exact ⟨0, fun h => absurd h hi⟩
  refine ⟨(List.range len).map fun i => (key i).choose, by simp, h.top, fun z hz => ?_, fun i z hz => ?_⟩
  · obtain ⟨i, hi, rfl⟩ := List.mem_map.1 hz
    exact ((key i).choose_spec (List.mem_range.1 hi)).2
  · have hi : i < len := by
      have := (List.getElem?_eq_some_iff.1 hz).1
      simpa using this
    rw [List.getElem?_map, List.getElem?_range hi, Option.map_some, Option.some.injEq] at hz
    obtain ⟨h1, -⟩ := (key i).choose_spec hi
    rw [hz] at h1
    obtain ⟨_, _, b, off, ha, hc⟩ := h.at_ i hi
    refine ⟨b, off, ha, ?_⟩
    have := hc 0 (.int k z) (by rw [h1]; rfl)
    rwa [hco, Nat.mul_one] at this
end Go.Proofs.Ytaolpcmecfhgnaa
