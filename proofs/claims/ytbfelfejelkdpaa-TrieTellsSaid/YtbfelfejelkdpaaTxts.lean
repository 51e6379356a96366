/- A slice of texts that came in. -/
import Derived.Test.YtbfelfejelkdpaaTxP
import Derived.Test.YtbfelfejelkdpaaArgs
namespace Go.Proofs.Ytbfelfejelkdpaa
open Go.RowKit
set_option linter.unusedVariables false
set_option maxRecDepth 100000

/-- The slice at a with len elements reads as these texts. -/
structure TextsAt (w : World) (a : Option Addr) (len : Nat) (L : List (List UInt8)) : Prop where
  size : L.length = len
  at_ : ∀ (i : Nat) x, L[i]? = some x → x.length ≤ maxLen ∧ ∃ b off, a = some ⟨b, off, none⟩ ∧ w.cell? ⟨b, off + i, none⟩ = some (tx x)
theorem TextsAt.below {w w' : World} {a : Option Addr} {len : Nat} {L : List (List UInt8)} (h : TextsAt w a len L) (hb : Below w.heap.size w w') : TextsAt w' a len L :=
  ⟨h.size, fun i x hx => by
    obtain ⟨h1, b, off, e, hc⟩ := h.at_ i x hx
    exact ⟨h1, b, off, e, (hb.cell (p := ⟨b, off + i, none⟩) (World.block_lt_of_cell? w _ hc)).trans hc⟩⟩
theorem TextsAt.of {w : World} {a : Option Addr} {len : Nat} {rd : Nat → List Value} (h : RowsAt Try.prog w 9 a len rd) : ∃ L, TextsAt w a len L := by
  have hco : Try.prog.cellsOf 9 = 1 := by kernel_rfl
  have key : ∀ i, ∃ x : List UInt8, i < len → rd i = [tx x] ∧ x.length ≤ maxLen := by
    intro i
    by_cases hi : i < len
    · obtain ⟨s, h1, h2⟩ := (h.at_ i hi).1.string uStr6
      exact ⟨s.data.toList, fun _ => ⟨h1, h2⟩⟩
    · exact ⟨[], fun h => absurd h hi⟩
  refine ⟨(List.range len).map fun i => (key i).choose, by simp, fun i x hx => ?_⟩
  have hi : i < len := by
    have := (List.getElem?_eq_some_iff.1 hx).1
    simpa using this
  rw [List.getElem?_map, List.getElem?_range hi, Option.map_some, Option.some.injEq] at hx
  obtain ⟨h1, h2⟩ := (key i).choose_spec hi
  rw [hx] at h1 h2
  obtain ⟨_, _, b, off, ha, hc⟩ := h.at_ i hi
  refine ⟨h2, b, off, ha, ?_⟩
  have := hc 0 (tx x) (by rw [h1]; rfl)
  rwa [hco, Nat.mul_one] at this
end Go.Proofs.Ytbfelfejelkdpaa
