/- What a walk is told of arguments: a slice of integers that came in. -/
import Derived.Test.YtagkamphdcmmcaaOwn
import Derived.OpenShut
namespace Go.Proofs.Ytagkamphdcmmcaa
open Go.RowKit

/-- The slice at a with len elements reads as the integers zs (of kind k, each within its bounds). -/
structure IntsAt (k : IntKind) (w : World) (a : Option Addr) (len : Nat) (zs : List Int) : Prop where
  size : zs.length = len
  top : len ≤ maxLen
  wf : ∀ n ∈ zs, (Lit.int k n).wf = true
  at_ : ∀ i n, zs[i]? = some n → ∃ b off, a = some ⟨b, off, none⟩ ∧ w.cell? ⟨b, off + i, none⟩ = some (.int k n)

theorem IntsAt.of {k : IntKind} {w : World} {a : Option Addr} {len cap : Nat} {zs : List Int}
    (h : (a = none ∧ len = 0 ∧ cap = 0 ∧ zs = []) ∨ ∃ x, a = some x ∧ len ≤ cap ∧ cap ≤ maxLen ∧ zs.length = cap ∧ (∀ i, i < zs.length → w.cell? (x.add i) = some (.int k (zs.getD i 0))) ∧ ∀ n ∈ zs, (Lit.int k n).wf = true) :
    IntsAt k w a len (zs.take len) := by
  rcases h with ⟨rfl, rfl, rfl, rfl⟩ | ⟨x, rfl, hl, hm, hz, hc, hw⟩
  · exact ⟨rfl, Nat.zero_le _, by simp, by simp⟩
  · refine ⟨by rw [List.length_take]; omega, by omega, fun n hn => hw n (List.mem_of_mem_take hn), fun i n hn => ?_⟩
    have hlt : i < len := by
      have := (List.getElem?_eq_some_iff.1 hn).1
      rw [List.length_take] at this
      omega
    rw [List.getElem?_take, if_pos hlt] at hn
    have hc' := hc i (by omega)
    obtain ⟨b, off, spot⟩ := x
    have hspot : spot = none := by
      have hc0 := hc 0 (by omega)
      simpa [Addr.add] using World.cell?_spot hc0
    subst hspot
    rw [Go.WideShapes.add_plain] at hc'
    refine ⟨b, off, rfl, hc'.trans ?_⟩
    simp [List.getD_eq_getElem?_getD, hn]

theorem IntsAt.below {k : IntKind} {w w' : World} {a : Option Addr} {len : Nat} {zs : List Int} (h : IntsAt k w a len zs) (hb : Below w.heap.size w w') : IntsAt k w' a len zs :=
  ⟨h.size, h.top, h.wf, fun i n hn => by
    obtain ⟨b, off, e, hc⟩ := h.at_ i n hn
    exact ⟨b, off, e, (hb.cell (p := ⟨b, off + i, none⟩) (World.block_lt_of_cell? w _ hc)).trans hc⟩⟩
end Go.Proofs.Ytagkamphdcmmcaa
