/- What a walk is told of arguments: a slice of integers that came in. -/
import Derived.Test.YtaolpcmecfhgnaaOwn
import Derived.OpenShut
import Derived.ShutString
import Derived.Deep.Slices
import Derived.Deep.Fields
namespace Go.Proofs.Ytaolpcmecfhgnaa
open Go.RowKit
set_option maxRecDepth 100000

/-- The slice at a with len elements reads as the integers zs (of kind k, each within its bounds). -/
structure IntsAt (k : IntKind) (w : World) (a : Option Addr) (len : Nat) (zs : List Int) : Prop where
  size : zs.length = len
  top : len ≤ maxLen
  wf : ∀ n ∈ zs, (Lit.int k n).wf = true
  at_ : ∀ i n, zs[i]? = some n → ∃ b off, a = some ⟨b, off, none⟩ ∧ w.cell? ⟨b, off + i, none⟩ = some (.int k n)

theorem IntsAt.of {k : IntKind} {w : World} {a : Option Addr} {len cap : Nat} {zs : List Int}
    (h : (a = none ∧ len = 0 ∧ cap = 0 ∧ zs = []) ∨ ∃ x, a = some x ∧ len ≤ cap ∧ cap ≤ maxLen ∧ zs.length = cap ∧ (∀ i, i < zs.length → w.cell? (x.add i) = some (.int k (zs.getD i 0))) ∧ ∀ n ∈ zs, (Lit.int k n).wf = true) :
    IntsAt k w a len (zs.take len) := by
  rcases h with ⟨rfl, rfl, rfl, rfl⟩ | ⟨x, rfl, hl, hm, hz, hc, hw⟩
  · exact ⟨rfl, Nat.zero_le _, by simp, by simp⟩
  · refine ⟨by rw [List.length_take]; omega, by omega, fun n hn => hw n (List.mem_of_mem_take hn), fun i n hn => ?_⟩
    have hlt : i < len := by
      have := (List.getElem?_eq_some_iff.1 hn).1
      rw [List.length_take] at this
      omega
    rw [List.getElem?_take, if_pos hlt] at hn
    have hc' := hc i (by omega)
    obtain ⟨b, off, spot⟩ := x
    have hspot : spot = none := by
      have hc0 := hc 0 (by omega)
      simpa [Addr.add] using World.cell?_spot hc0
    subst hspot
    rw [Go.WideShapes.add_plain] at hc'
    refine ⟨b, off, rfl, hc'.trans ?_⟩
    simp [List.getD_eq_getElem?_getD, hn]

theorem IntsAt.below {k : IntKind} {w w' : World} {a : Option Addr} {len : Nat} {zs : List Int} (h : IntsAt k w a len zs) (hb : Below w.heap.size w w') : IntsAt k w' a len zs :=
  ⟨h.size, h.top, h.wf, fun i n hn => by
    obtain ⟨b, off, e, hc⟩ := h.at_ i n hn
    exact ⟨b, off, e, (hb.cell (p := ⟨b, off + i, none⟩) (World.block_lt_of_cell? w _ hc)).trans hc⟩⟩

/-! ### whatever came in, opened step by step -/
/-- The cells cs read as a datum of type t in w. -/
def Read (P : Program) (w : World) (t : TypeId) (cs : List Value) : Prop :=
  ∃ (H : Type) (enc : TypeId × Value → H) (base : Nat) (spare : Nat → Bool) (held : Bool) (fuel : Nat) (x : DataW H × List MemPlace), DataW.trod enc P w base spare held fuel t cs = some x

section
variable {P : Program} {w : World} {t e : TypeId} {cs : List Value}

theorem Read.int {k : IntKind} (ht : P.underlying t = some (.int k)) (h : Read P w t cs) : ∃ n, cs = [.int k n] ∧ (Lit.int k n).wf = true := by
  obtain ⟨_, _, _, _, _, _, _, h⟩ := h
  obtain ⟨n, h1, _, h2⟩ := Go.DataW.trod_int ht h
  exact ⟨n, h1, h2⟩
theorem Read.bool (ht : P.underlying t = some .bool) (h : Read P w t cs) : ∃ b, cs = [.bool b] := by
  obtain ⟨_, _, _, _, _, _, _, h⟩ := h
  obtain ⟨b, h1, _⟩ := Go.DataW.trod_bool ht h
  exact ⟨b, h1⟩
theorem Read.string (ht : P.underlying t = some .string) (h : Read P w t cs) : ∃ s : ByteArray, cs = [.string s] ∧ s.size ≤ maxLen := by
  obtain ⟨_, _, _, _, _, _, _, h⟩ := h
  obtain ⟨s, h1, _, h2⟩ := Go.DataW.trod_string ht h
  exact ⟨s, h1, h2⟩
theorem Read.struct {fs : Array Field} (ht : P.underlying t = some (.struct fs)) (h : Read P w t cs) :
    cs.length = P.cellsOf t ∧ ∀ (i : Nat) (f : Field), fs[i]? = some f → Read P w f.type ((cs.drop f.offset).take (P.cellsOf f.type)) := by
  obtain ⟨H, enc, b, sp, held, _, _, h⟩ := h
  obtain ⟨ys, n, _, _, h1, h2, hg⟩ := Go.DataW.trod_struct ht h
  refine ⟨h1, fun i f hf => ?_⟩
  have hi : i < ys.length := by
    have := (Array.getElem?_eq_some_iff.1 hf).1
    omega
  exact ⟨H, enc, b, sp, held, n, ys[i], (hg i f hf).trans (List.getElem?_eq_getElem hi)⟩

/-- The elements of a slice that came in: each lies where it lies, and reads as the element's type. -/
structure RowsAt (P : Program) (w : World) (e : TypeId) (a : Option Addr) (len : Nat) (rd : Nat → List Value) : Prop where
  top : len ≤ maxLen
  at_ : ∀ i, i < len → Read P w e (rd i) ∧ (rd i).length = P.cellsOf e ∧ ∃ b off, a = some ⟨b, off, none⟩ ∧ ∀ j u, (rd i)[j]? = some u → w.cell? ⟨b, off + i * P.cellsOf e + j, none⟩ = some u

theorem Read.slice {a : Option Addr} {len cap : Nat} (ht : P.underlying t = some (.slice e)) (hc : 0 < P.cellsOf e) (h : Read P w t [.slice a len cap]) : ∃ rd, RowsAt P w e a len rd := by
  obtain ⟨H, enc, b, sp, held, _, _, h⟩ := h
  rcases Go.Deep.open_slice ht h with ⟨hcs, _⟩ | ⟨a', len', cap', m, fuel', D, Pl, hcs, _, hl, hm, hmm, _, hi⟩
  · simp at hcs
    obtain ⟨rfl, rfl, rfl⟩ := hcs
    exact ⟨fun _ => [], Nat.zero_le _, fun i hi => by omega⟩
  · simp at hcs
    obtain ⟨rfl, rfl, rfl⟩ := hcs
    have hlm : len ≤ m := by rw [hmm]; split <;> omega
    have key : ∀ i, ∃ cs, i < len → Read P w e cs ∧ cs.length = P.cellsOf e ∧ ∃ b off, (some a' : Option Addr) = some ⟨b, off, none⟩ ∧ ∀ j u, cs[j]? = some u → w.cell? ⟨b, off + i * P.cellsOf e + j, none⟩ = some u := by
      intro i
      by_cases hil : i < len
      · obtain ⟨cs, hcs, hr⟩ := hi i (by omega)
        obtain ⟨_, hlc, hat⟩ := World.cells?_some hcs
        obtain ⟨bb, off, spot⟩ := a'
        have hspot : spot = none := by
          obtain ⟨_, hc', _⟩ := hi 0 (by omega)
          obtain ⟨_, hl', hat'⟩ := World.cells?_some hc'
          have cz := (hat' 0 hc).trans (List.getElem?_eq_getElem (by omega))
          simpa [Addr.add] using World.cell?_spot cz
        subst hspot
        refine ⟨cs, fun _ => ⟨⟨H, enc, b, sp, held, _, _, hr⟩, hlc, bb, off, rfl, fun j u hj => ?_⟩⟩
        have hjl : j < P.cellsOf e := by rw [← hlc]; exact (List.getElem?_eq_some_iff.1 hj).1
        have := hat j hjl
        rw [Go.WideShapes.add_plain, Go.WideShapes.add_plain] at this
        exact this.trans hj
      · exact ⟨[], fun h => absurd h hil⟩
    exact ⟨fun i => (key i).choose, by omega, fun i hil => (key i).choose_spec hil⟩

theorem RowsAt.cell {a : Option Addr} {len : Nat} {rd : Nat → List Value} (h : RowsAt P w e a len rd) {w' : World} (hb : Below w.heap.size w w') {i : Nat} (hi : i < len) :
    ∃ b off, a = some ⟨b, off, none⟩ ∧ ∀ j u, (rd i)[j]? = some u → w'.cell? ⟨b, off + i * P.cellsOf e + j, none⟩ = some u := by
  obtain ⟨_, _, b, off, ha, hc⟩ := h.at_ i hi
  exact ⟨b, off, ha, fun j u hj => (hb.cell (p := ⟨b, off + i * P.cellsOf e + j, none⟩) (World.block_lt_of_cell? w _ (hc j u hj))).trans (hc j u hj)⟩
end
end Go.Proofs.Ytaolpcmecfhgnaa
