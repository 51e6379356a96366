/- Whatever came in, opened step by step, with the form's own reach: each text, each slice in it takes at most so many bytes. -/
import Derived.Test.YtbjbpoldghbokaaArgs
import Derived.SizedLaws
namespace Go.Proofs.Ytbjbpoldghbokaa
open Go.RowKit
set_option maxRecDepth 100000

/-- The cells cs read as a datum of type t in w, within the reach. -/
def ReadS (P : Program) (w : World) (t : TypeId) (cs : List Value) : Prop :=
  ∃ (H : Type) (enc : TypeId × Value → H) (base : Nat) (spare : Nat → Bool) (held : Bool) (fuel : Nat) (x : DataW H × List MemPlace), DataW.trod enc P w base spare held fuel t cs = some x ∧ ∀ n ∈ x.1.weights P t, n ≤ reachBytes

theorem weights_all_mem {H : Type} {P : Program} {e : TypeId} : ∀ {ds : List (DataW H)} {d : DataW H}, d ∈ ds → ∀ n ∈ d.weights P e, n ∈ DataW.weightsAll P e ds
  | d0 :: ds, d, hd, n, hn => by
    rw [DataW.weightsAll, List.mem_append]
    rcases List.mem_cons.1 hd with rfl | hd
    · exact .inl hn
    · exact .inr (weights_all_mem hd n hn)

section
variable {P : Program} {w : World} {t e : TypeId} {cs : List Value}
theorem ReadS.read (h : ReadS P w t cs) : Read P w t cs := by
  obtain ⟨H, enc, b, sp, held, fuel, x, h, _⟩ := h
  exact ⟨H, enc, b, sp, held, fuel, x, h⟩
theorem ReadS.string (ht : P.underlying t = some .string) (h : ReadS P w t cs) : ∃ s : ByteArray, cs = [.string s] ∧ s.data.toList.length ≤ 140737488351232 := by
  obtain ⟨_, _, _, _, _, _, _, h, hw⟩ := h
  obtain ⟨s, h1, rfl, _⟩ := Go.DataW.trod_string ht h
  exact ⟨s, h1, hw _ (by simp [DataW.weights])⟩
theorem ReadS.struct {fs : Array Field} (ht : P.underlying t = some (.struct fs)) (h : ReadS P w t cs) :
    cs.length = P.cellsOf t ∧ ∀ (i : Nat) (f : Field), fs[i]? = some f → ReadS P w f.type ((cs.drop f.offset).take (P.cellsOf f.type)) := by
  obtain ⟨H, enc, b, sp, held, _, _, h, hw⟩ := h
  obtain ⟨ys, n, _, rfl, h1, h2, hg⟩ := Go.DataW.trod_struct ht h
  refine ⟨h1, fun i f hf => ?_⟩
  have hi : i < ys.length := by
    have := (Array.getElem?_eq_some_iff.1 hf).1
    omega
  refine ⟨H, enc, b, sp, held, n, ys[i], (hg i f hf).trans (List.getElem?_eq_getElem hi), fun m hm => hw m ?_⟩
  simp only [DataW.weights, ht]
  refine DataW.weights_mem_each (j := i) (t := f.type) (d := ys[i].1) ?_ ?_ m hm
  · rw [List.getElem?_map, Array.getElem?_toList, hf]; rfl
  · rw [List.getElem?_map, List.getElem?_eq_getElem hi]; rfl

/-- The elements of a slice that came in. -/
structure RowsS (P : Program) (w : World) (e : TypeId) (a : Option Addr) (len : Nat) (rd : Nat → List Value) : Prop where
  top : len ≤ maxLen
  at_ : ∀ i, i < len → ReadS P w e (rd i) ∧ (rd i).length = P.cellsOf e ∧ ∃ b off, a = some ⟨b, off, none⟩ ∧ ∀ j u, (rd i)[j]? = some u → w.cell? ⟨b, off + i * P.cellsOf e + j, none⟩ = some u

theorem ReadS.slice {a : Option Addr} {len cap : Nat} (ht : P.underlying t = some (.slice e)) (hc : 0 < P.cellsOf e) (h : ReadS P w t [.slice a len cap]) : ∃ rd, RowsS P w e a len rd := by
  obtain ⟨H, enc, b, sp, held, _, _, h, hw⟩ := h
  rcases Go.Deep.open_slice ht h with ⟨hcs, _⟩ | ⟨a', len', cap', m, fuel', D, Pl, hcs, _, hl, hm, hmm, rfl, hi⟩
  · simp at hcs
    obtain ⟨rfl, rfl, rfl⟩ := hcs
    exact ⟨fun _ => [], Nat.zero_le _, fun i hi => by omega⟩
  · simp at hcs
    obtain ⟨rfl, rfl, rfl⟩ := hcs
    have hlm : len ≤ m := by rw [hmm]; split <;> omega
    have key : ∀ i, ∃ cs, i < len → ReadS P w e cs ∧ cs.length = P.cellsOf e ∧ ∃ b off, (some a' : Option Addr) = some ⟨b, off, none⟩ ∧ ∀ j u, cs[j]? = some u → w.cell? ⟨b, off + i * P.cellsOf e + j, none⟩ = some u := by
      intro i
      by_cases hil : i < len
      · obtain ⟨cs, hcs, hr⟩ := hi i (by omega)
        obtain ⟨_, hlc, hat⟩ := World.cells?_some hcs
        obtain ⟨bb, off, spot⟩ := a'
        have hspot : spot = none := by
          obtain ⟨_, hc', _⟩ := hi 0 (by omega)
          obtain ⟨_, hl', hat'⟩ := World.cells?_some hc'
          have cz := (hat' 0 hc).trans (List.getElem?_eq_getElem (by omega))
          simpa [Addr.add] using World.cell?_spot cz
        subst hspot
        refine ⟨cs, fun _ => ⟨⟨H, enc, b, sp, held, _, _, hr, fun n hn => hw n ?_⟩, hlc, bb, off, rfl, fun j u hj => ?_⟩⟩
        · simp only [DataW.weights, ht]
          refine List.mem_cons_of_mem _ (List.mem_append_left _ (weights_all_mem (d := D i) ?_ n hn))
          exact List.mem_map.2 ⟨i, List.mem_range.2 hil, rfl⟩
        · have hjl : j < P.cellsOf e := by rw [← hlc]; exact (List.getElem?_eq_some_iff.1 hj).1
          have := hat j hjl
          rw [Go.WideShapes.add_plain, Go.WideShapes.add_plain] at this
          exact this.trans hj
      · exact ⟨[], fun h => absurd h hil⟩
    exact ⟨fun i => (key i).choose, by omega, fun i hil => (key i).choose_spec hil⟩
end
end Go.Proofs.Ytbjbpoldghbokaa
