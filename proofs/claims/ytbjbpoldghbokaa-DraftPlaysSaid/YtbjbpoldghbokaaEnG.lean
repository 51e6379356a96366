/- An entry with texts of its own: what is held on the way. -/
import Derived.Test.YtbjbpoldghbokaaEnE
import Derived.Test.YtbjbpoldghbokaaStrC
namespace Go.Proofs.Ytbjbpoldghbokaa
open Go.RowKit
open Go.ChangeMaps (setBlock)
set_option linter.unusedVariables false
set_option linter.unusedSectionVars false
set_option linter.unusedSimpArgs false
set_option maxRecDepth 100000

section
variable {w w' : World} {e : Ent}
/-- What is held on the way: the entry that came in, the one that is answered. -/
def EOwnS (w : World) (e : Ent) (w' : World) : Prop := St w.heap.size w w' [(w.heap.size, enO e), (w.heap.size + 1, enO z0E)]
theorem EOwnS.start (w : World) (e : Ent) : EOwnS w e ((w.alloc (enO e)).alloc (enO z0E)) := by
  have h := ((St.start w).alloc (enO e)).alloc (enO z0E)
  rw [World.size_alloc] at h
  exact h.perm (List.Perm.swap _ _ _)
theorem EOwnS.from (h : EOwnS w e w') : w'.cell? ⟨w.heap.size, 3, none⟩ = some (tx e.exch) ∧ w'.cell? ⟨w.heap.size, 4, none⟩ = some (tx e.key) :=
  ⟨St.cell h List.mem_cons_self rfl, St.cell h List.mem_cons_self rfl⟩
theorem EOwnS.st3 (h : EOwnS w e w') : EOwnS w e (w'.setCell ⟨w.heap.size, 3, none⟩ (tx e.exch)) := St.set0 h 3 (tx e.exch)
theorem EOwnS.st4 (h : EOwnS w e w') : EOwnS w e (w'.setCell ⟨w.heap.size, 4, none⟩ (tx e.key)) := St.set0 h 4 (tx e.key)
theorem eclone_own (h : EOwnS w e w') {l : List UInt8} (hl : l.length ≤ 140737488351232) : Calls Try.prog 16 #[tx l] w' fun r w2 => r = .returned (tx l) ∧ EOwnS w e w2 ∧
    (w2.cell? ⟨w.heap.size, 3, none⟩ = some (tx e.exch) ∧ w2.cell? ⟨w.heap.size, 4, none⟩ = some (tx e.key)) ∧
    (w2.frozen? ⟨w.heap.size, 3, none⟩ = false ∧ w2.frozen? ⟨w.heap.size, 4, none⟩ = false) := by
  refine (clone_any l w' hl).mono ?_
  rintro r w2 ⟨rfl, hb⟩
  have h2 : EOwnS w e w2 := St.grow h hb
  exact ⟨rfl, h2, h2.from, St.soft h2 List.mem_cons_self 3, St.soft h2 List.mem_cons_self 4⟩
structure EOwnC (w : World) (e : Ent) (w' : World) : Prop where
  src : EnAt w' w.heap.size e
  dst : EnAt w' (w.heap.size + 1) z0E
  soft : ∀ i, w'.frozen? ⟨w.heap.size + 1, i, none⟩ = false
theorem EOwnS.cells (h : EOwnS w e w') : EOwnC w e w' :=
  have m0 : (w.heap.size, enO e) ∈ [(w.heap.size, enO e), (w.heap.size + 1, enO z0E)] := List.mem_cons_self
  have m1 : (w.heap.size + 1, enO z0E) ∈ [(w.heap.size, enO e), (w.heap.size + 1, enO z0E)] := List.mem_cons_of_mem _ List.mem_cons_self
  ⟨⟨St.cell h m0 rfl, St.cell h m0 rfl, St.cell h m0 rfl, St.cell h m0 rfl, St.cell h m0 rfl, St.cell h m0 rfl, St.cell h m0 rfl, St.cell h m0 rfl, St.cell h m0 rfl, St.cell h m0 rfl⟩,
   ⟨St.cell h m1 rfl, St.cell h m1 rfl, St.cell h m1 rfl, St.cell h m1 rfl, St.cell h m1 rfl, St.cell h m1 rfl, St.cell h m1 rfl, St.cell h m1 rfl, St.cell h m1 rfl, St.cell h m1 rfl⟩, fun i => St.soft h m1 i⟩
end
end Go.Proofs.Ytbjbpoldghbokaa
