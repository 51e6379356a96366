/- An entry as a block. -/
import Derived.Test.YtaolpcmecfhgnaaEnA
import Derived.Test.YtaolpcmecfhgnaaTxP
import Derived.Test.YtaolpcmecfhgnaaOwn
namespace Go.Proofs.Ytaolpcmecfhgnaa
open Go.RowKit
open Go.ChangeMaps (setBlock)
set_option linter.unusedVariables false
set_option linter.unusedSectionVars false
set_option linter.unusedSimpArgs false
set_option maxRecDepth 100000

theorem drew_drew (w : World) (a b : Nat) : (w.drewN a).drewN b = w.drewN (a + b) := by
  simp [World.drewN, Nat.add_assoc]

abbrev z0E : Ent := ⟨0, 0, 0, [], [], 0, 0, 0, false, 0⟩
/-- An entry's cells. -/
abbrev EnAt (wr : World) (b : Nat) (e : Ent) : Prop := wr.cell? ⟨b, 0, none⟩ = some (.int .i64 e.id) ∧ wr.cell? ⟨b, 1, none⟩ = some (.int .i64 e.body) ∧ wr.cell? ⟨b, 2, none⟩ = some (.int .i64 e.size) ∧ wr.cell? ⟨b, 3, none⟩ = some (tx e.exch) ∧ wr.cell? ⟨b, 4, none⟩ = some (tx e.key) ∧ wr.cell? ⟨b, 5, none⟩ = some (.int .i64 e.prio) ∧ wr.cell? ⟨b, 6, none⟩ = some (.int .i64 e.ttl) ∧ wr.cell? ⟨b, 7, none⟩ = some (.int .i64 e.til) ∧ wr.cell? ⟨b, 8, none⟩ = some (.bool e.again) ∧ wr.cell? ⟨b, 9, none⟩ = some (.int .i64 e.hops)
theorem EnAt.step {w wr : World} {b : Nat} {e : Ent} (h : EnAt w b e) (hb : Below w.heap.size w wr) : EnAt wr b e := by
  obtain ⟨h0, h1, h2, h3, h4, h5, h6, h7, h8, h9⟩ := h
  have lt := World.block_lt_of_cell? w _ h0
  exact ⟨(hb.cell (p := ⟨b, 0, none⟩) lt).trans h0, (hb.cell (p := ⟨b, 1, none⟩) lt).trans h1, (hb.cell (p := ⟨b, 2, none⟩) lt).trans h2, (hb.cell (p := ⟨b, 3, none⟩) lt).trans h3, (hb.cell (p := ⟨b, 4, none⟩) lt).trans h4, (hb.cell (p := ⟨b, 5, none⟩) lt).trans h5, (hb.cell (p := ⟨b, 6, none⟩) lt).trans h6, (hb.cell (p := ⟨b, 7, none⟩) lt).trans h7, (hb.cell (p := ⟨b, 8, none⟩) lt).trans h8, (hb.cell (p := ⟨b, 9, none⟩) lt).trans h9⟩
theorem EnAt.start (w : World) (e : Ent) : EnAt (w.alloc (enO e)) w.heap.size e := by
  refine ⟨?_, ?_, ?_, ?_, ?_, ?_, ?_, ?_, ?_, ?_⟩ <;> simp

/-- A block of ten cells with an entry stored into it. -/
abbrev enPut (w : World) (b : Nat) (e : Ent) : World := (((((((((w.setCell ⟨b, 0, none⟩ (.int .i64 e.id)).setCell ⟨b, 1, none⟩ (.int .i64 e.body)).setCell ⟨b, 2, none⟩ (.int .i64 e.size)).setCell ⟨b, 3, none⟩ (tx e.exch)).setCell ⟨b, 4, none⟩ (tx e.key)).setCell ⟨b, 5, none⟩ (.int .i64 e.prio)).setCell ⟨b, 6, none⟩ (.int .i64 e.ttl)).setCell ⟨b, 7, none⟩ (.int .i64 e.til)).setCell ⟨b, 8, none⟩ (.bool e.again)).setCell ⟨b, 9, none⟩ (.int .i64 e.hops)
theorem St.enPut {B : Nat} {w0 w : World} {b : Nat} {e e0 : Ent} {C : List (Nat × Obj)} (h : St B w0 w ((b, enO e0) :: C)) : St B w0 (enPut w b e) ((b, enO e) :: C) := by
  have h10 := (((((((((h.set0 0 (.int .i64 e.id)).set0 1 (.int .i64 e.body)).set0 2 (.int .i64 e.size)).set0 3 (tx e.exch)).set0 4 (tx e.key)).set0 5 (.int .i64 e.prio)).set0 6 (.int .i64 e.ttl)).set0 7 (.int .i64 e.til)).set0 8 (.bool e.again)).set0 9 (.int .i64 e.hops)
  simp only [List.setIfInBounds_toArray, List.set_cons_zero, List.set_cons_succ] at h10
  exact h10
theorem St.enAt {B : Nat} {w0 w : World} {b : Nat} {e : Ent} {H : List (Nat × Obj)} (h : St B w0 w H) (m : (b, enO e) ∈ H) : EnAt w b e :=
  ⟨h.cell m rfl, h.cell m rfl, h.cell m rfl, h.cell m rfl, h.cell m rfl, h.cell m rfl, h.cell m rfl, h.cell m rfl, h.cell m rfl, h.cell m rfl⟩
theorem ret_entry {w : World} {e : Ent} {P : Program} {fn : Func} {d : Nat} {tmps : Array Value} (hr : fn.results = #[.cell 2 28]) (h2 : tmps[2]? = some (.pointer (some ⟨d, 0, none⟩))) (q : EnAt w d e) (hP : P = Try.prog) :
    (results fn tmps).run P w = .ok (enV e) w := by
  subst hP
  obtain ⟨q0, q1, q2, q3, q4, q5, q6, q7, q8, q9⟩ := q
  simp [results, hr, go_sem, h2, q0, q1, q2, q3, q4, q5, q6, q7, q8, q9]

end Go.Proofs.Ytaolpcmecfhgnaa
