/- Rows of slips in memory: thirteen cells each; appended, read; a slip in a block of its own. -/
import Derived.Test.YtdkchcbmhmlhnaaSpA
import Derived.Test.YtdkchcbmhmlhnaaAp
namespace Go.Proofs.Ytdkchcbmhmlhnaa
open Go.RowKit
set_option linter.unusedVariables false
set_option linter.unusedSectionVars false
set_option linter.unusedSimpArgs false
set_option maxRecDepth 100000

def scells (x : Slp) : List Value := [.int .i64 x.tag, .int .i64 x.queue, tx x.cons, .int .i64 x.id, .int .i64 x.body, .int .i64 x.size, tx x.exch, tx x.key, .int .i64 x.prio, .int .i64 x.ttl, .int .i64 x.til, .bool x.again, .int .i64 x.hops]
def slsV (L : List Slp) : List Value := L.flatMap scells
theorem slsV_cons (x : Slp) (L : List Slp) : slsV (x :: L) = scells x ++ slsV L := rfl
theorem slsV_app (L M : List Slp) : slsV (L ++ M) = slsV L ++ slsV M := by simp [slsV]
theorem scells_len (x : Slp) : (scells x).length = 13 := rfl
theorem slsV_len : ∀ (L : List Slp), (slsV L).length = L.length * 13
  | [] => rfl
  | e :: L => by rw [slsV_cons, List.length_append, scells_len, slsV_len L, List.length_cons]; omega
theorem slsV_at : ∀ {L : List Slp} {i : Nat} {e : Slp}, L[i]? = some e → ∀ {k : Nat} {v : Value}, (scells e)[k]? = some v → (slsV L)[i * 13 + k]? = some v
  | [], _, _, h, _, _, _ => by simp at h
  | f :: L, 0, e, h, k, v, hk => by
    simp at h
    subst h
    have := (List.getElem?_eq_some_iff.1 hk).1
    rw [slsV_cons, Nat.zero_mul, Nat.zero_add, List.getElem?_append_left this]
    exact hk
  | f :: L, i + 1, e, h, k, v, hk => by
    rw [slsV_cons, List.getElem?_append_right (by rw [scells_len]; omega), scells_len, show (i + 1) * 13 + k - 13 = i * 13 + k by omega]
    exact slsV_at (by simpa using h) hk
theorem scells_one (e : Slp) : ∀ u ∈ scells e, u.oneCell' = true := fun u hu => by
  unfold scells at hu
  simp only [List.mem_cons, List.not_mem_nil, or_false] at hu
  rcases hu with rfl | rfl | rfl | rfl | rfl | rfl | rfl | rfl | rfl | rfl | rfl | rfl | rfl <;> rfl
theorem slsV_one (L : List Slp) : ∀ u ∈ slsV L, u.oneCell' = true := fun u hu => by
  obtain ⟨e, -, h⟩ := List.mem_flatMap.1 hu
  exact scells_one e u h

/-- A slip's cells in a row. -/
abbrev SlRow (w : World) (b o : Nat) (x : Slp) : Prop := w.cell? ⟨b, o, none⟩ = some (.int .i64 x.tag) ∧ w.cell? ⟨b, o + 1, none⟩ = some (.int .i64 x.queue) ∧ w.cell? ⟨b, o + 2, none⟩ = some (tx x.cons) ∧ w.cell? ⟨b, o + 3, none⟩ = some (.int .i64 x.id) ∧ w.cell? ⟨b, o + 4, none⟩ = some (.int .i64 x.body) ∧ w.cell? ⟨b, o + 5, none⟩ = some (.int .i64 x.size) ∧ w.cell? ⟨b, o + 6, none⟩ = some (tx x.exch) ∧ w.cell? ⟨b, o + 7, none⟩ = some (tx x.key) ∧ w.cell? ⟨b, o + 8, none⟩ = some (.int .i64 x.prio) ∧ w.cell? ⟨b, o + 9, none⟩ = some (.int .i64 x.ttl) ∧ w.cell? ⟨b, o + 10, none⟩ = some (.int .i64 x.til) ∧ w.cell? ⟨b, o + 11, none⟩ = some (.bool x.again) ∧ w.cell? ⟨b, o + 12, none⟩ = some (.int .i64 x.hops)
theorem SlRow.below {w w' : World} {b o : Nat} {e : Slp} (h : SlRow w b o e) (hb : Below w.heap.size w w') : SlRow w' b o e := by
  obtain ⟨h0, h1, h2, h3, h4, h5, h6, h7, h8, h9, h10, h11, h12⟩ := h
  exact ⟨cellUp h0 hb, cellUp h1 hb, cellUp h2 hb, cellUp h3 hb, cellUp h4 hb, cellUp h5 hb, cellUp h6 hb, cellUp h7 hb, cellUp h8 hb, cellUp h9 hb, cellUp h10 hb, cellUp h11 hb, cellUp h12 hb⟩
/-- The slice at a reads as these slips, wherever it lies. -/
def ReadSs (w : World) (a : Option Addr) (L : List Slp) : Prop := ∀ i e, L[i]? = some e → ∃ b off, a = some ⟨b, off, none⟩ ∧ SlRow w b (off + i * 13) e
theorem ReadSs.below {w w' : World} {a : Option Addr} {L : List Slp} (h : ReadSs w a L) (hb : Below w.heap.size w w') : ReadSs w' a L := fun i e hi => by
  obtain ⟨b, off, ha, hr⟩ := h i e hi
  exact ⟨b, off, ha, hr.below hb⟩
theorem ReadSs.nil (w : World) (a : Option Addr) : ReadSs w a [] := fun i e hi => by simp at hi

theorem apS : Ap Try.prog 27 33 13 128 where
  ty := by kernel_rfl
  info := by
    have h : (Try.prog.info? 33).map (fun i => (i.zero.map fun z => z.cells.size, i.size, i.bytes)) = some (some 13, 13, 128) := by kernel_rfl
    rw [Option.map_eq_some_iff] at h
    obtain ⟨i, h1, h2⟩ := h
    simp only [Prod.mk.injEq, Option.map_eq_some_iff] at h2
    obtain ⟨⟨z, h3, h4⟩, h5, h6⟩ := h2
    exact ⟨i, z, h1, h3, h5, h6, h4⟩

/-- A slice of slips that is owned. -/
abbrev SlsIs (v : Value) (L : List Slp) (S : List (Nat × Obj)) : Prop := SlIs 33 13 v L.length (slsV L) S
theorem SlsIs.nil : SlsIs (.slice none 0 0) [] [] := SlIs.nil
section
variable {B : Nat} {w0 w : World} {S X Y F H : List (Nat × Obj)} {a : Option Addr} {b c c' k : Nat} {L M : List Slp} {v : Value} {x y : Slp}
theorem SlsIs.form (hs : SlsIs v L S) : ∃ a c, v = .slice a L.length c := by
  obtain ⟨a, c, e, -⟩ := SlIs.form hs
  exact ⟨a, c, e⟩
theorem SlsIs.read (hs : SlsIs (.slice a L.length c) L S) (hst : St B w0 w (X ++ S)) : ReadSs w a L := fun i e hi => by
  obtain ⟨a', c', e1, -, -, h⟩ := SlIs.form hs
  cases e1
  obtain ⟨g, off, rfl⟩ := h i (List.getElem?_eq_some_iff.1 hi).1
  refine ⟨g, off, rfl, SlIs.cellAt hs hst (slsV_at hi (k := 0) rfl), SlIs.cellAt hs hst (slsV_at hi (k := 1) rfl), SlIs.cellAt hs hst (slsV_at hi (k := 2) rfl), SlIs.cellAt hs hst (slsV_at hi (k := 3) rfl), SlIs.cellAt hs hst (slsV_at hi (k := 4) rfl), SlIs.cellAt hs hst (slsV_at hi (k := 5) rfl), SlIs.cellAt hs hst (slsV_at hi (k := 6) rfl), SlIs.cellAt hs hst (slsV_at hi (k := 7) rfl), SlIs.cellAt hs hst (slsV_at hi (k := 8) rfl), SlIs.cellAt hs hst (slsV_at hi (k := 9) rfl), SlIs.cellAt hs hst (slsV_at hi (k := 10) rfl), SlIs.cellAt hs hst (slsV_at hi (k := 11) rfl), SlIs.cellAt hs hst (slsV_at hi (k := 12) rfl)⟩
theorem sls_push (hs : SlsIs (.slice a L.length c) L S) (hst : St B w0 w (X ++ S)) (e : Slp) (hl : L.length ≤ 2000000) :
    ∃ a' c' W S', (Builtin.append_ #[27, 27] 0 #[.slice a L.length c, .slice (some ⟨w.heap.size, 0, none⟩) 1 1]).run Try.prog (w.alloc (slO e)) = .ok (.slice a' (L ++ [e]).length c') W ∧
      SlsIs (.slice a' (L ++ [e]).length c') (L ++ [e]) S' ∧ St B w0 W (X ++ S') := by
  have hst1 := hst.alloc (slO e)
  have hb := hst1.get (b := w.heap.size) (o := slO e) List.mem_cons_self
  obtain ⟨a', c', W, S', q1, q2, q3⟩ := apS.append (A := (w.heap.size, slO e) :: X) hs hst1 (Reads.block (cs := scells e) (n := 1) (size := 13) hb rfl 1) (scells_one _) (by unfold maxLen; omega) (by omega)
  have e1 : L.length + 1 = (L ++ [e]).length := by rw [List.length_append]; rfl
  rw [e1] at q1 q2
  rw [show slsV L ++ scells e = slsV (L ++ [e]) by simp [slsV]] at q2
  exact ⟨a', c', W, S', q1, q2, q3.sub (List.sublist_cons_self _ _)⟩
/-- A row of them put behind. -/
theorem sls_app {a2 : Option Addr} {c2 : Nat} (hs : SlsIs (.slice a L.length c) L S) (hst : St B w0 w (X ++ S)) (h2 : SlsIs (.slice a2 M.length c2) M Y) (hst2 : St B w0 w (F ++ Y)) (hl : L.length + M.length ≤ 2000000) :
    ∃ a' c' W S', (Builtin.append_ #[27, 27] 0 #[.slice a L.length c, .slice a2 M.length c2]).run Try.prog w = .ok (.slice a' (L ++ M).length c') W ∧
      SlsIs (.slice a' (L ++ M).length c') (L ++ M) S' ∧ St B w0 W (X ++ S') := by
  obtain ⟨a', c', W, S', q1, q2, q3⟩ := apS.append (A := X) hs hst (SlIs.reads (A := F) h2 hst2) (slsV_one _) (by unfold maxLen; omega) (by omega)
  have e1 : L.length + M.length = (L ++ M).length := by rw [List.length_append]
  rw [e1] at q1 q2
  rw [← slsV_app] at q2
  exact ⟨a', c', W, S', q1, q2, q3⟩

/-! ### a slip in a block of its own -/
abbrev SlAt (w : World) (b : Nat) (x : Slp) : Prop := w.cell? ⟨b, 0, none⟩ = some (.int .i64 x.tag) ∧ w.cell? ⟨b, 1, none⟩ = some (.int .i64 x.queue) ∧ w.cell? ⟨b, 2, none⟩ = some (tx x.cons) ∧ w.cell? ⟨b, 3, none⟩ = some (.int .i64 x.id) ∧ w.cell? ⟨b, 4, none⟩ = some (.int .i64 x.body) ∧ w.cell? ⟨b, 5, none⟩ = some (.int .i64 x.size) ∧ w.cell? ⟨b, 6, none⟩ = some (tx x.exch) ∧ w.cell? ⟨b, 7, none⟩ = some (tx x.key) ∧ w.cell? ⟨b, 8, none⟩ = some (.int .i64 x.prio) ∧ w.cell? ⟨b, 9, none⟩ = some (.int .i64 x.ttl) ∧ w.cell? ⟨b, 10, none⟩ = some (.int .i64 x.til) ∧ w.cell? ⟨b, 11, none⟩ = some (.bool x.again) ∧ w.cell? ⟨b, 12, none⟩ = some (.int .i64 x.hops)
theorem SlAt.below {w' : World} (h : SlAt w b x) (hb : Below w.heap.size w w') : SlAt w' b x := by
  obtain ⟨h0, h1, h2, h3, h4, h5, h6, h7, h8, h9, h10, h11, h12⟩ := h
  exact ⟨cellUp h0 hb, cellUp h1 hb, cellUp h2 hb, cellUp h3 hb, cellUp h4 hb, cellUp h5 hb, cellUp h6 hb, cellUp h7 hb, cellUp h8 hb, cellUp h9 hb, cellUp h10 hb, cellUp h11 hb, cellUp h12 hb⟩
theorem St.slAt (h : St B w0 w H) (m : (b, slO x) ∈ H) : SlAt w b x := ⟨h.cell m rfl, h.cell m rfl, h.cell m rfl, h.cell m rfl, h.cell m rfl, h.cell m rfl, h.cell m rfl, h.cell m rfl, h.cell m rfl, h.cell m rfl, h.cell m rfl, h.cell m rfl, h.cell m rfl⟩
/-- .. with one stored into it. -/
abbrev slPut (w : World) (b : Nat) (x : Slp) : World := ((((((((((((w.setCell ⟨b, 0, none⟩ (.int .i64 x.tag)).setCell ⟨b, 1, none⟩ (.int .i64 x.queue)).setCell ⟨b, 2, none⟩ (tx x.cons)).setCell ⟨b, 3, none⟩ (.int .i64 x.id)).setCell ⟨b, 4, none⟩ (.int .i64 x.body)).setCell ⟨b, 5, none⟩ (.int .i64 x.size)).setCell ⟨b, 6, none⟩ (tx x.exch)).setCell ⟨b, 7, none⟩ (tx x.key)).setCell ⟨b, 8, none⟩ (.int .i64 x.prio)).setCell ⟨b, 9, none⟩ (.int .i64 x.ttl)).setCell ⟨b, 10, none⟩ (.int .i64 x.til)).setCell ⟨b, 11, none⟩ (.bool x.again)).setCell ⟨b, 12, none⟩ (.int .i64 x.hops)
theorem St.slPut (h : St B w0 w ((b, slO y) :: X)) : St B w0 (slPut w b x) ((b, slO x) :: X) := by
  have h10 := ((((((((((((h.set0 0 (.int .i64 x.tag)).set0 1 (.int .i64 x.queue)).set0 2 (tx x.cons)).set0 3 (.int .i64 x.id)).set0 4 (.int .i64 x.body)).set0 5 (.int .i64 x.size)).set0 6 (tx x.exch)).set0 7 (tx x.key)).set0 8 (.int .i64 x.prio)).set0 9 (.int .i64 x.ttl)).set0 10 (.int .i64 x.til)).set0 11 (.bool x.again)).set0 12 (.int .i64 x.hops)
  simp only [List.setIfInBounds_toArray, List.set_cons_zero, List.set_cons_succ] at h10
  exact h10
theorem ret_slip2 {P : Program} {fn : Func} {d : Nat} {tmps : Array Value} (hr : fn.results = #[.cell 2 33]) (h2 : tmps[2]? = some (.pointer (some ⟨d, 0, none⟩))) (q : SlAt w d x) (hP : P = Try.prog) :
    (results fn tmps).run P w = .ok (slV x) w := by
  subst hP
  obtain ⟨q0, q1, q2, q3, q4, q5, q6, q7, q8, q9, q10, q11, q12⟩ := q
  simp [results, hr, go_sem, h2, q0, q1, q2, q3, q4, q5, q6, q7, q8, q9, q10, q11, q12]
theorem ret_slip4 {P : Program} {fn : Func} {d : Nat} {ok : Bool} {tmps : Array Value} (hr : fn.results = #[.cell 4 33, .tmp 5]) (h2 : tmps[4]? = some (.pointer (some ⟨d, 0, none⟩))) (h3 : tmps[5]? = some (.bool ok)) (q : SlAt w d x) (hP : P = Try.prog) :
    (results fn tmps).run P w = .ok (.tuple #[slV x, .bool ok]) w := by
  subst hP
  obtain ⟨q0, q1, q2, q3, q4, q5, q6, q7, q8, q9, q10, q11, q12⟩ := q
  simp [results, hr, go_sem, h2, h3, q0, q1, q2, q3, q4, q5, q6, q7, q8, q9, q10, q11, q12]
end
end Go.Proofs.Ytdkchcbmhmlhnaa
