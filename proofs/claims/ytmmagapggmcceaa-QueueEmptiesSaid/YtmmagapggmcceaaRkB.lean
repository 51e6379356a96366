/- Rows of entries in memory: ten cells each; appended, read, cut. -/
import Derived.Test.YtmmagapggmcceaaEnB
import Derived.Test.YtmmagapggmcceaaAp
namespace Go.Proofs.Ytmmagapggmcceaa
open Go.RowKit
set_option linter.unusedVariables false
set_option linter.unusedSectionVars false

def ecells (e : Ent) : List Value := [.int .i64 e.id, .int .i64 e.body, .int .i64 e.size, tx e.exch, tx e.key, .int .i64 e.prio, .int .i64 e.ttl, .int .i64 e.til, .bool e.again, .int .i64 e.hops]
def entsV (L : List Ent) : List Value := L.flatMap ecells
theorem entsV_cons (e : Ent) (L : List Ent) : entsV (e :: L) = ecells e ++ entsV L := rfl
theorem entsV_app (L M : List Ent) : entsV (L ++ M) = entsV L ++ entsV M := by simp [entsV]
theorem ecells_len (e : Ent) : (ecells e).length = 10 := rfl
theorem entsV_len : ∀ (L : List Ent), (entsV L).length = L.length * 10
  | [] => rfl
  | e :: L => by rw [entsV_cons, List.length_append, ecells_len, entsV_len L, List.length_cons]; omega
theorem entsV_at : ∀ {L : List Ent} {i : Nat} {e : Ent}, L[i]? = some e → ∀ {k : Nat} {v : Value}, (ecells e)[k]? = some v → (entsV L)[i * 10 + k]? = some v
  | [], _, _, h, _, _, _ => by simp at h
  | f :: L, 0, e, h, k, v, hk => by
    simp at h
    subst h
    have := (List.getElem?_eq_some_iff.1 hk).1
    rw [entsV_cons, Nat.zero_mul, Nat.zero_add, List.getElem?_append_left this]
    exact hk
  | f :: L, i + 1, e, h, k, v, hk => by
    rw [entsV_cons, List.getElem?_append_right (by rw [ecells_len]; omega), ecells_len, show (i + 1) * 10 + k - 10 = i * 10 + k by omega]
    exact entsV_at (by simpa using h) hk
theorem ecells_one (e : Ent) : ∀ u ∈ ecells e, u.oneCell' = true := fun u hu => by
  unfold ecells at hu
  simp only [List.mem_cons, List.not_mem_nil, or_false] at hu
  rcases hu with rfl | rfl | rfl | rfl | rfl | rfl | rfl | rfl | rfl | rfl <;> rfl
theorem entsV_one (L : List Ent) : ∀ u ∈ entsV L, u.oneCell' = true := fun u hu => by
  obtain ⟨e, -, h⟩ := List.mem_flatMap.1 hu
  exact ecells_one e u h
theorem entsV_take (L : List Ent) (k : Nat) (h : k ≤ L.length) : entsV (L.take k) = (entsV L).take (k * 10) := by
  have h1 := congrArg entsV (List.take_append_drop k L)
  rw [entsV_app] at h1
  have l := entsV_len (L.take k)
  rw [List.length_take] at l
  exact (show entsV (L.take k) = (entsV (L.take k) ++ entsV (L.drop k)).take (k * 10) by
    rw [List.take_append_of_le_length (by omega), List.take_of_length_le (l := entsV (L.take k)) (by omega)]).trans (by rw [h1])
theorem entsV_drop (L : List Ent) (k : Nat) (h : k ≤ L.length) : entsV (L.drop k) = (entsV L).drop (k * 10) := by
  have h1 := congrArg entsV (List.take_append_drop k L)
  rw [entsV_app] at h1
  have l := entsV_len (L.take k)
  rw [List.length_take] at l
  exact (show entsV (L.drop k) = (entsV (L.take k) ++ entsV (L.drop k)).drop (k * 10) by
    rw [List.drop_append_of_le_length (by omega), List.drop_of_length_le (l := entsV (L.take k)) (by omega), List.nil_append]).trans (by rw [h1])

/-- An entry's cells in a row. -/
abbrev EnRow (w : World) (b o : Nat) (e : Ent) : Prop := w.cell? ⟨b, o, none⟩ = some (.int .i64 e.id) ∧ w.cell? ⟨b, o + 1, none⟩ = some (.int .i64 e.body) ∧ w.cell? ⟨b, o + 2, none⟩ = some (.int .i64 e.size) ∧ w.cell? ⟨b, o + 3, none⟩ = some (tx e.exch) ∧ w.cell? ⟨b, o + 4, none⟩ = some (tx e.key) ∧
  w.cell? ⟨b, o + 5, none⟩ = some (.int .i64 e.prio) ∧ w.cell? ⟨b, o + 6, none⟩ = some (.int .i64 e.ttl) ∧ w.cell? ⟨b, o + 7, none⟩ = some (.int .i64 e.til) ∧ w.cell? ⟨b, o + 8, none⟩ = some (.bool e.again) ∧ w.cell? ⟨b, o + 9, none⟩ = some (.int .i64 e.hops)
theorem EnRow.below {w w' : World} {b o : Nat} {e : Ent} (h : EnRow w b o e) (hb : Below w.heap.size w w') : EnRow w' b o e := by
  obtain ⟨h0, h1, h2, h3, h4, h5, h6, h7, h8, h9⟩ := h
  exact ⟨cellUp h0 hb, cellUp h1 hb, cellUp h2 hb, cellUp h3 hb, cellUp h4 hb, cellUp h5 hb, cellUp h6 hb, cellUp h7 hb, cellUp h8 hb, cellUp h9 hb⟩
/-- The slice at a reads as these entries, wherever it lies. -/
def ReadEs (w : World) (a : Option Addr) (L : List Ent) : Prop := ∀ i e, L[i]? = some e → ∃ b off, a = some ⟨b, off, none⟩ ∧ EnRow w b (off + i * 10) e
theorem ReadEs.below {w w' : World} {a : Option Addr} {L : List Ent} (h : ReadEs w a L) (hb : Below w.heap.size w w') : ReadEs w' a L := fun i e hi => by
  obtain ⟨b, off, ha, hr⟩ := h i e hi
  exact ⟨b, off, ha, hr.below hb⟩
theorem ReadEs.nil (w : World) (a : Option Addr) : ReadEs w a [] := fun i e hi => by simp at hi

theorem apE : Ap Try.prog 28 32 10 96 where
  ty := by kernel_rfl
  info := by
    have h : (Try.prog.info? 32).map (fun i => (i.zero.map fun z => z.cells.size, i.size, i.bytes)) = some (some 10, 10, 96) := by kernel_rfl
    rw [Option.map_eq_some_iff] at h
    obtain ⟨i, h1, h2⟩ := h
    simp only [Prod.mk.injEq, Option.map_eq_some_iff] at h2
    obtain ⟨⟨z, h3, h4⟩, h5, h6⟩ := h2
    exact ⟨i, z, h1, h3, h5, h6, h4⟩

/-- A slice of entries that is owned. -/
abbrev EnsIs (v : Value) (L : List Ent) (S : List (Nat × Obj)) : Prop := SlIs 32 10 v L.length (entsV L) S
theorem EnsIs.nil : EnsIs (.slice none 0 0) [] [] := SlIs.nil
section
variable {B : Nat} {w0 w : World} {S X Y F : List (Nat × Obj)} {a : Option Addr} {c c' k : Nat} {L M : List Ent} {v : Value}
theorem EnsIs.form (hs : EnsIs v L S) : ∃ a c, v = .slice a L.length c := by
  obtain ⟨a, c, e, -⟩ := SlIs.form hs
  exact ⟨a, c, e⟩
theorem EnsIs.read (hs : EnsIs (.slice a L.length c) L S) (hst : St B w0 w (X ++ S)) : ReadEs w a L := fun i e hi => by
  obtain ⟨a', c', e1, -, -, h⟩ := SlIs.form hs
  cases e1
  obtain ⟨g, off, rfl⟩ := h i (List.getElem?_eq_some_iff.1 hi).1
  refine ⟨g, off, rfl, SlIs.cellAt hs hst (entsV_at hi (k := 0) rfl), SlIs.cellAt hs hst (entsV_at hi (k := 1) rfl), SlIs.cellAt hs hst (entsV_at hi (k := 2) rfl), SlIs.cellAt hs hst (entsV_at hi (k := 3) rfl), SlIs.cellAt hs hst (entsV_at hi (k := 4) rfl),
    SlIs.cellAt hs hst (entsV_at hi (k := 5) rfl), SlIs.cellAt hs hst (entsV_at hi (k := 6) rfl), SlIs.cellAt hs hst (entsV_at hi (k := 7) rfl), SlIs.cellAt hs hst (entsV_at hi (k := 8) rfl), SlIs.cellAt hs hst (entsV_at hi (k := 9) rfl)⟩
theorem ens_push (hs : EnsIs (.slice a L.length c) L S) (hst : St B w0 w (X ++ S)) (e : Ent) (hl : L.length ≤ 100000) :
    ∃ a' c' W S', (Builtin.append_ #[28, 28] 0 #[.slice a L.length c, .slice (some ⟨w.heap.size, 0, none⟩) 1 1]).run Try.prog (w.alloc (enO e)) = .ok (.slice a' (L ++ [e]).length c') W ∧
      EnsIs (.slice a' (L ++ [e]).length c') (L ++ [e]) S' ∧ St B w0 W (X ++ S') := by
  have hst1 := hst.alloc (enO e)
  have hb := hst1.get (b := w.heap.size) (o := enO e) List.mem_cons_self
  obtain ⟨a', c', W, S', q1, q2, q3⟩ := apE.append (A := (w.heap.size, enO e) :: X) hs hst1 (Reads.block (cs := ecells e) (n := 1) (size := 10) hb rfl 1) (ecells_one _) (by unfold maxLen; omega) (by omega)
  have e1 : L.length + 1 = (L ++ [e]).length := by rw [List.length_append]; rfl
  rw [e1] at q1 q2
  rw [show entsV L ++ ecells e = entsV (L ++ [e]) by simp [entsV]] at q2
  exact ⟨a', c', W, S', q1, q2, q3.sub (List.sublist_cons_self _ _)⟩
/-- A row of them put behind. -/
theorem ens_app {a2 : Option Addr} {c2 : Nat} (hs : EnsIs (.slice a L.length c) L S) (hst : St B w0 w (X ++ S)) (h2 : EnsIs (.slice a2 M.length c2) M Y) (hst2 : St B w0 w (F ++ Y)) (hl : L.length + M.length ≤ 100000) :
    ∃ a' c' W S', (Builtin.append_ #[28, 28] 0 #[.slice a L.length c, .slice a2 M.length c2]).run Try.prog w = .ok (.slice a' (L ++ M).length c') W ∧
      EnsIs (.slice a' (L ++ M).length c') (L ++ M) S' ∧ St B w0 W (X ++ S') := by
  obtain ⟨a', c', W, S', q1, q2, q3⟩ := apE.append (A := X) hs hst (SlIs.reads (A := F) h2 hst2) (entsV_one _) (by unfold maxLen; omega) (by omega)
  have e1 : L.length + M.length = (L ++ M).length := by rw [List.length_append]
  rw [e1] at q1 q2
  rw [← entsV_app] at q2
  exact ⟨a', c', W, S', q1, q2, q3⟩
end
end Go.Proofs.Ytmmagapggmcceaa
