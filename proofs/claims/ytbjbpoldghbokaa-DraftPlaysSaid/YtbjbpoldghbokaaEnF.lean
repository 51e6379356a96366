/- Rows of entries in memory: ten cells each; appended, read, cut, made, filled. -/
import Derived.Test.YtbjbpoldghbokaaEnE
import Derived.Test.YtbjbpoldghbokaaAp
namespace Go.Proofs.Ytbjbpoldghbokaa
open Go.RowKit
open Go.ChangeMaps (setBlock)
set_option linter.unusedVariables false
set_option linter.unusedSectionVars false
set_option linter.unusedSimpArgs false
set_option maxRecDepth 100000

def ecells (e : Ent) : List Value := [.int .i64 e.id, .int .i64 e.body, .int .i64 e.size, tx e.exch, tx e.key, .int .i64 e.prio, .int .i64 e.ttl, .int .i64 e.til, .bool e.again, .int .i64 e.hops]
def entsV (L : List Ent) : List Value := L.flatMap ecells
theorem entsV_cons (e : Ent) (L : List Ent) : entsV (e :: L) = ecells e ++ entsV L := rfl
theorem entsV_app (L M : List Ent) : entsV (L ++ M) = entsV L ++ entsV M := by simp [entsV]
theorem ecells_len (e : Ent) : (ecells e).length = 10 := rfl
theorem entsV_len : ∀ (L : List Ent), (entsV L).length = L.length * 10
  | [] => rfl
  | e :: L => by rw [entsV_cons, List.length_append, ecells_len, entsV_len L, List.length_cons]; omega
theorem entsV_at : ∀ {L : List Ent} {i : Nat} {e : Ent}, L[i]? = some e → ∀ {k : Nat} {v : Value}, (ecells e)[k]? = some v → (entsV L)[i * 10 + k]? = some v
  | [], _, _, h, _, _, _ => by simp at h
  | f :: L, 0, e, h, k, v, hk => by
    simp at h
    subst h
    have := (List.getElem?_eq_some_iff.1 hk).1
    rw [entsV_cons, Nat.zero_mul, Nat.zero_add, List.getElem?_append_left this]
    exact hk
  | f :: L, i + 1, e, h, k, v, hk => by
    rw [entsV_cons, List.getElem?_append_right (by rw [ecells_len]; omega), ecells_len, show (i + 1) * 10 + k - 10 = i * 10 + k by omega]
    exact entsV_at (by simpa using h) hk
theorem ecells_one (e : Ent) : ∀ u ∈ ecells e, u.oneCell' = true := fun u hu => by
  unfold ecells at hu
  simp only [List.mem_cons, List.not_mem_nil, or_false] at hu
  rcases hu with rfl | rfl | rfl | rfl | rfl | rfl | rfl | rfl | rfl | rfl <;> rfl
theorem entsV_one (L : List Ent) : ∀ u ∈ entsV L, u.oneCell' = true := fun u hu => by
  obtain ⟨e, -, h⟩ := List.mem_flatMap.1 hu
  exact ecells_one e u h
theorem entsV_take (L : List Ent) (k : Nat) (h : k ≤ L.length) : entsV (L.take k) = (entsV L).take (k * 10) := by
  have h1 := congrArg entsV (List.take_append_drop k L)
  rw [entsV_app] at h1
  have l := entsV_len (L.take k)
  rw [List.length_take] at l
  exact (show entsV (L.take k) = (entsV (L.take k) ++ entsV (L.drop k)).take (k * 10) by
    rw [List.take_append_of_le_length (by omega), List.take_of_length_le (l := entsV (L.take k)) (by omega)]).trans (by rw [h1])
theorem entsV_drop (L : List Ent) (k : Nat) (h : k ≤ L.length) : entsV (L.drop k) = (entsV L).drop (k * 10) := by
  have h1 := congrArg entsV (List.take_append_drop k L)
  rw [entsV_app] at h1
  have l := entsV_len (L.take k)
  rw [List.length_take] at l
  exact (show entsV (L.drop k) = (entsV (L.take k) ++ entsV (L.drop k)).drop (k * 10) by
    rw [List.drop_append_of_le_length (by omega), List.drop_of_length_le (l := entsV (L.take k)) (by omega), List.nil_append]).trans (by rw [h1])

/-- An entry's cells in a row. -/
abbrev EnRow (w : World) (b o : Nat) (e : Ent) : Prop := w.cell? ⟨b, o, none⟩ = some (.int .i64 e.id) ∧ w.cell? ⟨b, o + 1, none⟩ = some (.int .i64 e.body) ∧ w.cell? ⟨b, o + 2, none⟩ = some (.int .i64 e.size) ∧ w.cell? ⟨b, o + 3, none⟩ = some (tx e.exch) ∧ w.cell? ⟨b, o + 4, none⟩ = some (tx e.key) ∧
  w.cell? ⟨b, o + 5, none⟩ = some (.int .i64 e.prio) ∧ w.cell? ⟨b, o + 6, none⟩ = some (.int .i64 e.ttl) ∧ w.cell? ⟨b, o + 7, none⟩ = some (.int .i64 e.til) ∧ w.cell? ⟨b, o + 8, none⟩ = some (.bool e.again) ∧ w.cell? ⟨b, o + 9, none⟩ = some (.int .i64 e.hops)
theorem EnRow.below {w w' : World} {b o : Nat} {e : Ent} (h : EnRow w b o e) (hb : Below w.heap.size w w') : EnRow w' b o e := by
  obtain ⟨h0, h1, h2, h3, h4, h5, h6, h7, h8, h9⟩ := h
  exact ⟨cellUp h0 hb, cellUp h1 hb, cellUp h2 hb, cellUp h3 hb, cellUp h4 hb, cellUp h5 hb, cellUp h6 hb, cellUp h7 hb, cellUp h8 hb, cellUp h9 hb⟩
/-- The slice at a reads as these entries, wherever it lies. -/
def ReadEs (w : World) (a : Option Addr) (L : List Ent) : Prop := ∀ i e, L[i]? = some e → ∃ b off, a = some ⟨b, off, none⟩ ∧ EnRow w b (off + i * 10) e
theorem ReadEs.below {w w' : World} {a : Option Addr} {L : List Ent} (h : ReadEs w a L) (hb : Below w.heap.size w w') : ReadEs w' a L := fun i e hi => by
  obtain ⟨b, off, ha, hr⟩ := h i e hi
  exact ⟨b, off, ha, hr.below hb⟩
theorem ReadEs.nil (w : World) (a : Option Addr) : ReadEs w a [] := fun i e hi => by simp at hi

theorem apE : Ap Try.prog 26 30 10 96 where
  ty := by kernel_rfl
  info := by
    have h : (Try.prog.info? 30).map (fun i => (i.zero.map fun z => z.cells.size, i.size, i.bytes)) = some (some 10, 10, 96) := by kernel_rfl
    rw [Option.map_eq_some_iff] at h
    obtain ⟨i, h1, h2⟩ := h
    simp only [Prod.mk.injEq, Option.map_eq_some_iff] at h2
    obtain ⟨⟨z, h3, h4⟩, h5, h6⟩ := h2
    exact ⟨i, z, h1, h3, h5, h6, h4⟩

/-- A slice of entries that is owned. -/
abbrev EnsIs (v : Value) (L : List Ent) (S : List (Nat × Obj)) : Prop := SlIs 30 10 v L.length (entsV L) S
theorem EnsIs.nil : EnsIs (.slice none 0 0) [] [] := SlIs.nil
section
variable {B : Nat} {w0 w : World} {S X Y F : List (Nat × Obj)} {a : Option Addr} {c c' k : Nat} {L M : List Ent} {v : Value}
theorem EnsIs.form (hs : EnsIs v L S) : ∃ a c, v = .slice a L.length c := by
  obtain ⟨a, c, e, -⟩ := SlIs.form hs
  exact ⟨a, c, e⟩
theorem EnsIs.read (hs : EnsIs (.slice a L.length c) L S) (hst : St B w0 w (X ++ S)) : ReadEs w a L := fun i e hi => by
  obtain ⟨a', c', e1, -, -, h⟩ := SlIs.form hs
  cases e1
  obtain ⟨g, off, rfl⟩ := h i (List.getElem?_eq_some_iff.1 hi).1
  refine ⟨g, off, rfl, SlIs.cellAt hs hst (entsV_at hi (k := 0) rfl), SlIs.cellAt hs hst (entsV_at hi (k := 1) rfl), SlIs.cellAt hs hst (entsV_at hi (k := 2) rfl), SlIs.cellAt hs hst (entsV_at hi (k := 3) rfl), SlIs.cellAt hs hst (entsV_at hi (k := 4) rfl),
    SlIs.cellAt hs hst (entsV_at hi (k := 5) rfl), SlIs.cellAt hs hst (entsV_at hi (k := 6) rfl), SlIs.cellAt hs hst (entsV_at hi (k := 7) rfl), SlIs.cellAt hs hst (entsV_at hi (k := 8) rfl), SlIs.cellAt hs hst (entsV_at hi (k := 9) rfl)⟩
theorem ens_push (hs : EnsIs (.slice a L.length c) L S) (hst : St B w0 w (X ++ S)) (e : Ent) (hl : L.length ≤ 100000) :
    ∃ a' c' W S', (Builtin.append_ #[26, 26] 0 #[.slice a L.length c, .slice (some ⟨w.heap.size, 0, none⟩) 1 1]).run Try.prog (w.alloc (enO e)) = .ok (.slice a' (L ++ [e]).length c') W ∧
      EnsIs (.slice a' (L ++ [e]).length c') (L ++ [e]) S' ∧ St B w0 W (X ++ S') := by
  have hst1 := hst.alloc (enO e)
  have hb := hst1.get (b := w.heap.size) (o := enO e) List.mem_cons_self
  obtain ⟨a', c', W, S', q1, q2, q3⟩ := apE.append (A := (w.heap.size, enO e) :: X) hs hst1 (Reads.block (cs := ecells e) (n := 1) (size := 10) hb rfl 1) (ecells_one _) (by unfold maxLen; omega) (by omega)
  have e1 : L.length + 1 = (L ++ [e]).length := by rw [List.length_append]; rfl
  rw [e1] at q1 q2
  rw [show entsV L ++ ecells e = entsV (L ++ [e]) by simp [entsV]] at q2
  exact ⟨a', c', W, S', q1, q2, q3.sub (List.sublist_cons_self _ _)⟩
/-- A row of them put behind. -/
theorem ens_app {a2 : Option Addr} {c2 : Nat} (hs : EnsIs (.slice a L.length c) L S) (hst : St B w0 w (X ++ S)) (h2 : EnsIs (.slice a2 M.length c2) M Y) (hst2 : St B w0 w (F ++ Y)) (hl : L.length + M.length ≤ 100000) :
    ∃ a' c' W S', (Builtin.append_ #[26, 26] 0 #[.slice a L.length c, .slice a2 M.length c2]).run Try.prog w = .ok (.slice a' (L ++ M).length c') W ∧
      EnsIs (.slice a' (L ++ M).length c') (L ++ M) S' ∧ St B w0 W (X ++ S') := by
  obtain ⟨a', c', W, S', q1, q2, q3⟩ := apE.append (A := X) hs hst (SlIs.reads (A := F) h2 hst2) (entsV_one _) (by unfold maxLen; omega) (by omega)
  have e1 : L.length + M.length = (L ++ M).length := by rw [List.length_append]
  rw [e1] at q1 q2
  rw [← entsV_app] at q2
  exact ⟨a', c', W, S', q1, q2, q3⟩
end
abbrev ensO (L : List Ent) : Obj := .cells (entsV L).toArray 30
theorem uEnts : Try.prog.underlying 26 = some (.slice 30) := by kernel_rfl
theorem infEnt : (Try.prog.info? 30).map (fun i => (i.zero, i.size, i.bytes)) = some (some (enV z0E), 10, 96) := by kernel_rfl
theorem made_ents : ∀ (n : Nat), (madeCells (enV z0E).cells (n * 10)).toList = entsV (List.replicate n z0E)
  | 0 => by simp [madeCells, entsV]
  | n + 1 => by
    have ih := made_ents n
    unfold madeCells at ih ⊢
    rw [Array.toList_map, Array.toList_range] at ih ⊢
    have hz : (enV z0E).cells.size = 10 := rfl
    rw [show (n + 1) * 10 = n * 10 + 10 by omega, List.range_add, List.map_append, ih, List.map_map, List.replicate_succ', entsV_app]
    congr 1
    have : (fun j => (enV z0E).cells[j % (enV z0E).cells.size]!) ∘ (fun x => n * 10 + x) = fun k => (enV z0E).cells[k % 10]! := by
      funext k
      simp only [Function.comp_apply, hz]
      congr 1
      omega
    rw [this]
    rfl
theorem mk_ents (w : World) (n : Nat) (h1 : n ≤ 100000) :
    (Instr.makeSlice 26 (.int .i64 n) (.int .i64 n)).run Try.prog w = .ok (.slice (some ⟨w.heap.size, 0, none⟩) n n) (w.alloc (ensO (List.replicate n z0E))) := by
  obtain ⟨i0, hi, hz0, hz1, hz2⟩ := info_parts infEnt
  have h := run_make (P := Try.prog) w 26 30 i0 (enV z0E) uEnts hi hz0 .i64 .i64 n n (by omega) (Int.le_refl _) (by rw [hz2]; omega) (by omega)
  rw [h]
  congr 2
  unfold ensO
  congr 1
  apply Array.toList_inj.1
  rw [hz1, Int.toNat_natCast, made_ents]

/-- An entry stored into a row. -/
abbrev enPutAt (w : World) (b o : Nat) (e : Ent) : World := (((((((((w.setCell ⟨b, o, none⟩ (.int .i64 e.id)).setCell ⟨b, o + 1, none⟩ (.int .i64 e.body)).setCell ⟨b, o + 2, none⟩ (.int .i64 e.size)).setCell ⟨b, o + 3, none⟩ (tx e.exch)).setCell ⟨b, o + 4, none⟩ (tx e.key)).setCell ⟨b, o + 5, none⟩ (.int .i64 e.prio)).setCell ⟨b, o + 6, none⟩ (.int .i64 e.ttl)).setCell ⟨b, o + 7, none⟩ (.int .i64 e.til)).setCell ⟨b, o + 8, none⟩ (.bool e.again)).setCell ⟨b, o + 9, none⟩ (.int .i64 e.hops)
theorem ents_set {L : List Ent} {i : Nat} (hi : i < L.length) (e : Ent) :
    ((((((((((entsV L).set (i * 10) (.int .i64 e.id)).set (i * 10 + 1) (.int .i64 e.body)).set (i * 10 + 2) (.int .i64 e.size)).set (i * 10 + 3) (tx e.exch)).set (i * 10 + 4) (tx e.key)).set (i * 10 + 5) (.int .i64 e.prio)).set (i * 10 + 6) (.int .i64 e.ttl)).set (i * 10 + 7) (.int .i64 e.til)).set (i * 10 + 8) (.bool e.again)).set (i * 10 + 9) (.int .i64 e.hops) = entsV (L.set i e) := by
  have h1 : L = L.take i ++ L[i] :: L.drop (i + 1) := by rw [← List.drop_eq_getElem_cons hi, List.take_append_drop]
  have hl : (entsV (L.take i)).length = i * 10 := by rw [entsV_len, List.length_take]; omega
  have h2 : L.set i e = L.take i ++ e :: L.drop (i + 1) := by rw [List.set_eq_take_append_cons_drop, if_pos hi]
  have h3 : entsV L = entsV (L.take i) ++ (ecells L[i] ++ entsV (L.drop (i + 1))) := by
    have := congrArg entsV h1
    rw [entsV_app, entsV_cons] at this
    exact this
  rw [h2, entsV_app, entsV_cons, h3, ← hl]
  have key : ∀ (A C : List Value) (k : Nat) (v : Value), (A ++ C).set (A.length + k) v = A ++ C.set k v := fun A C k v => by
    rw [List.set_append_right _ _ (Nat.le_add_right _ _), Nat.add_sub_cancel_left]
  have key0 : ∀ (A C : List Value) (v : Value), (A ++ C).set A.length v = A ++ C.set 0 v := fun A C v => key A C 0 v
  rw [key0, key, key, key, key, key, key, key, key, key]
  rfl
theorem St.rowPut {B : Nat} {w0 w : World} {t : Nat} {L : List Ent} {C : List (Nat × Obj)} {i : Nat} (h : St B w0 w ((t, ensO L) :: C)) (hi : i < L.length) (e : Ent) : St B w0 (enPutAt w t (i * 10) e) ((t, ensO (L.set i e)) :: C) := by
  have h10 := (((((((((h.set0 (i * 10) (.int .i64 e.id)).set0 (i * 10 + 1) (.int .i64 e.body)).set0 (i * 10 + 2) (.int .i64 e.size)).set0 (i * 10 + 3) (tx e.exch)).set0 (i * 10 + 4) (tx e.key)).set0 (i * 10 + 5) (.int .i64 e.prio)).set0 (i * 10 + 6) (.int .i64 e.ttl)).set0 (i * 10 + 7) (.int .i64 e.til)).set0 (i * 10 + 8) (.bool e.again)).set0 (i * 10 + 9) (.int .i64 e.hops)
  simp only [List.setIfInBounds_toArray] at h10
  rw [ents_set hi e] at h10
  exact h10
theorem St.rowAt {B : Nat} {w0 w : World} {t : Nat} {L : List Ent} {H : List (Nat × Obj)} {i : Nat} {e : Ent} (h : St B w0 w H) (hm : (t, ensO L) ∈ H) (hi : L[i]? = some e) : EnRow w t (i * 10) e := by
  have key : ∀ {k : Nat} {v : Value}, (ecells e)[k]? = some v → w.cell? ⟨t, i * 10 + k, none⟩ = some v := fun hk => h.cell hm (by rw [List.getElem?_toArray]; exact entsV_at hi hk)
  exact ⟨key (k := 0) rfl, key (k := 1) rfl, key (k := 2) rfl, key (k := 3) rfl, key (k := 4) rfl, key (k := 5) rfl, key (k := 6) rfl, key (k := 7) rfl, key (k := 8) rfl, key (k := 9) rfl⟩

def fillE (E : List Ent) (i : Nat) : List Ent := E.take i ++ List.replicate (E.length - i) z0E
theorem fill_zero (E : List Ent) : fillE E 0 = List.replicate E.length z0E := by simp [fillE]
theorem fill_all (E : List Ent) : fillE E E.length = E := by simp [fillE]
theorem fill_len {E : List Ent} {i : Nat} (h : i ≤ E.length) : (fillE E i).length = E.length := by
  unfold fillE
  rw [List.length_append, List.length_take, List.length_replicate]
  omega
theorem fill_at {E : List Ent} {i : Nat} (h : i < E.length) : (fillE E i)[i]? = some z0E := by
  unfold fillE
  rw [List.getElem?_append_right (by rw [List.length_take]; omega), List.length_take, Nat.min_eq_left (by omega), Nat.sub_self, List.getElem?_replicate, if_pos (by omega)]
theorem fill_set {E : List Ent} {i : Nat} {x : Ent} (h : E[i]? = some x) : (fillE E i).set i x = fillE E (i + 1) := by
  have hi := (List.getElem?_eq_some_iff.1 h).1
  unfold fillE
  have hl : (E.take i).length = i := by rw [List.length_take]; omega
  rw [List.set_append_right _ _ (by omega), hl, Nat.sub_self, show E.length - i = (E.length - (i + 1)) + 1 by omega, List.replicate_succ, List.set_cons_zero, List.take_add_one, h, List.append_assoc]
  rfl
theorem EnsIs.made (t : Nat) (E : List Ent) (h : E.length ≤ 100000) : EnsIs (.slice (some ⟨t, 0, none⟩) E.length E.length) E [(t, ensO E)] := SlIs.made (entsV_len E) (by unfold maxLen; omega)
end Go.Proofs.Ytbjbpoldghbokaa
