/- A draft in memory: publishes of eleven cells each, acks of two, the tags of the acks. -/
import Derived.Test.YtbjbpoldghbokaaEnF
import Derived.Test.YtbjbpoldghbokaaSpM
namespace Go.Proofs.Ytbjbpoldghbokaa
open Go.RowKit
open Go.ChangeMaps (setBlock)
set_option linter.unusedVariables false
set_option linter.unusedSectionVars false
set_option linter.unusedSimpArgs false
set_option maxRecDepth 100000

/-! ### publishes -/
def pucells (p : Ent × Int) : List Value := ecells p.1 ++ [.int .i64 p.2]
def pubsV (L : List (Ent × Int)) : List Value := L.flatMap pucells
abbrev puV (e : Ent) (b : Int) : Value := .agg #[.int .i64 e.id, .int .i64 e.body, .int .i64 e.size, tx e.exch, tx e.key, .int .i64 e.prio, .int .i64 e.ttl, .int .i64 e.til, .bool e.again, .int .i64 e.hops, .int .i64 b]
abbrev puO (e : Ent) (b : Int) : Obj := .cells #[.int .i64 e.id, .int .i64 e.body, .int .i64 e.size, tx e.exch, tx e.key, .int .i64 e.prio, .int .i64 e.ttl, .int .i64 e.til, .bool e.again, .int .i64 e.hops, .int .i64 b] 51
theorem pubsV_cons (p : Ent × Int) (L : List (Ent × Int)) : pubsV (p :: L) = pucells p ++ pubsV L := rfl
theorem pubsV_app (L M : List (Ent × Int)) : pubsV (L ++ M) = pubsV L ++ pubsV M := by simp [pubsV]
theorem pucells_len (p : Ent × Int) : (pucells p).length = 11 := rfl
theorem pubsV_len : ∀ (L : List (Ent × Int)), (pubsV L).length = L.length * 11
  | [] => rfl
  | p :: L => by rw [pubsV_cons, List.length_append, pucells_len, pubsV_len L, List.length_cons]; omega
theorem pubsV_at : ∀ {L : List (Ent × Int)} {i : Nat} {p : Ent × Int}, L[i]? = some p → ∀ {k : Nat} {v : Value}, (pucells p)[k]? = some v → (pubsV L)[i * 11 + k]? = some v
  | [], _, _, h, _, _, _ => by simp at h
  | f :: L, 0, p, h, k, v, hk => by
    simp at h
    subst h
    have := (List.getElem?_eq_some_iff.1 hk).1
    rw [pubsV_cons, Nat.zero_mul, Nat.zero_add, List.getElem?_append_left this]
    exact hk
  | f :: L, i + 1, p, h, k, v, hk => by
    rw [pubsV_cons, List.getElem?_append_right (by rw [pucells_len]; omega), pucells_len, show (i + 1) * 11 + k - 11 = i * 11 + k by omega]
    exact pubsV_at (by simpa using h) hk
theorem pubsV_one (L : List (Ent × Int)) : ∀ u ∈ pubsV L, u.oneCell' = true := fun u hu => by
  obtain ⟨p, -, h⟩ := List.mem_flatMap.1 hu
  rcases List.mem_append.1 h with h | h
  · exact ecells_one _ u h
  · obtain rfl := List.mem_singleton.1 h
    rfl
theorem pucells_one (p : Ent × Int) : ∀ u ∈ pucells p, u.oneCell' = true := fun u hu => pubsV_one [p] u (by rw [pubsV_cons]; exact List.mem_append_left _ hu)
theorem apPu : Ap Try.prog 45 51 11 104 where
  ty := by kernel_rfl
  info := by
    have h : (Try.prog.info? 51).map (fun i => (i.zero.map fun z => z.cells.size, i.size, i.bytes)) = some (some 11, 11, 104) := by kernel_rfl
    rw [Option.map_eq_some_iff] at h
    obtain ⟨i, h1, h2⟩ := h
    simp only [Prod.mk.injEq, Option.map_eq_some_iff] at h2
    obtain ⟨⟨z, h3, h4⟩, h5, h6⟩ := h2
    exact ⟨i, z, h1, h3, h5, h6, h4⟩
abbrev PubsIs (v : Value) (L : List (Ent × Int)) (S : List (Nat × Obj)) : Prop := SlIs 51 11 v L.length (pubsV L) S

/-! ### pairs -/
def prsV (L : List (Int × Int)) : List Value := L.flatMap fun r => [.int .i64 r.1, .int .i64 r.2]
abbrev prsO (L : List (Int × Int)) : Obj := .cells (prsV L).toArray 35
abbrev prO (t b : Int) : Obj := .cells #[.int .i64 t, .int .i64 b] 35
theorem prsV_cons (r : Int × Int) (L : List (Int × Int)) : prsV (r :: L) = [.int .i64 r.1, .int .i64 r.2] ++ prsV L := rfl
theorem prsV_app (L M : List (Int × Int)) : prsV (L ++ M) = prsV L ++ prsV M := by simp [prsV]
theorem prsV_len : ∀ (L : List (Int × Int)), (prsV L).length = L.length * 2
  | [] => rfl
  | r :: L => by rw [prsV_cons, List.length_append, prsV_len L, List.length_cons]; simp; omega
theorem prsV_at : ∀ {L : List (Int × Int)} {i : Nat} {r : Int × Int}, L[i]? = some r → (prsV L)[i * 2]? = some (.int .i64 r.1) ∧ (prsV L)[i * 2 + 1]? = some (.int .i64 r.2)
  | [], _, _, h => by simp at h
  | f :: L, 0, r, h => by simp at h; subst h; exact ⟨rfl, rfl⟩
  | f :: L, i + 1, r, h => by
    obtain ⟨h1, h2⟩ := prsV_at (L := L) (i := i) (r := r) (by simpa using h)
    rw [prsV_cons]
    rw [show (i + 1) * 2 + 1 = (i * 2 + 1) + 2 by omega, show (i + 1) * 2 = i * 2 + 2 by omega]
    exact ⟨by simpa using h1, by simpa using h2⟩
theorem prsV_one (L : List (Int × Int)) : ∀ u ∈ prsV L, u.oneCell' = true := fun u hu => by
  obtain ⟨r, -, h⟩ := List.mem_flatMap.1 hu
  simp only [List.mem_cons, List.not_mem_nil, or_false] at h
  rcases h with rfl | rfl <;> rfl
theorem apPr : Ap Try.prog 28 35 2 16 where
  ty := by kernel_rfl
  info := by
    have h : (Try.prog.info? 35).map (fun i => (i.zero.map fun z => z.cells.size, i.size, i.bytes)) = some (some 2, 2, 16) := by kernel_rfl
    rw [Option.map_eq_some_iff] at h
    obtain ⟨i, h1, h2⟩ := h
    simp only [Prod.mk.injEq, Option.map_eq_some_iff] at h2
    obtain ⟨⟨z, h3, h4⟩, h5, h6⟩ := h2
    exact ⟨i, z, h1, h3, h5, h6, h4⟩
abbrev PrsIs (v : Value) (L : List (Int × Int)) (S : List (Nat × Obj)) : Prop := SlIs 35 2 v L.length (prsV L) S
theorem PrsIs.made (t : Nat) (E : List (Int × Int)) (h : E.length ≤ 100000) : PrsIs (.slice (some ⟨t, 0, none⟩) E.length E.length) E [(t, prsO E)] := SlIs.made (prsV_len E) (by unfold maxLen; omega)

section
variable {B : Nat} {w0 w : World} {S X Y F : List (Nat × Obj)} {a : Option Addr} {c : Nat} {L : List (Ent × Int)} {M : List (Int × Int)} {v : Value}
theorem PubsIs.form (hs : PubsIs v L S) : ∃ a c, v = .slice a L.length c := by
  obtain ⟨a, c, e, -⟩ := SlIs.form hs
  exact ⟨a, c, e⟩
theorem PrsIs.form (hs : PrsIs v M S) : ∃ a c, v = .slice a M.length c := by
  obtain ⟨a, c, e, -⟩ := SlIs.form hs
  exact ⟨a, c, e⟩
theorem pubs_push (hs : PubsIs (.slice a L.length c) L S) (hst : St B w0 w (S ++ Y)) (e : Ent) (b : Int) (hl : L.length ≤ 100000) :
    ∃ a' c' W S', (Builtin.append_ #[45, 45] 0 #[.slice a L.length c, .slice (some ⟨w.heap.size, 0, none⟩) 1 1]).run Try.prog (w.alloc (puO e b)) = .ok (.slice a' (L ++ [(e, b)]).length c') W ∧ PubsIs (.slice a' (L ++ [(e, b)]).length c') (L ++ [(e, b)]) S' ∧ St B w0 W (S' ++ Y) := by
  have p1 : ∀ S : List (Nat × Obj), (S ++ Y).Perm (Y ++ S) := fun S => List.perm_append_comm
  have hst1 := (hst.perm (p1 _)).alloc (puO e b)
  have hb := hst1.get (b := w.heap.size) (o := puO e b) List.mem_cons_self
  obtain ⟨a', c', W, S', q1, q2, q3⟩ := apPu.append (A := (w.heap.size, puO e b) :: Y) hs hst1 (Reads.block (cs := pucells (e, b)) (n := 1) (size := 11) hb rfl 1) (pucells_one _) (by unfold maxLen; omega) (by omega)
  have e1 : L.length + 1 = (L ++ [(e, b)]).length := by rw [List.length_append]; rfl
  rw [e1] at q1 q2
  rw [show pubsV L ++ pucells (e, b) = pubsV (L ++ [(e, b)]) by simp [pubsV]] at q2
  exact ⟨a', c', W, S', q1, q2, (q3.sub (List.sublist_cons_self _ _)).perm (p1 _).symm⟩
theorem prs_push (hs : PrsIs (.slice a M.length c) M S) (hst : St B w0 w (S ++ Y)) (t b : Int) (hl : M.length ≤ 100000) :
    ∃ a' c' W S', (Builtin.append_ #[28, 28] 0 #[.slice a M.length c, .slice (some ⟨w.heap.size, 0, none⟩) 1 1]).run Try.prog (w.alloc (prO t b)) = .ok (.slice a' (M ++ [(t, b)]).length c') W ∧ PrsIs (.slice a' (M ++ [(t, b)]).length c') (M ++ [(t, b)]) S' ∧ St B w0 W (S' ++ Y) := by
  have p1 : ∀ S : List (Nat × Obj), (S ++ Y).Perm (Y ++ S) := fun S => List.perm_append_comm
  have hst1 := (hst.perm (p1 _)).alloc (prO t b)
  have hb := hst1.get (b := w.heap.size) (o := prO t b) List.mem_cons_self
  obtain ⟨a', c', W, S', q1, q2, q3⟩ := apPr.append (A := (w.heap.size, prO t b) :: Y) hs hst1 (Reads.block (cs := prsV [(t, b)]) (n := 1) (size := 2) hb rfl 1) (prsV_one _) (by unfold maxLen; omega) (by omega)
  have e1 : M.length + 1 = (M ++ [(t, b)]).length := by rw [List.length_append]; rfl
  rw [e1] at q1 q2
  rw [← prsV_app] at q2
  exact ⟨a', c', W, S', q1, q2, (q3.sub (List.sublist_cons_self _ _)).perm (p1 _).symm⟩
/-- What lies of it, wherever. -/
def ReadPu (w : World) (a : Option Addr) (L : List (Ent × Int)) : Prop := ∀ i p, L[i]? = some p → ∃ b o, a = some ⟨b, o, none⟩ ∧ EnRow w b (o + i * 11) p.1 ∧ w.cell? ⟨b, o + i * 11 + 10, none⟩ = some (.int .i64 p.2)
def ReadPr (w : World) (a : Option Addr) (M : List (Int × Int)) : Prop := ∀ i p, M[i]? = some p → ∃ b o, a = some ⟨b, o, none⟩ ∧ w.cell? ⟨b, o + i * 2, none⟩ = some (.int .i64 p.1) ∧ w.cell? ⟨b, o + i * 2 + 1, none⟩ = some (.int .i64 p.2)
theorem ReadPr.below {w' : World} (h : ReadPr w a M) (hb : Below w.heap.size w w') : ReadPr w' a M := fun i p hi => by
  obtain ⟨b, off, ha, h1, h2⟩ := h i p hi
  exact ⟨b, off, ha, cellUp h1 hb, cellUp h2 hb⟩
theorem PubsIs.read (hs : PubsIs (.slice a L.length c) L S) (hst : St B w0 w (X ++ S)) : ReadPu w a L := fun i p hi => by
  obtain ⟨a', c', e1, -, -, h⟩ := SlIs.form hs
  cases e1
  obtain ⟨g, off, rfl⟩ := h i (List.getElem?_eq_some_iff.1 hi).1
  have key : ∀ {k : Nat} {v : Value}, (pucells p)[k]? = some v → w.cell? ⟨g, off + i * 11 + k, none⟩ = some v := fun hk => by
    rw [Nat.add_assoc]
    exact SlIs.cellAt hs hst (pubsV_at hi hk)
  exact ⟨g, off, rfl, ⟨key (k := 0) rfl, key (k := 1) rfl, key (k := 2) rfl, key (k := 3) rfl, key (k := 4) rfl, key (k := 5) rfl, key (k := 6) rfl, key (k := 7) rfl, key (k := 8) rfl, key (k := 9) rfl⟩, key (k := 10) rfl⟩
theorem PrsIs.read (hs : PrsIs (.slice a M.length c) M S) (hst : St B w0 w (X ++ S)) : ReadPr w a M := fun i p hi => by
  obtain ⟨a', c', e1, -, -, h⟩ := SlIs.form hs
  cases e1
  obtain ⟨g, off, rfl⟩ := h i (List.getElem?_eq_some_iff.1 hi).1
  exact ⟨g, off, rfl, SlIs.cellAt hs hst (prsV_at hi).1, SlIs.cellAt hs hst (prsV_at hi).2⟩
end

/-! ### the draft -/
abbrev dptr (b : Nat) : Value := .pointer (some ⟨b, 0, none⟩)
theorem uTags : Try.prog.underlying 46 = some (.map 3 52) := by kernel_rfl
theorem zTag (w : World) : (zeroValue 52).run Try.prog w = .ok (.agg #[]) w := Try.zeroValue52 w
theorem uEqTags (w : World) (m : Option Nat) : (binOp .eql 46 (.map m) (.map none)).run Try.prog w = .ok (.bool m.isNone) w := by
  simp only [binOp]
  simp [run_equal_map_nil w 46 _ _ m uTags]
def tagG (A : List (Int × Int)) : Int → Option Value := fun k => if k ∈ A.map (·.1) then some (.agg #[]) else none
theorem tagG_getD (A : List (Int × Int)) (k : Int) : (tagG A k).getD (.agg #[]) = .agg #[] := by unfold tagG; split <;> rfl
theorem tagG_isSome (A : List (Int × Int)) (k : Int) : (tagG A k).isSome = decide (k ∈ A.map (·.1)) := by unfold tagG; split <;> simp [*]
theorem tagG_snoc (A : List (Int × Int)) (t b : Int) (k : Int) : updG (tagG A) t (some (.agg #[])) k = tagG (A ++ [(t, b)]) k := by
  unfold updG tagG
  simp only [List.map_append, List.map_cons, List.map_nil, List.mem_append, List.mem_singleton]
  by_cases h1 : k = t
  · rw [if_pos h1, if_pos (.inr h1)]
  · rw [if_neg h1]
    by_cases h2 : k ∈ List.map (fun x => x.1) A
    · rw [if_pos h2, if_pos (.inl h2)]
    · rw [if_neg h2, if_neg fun h => h.elim h2 h1]
def TagsIs (m : Option Nat) (A : List (Int × Int)) (X : List (Nat × Obj)) : Prop := (m = none ∧ A = [] ∧ X = []) ∨ ∃ mb es clk, m = some mb ∧ MapFn es clk (tagG A) ∧ X = [(mb, .map (entsE encI es) clk)]
abbrev drO (pv av : Value) (m : Option Nat) : Obj := .cells #[pv, av, .map m] 48
def DrIs (B : Nat) (w0 w : World) (db : Nat) (P : List (Ent × Int)) (A : List (Int × Int)) (F : List (Nat × Obj)) : Prop :=
  ∃ a1 c1 a2 c2 m S1 S2 X, PubsIs (.slice a1 P.length c1) P S1 ∧ PrsIs (.slice a2 A.length c2) A S2 ∧ TagsIs m A X ∧ St B w0 w ((db, drO (.slice a1 P.length c1) (.slice a2 A.length c2) m) :: (S1 ++ (S2 ++ (X ++ F))))
section
variable {B : Nat} {w0 w w' : World} {db : Nat} {F F' S : List (Nat × Obj)} {P : List (Ent × Int)} {A : List (Int × Int)}
theorem DrIs.beside (h : DrIs B w0 w db P A F) : ∃ Z, St B w0 w (Z ++ F) ∧ ∀ w' F', St B w0 w' (Z ++ F') → DrIs B w0 w' db P A F' := by
  obtain ⟨a1, c1, a2, c2, m, S1, S2, X, h1, h2, h3, h4⟩ := h
  have e : ∀ F : List (Nat × Obj), (db, drO (.slice a1 P.length c1) (.slice a2 A.length c2) m) :: (S1 ++ (S2 ++ (X ++ F))) = ((db, drO (.slice a1 P.length c1) (.slice a2 A.length c2) m) :: (S1 ++ (S2 ++ X))) ++ F := fun F => by simp
  rw [e] at h4
  exact ⟨_, h4, fun w' F' h => ⟨a1, c1, a2, c2, m, S1, S2, X, h1, h2, h3, by rw [e]; exact h⟩⟩
theorem DrIs.below (h : DrIs B w0 w db P A F) : Below B w0 w := by
  obtain ⟨Z, z, -⟩ := h.beside
  exact z.below
theorem DrIs.grow (h : DrIs B w0 w db P A F) (hb : Below w.heap.size w w') : DrIs B w0 w' db P A F := by
  obtain ⟨Z, z, k⟩ := h.beside
  exact k _ _ (z.grow hb)
theorem DrIs.permF (h : DrIs B w0 w db P A F) (hp : F.Perm F') : DrIs B w0 w db P A F' := by
  obtain ⟨Z, z, k⟩ := h.beside
  exact k _ _ (z.perm (hp.append_left Z))
theorem DrIs.sub (h : DrIs B w0 w db P A F) (hp : F'.Sublist F) : DrIs B w0 w db P A F' := by
  obtain ⟨Z, z, k⟩ := h.beside
  exact k _ _ (z.sub ((List.Sublist.refl Z).append hp))
theorem DrIs.alloc (h : DrIs B w0 w db P A F) (o : Obj) : DrIs B w0 (w.alloc o) db P A ((w.heap.size, o) :: F) := by
  obtain ⟨Z, z, k⟩ := h.beside
  exact k _ _ ((z.alloc o).perm List.perm_middle.symm)
/-- What is put beside by a call that only adds. -/
theorem DrIs.join (h : DrIs B w0 w db P A F) (hk : St w.heap.size w w' S) : DrIs B w0 w' db P A (S ++ F) := by
  obtain ⟨Z, z, k⟩ := h.beside
  refine k _ _ ((z.join hk).perm ?_)
  classical
  exact List.perm_iff_count.2 fun a => by simp only [List.count_append]; omega
theorem DrIs.new (h : St B w0 w F) : DrIs B w0 (w.alloc (drO (.slice none 0 0) (.slice none 0 0) none)) w.heap.size [] [] F :=
  ⟨none, 0, none, 0, none, [], [], [], SlIs.nil, SlIs.nil, .inl ⟨rfl, rfl, rfl⟩, h.alloc _⟩
end
end Go.Proofs.Ytbjbpoldghbokaa
