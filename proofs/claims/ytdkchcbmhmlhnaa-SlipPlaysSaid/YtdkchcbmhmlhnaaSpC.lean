/- Slips as their callers see them: what is there, by tag; the set of their tags opened; how many, whether one is there, how many of a consumer. -/
import Derived.Test.YtdkchcbmhmlhnaaSpB
import Derived.Test.YtdkchcbmhmlhnaaSpM
import Derived.Test.YtdkchcbmhmlhnaaKeyS
import Derived.Test.YtdkchcbmhmlhnaaRgsG
namespace Go.Proofs.Ytdkchcbmhmlhnaa
open Go.RowKit
open Go.ChangeMaps (setBlock)
set_option linter.unusedVariables false
set_option linter.unusedSectionVars false
set_option linter.unusedSimpArgs false
set_option maxRecDepth 100000

theorem uMapSl : Try.prog.underlying 52 = some (.map 3 33) := by kernel_rfl
theorem uMapN : Try.prog.underlying 53 = some (.map 9 3) := by kernel_rfl
theorem zSlip (w : World) : (zeroValue 33).run Try.prog w = .ok (slV z0L) w := Try.zeroValue33 w
theorem zCnt (w : World) : (zeroValue 3).run Try.prog w = .ok (.int .i64 0) w := Try.zeroValue3 w
abbrev slipsO (tv : Value) (hm nm : Option Nat) (most : Nat) : Obj := .cells #[tv, .map hm, .map nm, .int .i64 most] 55
def heldG (M : List Slp) : Int → Option Value := fun t => (getS M t).map slV
def cntG (M : List Slp) : List UInt8 → Option Value := fun c => if ofS M c = 0 then none else some (.int .i64 (ofS M c))
def TagsAt (B : Nat) (w0 : World) (tv : Value) (l : List Row) (X : List (Nat × Obj)) : Prop :=
  Canon l ∧ ((tv = .pointer none ∧ l = [] ∧ X = []) ∨ ∃ rb, tv = gptr rb ∧ ∀ w' F', St B w0 w' (X ++ F') → RgsIs B w0 w' rb l F')
/-- The two maps, told by what each key has. -/
def WithM (B : Nat) (w0 w : World) (sb : Nat) (tv : Value) (hb nb most : Nat) (g1 : Int → Option Value) (g2 : List UInt8 → Option Value) (F : List (Nat × Obj)) : Prop :=
  ∃ es clk cs ck, MapFn es clk g1 ∧ MapFn cs ck g2 ∧ St B w0 w ((sb, slipsO tv (some hb) (some nb) most) :: (hb, .map (entsE encI es) clk) :: (nb, .map (entsE encS cs) ck) :: F)
/-- The set of tags has the rows l, the maps hold M. -/
def MidIs (B : Nat) (w0 w : World) (sb : Nat) (l : List Row) (M : List Slp) (F : List (Nat × Obj)) : Prop :=
  OkS M ∧ ∃ tv X most, most ≤ 1000000 ∧ TagsAt B w0 tv l X ∧ ((M = [] ∧ St B w0 w ((sb, slipsO tv none none most) :: (X ++ F))) ∨ ∃ hb nb, WithM B w0 w sb tv hb nb most (heldG M) (cntG M) (X ++ F))
def SlipsIs (B : Nat) (w0 w : World) (sb : Nat) (M : List Slp) (F : List (Nat × Obj)) : Prop := ∃ l, RowsOf l M ∧ MidIs B w0 w sb l M F
/-- .. its set opened. -/
def SetAt (B : Nat) (w0 w : World) (sb rb : Nat) (l : List Row) (M : List Slp) (F : List (Nat × Obj)) : Prop :=
  ∃ Z, RgsIs B w0 w rb l (Z ++ F) ∧ ∀ w' l' F', RgsIs B w0 w' rb l' (Z ++ F') → MidIs B w0 w' sb l' M F'

section
variable {B : Nat} {w0 w w' : World} {sb rb hb nb most b k : Nat} {l l' : List Row} {M L : List Slp} {F F' S X Y : List (Nat × Obj)} {tv : Value} {g1 g1' : Int → Option Value} {g2 g2' : List UInt8 → Option Value} {x y : Slp} {t : Int}
theorem heldG_nil (t : Int) : heldG [] t = none := rfl
theorem cntG_nil (c : List UInt8) : cntG [] c = none := rfl
theorem heldG_isSome (t : Int) : (heldG M t).isSome = hasS M t := by
  unfold heldG
  rw [Option.isSome_map]
  cases h : getS M t with
  | none => exact (hasS_no (getS_none.1 h)).symm
  | some x => exact (hasS_yes ((getS_mem h).2 ▸ List.mem_map_of_mem (getS_mem h).1)).symm
theorem cntG_getD (c : List UInt8) : (cntG M c).getD (.int .i64 0) = .int .i64 (ofS M c) := by
  unfold cntG
  split
  · rename_i h
    rw [h]
    rfl
  · rfl
/-- Tags from 1 to MaxTime, each once: so many at most. -/
theorem OkS.few (h : OkS M) : M.length ≤ 1000000 := by
  have hs := h.sorted
  have key : ∀ (a : List Int) (n : Int), a.Pairwise (· < ·) → (∀ x ∈ a, n < x ∧ x ≤ 1000000) → n ≤ 1000000 → (a.length : Int) ≤ 1000000 - n := by
    intro a
    induction a with
    | nil => intro n _ _ h; simp; omega
    | cons y r ih =>
      intro n hp hf hn
      obtain ⟨h1, h2⟩ := List.pairwise_cons.1 hp
      have h3 := hf y List.mem_cons_self
      have := ih y h2 (fun z hz => ⟨h1 z hz, (hf z (List.mem_cons_of_mem _ hz)).2⟩) h3.2
      rw [List.length_cons]
      omega
  have := key (tagsL M) 0 hs (fun z hz => by
    obtain ⟨y, hy, rfl⟩ := List.mem_map.1 hz
    have := h.fit y hy
    omega) (by omega)
  simp only [tagsL, List.length_map] at this
  omega
theorem held_len {es : List (MapRow Int)} {clk : Nat} (h : MapFn es clk (heldG M)) (hM : OkS M) : es.length = M.length := by
  rw [h.len hM.nodup fun k => by rw [heldG_isSome, hasS_iff]]
  simp [tagsL]

/-! ### the blocks -/
theorem WithM.beside (h : WithM B w0 w sb tv hb nb most g1 g2 F) : ∃ S, St B w0 w (S ++ F) ∧ (sb, slipsO tv (some hb) (some nb) most) ∈ S ∧ ∀ w' F', St B w0 w' (S ++ F') → WithM B w0 w' sb tv hb nb most g1 g2 F' := by
  obtain ⟨es, clk, cs, ck, h1, h2, h3⟩ := h
  exact ⟨[(sb, slipsO tv (some hb) (some nb) most), (hb, .map (entsE encI es) clk), (nb, .map (entsE encS cs) ck)], h3, List.mem_cons_self, fun w' F' h' => ⟨es, clk, cs, ck, h1, h2, h'⟩⟩
theorem WithM.grow (h : WithM B w0 w sb tv hb nb most g1 g2 F) (hb' : Below w.heap.size w w') : WithM B w0 w' sb tv hb nb most g1 g2 F := by
  obtain ⟨S, h1, -, h2⟩ := h.beside
  exact h2 _ _ (h1.grow hb')
theorem WithM.permF (h : WithM B w0 w sb tv hb nb most g1 g2 F) (hp : F.Perm F') : WithM B w0 w sb tv hb nb most g1 g2 F' := by
  obtain ⟨S, h1, -, h2⟩ := h.beside
  exact h2 _ _ (h1.perm (hp.append_left S))
theorem WithM.congr (h : WithM B w0 w sb tv hb nb most g1 g2 F) (e1 : ∀ k, g1 k = g1' k) (e2 : ∀ k, g2 k = g2' k) : WithM B w0 w sb tv hb nb most g1' g2' F := by
  obtain ⟨es, clk, cs, ck, h1, h2, h3⟩ := h
  exact ⟨es, clk, cs, ck, h1.congr e1, h2.congr e2, h3⟩
theorem WithM.head (h : WithM B w0 w sb tv hb nb most g1 g2 F) : w.cell? ⟨sb, 0, none⟩ = some tv ∧ w.cell? ⟨sb, 1, none⟩ = some (.map (some hb)) ∧ w.cell? ⟨sb, 2, none⟩ = some (.map (some nb)) ∧ w.cell? ⟨sb, 3, none⟩ = some (.int .i64 most) ∧ ∀ i, w.frozen? ⟨sb, i, none⟩ = false := by
  obtain ⟨S, h1, hm, -⟩ := h.beside
  have m := List.mem_append_left F hm
  exact ⟨h1.cell m rfl, h1.cell m rfl, h1.cell m rfl, h1.cell m rfl, fun i => h1.soft m i⟩
theorem WithM.slip (h : WithM B w0 w sb tv hb nb most g1 g2 F) (hm : (b, slO x) ∈ F) : SlAt w b x ∧ ∀ i, w.frozen? ⟨b, i, none⟩ = false := by
  obtain ⟨S, h1, -, -⟩ := h.beside
  exact ⟨h1.slAt (List.mem_append_right _ hm), fun i => h1.soft (List.mem_append_right _ hm) i⟩
theorem WithM.lookH (h : WithM B w0 w sb tv hb nb most g1 g2 F) (t : Int) (c : Bool) : (Instr.lookup 52 (.map (some hb)) (.int .i64 t) c).run Try.prog w = .ok (if c then .tuple #[(g1 t).getD (slV z0L), .bool (g1 t).isSome] else (g1 t).getD (slV z0L)) w := by
  obtain ⟨es, clk, cs, ck, h1, h2, h3⟩ := h
  exact h1.run_look keyI uMapSl (zSlip w) (h3.get (b := hb) (List.mem_cons_of_mem _ List.mem_cons_self)) t c
theorem WithM.lookN (h : WithM B w0 w sb tv hb nb most g1 g2 F) (q : List UInt8) (c : Bool) : (Instr.lookup 53 (.map (some nb)) (tx q) c).run Try.prog w = .ok (if c then .tuple #[(g2 q).getD (.int .i64 0), .bool (g2 q).isSome] else (g2 q).getD (.int .i64 0)) w := by
  obtain ⟨es, clk, cs, ck, h1, h2, h3⟩ := h
  exact h2.run_look keyS uMapN (zCnt w) (h3.get (b := nb) (List.mem_cons_of_mem _ (List.mem_cons_of_mem _ List.mem_cons_self))) q c
theorem WithM.lenH (h : WithM B w0 w sb tv hb nb most (heldG M) g2 F) (hM : OkS M) (ty : TypeId) : (Builtin.len_ #[52] ty #[.map (some hb)]).run Try.prog w = .ok (.int .i64 M.length) w := by
  obtain ⟨es, clk, cs, ck, h1, h2, h3⟩ := h
  have := run_lenE (P := Try.prog) (ty := ty) uMapSl (h3.get (b := hb) (List.mem_cons_of_mem _ List.mem_cons_self))
  rw [held_len h1 hM] at this
  exact this
theorem swap_sb (p q r : Nat × Obj) (F : List (Nat × Obj)) : (p :: q :: r :: F).Perm (q :: p :: r :: F) := List.Perm.swap _ _ _
theorem swap_sb2 (p q r : Nat × Obj) (F : List (Nat × Obj)) : (p :: q :: r :: F).Perm (r :: p :: q :: F) := ((List.Perm.swap _ _ _).cons p).trans (List.Perm.swap _ _ _)
theorem WithM.putH (h : WithM B w0 w sb tv hb nb most g1 g2 F) (t : Int) (v : Value) : ∃ W, (Instr.mapUpdate 52 (.map (some hb)) (.int .i64 t) v).run Try.prog w = .ok () W ∧ WithM B w0 W sb tv hb nb most (updG g1 t (some v)) g2 F := by
  obtain ⟨es, clk, cs, ck, h1, h2, h3⟩ := h
  obtain ⟨ds, c2, q1, q2⟩ := h1.run_put keyI uMapSl (h3.get (b := hb) (List.mem_cons_of_mem _ List.mem_cons_self)) t v
  exact ⟨_, q1, ds, c2, cs, ck, q2, h2, ((h3.perm (swap_sb _ _ _ _)).block0).perm (swap_sb _ _ _ _)⟩
theorem WithM.putN (h : WithM B w0 w sb tv hb nb most g1 g2 F) (q : List UInt8) (v : Value) : ∃ W, (Instr.mapUpdate 53 (.map (some nb)) (tx q) v).run Try.prog w = .ok () W ∧ WithM B w0 W sb tv hb nb most g1 (updG g2 q (some v)) F := by
  obtain ⟨es, clk, cs, ck, h1, h2, h3⟩ := h
  obtain ⟨ds, c2, q1, q2⟩ := h2.run_put keyS uMapN (h3.get (b := nb) (List.mem_cons_of_mem _ (List.mem_cons_of_mem _ List.mem_cons_self))) q v
  exact ⟨_, q1, es, clk, ds, c2, h1, q2, ((h3.perm (swap_sb2 _ _ _ _)).block0).perm (swap_sb2 _ _ _ _).symm⟩
/-- A key gone, as the operation says it. -/
theorem WithM.delH (h : WithM B w0 w sb tv hb nb most g1 g2 F) (t : Int) : ∃ es clk, w.heap[hb]? = some (.map (entsE encI es) clk) ∧ WithM B w0 (setBlock w hb (.map (entsE encI (es.eraseP fun x => decide (x.1 = t))) clk)) sb tv hb nb most (updG g1 t none) g2 F := by
  obtain ⟨es, clk, cs, ck, h1, h2, h3⟩ := h
  exact ⟨es, clk, h3.get (b := hb) (List.mem_cons_of_mem _ List.mem_cons_self), _, _, cs, ck, h1.del t, h2, ((h3.perm (swap_sb _ _ _ _)).block0).perm (swap_sb _ _ _ _)⟩
theorem WithM.delN (h : WithM B w0 w sb tv hb nb most g1 g2 F) (q : List UInt8) : ∃ cs ck, w.heap[nb]? = some (.map (entsE encS cs) ck) ∧ WithM B w0 (setBlock w nb (.map (entsE encS (cs.eraseP fun x => decide (x.1 = q))) ck)) sb tv hb nb most g1 (updG g2 q none) F := by
  obtain ⟨es, clk, cs, ck, h1, h2, h3⟩ := h
  exact ⟨cs, ck, h3.get (b := nb) (List.mem_cons_of_mem _ (List.mem_cons_of_mem _ List.mem_cons_self)), es, clk, _, _, h1, h2.del q, ((h3.perm (swap_sb2 _ _ _ _)).block0).perm (swap_sb2 _ _ _ _).symm⟩
theorem WithM.most_ (h : WithM B w0 w sb tv hb nb most g1 g2 F) (m : Nat) : WithM B w0 (w.setCell ⟨sb, 3, none⟩ (.int .i64 m)) sb tv hb nb m g1 g2 F := by
  obtain ⟨es, clk, cs, ck, h1, h2, h3⟩ := h
  exact ⟨es, clk, cs, ck, h1, h2, h3.set0 3 (.int .i64 m)⟩

theorem MidIs.ok (h : MidIs B w0 w sb l M F) : OkS M := h.1
theorem MidIs.canon (h : MidIs B w0 w sb l M F) : Canon l := by
  obtain ⟨-, tv, X, most, -, ht, -⟩ := h
  exact ht.1
theorem MidIs.beside (h : MidIs B w0 w sb l M F) : ∃ S, St B w0 w (S ++ F) ∧ ∀ w' F', St B w0 w' (S ++ F') → MidIs B w0 w' sb l M F' := by
  obtain ⟨hM, tv, X, most, hm, ht, ⟨rfl, h⟩ | ⟨hb, nb, h⟩⟩ := h
  · exact ⟨(sb, slipsO tv none none most) :: X, h, fun w' F' h' => ⟨hM, tv, X, most, hm, ht, .inl ⟨rfl, h'⟩⟩⟩
  · obtain ⟨S, h1, -, h2⟩ := h.beside
    exact ⟨S ++ X, by rw [List.append_assoc]; exact h1, fun w' F' h' => ⟨hM, tv, X, most, hm, ht, .inr ⟨hb, nb, h2 _ _ (by rw [List.append_assoc] at h'; exact h')⟩⟩⟩
theorem MidIs.grow (h : MidIs B w0 w sb l M F) (hb : Below w.heap.size w w') : MidIs B w0 w' sb l M F := by
  obtain ⟨S, h1, h2⟩ := h.beside
  exact h2 _ _ (h1.grow hb)
theorem MidIs.sub (h : MidIs B w0 w sb l M F) (hs : F'.Sublist F) : MidIs B w0 w sb l M F' := by
  obtain ⟨S, h1, h2⟩ := h.beside
  exact h2 _ _ (h1.sub ((List.Sublist.refl S).append hs))
theorem MidIs.permF (h : MidIs B w0 w sb l M F) (hp : F.Perm F') : MidIs B w0 w sb l M F' := by
  obtain ⟨S, h1, h2⟩ := h.beside
  exact h2 _ _ (h1.perm (hp.append_left S))
theorem MidIs.alloc (h : MidIs B w0 w sb l M F) (o : Obj) : MidIs B w0 (w.alloc o) sb l M ((w.heap.size, o) :: F) := by
  obtain ⟨S, h1, h2⟩ := h.beside
  exact h2 _ _ ((h1.alloc o).perm List.perm_middle.symm)
theorem MidIs.below (h : MidIs B w0 w sb l M F) : Below B w0 w := by
  obtain ⟨S, h1, -⟩ := h.beside
  exact h1.below
theorem MidIs.slip (h : MidIs B w0 w sb l M F) (hm : (b, slO x) ∈ F) : SlAt w b x ∧ ∀ i, w.frozen? ⟨b, i, none⟩ = false := by
  obtain ⟨S, h1, -⟩ := h.beside
  exact ⟨h1.slAt (List.mem_append_right _ hm), fun i => h1.soft (List.mem_append_right _ hm) i⟩
theorem MidIs.slPut (h : MidIs B w0 w sb l M ((b, slO y) :: F)) : MidIs B w0 (slPut w b x) sb l M ((b, slO x) :: F) := by
  obtain ⟨S, h1, h2⟩ := h.beside
  exact h2 _ _ (((h1.perm List.perm_middle).slPut (x := x)).perm List.perm_middle.symm)

/-! ### the same for slips whose set and maps agree -/
theorem SlipsIs.ok (h : SlipsIs B w0 w sb M F) : OkS M := by
  obtain ⟨l, -, h⟩ := h
  exact h.ok
theorem SlipsIs.beside (h : SlipsIs B w0 w sb M F) : ∃ S, St B w0 w (S ++ F) ∧ ∀ w' F', St B w0 w' (S ++ F') → SlipsIs B w0 w' sb M F' := by
  obtain ⟨l, hl, h⟩ := h
  obtain ⟨S, h1, h2⟩ := h.beside
  exact ⟨S, h1, fun w' F' h' => ⟨l, hl, h2 _ _ h'⟩⟩
theorem SlipsIs.grow (h : SlipsIs B w0 w sb M F) (hb : Below w.heap.size w w') : SlipsIs B w0 w' sb M F := by
  obtain ⟨S, h1, h2⟩ := h.beside
  exact h2 _ _ (h1.grow hb)
theorem SlipsIs.sub (h : SlipsIs B w0 w sb M F) (hs : F'.Sublist F) : SlipsIs B w0 w sb M F' := by
  obtain ⟨S, h1, h2⟩ := h.beside
  exact h2 _ _ (h1.sub ((List.Sublist.refl S).append hs))
theorem SlipsIs.permF (h : SlipsIs B w0 w sb M F) (hp : F.Perm F') : SlipsIs B w0 w sb M F' := by
  obtain ⟨S, h1, h2⟩ := h.beside
  exact h2 _ _ (h1.perm (hp.append_left S))
theorem SlipsIs.alloc (h : SlipsIs B w0 w sb M F) (o : Obj) : SlipsIs B w0 (w.alloc o) sb M ((w.heap.size, o) :: F) := by
  obtain ⟨S, h1, h2⟩ := h.beside
  exact h2 _ _ ((h1.alloc o).perm List.perm_middle.symm)
theorem SlipsIs.below (h : SlipsIs B w0 w sb M F) : Below B w0 w := by
  obtain ⟨S, h1, -⟩ := h.beside
  exact h1.below
theorem SlipsIs.slip (h : SlipsIs B w0 w sb M F) (hm : (b, slO x) ∈ F) : SlAt w b x ∧ ∀ i, w.frozen? ⟨b, i, none⟩ = false := by
  obtain ⟨S, h1, -⟩ := h.beside
  exact ⟨h1.slAt (List.mem_append_right _ hm), fun i => h1.soft (List.mem_append_right _ hm) i⟩
theorem SlipsIs.slPut (h : SlipsIs B w0 w sb M ((b, slO y) :: F)) : SlipsIs B w0 (slPut w b x) sb M ((b, slO x) :: F) := by
  obtain ⟨S, h1, h2⟩ := h.beside
  exact h2 _ _ (((h1.perm List.perm_middle).slPut (x := x)).perm List.perm_middle.symm)

/-! ### what is looked up -/
structure LookS (w : World) (sb : Nat) (M : List Slp) (hm nm : Option Nat) : Prop where
  c1 : w.cell? ⟨sb, 1, none⟩ = some (.map hm)
  c2 : w.cell? ⟨sb, 2, none⟩ = some (.map nm)
  held : ∀ t c, (Instr.lookup 52 (.map hm) (.int .i64 t) c).run Try.prog w = .ok (if c then .tuple #[((getS M t).map slV).getD (slV z0L), .bool (hasS M t)] else ((getS M t).map slV).getD (slV z0L)) w
  cnt : ∀ q, (Instr.lookup 53 (.map nm) (tx q) false).run Try.prog w = .ok (.int .i64 (ofS M q)) w
  len : ∀ ty, (Builtin.len_ #[52] ty #[.map hm]).run Try.prog w = .ok (.int .i64 M.length) w
theorem MidIs.look (h : MidIs B w0 w sb l M F) : ∃ hm nm, ∀ w', Below w.heap.size w w' → LookS w' sb M hm nm := by
  obtain ⟨hM, tv, X, most, hm, ht, ⟨rfl, h⟩ | ⟨hb, nb, h⟩⟩ := h
  · refine ⟨none, none, fun w' hb => ?_⟩
    have h' := h.grow hb
    exact ⟨h'.cell (b := sb) List.mem_cons_self rfl, h'.cell (b := sb) List.mem_cons_self rfl, fun t c => run_lookE_nil (P := Try.prog) (c := c) keyI uMapSl (zSlip w') (k := t) trivial,
      fun q => run_lookE_nil (P := Try.prog) (c := false) keyS uMapN (zCnt w') (k := q) trivial, fun ty => run_lenE_nil (P := Try.prog) uMapSl⟩
  · refine ⟨some hb, some nb, fun w' hb' => ?_⟩
    have h' := h.grow hb'
    obtain ⟨-, c1, c2, -⟩ := h'.head
    refine ⟨c1, c2, fun t c => ?_, fun q => ?_, fun ty => h'.lenH hM ty⟩
    · have := h'.lookH t c
      rw [heldG_isSome] at this
      exact this
    · have := h'.lookN q false
      rw [if_neg (by decide), cntG_getD] at this
      exact this

/-! ### the set -/
theorem RgsIs.setF {c : Array Value} {T : TypeId} {fr : Nat × Nat} (h : RgsIs B w0 w rb l ((b, .cells c T fr) :: F)) (i : Nat) (v : Value) : RgsIs B w0 (w.setCell ⟨b, i, none⟩ v) rb l ((b, .cells (c.setIfInBounds i v) T fr) :: F) := by
  obtain ⟨X, h1, h2⟩ := h.st
  exact h2 _ _ (h1.set i v)
theorem SetAt.is (h : SetAt B w0 w sb rb l M F) : MidIs B w0 w sb l M F := by
  obtain ⟨Z, h1, h2⟩ := h
  exact h2 _ _ _ h1
theorem back_none {most : Nat} (hM : OkS M) (hm : most ≤ 1000000) (he : M = []) (h : RgsIs B w0 w rb l ((sb, slipsO (gptr rb) none none most) :: F)) : MidIs B w0 w sb l M F := by
  obtain ⟨X, h1, h2⟩ := h.st
  have h3 : St B w0 w (X ++ (sb, slipsO (gptr rb) none none most) :: F) := h1
  refine ⟨hM, gptr rb, X, most, hm, ⟨h.canon, .inr ⟨rb, rfl, fun w' F' h' => ?_⟩⟩, .inl ⟨he, h3.perm List.perm_middle⟩⟩
  have h4 := h2 w' F'
  exact h4 h'
theorem back_some (hM : OkS M) (hm : most ≤ 1000000) {es : List (MapRow Int)} {clk : Nat} {cs : List (MapRow (List UInt8))} {ck : Nat} (e1 : MapFn es clk (heldG M)) (e2 : MapFn cs ck (cntG M))
    (h : RgsIs B w0 w rb l ((sb, slipsO (gptr rb) (some hb) (some nb) most) :: (hb, .map (entsE encI es) clk) :: (nb, .map (entsE encS cs) ck) :: F)) : MidIs B w0 w sb l M F := by
  obtain ⟨X, h1, h2⟩ := h.st
  refine ⟨hM, gptr rb, X, most, hm, ⟨h.canon, .inr ⟨rb, rfl, fun w' F' h' => h2 w' F' h'⟩⟩, .inr ⟨hb, nb, es, clk, cs, ck, e1, e2, h1.perm ?_⟩⟩
  classical
  exact List.perm_iff_count.2 fun a => by simp only [List.count_append, List.count_cons]; omega

set_option maxHeartbeats 400000 in
theorem set_any (h : MidIs B w0 w sb l M F) : Calls Try.prog 21 #[gptr sb] w fun r w' => ∃ rb, r = .returned (gptr rb) ∧ SetAt B w0 w' sb rb l M F := by
  obtain ⟨hM, tv, X, most, hm, ⟨hc, ⟨rfl, rfl, rfl⟩ | ⟨rb, rfl, hX⟩⟩, h⟩ := h
  · obtain ⟨hv, nv, Z, hst, hcase⟩ : ∃ hv nv Z, St B w0 w ((sb, slipsO (.pointer none) hv nv most) :: (Z ++ F)) ∧ ∀ w' rb l' F', RgsIs B w0 w' rb l' ((sb, slipsO (gptr rb) hv nv most) :: (Z ++ F')) → MidIs B w0 w' sb l' M F' := by
      rcases h with ⟨he, h⟩ | ⟨hb, nb, es, clk, cs, ck, e1, e2, h⟩
      · exact ⟨none, none, [], h, fun w' rb l' F' h' => back_none hM hm he h'⟩
      · exact ⟨some hb, some nb, [(hb, .map (entsE encI es) clk), (nb, .map (entsE encS cs) ck)], h, fun w' rb l' F' h' => back_some hM hm e1 e2 h'⟩
    clear h
    have c0 : w.cell? ⟨sb, 0, none⟩ = some (.pointer none) := hst.cell (b := sb) List.mem_cons_self rfl
    have cn := Lib.hid (rgs_new hst)
    have hf : Hid (∀ w' rb, RgsIs B w0 w' rb [] ((sb, slipsO (.pointer none) hv nv most) :: (Z ++ F)) → w'.frozen? ⟨sb, 0, none⟩ = false ∧ w'.cell? ⟨sb, 0, none⟩ = some (.pointer none) ∧ (w'.setCell ⟨sb, 0, none⟩ (gptr rb)).cell? ⟨sb, 0, none⟩ = some (gptr rb) ∧ SetAt B w0 (w'.setCell ⟨sb, 0, none⟩ (gptr rb)) sb rb [] M F) := Lib.hid fun w' rb h1 => by
      obtain ⟨S, hs, -⟩ := h1.st
      have h2 := h1.setF 0 (gptr rb)
      obtain ⟨S2, hs2, -⟩ := h2.st
      exact ⟨hs.soft (List.mem_append_right _ List.mem_cons_self) 0, hs.cell (b := sb) (List.mem_append_right _ List.mem_cons_self) rfl, hs2.cell (b := sb) (List.mem_append_right _ List.mem_cons_self) rfl, (sb, slipsO (gptr rb) hv nv most) :: Z, h2, fun w' l' F' h' => hcase w' rb l' F' h'⟩
    clear hst hcase
    go_enter Try.func21, Try.ntmps21
    go_wp2_with fail
    refine cn.out.mono ?_
    rintro r w1 ⟨rfl, h1⟩
    obtain ⟨f0, c0', d0, fin⟩ := hf.out _ _ h1
    replace fin := Lib.hid fin
    clear cn hf h1
    generalize w.heap.size = rb at *
    go_wp2_with fail
    go_ret
    exact ⟨_, rfl, fin.out⟩
  · obtain ⟨hv, nv, Z, hst, hcase⟩ : ∃ hv nv Z, St B w0 w ((sb, slipsO (gptr rb) hv nv most) :: (Z ++ (X ++ F))) ∧ ∀ w' l' F', RgsIs B w0 w' rb l' ((sb, slipsO (gptr rb) hv nv most) :: (Z ++ F')) → MidIs B w0 w' sb l' M F' := by
      rcases h with ⟨he, h⟩ | ⟨hb, nb, es, clk, cs, ck, e1, e2, h⟩
      · exact ⟨none, none, [], h, fun w' l' F' h' => back_none hM hm he h'⟩
      · exact ⟨some hb, some nb, [(hb, .map (entsE encI es) clk), (nb, .map (entsE encS cs) ck)], h, fun w' l' F' h' => back_some hM hm e1 e2 h'⟩
    have c0 : w.cell? ⟨sb, 0, none⟩ = some (gptr rb) := hst.cell (b := sb) List.mem_cons_self rfl
    have fin : Hid (SetAt B w0 w sb rb l M F) := Lib.hid ⟨(sb, slipsO (gptr rb) hv nv most) :: Z, hX _ _ (hst.perm (by
      classical
      exact List.perm_iff_count.2 fun a => by simp only [List.count_append, List.count_cons]; omega)), fun w' l' F' h' => hcase w' l' F' h'⟩
    clear hst hcase hX h
    go_enter Try.func21, Try.ntmps21
    go_wp2_with fail
    go_ret
    exact ⟨_, rfl, fin.out⟩

/-! ### the calls that change nothing -/
theorem sl_new (h : St B w0 w F) : Calls Try.prog 7 #[] w fun e w' => e = .returned (gptr w.heap.size) ∧ SlipsIs B w0 w' w.heap.size [] F := by
  have h1 : SlipsIs B w0 (w.alloc (slipsO (.pointer none) none none 0)) w.heap.size [] F := ⟨[], fun k => by simp [Inn, tagsL], OkS.nil, .pointer none, [], 0, by omega, ⟨canon_nil, .inl ⟨rfl, rfl, rfl⟩⟩, .inl ⟨rfl, h.alloc _⟩⟩
  replace h1 := Lib.hid h1
  clear h
  go_enter Try.func7, Try.ntmps7
  go_wp2_with fail
  go_ret
  exact ⟨rfl, h1.out⟩
theorem sl_len (h : SlipsIs B w0 w sb M F) : Calls Try.prog 16 #[gptr sb] w fun e w' => e = .returned (.int .i64 M.length) ∧ w' = w := by
  obtain ⟨l, hl, h⟩ := h
  obtain ⟨hm, nm, hlook⟩ := h.look
  obtain ⟨c1, c2, hh, hn, gl⟩ := hlook w (Below.refl _ _)
  clear h hl hlook hh hn
  generalize M.length = L at *
  go_enter Try.func16, Try.ntmps16
  go_wp2_with fail
  go_ret
  exact ⟨rfl, rfl⟩
theorem sl_of (h : SlipsIs B w0 w sb M F) (c : List UInt8) : Calls Try.prog 17 #[gptr sb, tx c] w fun e w' => e = .returned (.int .i64 (ofS M c)) ∧ w' = w := by
  obtain ⟨l, hl, h⟩ := h
  obtain ⟨hm, nm, hlook⟩ := h.look
  obtain ⟨c1, c2, hh, hn, gl⟩ := hlook w (Below.refl _ _)
  replace hn := hn c
  clear h hl hlook hh gl
  generalize ofS M c = L at *
  go_enter Try.func17, Try.ntmps17
  go_wp2_with fail
  go_ret
  exact ⟨rfl, rfl⟩
theorem sl_has (h : SlipsIs B w0 w sb M F) (t : Int) : Calls Try.prog 19 #[gptr sb, .int .i64 t] w fun e w' => e = .returned (.bool (hasS M t)) ∧ SlipsIs B w0 w' sb M F := by
  obtain ⟨l, hl, h⟩ := h
  have cs := Lib.hid (set_any h)
  clear h
  go_enter Try.func19, Try.ntmps19
  go_wp2_with fail
  refine cs.out.mono ?_
  rintro r w1 ⟨rb, rfl, Z, h1, h2⟩
  have ch := Lib.hid (rgs_has h1 t)
  replace h2 := Lib.hid h2
  clear cs h1
  go_wp2_with fail
  refine ch.out.mono ?_
  rintro r w2 ⟨rfl, h3⟩
  have fin : Hid (SlipsIs B w0 w2 sb M F) := Lib.hid ⟨l, hl, h2.out _ _ _ h3⟩
  have e : Hid (innB l t = hasS M t) := Lib.hid (by rw [Bool.eq_iff_iff, innB_iff, hasS_iff]; exact hl t)
  clear h3 h2 ch hl
  go_wp2_with fail
  go_ret
  exact ⟨ret_bool e.out, fin.out⟩
end
end Go.Proofs.Ytdkchcbmhmlhnaa
