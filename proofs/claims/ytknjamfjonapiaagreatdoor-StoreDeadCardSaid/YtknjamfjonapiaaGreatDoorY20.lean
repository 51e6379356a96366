import Derived.Test.YtknjamfjonapiaaGreatDoorY11
import Derived.Test.YtknjamfjonapiaaGreatDoorY18
import Derived.Test.YtknjamfjonapiaaGreatDoorY19
import Derived.Test.YtknjamfjonapiaaGreatDoorY03
import Derived.Test.YtknjamfjonapiaaGreatDoorY09
import Derived.Deep.RegionHeld3
import Derived.Deep.RegionLaw
import Derived.Deep.RegionWith
import Derived.Deep.Fields
import Derived.StillTailTactics
import Derived.Deep.QuietTactic
import Derived.BigQuiet
import Derived.Test.YtknjamfjonapiaaGreatDoorY01
namespace Go.Proofs.YtknjamfjonapiaaGreatDoor
open Go.RowKit
set_option linter.unusedVariables false
set_option linter.unusedSectionVars false
set_option maxRecDepth 100000
structure FineS (S : Sto) : Prop where
 few : S.L.length ≤ 8
 once : (S.L.map (·.name)).Nodup
 nums : (S.L.map (·.num)).Nodup
 top : ∀ p ∈ S.L, p.num ≤ S.num
 num0 : 0 ≤ S.num
 each : ∀ p ∈ S.L, isNm p.name = true ∧ isO p.o = true
 fine : FineX S.P S.A
def QuIn (B : Nat) (w0 : World) (qb : Nat) (o : Opt) (M : List Ent) (S : List (Nat × Obj)) : Prop := ∀ w F, St B w0 w (S ++ F) → QuIs B w0 w qb o M F
def GuIn (qT : Bool) (B : Nat) (w0 : World) (gb : Nat) (G : List Gst) (T : Nat) (S : List (Nat × Obj)) : Prop := ∀ w F, St B w0 w (S ++ F) → GuIsX qT B w0 w gb G T F
def SbIn (B : Nat) (w0 : World) (slb : Nat) (V : SV) (S : List (Nat × Obj)) : Prop := ∀ w F, St B w0 w (S ++ F) → SlabIs B w0 w slb V F
def XwIn (B : Nat) (w0 : World) (xv : Value) (P : List Plc) (A : List Bnd) (c : Nat) (S : List (Nat × Obj)) : Prop :=
 (xv = .pointer none ∧ P = [] ∧ A = [] ∧ S = []) ∨ ∃ xb, xv = bpt xb ∧ ∀ w F, St B w0 w (S ++ F) → ExIs B w0 w xb P A F c
theorem QuIs.in_ {B : Nat} {w0 w : World} {qb : Nat} {o : Opt} {M : List Ent} {F : List (Nat × Obj)} (h : QuIs B w0 w qb o M F) : ∃ S, St B w0 w (S ++ F) ∧ QuIn B w0 qb o M S := by
 obtain ⟨S, h1, -, h2⟩ := h.beside
 exact ⟨S, h1, h2⟩
theorem GuIsX.in_ {qT : Bool} {B : Nat} {w0 w : World} {gb T : Nat} {G : List Gst} {F : List (Nat × Obj)} (h : GuIsX qT B w0 w gb G T F) : ∃ S, St B w0 w (S ++ F) ∧ GuIn qT B w0 gb G T S := h.beside
theorem SlabIs.in_ {B : Nat} {w0 w : World} {slb : Nat} {V : SV} {F : List (Nat × Obj)} (h : SlabIs B w0 w slb V F) : ∃ S, St B w0 w (S ++ F) ∧ SbIn B w0 slb V S := by
 obtain ⟨g, h1, h2, h3, hu, h4⟩ := h
 exact ⟨g.heap, h4, fun w F h => ⟨g, h1, h2, h3, hu, h⟩⟩
theorem ExIs.in_ {B : Nat} {w0 w : World} {xb c : Nat} {P : List Plc} {A : List Bnd} {F : List (Nat × Obj)} (h : ExIs B w0 w xb P A F c) : ∃ S, St B w0 w (S ++ F) ∧ XwIn B w0 (bpt xb) P A c S := by
 obtain ⟨S, h1, h2⟩ := h.beside
 exact ⟨S, h1, .inr ⟨xb, rfl, h2⟩⟩
structure Pq where
 b : Nat
 qb : Nat
 gb : Nat
 d : Plq
 SQ : List (Nat × Obj)
 SG : List (Nat × Obj)
abbrev pqO (d : Plq) (qb gb : Nat) : Obj := .cells #[tx d.name, .int .i64 d.num, .int .i64 d.conn, rptr qb, gup gb] 135
def Pq.objs (p : Pq) : List (Nat × Obj) := (p.b, pqO p.d p.qb p.gb) :: (p.SQ ++ p.SG)
def pqsO (L : List Pq) : List (Nat × Obj) := L.flatMap Pq.objs
structure PqOk (qT : Bool) (B : Nat) (w0 : World) (p : Pq) : Prop where
 qu : QuIn B w0 p.qb p.d.o p.d.M p.SQ
 gu : GuIn qT B w0 p.gb p.d.G p.d.T p.SG
abbrev soO (slb : Nat) (xv v : Value) (S : Sto) : Obj := .cells #[ptr slb, xv, v, .int .i64 S.num, .int .i64 S.last, .int .i64 S.now] 92
def stoO (sb slb : Nat) (xv v : Value) (S : Sto) (L : List Pq) (R SX SS : List (Nat × Obj)) : List (Nat × Obj) := (sb, soO slb xv v S) :: (R ++ (SX ++ (SS ++ pqsO L)))
structure StoIn (qT : Bool) (B : Nat) (w0 : World) (bs : List Nat) (S : Sto) (L : List Pq) (slb : Nat) (xv v : Value) (R SX SS : List (Nat × Obj)) (c : Nat) : Prop where
 data : L.map Pq.d = S.L
 blks : L.map Pq.b = bs
 sl : SlIs 131 1 v bs.length (bs.map bpt) R
 slab : SbIn B w0 slb S.sl SS
 ways : XwIn B w0 xv S.P S.A c SX
 pls : ∀ p ∈ L, PqOk qT B w0 p
 fine : FineS S
 tab : qT = true → Tab B w0
 most : Most B w0
 c1 : 1 ≤ c
def StoIs (qT : Bool) (B : Nat) (w0 w : World) (sb : Nat) (bs : List Nat) (S : Sto) (F : List (Nat × Obj)) (c : Nat) : Prop :=
 ∃ L slb xv v R SX SS, StoIn qT B w0 bs S L slb xv v R SX SS c ∧ St B w0 w (stoO sb slb xv v S L R SX SS ++ F)
structure SeeS (w : World) (sb : Nat) (slb : Nat) (xv v : Value) (S : Sto) : Prop where
 c0 : w.cell? ⟨sb, 0, none⟩ = some (ptr slb)
 c1 : w.cell? ⟨sb, 1, none⟩ = some xv
 c2 : w.cell? ⟨sb, 2, none⟩ = some v
 c3 : w.cell? ⟨sb, 3, none⟩ = some (.int .i64 S.num)
 c4 : w.cell? ⟨sb, 4, none⟩ = some (.int .i64 S.last)
 c5 : w.cell? ⟨sb, 5, none⟩ = some (.int .i64 S.now)
 soft : ∀ i, w.frozen? ⟨sb, i, none⟩ = false
structure SeeP (w : World) (pb qb gb : Nat) (d : Plq) : Prop where
 c0 : w.cell? ⟨pb, 0, none⟩ = some (tx d.name)
 c1 : w.cell? ⟨pb, 1, none⟩ = some (.int .i64 d.num)
 c2 : w.cell? ⟨pb, 2, none⟩ = some (.int .i64 d.conn)
 c3 : w.cell? ⟨pb, 3, none⟩ = some (rptr qb)
 c4 : w.cell? ⟨pb, 4, none⟩ = some (gup gb)
theorem SeeP.below {w w' : World} {pb qb gb : Nat} {d : Plq} (h : SeeP w pb qb gb d) (hb : Below w.heap.size w w') : SeeP w' pb qb gb d := ⟨cellUp h.c0 hb, cellUp h.c1 hb, cellUp h.c2 hb, cellUp h.c3 hb, cellUp h.c4 hb⟩
section
variable {qT : Bool} {B : Nat} {w0 w w' : World} {sb slb pb qb gb c c' i k : Nat} {bs : List Nat} {S S' : Sto} {L X Y : List Pq} {p p' : Pq} {d d' : Plq} {xv v : Value} {R SX SS F F' Z : List (Nat × Obj)} {o : Opt} {M : List Ent} {G : List Gst} {T : Nat} {V : SV}
theorem St.seeS {C : List (Nat × Obj)} (h : St B w0 w C) (m : (sb, soO slb xv v S) ∈ C) : SeeS w sb slb xv v S :=
 ⟨h.cell m rfl, h.cell m rfl, h.cell m rfl, h.cell m rfl, h.cell m rfl, h.cell m rfl, fun i => h.soft m i⟩
theorem St.seeP {C : List (Nat × Obj)} (h : St B w0 w C) (m : (pb, pqO d qb gb) ∈ C) : SeeP w pb qb gb d :=
 ⟨h.cell m rfl, h.cell m rfl, h.cell m rfl, h.cell m rfl, h.cell m rfl⟩
theorem StoIs.fine (h : StoIs qT B w0 w sb bs S F c) : FineS S := by
 obtain ⟨L, slb, xv, v, R, SX, SS, h1, -⟩ := h
 exact h1.fine
theorem StoIs.tab (h : StoIs qT B w0 w sb bs S F c) : (qT = true → Tab B w0) ∧ Most B w0 := by
 obtain ⟨L, slb, xv, v, R, SX, SS, h1, -⟩ := h
 exact ⟨h1.tab, h1.most⟩
theorem StoIs.len (h : StoIs qT B w0 w sb bs S F c) : bs.length = S.L.length := by
 obtain ⟨L, slb, xv, v, R, SX, SS, h1, -⟩ := h
 rw [← h1.data, ← h1.blks, List.length_map, List.length_map]
theorem StoIs.see (h : StoIs qT B w0 w sb bs S F c) : ∃ slb xv v, SeeS w sb slb xv v S := by
 obtain ⟨L, slb, xv, v, R, SX, SS, h1, h2⟩ := h
 exact ⟨slb, xv, v, h2.seeS (List.mem_append_left _ List.mem_cons_self)⟩
theorem StoIs.beside (h : StoIs qT B w0 w sb bs S F c) : ∃ O, St B w0 w (O ++ F) ∧ (∃ slb xv v, (sb, soO slb xv v S) ∈ O) ∧ ∀ w' F', St B w0 w' (O ++ F') → StoIs qT B w0 w' sb bs S F' c := by
 obtain ⟨L, slb, xv, v, R, SX, SS, h1, h2⟩ := h
 exact ⟨_, h2, ⟨slb, xv, v, List.mem_cons_self⟩, fun w' F' h' => ⟨L, slb, xv, v, R, SX, SS, h1, h'⟩⟩
theorem StoIs.grow (h : StoIs qT B w0 w sb bs S F c) (hb : Below w.heap.size w w') : StoIs qT B w0 w' sb bs S F c := by
 obtain ⟨O, h1, -, h2⟩ := h.beside
 exact h2 _ _ (h1.grow hb)
theorem StoIs.sub (h : StoIs qT B w0 w sb bs S F c) (hs : F'.Sublist F) : StoIs qT B w0 w sb bs S F' c := by
 obtain ⟨O, h1, -, h2⟩ := h.beside
 exact h2 _ _ (h1.sub ((List.Sublist.refl O).append hs))
theorem StoIs.permF (h : StoIs qT B w0 w sb bs S F c) (hp : F.Perm F') : StoIs qT B w0 w sb bs S F' c := by
 obtain ⟨O, h1, -, h2⟩ := h.beside
 exact h2 _ _ (h1.perm (hp.append_left O))
theorem StoIs.alloc (h : StoIs qT B w0 w sb bs S F c) (x : Obj) : StoIs qT B w0 (w.alloc x) sb bs S ((w.heap.size, x) :: F) c := by
 obtain ⟨O, h1, -, h2⟩ := h.beside
 exact h2 _ _ ((h1.alloc x).perm List.perm_middle.symm)
theorem StoIs.below (h : StoIs qT B w0 w sb bs S F c) : Below B w0 w := by
 obtain ⟨O, h1, -⟩ := h.beside
 exact h1.below
theorem StoIs.setF {cs : Array Value} {U : TypeId} {fr : Nat × Nat} {b : Nat} (h : StoIs qT B w0 w sb bs S ((b, .cells cs U fr) :: F) c) (i : Nat) (u : Value) : StoIs qT B w0 (w.setCell ⟨b, i, none⟩ u) sb bs S ((b, .cells (cs.setIfInBounds i u) U fr) :: F) c := by
 obtain ⟨O, h1, -, h2⟩ := h.beside
 exact h2 _ _ (h1.set i u)
theorem StoIs.cell {cs : Array Value} {U : TypeId} {fr : Nat × Nat} {b : Nat} (h : StoIs qT B w0 w sb bs S F c) (hm : (b, .cells cs U fr) ∈ F) {i : Nat} {u : Value} (hi : cs[i]? = some u) : w.cell? ⟨b, i, none⟩ = some u := by
 obtain ⟨O, h1, -⟩ := h.beside
 exact h1.cell (List.mem_append_right _ hm) hi
theorem StoIs.soft {cs : Array Value} {U : TypeId} {b : Nat} (h : StoIs qT B w0 w sb bs S F c) (hm : (b, .cells cs U) ∈ F) (i : Nat) : w.frozen? ⟨b, i, none⟩ = false := by
 obtain ⟨O, h1, -⟩ := h.beside
 exact h1.soft (List.mem_append_right _ hm) i
theorem StoIs.mono (h : StoIs qT B w0 w sb bs S F c) (hc : c ≤ c') : StoIs qT B w0 w sb bs S F c' := by
 obtain ⟨L, slb, xv, v, R, SX, SS, h1, h2⟩ := h
 refine ⟨L, slb, xv, v, R, SX, SS, { h1 with ways := ?_, c1 := Nat.le_trans h1.c1 hc }, h2⟩
 rcases h1.ways with h | ⟨xb, e, h⟩
 ·exact .inl h
 ·exact .inr ⟨xb, e, fun w F hst => (h w F hst).mono hc⟩
theorem FineS.sl (h : FineS S) (V : SV) : FineS { S with sl := V } := ⟨h.few, h.once, h.nums, h.top, h.num0, h.each, h.fine⟩
theorem StoIs.slab (h : StoIs qT B w0 w sb bs S F c) : ∃ slb Z, w.cell? ⟨sb, 0, none⟩ = some (ptr slb) ∧ SlabIs B w0 w slb S.sl (Z ++ F) ∧
  ∀ w' V F', SlabIs B w0 w' slb V (Z ++ F') → StoIs qT B w0 w' sb bs { S with sl := V } F' c := by
 obtain ⟨L, slb, xv, v, R, SX, SS, h1, h2⟩ := h
 have hp : ∀ SS F, (stoO sb slb xv v S L R SX SS ++ F).Perm (SS ++ (((sb, soO slb xv v S) :: (R ++ (SX ++ pqsO L))) ++ F)) := fun SS F => perm_by fun a => by
  simp only [stoO, List.count_append, List.count_cons]; omega
 refine ⟨slb, (sb, soO slb xv v S) :: (R ++ (SX ++ pqsO L)), (h2.seeS (List.mem_append_left _ List.mem_cons_self)).c0, h1.slab _ _ (h2.perm (hp SS F)), fun w' V F' h' => ?_⟩
 obtain ⟨SS', h3, h4⟩ := h'.in_
 exact ⟨L, slb, xv, v, R, SX, SS', { h1 with slab := h4, fine := h1.fine.sl V }, h3.perm (hp SS' F').symm⟩
theorem list_split {α : Type} {L : List α} {i : Nat} {p : α} (h : L[i]? = some p) : ∃ X Y, L = X ++ p :: Y ∧ X.length = i := by
 obtain ⟨hl, rfl⟩ := List.getElem?_eq_some_iff.1 h
 exact ⟨L.take i, L.drop (i + 1), by rw [← List.drop_eq_getElem_cons hl, List.take_append_drop], by rw [List.length_take]; omega⟩
theorem set_mid {α : Type} (X Y : List α) (p q : α) : (X ++ p :: Y).set X.length q = X ++ q :: Y := by simp
theorem FineS.set (h : FineS S) {i : Nat} {d d' : Plq} (hi : S.L[i]? = some d) (e1 : d'.name = d.name) (e2 : d'.num = d.num) (e3 : d'.o = d.o) : FineS { S with L := S.L.set i d' } := by
 obtain ⟨X, Y, hXY, rfl⟩ := list_split hi
 have e : S.L.set X.length d' = X ++ d' :: Y := by rw [hXY, set_mid]
 have a1 : ((S.L.set X.length d').map (·.name)) = S.L.map (·.name) := by rw [e, hXY]; simp [e1]
 have a2 : ((S.L.set X.length d').map (·.num)) = S.L.map (·.num) := by rw [e, hXY]; simp [e2]
 have hm : ∀ p ∈ S.L.set X.length d', p = d' ∨ p ∈ S.L := fun p hp => (List.mem_or_eq_of_mem_set hp).symm
 have hd := List.mem_of_getElem? hi
 refine ⟨by simp only [List.length_set]; exact h.few, by simp only [a1]; exact h.once, by simp only [a2]; exact h.nums, fun p hp => ?_, h.num0, fun p hp => ?_, h.fine⟩
 ·rcases hm p hp with rfl | hp
  ·rw [e2]; exact h.top d hd
  ·exact h.top p hp
 ·rcases hm p hp with rfl | hp
  ·rw [e1, e3]; exact h.each d hd
  ·exact h.each p hp
theorem StoIs.place (h : StoIs qT B w0 w sb bs S F c) (hi : S.L[i]? = some d) : ∃ pb qb gb, bs[i]? = some pb ∧ SeeP w pb qb gb d ∧
  (∃ Z, QuIs B w0 w qb d.o d.M (Z ++ F) ∧ ∀ w' M F', QuIs B w0 w' qb d.o M (Z ++ F') → SeeP w' pb qb gb d ∧ StoIs qT B w0 w' sb bs (S.setM i d M) F' c) ∧
  (∃ Z, GuIsX qT B w0 w gb d.G d.T (Z ++ F) ∧ ∀ w' G T F', GuIsX qT B w0 w' gb G T (Z ++ F') → SeeP w' pb qb gb d ∧ StoIs qT B w0 w' sb bs { S with L := S.L.set i { d with G := G, T := T } } F' c) := by
 obtain ⟨L, slb, xv, v, R, SX, SS, h1, h2⟩ := h
 have hi' := hi
 rw [← h1.data, List.getElem?_map, Option.map_eq_some_iff] at hi
 obtain ⟨p, hp, rfl⟩ := hi
 obtain ⟨X, Y, rfl, rfl⟩ := list_split hp
 have ok := h1.pls p (List.mem_append_right _ List.mem_cons_self)
 have hb : bs[X.length]? = some p.b := by rw [← h1.blks, List.getElem?_map, hp]; rfl
 have hpq : ∀ (q : Pq) F, (stoO sb slb xv v S (X ++ q :: Y) R SX SS ++ F).Perm (q.SQ ++ (((q.b, pqO q.d q.qb q.gb) :: (q.SG ++ ((sb, soO slb xv v S) :: (R ++ (SX ++ (SS ++ pqsO (X ++ Y))))))) ++ F)) := fun q F => perm_by fun a => by
  simp only [stoO, pqsO, Pq.objs, List.flatMap_append, List.flatMap_cons, List.count_append, List.count_cons]; omega
 have hpg : ∀ (q : Pq) F, (stoO sb slb xv v S (X ++ q :: Y) R SX SS ++ F).Perm (q.SG ++ (((q.b, pqO q.d q.qb q.gb) :: (q.SQ ++ ((sb, soO slb xv v S) :: (R ++ (SX ++ (SS ++ pqsO (X ++ Y))))))) ++ F)) := fun q F => perm_by fun a => by
  simp only [stoO, pqsO, Pq.objs, List.flatMap_append, List.flatMap_cons, List.count_append, List.count_cons]; omega
 have hsp := h2.perm (hpq p F)
 have hsee : SeeP w p.b p.qb p.gb p.d := hsp.seeP (List.mem_append_right _ (List.mem_append_left _ List.mem_cons_self))
 have hdata : ∀ q : Pq, (X ++ q :: Y).map Pq.d = S.L.set X.length q.d := fun q => by
  rw [← h1.data, List.map_append, List.map_cons, List.map_append, List.map_cons]
  have := set_mid (X.map Pq.d) (Y.map Pq.d) p.d q.d
  rw [List.length_map] at this
  exact this.symm
 have hblks : ∀ q : Pq, q.b = p.b → (X ++ q :: Y).map Pq.b = bs := fun q e => by rw [← h1.blks]; simp [e]
 have hpls : ∀ q : Pq, PqOk qT B w0 q → ∀ x ∈ X ++ q :: Y, PqOk qT B w0 x := fun q hq x hx => by
  rcases List.mem_append.1 hx with hx | hx
  ·exact h1.pls x (List.mem_append_left _ hx)
  ·rcases List.mem_cons.1 hx with rfl | hx
   ·exact hq
   ·exact h1.pls x (List.mem_append_right _ (List.mem_cons_of_mem _ hx))
 refine ⟨p.b, p.qb, p.gb, hb, hsee, ⟨_, ok.qu _ _ hsp, fun w' M F' h' => ?_⟩, ⟨_, ok.gu _ _ (h2.perm (hpg p F)), fun w' G T F' h' => ?_⟩⟩
 ·obtain ⟨SQ', h3, h4⟩ := h'.in_
  refine ⟨h3.seeP (List.mem_append_right _ (List.mem_append_left _ List.mem_cons_self)), X ++ { p with d := { p.d with M := M }, SQ := SQ' } :: Y, slb, xv, v, R, SX, SS, ?_, h3.perm (hpq { p with d := { p.d with M := M }, SQ := SQ' } F').symm⟩
  exact ⟨hdata _, hblks _ rfl, h1.sl, h1.slab, h1.ways, hpls _ ⟨h4, ok.gu⟩, h1.fine.set hi' rfl rfl rfl, h1.tab, h1.most, h1.c1⟩
 ·obtain ⟨SG', h3, h4⟩ := h'.in_
  refine ⟨h3.seeP (List.mem_append_right _ (List.mem_append_left _ List.mem_cons_self)), X ++ { p with d := { p.d with G := G, T := T }, SG := SG' } :: Y, slb, xv, v, R, SX, SS, ?_, h3.perm (hpg { p with d := { p.d with G := G, T := T }, SG := SG' } F').symm⟩
  exact ⟨hdata _, hblks _ rfl, h1.sl, h1.slab, h1.ways, hpls _ ⟨ok.qu, h4⟩, h1.fine.set hi' rfl rfl rfl, h1.tab, h1.most, h1.c1⟩
theorem StoIs.rows (h : StoIs qT B w0 w sb bs S F c) : ∃ a cap, w.cell? ⟨sb, 2, none⟩ = some (.slice a bs.length cap) ∧ ∀ (i : Nat) b, bs[i]? = some b → ∃ g off, a = some ⟨g, off, none⟩ ∧ w.cell? ⟨g, off + i, none⟩ = some (bpt b) := by
 obtain ⟨L, slb, xv, v, R, SX, SS, h1, h2⟩ := h
 obtain ⟨a, cap, rfl, -, -, ha⟩ := h1.sl.form
 refine ⟨a, cap, (h2.seeS (List.mem_append_left _ List.mem_cons_self)).c2, fun i b hb => ?_⟩
 have hl := (List.getElem?_eq_some_iff.1 hb).1
 obtain ⟨g, off, rfl⟩ := ha i hl
 refine ⟨g, off, rfl, ?_⟩
 have h3 : St B w0 w ((((sb, soO slb xv (.slice (some ⟨g, off, none⟩) bs.length cap) S) :: (SX ++ (SS ++ pqsO L))) ++ F) ++ R) := h2.perm (perm_by fun a => by simp only [stoO, List.count_append, List.count_cons]; omega)
 exact h1.sl.cellAt h3 (by rw [List.getElem?_map, hb]; rfl)
end
end Go.Proofs.YtknjamfjonapiaaGreatDoor
namespace Go.Proofs.YtknjamfjonapiaaGreatDoor
open Go.RowKit
set_option linter.unusedVariables false
def exclB (n : Int) : Bool := bits .and .i64 n 1 != 0
def passB (n : Int) : Bool := bits .and .i64 n 8 != 0
def Sto.at_ (S : Sto) (n : List UInt8) : Option (Nat × Plq) := (S.idx n).bind fun i => (S.L[i]?).map fun d => (i, d)
def Sto.open_ (S : Sto) (n : List UInt8) (q : Int) : Int × Option (Nat × Plq) := match S.at_ n with
 | none => (404, none)
 | some x => if exclB x.2.o.bits = true ∧ x.2.conn ≠ q then (405, none) else (0, some x)
def Sto.byNum (S : Sto) (k : Int) : Option Nat := S.L.findIdx? fun p => p.num == k
def Sto.dones (S : Sto) (M : List Ent) : Sto := M.foldl (fun S e => S.letGo e.body) S
def Sto.out (S : Sto) (i : Nat) (d : Plq) : Sto := { S with L := S.L.eraseIdx i, P := (dropqX S.P S.A d.name).1, A := (dropqX S.P S.A d.name).2 }
def Sto.removed (S : Sto) (i : Nat) (d : Plq) : Sto := (S.out i d).dones d.M
def Sto.setG (S : Sto) (i : Nat) (d : Plq) (G : List Gst) (T : Nat) : Sto := { S with L := S.L.set i { d with G := G, T := T } }
def Sto.declare (S : Sto) (n : List UInt8) (o : Opt) (q : Int) : Sto × Int :=
 if isNm n = false ∨ isO o = false then (S, 406)
 else match S.open_ n q with
 | (_, some x) => if sameO x.2.o o = true then (S, 0) else (S, 406)
 | (e, none) => if e = 405 then (S, 405) else if 8 ≤ S.L.length then (S, 506)
  else ({ S with num := S.num + 1, L := S.L ++ [⟨n, S.num + 1, q, o, [], [], 0⟩] }, 0)
def Sto.asked (S : Sto) (n : List UInt8) (q : Int) : Int × Int × Int := match S.open_ n q with
 | (e, none) => (0, 0, e)
 | (_, some x) => (x.2.M.length, x.2.G.length, 0)
def Sto.queue (S : Sto) (n : List UInt8) (o : Opt) (q : Int) : Sto × Int × Int × Int :=
 if passB o.bits = true then (S, S.asked n q)
 else if (S.declare n o q).2 ≠ 0 then ((S.declare n o q).1, 0, 0, (S.declare n o q).2)
 else ((S.declare n o q).1, (S.declare n o q).1.asked n q)
def Sto.exch (S : Sto) (n k : List UInt8) (bt : Int) : Sto × Int := ({ S with P := (declX S.P n (kindL k) (autoB bt)).1 }, (declX S.P n (kindL k) (autoB bt)).2)
def Sto.bind (S : Sto) (b : Bnd) (q : Int) : Sto × Int := match S.open_ b.2.1 q with
 | (e, none) => (S, e)
 | (_, some _) => ({ S with A := (bindX S.P S.A b).1 }, (bindX S.P S.A b).2)
def Sto.delete (S : Sto) (n : List UInt8) (bt q : Int) : Sto × Int × Int := match S.open_ n q with
 | (e, none) => (S, 0, e)
 | (_, some x) => if (unuB bt = true ∧ 0 < x.2.G.length) ∨ (autoB bt = true ∧ 0 < x.2.M.length) then (S, 0, 406) else (S.removed x.1 x.2, x.2.M.length, 0)
def Sto.take (S : Sto) (n : List UInt8) (q : Int) : Sto × Ent × Int × Int × Int := match S.open_ n q with
 | (e, none) => (S, z0E, 0, 0, e)
 | (_, some x) => match x.2.M with
  | [] => (S, z0E, 0, 0, 14)
  | e :: M => (S.setM x.1 x.2 M, e, x.2.num, M.length, 0)
def Sto.consume (S : Sto) (n : List UInt8) (g : Gst) : Sto × Int := match S.open_ n g.conn with
 | (e, none) => (S, e)
 | (_, some x) => if soleG x.2.G = true ∨ (g.sole = true ∧ 0 < x.2.G.length) then (S, 403)
  else if addOkG x.2.G g = true then (S.setG x.1 x.2 (addG x.2.G g) x.2.T, 0) else (S, 406)
def Sto.back (S : Sto) (k : Int) (e : Ent) : Sto := match (S.byNum k).bind fun i => (S.L[i]?).map fun d => (i, d) with
 | none => S.letGo e.body
 | some x => if putOk x.2.M (againE e) = true then S.setM x.1 x.2 (putM x.2.M (againE e)) else S.letGo e.body
def Sto.dead (S : Sto) (k : Int) (e : Ent) : Sto := match S.byNum k with
 | none => S.letGo e.body
 | some i => (Cf.mk S [.dead i [e]] false).fin.S
def Sto.pubC (S : Sto) (e : Ent) : Cf := (Cf.mk S.born [S.mail true e] false).fin
def Sto.publish (S : Sto) (e : Ent) : Sto × Bool × Int := ((S.pubC e).S, !(S.pubC e).r, (S.tos e.exch e.key).length)
def Sto.tick1 (S : Sto) (i : Nat) : Sto := match S.L[i]? with
 | none => S
 | some d => (Cf.mk (S.setM i d (d.M.filter fun x => !goneE x S.now)) [.dead i (d.M.filter fun x => goneE x S.now)] false).fin.S
def Sto.readyOf (S : Sto) (n : List UInt8) : List Ent := match S.at_ n with | none => [] | some x => x.2.M
def Sto.guestsOf (S : Sto) (n : List UInt8) : List Gst := match S.at_ n with | none => [] | some x => x.2.G
end Go.Proofs.YtknjamfjonapiaaGreatDoor
namespace Go.Proofs.YtknjamfjonapiaaGreatDoor
open Go.RowKit
set_option linter.unusedVariables false
set_option linter.unusedSectionVars false
set_option linter.unusedSimpArgs false
set_option maxRecDepth 100000
abbrev ptrO (o : Option Nat) : Value := .pointer (o.map fun b => ⟨b, 0, none⟩)
def ptrQ (bs : List Nat) (o : Option Nat) : Value := ptrO (o.bind fun i => bs[i]?)
theorem ptrQ_none (bs : List Nat) : ptrQ bs none = .pointer none := rfl
theorem ptrQ_some {bs : List Nat} {i b : Nat} (h : bs[i]? = some b) : ptrQ bs (some i) = bpt b := by
 simp [ptrQ, ptrO, h]
structure TellsQ (w : World) (g : Nat) (cb : Array Value) (bs : List Nat) (L : List Plq) (f : Plq → Bool) : Prop where
 go : ∀ args w, (callFunc g args).run Tryz.prog w = .ok (.enter g args) w
 is : ∀ w1, Below w.heap.size w w1 → ∀ (i b : Nat) d, bs[i]? = some b → L[i]? = some d → Calls Tryz.prog g (#[bpt b] ++ cb) w1 fun e w2 => e = .returned (.bool (f d)) ∧ Below w1.heap.size w1 w2
def SFindJ (w : World) (sb : Nat) (fv : Value) (bs : List Nat) (L : List Plq) (f : Plq → Bool) (g : Nat) (a' : Act) (w' : World) : Prop :=
 ∃ i : Nat, i + g = bs.length ∧ (∀ (j : Nat) d, j < i → L[j]? = some d → f d = false) ∧ Fr 31 [(0, bpt sb), (1, fv), (5, .int .i64 i)] a' ∧ Below w.heap.size w w'
theorem findIdx_here {L : List Plq} {f : Plq → Bool} {i : Nat} {d : Plq} (h : ∀ (j : Nat) d, j < i → L[j]? = some d → f d = false) (hd : L[i]? = some d) (hf : f d = true) : L.findIdx? f = some i := by
 rw [List.findIdx?_eq_some_iff_getElem]
 obtain ⟨hl, rfl⟩ := List.getElem?_eq_some_iff.1 hd
 exact ⟨hl, hf, fun j hj => by rw [h j _ hj (List.getElem?_eq_getElem (by omega))]; decide⟩
theorem findIdx_nowhere {L : List Plq} {f : Plq → Bool} (h : ∀ (j : Nat) d, j < L.length → L[j]? = some d → f d = false) : L.findIdx? f = none := by
 rw [List.findIdx?_eq_none_iff]
 intro x hx
 obtain ⟨j, hj, rfl⟩ := List.mem_iff_getElem.1 hx
 exact h j _ hj (List.getElem?_eq_getElem hj)
section
variable {qT : Bool} {B : Nat} {w0 w w' : World} {sb pb qb gb c c' i k : Nat} {bs : List Nat} {S S' : Sto} {d d' : Plq} {F F' Z : List (Nat × Obj)} {o : Opt} {M : List Ent} {G : List Gst} {T : Nat} {n : List UInt8} {q : Int}
set_option maxHeartbeats 2000000 in
theorem sfind_any {g : Nat} {cb : Array Value} {f : Plq → Bool} (h : StoIs qT B w0 w sb bs S F c) (hp : TellsQ w g cb bs S.L f) :
  Calls Tryz.prog 126 #[bpt sb, .func (.func g) #[] cb] w fun e w' => e = .returned (ptrQ bs (S.L.findIdx? f)) ∧ Below w.heap.size w w' := by
 obtain ⟨eg, his⟩ := hp
 obtain ⟨a, cap, c2, hrows⟩ := h.rows
 have hlen := Lib.hid h.len
 have hfew : bs.length ≤ 8 := by have := h.fine.few; rw [h.len]; exact this
 have hc := Lib.hid (fun w' (hb : Below w.heap.size w w') => cellUp c2 hb)
 have hr : Hid (∀ w', Below w.heap.size w w' → ∀ (i : Nat) b, bs[i]? = some b → ∃ g off, a = some ⟨g, off, none⟩ ∧ w'.cell? ⟨g, off + i, none⟩ = some (bpt b)) := Lib.hid fun w' hb i b hi => by
  obtain ⟨g, off, e, hcell⟩ := hrows i b hi
  exact ⟨g, off, e, cellUp hcell hb⟩
 have hg := Lib.hid his
 obtain ⟨ans, ha⟩ : ∃ ans, ans = ptrQ bs (S.L.findIdx? f) := ⟨_, rfl⟩
 rw [← ha]
 replace ha := Lib.hid ha
 clear h hrows his c2
 go_enter Tryz.func126, Tryz.ntmps126
 go_wp2_with fail
 refine wp_scope_ghost 0 (SFindJ w sb (.func (.func g) #[] cb) bs S.L f) rfl ?_ ?_
 ·rintro m a' w' ⟨i, hi, hno, hfr, hbel⟩
  obtain ⟨q, rfl, hl'⟩ := hfr.lit
  clear hfr
  simp only [List.mem_cons, List.not_mem_nil, or_false, forall_eq_or_imp, forall_eq] at hl'
  obtain ⟨f0, f1, f5⟩ := hl'
  simp only [List.range, List.range.loop, List.map, f0, f1, f5]
  clear f0 f1 f5
  have hi0 : (0 : Int) ≤ i := by omega
  have ct := hc.out w' hbel
  by_cases hlt : i < bs.length
  ·have hx : bs[i]? = some bs[i] := List.getElem?_eq_getElem hlt
   have hlt2 : i < S.L.length := by have := hlen.out; omega
   have hd : S.L[i]? = some S.L[i] := List.getElem?_eq_getElem hlt2
   generalize bs[i] = b at hx
   generalize S.L[i] = d at hd
   have hi1 : (i : Int) < bs.length := by omega
   have hne : ((i : Int) == bs.length) = false := by rw [beq_eq_false_iff_ne]; omega
   obtain ⟨g1, o1, rfl, k1⟩ := hr.out w' hbel i b hx
   have cc := Lib.hid (hg.out w' hbel i b d hx hd)
   have hx2 : Hid (∀ w2, Below w'.heap.size w' w2 → w2.cell? ⟨sb, 2, none⟩ = some (.slice (some ⟨g1, o1, none⟩) bs.length cap) ∧ w2.cell? ⟨g1, o1 + i, none⟩ = some (bpt b)) := Lib.hid fun w2 hb => ⟨cellUp ct hb, cellUp k1 hb⟩
   cases hfd : f d with
   | true =>
    have e1 : ans = bpt b := by rw [ha.out, findIdx_here hno hd hfd, ptrQ_some hx]
    rw [hfd] at cc
    have fin := Lib.hid (fun w2 (hb : Below w'.heap.size w' w2) => bel hbel hb)
    subst e1
    clear hno hx hd hfd hg hr ha hbel
    go_wp2_with fail
    refine cc.out.mono ?_
    rintro e w2 ⟨rfl, hb⟩
    obtain ⟨y1, y2⟩ := hx2.out w2 hb
    replace fin := Lib.hid (fin.out w2 hb)
    clear hb hx2 cc ct k1
    go_wp2_with fail
    simp only [Exit.jump]
    go_ret
    exact ⟨rfl, fin.out⟩
   | false =>
    rw [hfd] at cc
    have nxt : Hid (∀ w2, Below w'.heap.size w' w2 → ∀ a', Fr 31 [(0, bpt sb), (1, .func (.func g) #[] cb), (5, .int .i64 ((i + 1 : Nat) : Int))] a' → ∃ k, k < m ∧ SFindJ w sb (.func (.func g) #[] cb) bs S.L f k a' w2) := Lib.hid fun w2 hb a' hf =>
     ⟨m - 1, by omega, i + 1, by omega, fun j d' hj hd' => by
      rcases Nat.lt_succ_iff_lt_or_eq.1 hj with hj | rfl
      ·exact hno j d' hj hd'
      ·rw [hd] at hd'
       obtain rfl := Option.some.inj hd'
       exact hfd, hf, bel hbel hb⟩
    clear hno hx hd hfd hg hr ha hbel
    go_wp2_with fail
    refine cc.out.mono ?_
    rintro e w2 ⟨rfl, hb⟩
    replace nxt := Lib.hid (nxt.out w2 hb)
    clear hb hx2 cc ct k1
    go_wp2_with fail
    refine wp_goto ?_
    exact ⟨rfl, nxt.out _ ⟨rfl, rfl, by simp⟩⟩
  ·obtain rfl : i = bs.length := by omega
   have e1 : ans = .pointer none := by
    rw [ha.out, findIdx_nowhere (fun j d hj => hno j d (by have := hlen.out; omega)), ptrQ_none]
   subst e1
   replace hbel := Lib.hid hbel
   clear hno hg hr ha
   go_wp2_with fail
   simp only [Exit.jump]
   go_ret
   exact ⟨rfl, hbel.out⟩
 ·intro H
  clear hg hr ha hc
  go_wp2_with fail
  refine wp_label ?_
  go_step
  go_step
  exact H bs.length _ _ ⟨0, by omega, fun j d hj => absurd hj (by omega), ⟨rfl, rfl, by simp⟩, Below.refl _ _⟩
theorem StoIs.seeP (h : StoIs qT B w0 w sb bs S F c) {b : Nat} (hb : bs[i]? = some b) (hd : S.L[i]? = some d) : ∃ qb gb, SeeP w b qb gb d := by
 obtain ⟨pb, qb, gb, h1, h2, -⟩ := h.place hd
 rw [hb] at h1
 obtain rfl := Option.some.inj h1
 exact ⟨qb, gb, h2⟩
set_option maxHeartbeats 1000000 in
theorem named_one {b nb : Nat} {x n : List UInt8} {r : Bool} (hr : (x == n) = r) (h1 : w.cell? ⟨b, 0, none⟩ = some (tx x)) (h2 : w.cell? ⟨nb, 0, none⟩ = some (tx n)) :
  Calls Tryz.prog 127 #[bpt b, bpt nb] w fun e w2 => e = .returned (.bool r) ∧ Below w.heap.size w w2 := by
 go_enter Tryz.func127, Tryz.ntmps127
 go_wp2_with fail
 go_quiet (fail)
 go_wp2_with fail
 go_ret
 exact ⟨rfl, drewN_below w _⟩
set_option maxHeartbeats 1000000 in
theorem numbered_one {b nb : Nat} {x n : Int} {r : Bool} (hr : (x == n) = r) (h1 : w.cell? ⟨b, 1, none⟩ = some (.int .i64 x)) (h2 : w.cell? ⟨nb, 0, none⟩ = some (.int .i64 n)) :
  Calls Tryz.prog 151 #[bpt b, bpt nb] w fun e w2 => e = .returned (.bool r) ∧ Below w.heap.size w w2 := by
 go_enter Tryz.func151, Tryz.ntmps151
 go_wp2_with fail
 go_quiet (fail)
 go_wp2_with fail
 go_ret
 exact ⟨rfl, drewN_below w _⟩
set_option maxHeartbeats 1000000 in
theorem named_any (h : StoIs qT B w0 w sb bs S F c) (n : List UInt8) : Calls Tryz.prog 68 #[bpt sb, tx n] w fun e w' => e = .returned (ptrQ bs (S.idx n)) ∧ Below w.heap.size w w' := by
 have h1 := h.alloc (.cells #[tx n] 9)
 have hn : (w.alloc (.cells #[tx n] 9)).cell? ⟨w.heap.size, 0, none⟩ = some (tx n) := h1.cell List.mem_cons_self rfl
 have ht : TellsQ (w.alloc (.cells #[tx n] 9)) 127 #[bpt w.heap.size] bs S.L (fun p => p.name == n) := ⟨fun args w => by kernel_rfl, fun w1 hb i b d hi hd => by
  obtain ⟨qb, gb, hs⟩ := h1.seeP hi hd
  exact named_one rfl (cellUp hs.c0 hb) (cellUp hn hb)⟩
 have cf := Lib.hid (sfind_any h1 ht)
 have fin := Lib.hid (fun w2 (hb : Below (w.alloc (.cells #[tx n] 9)).heap.size (w.alloc (.cells #[tx n] 9)) w2) => bel (new_below w (.cells #[tx n] 9)) hb)
 obtain ⟨ans, ha⟩ : ∃ ans, ans = ptrQ bs (S.idx n) := ⟨_, rfl⟩
 rw [← ha]
 rw [show ptrQ bs (S.L.findIdx? fun p => p.name == n) = ans from ha.symm] at cf
 clear h h1 hn ht ha
 go_enter Tryz.func68, Tryz.ntmps68
 go_wp2_with fail
 refine cf.out.mono ?_
 rintro e w2 ⟨rfl, hb⟩
 replace fin := Lib.hid (fin.out w2 hb)
 clear cf hb
 go_wp2_with fail
 go_ret
 exact ⟨rfl, fin.out⟩
set_option maxHeartbeats 1000000 in
theorem numbered_any (h : StoIs qT B w0 w sb bs S F c) (n : Int) : Calls Tryz.prog 84 #[bpt sb, .int .i64 n] w fun e w' => e = .returned (ptrQ bs (S.byNum n)) ∧ Below w.heap.size w w' := by
 have h1 := h.alloc (.cells #[.int .i64 n] 3)
 have hn : (w.alloc (.cells #[.int .i64 n] 3)).cell? ⟨w.heap.size, 0, none⟩ = some (.int .i64 n) := h1.cell List.mem_cons_self rfl
 have ht : TellsQ (w.alloc (.cells #[.int .i64 n] 3)) 151 #[bpt w.heap.size] bs S.L (fun p => p.num == n) := ⟨fun args w => by kernel_rfl, fun w1 hb i b d hi hd => by
  obtain ⟨qb, gb, hs⟩ := h1.seeP hi hd
  exact numbered_one rfl (cellUp hs.c1 hb) (cellUp hn hb)⟩
 have cf := Lib.hid (sfind_any h1 ht)
 have fin := Lib.hid (fun w2 (hb : Below (w.alloc (.cells #[.int .i64 n] 3)).heap.size (w.alloc (.cells #[.int .i64 n] 3)) w2) => bel (new_below w (.cells #[.int .i64 n] 3)) hb)
 obtain ⟨ans, ha⟩ : ∃ ans, ans = ptrQ bs (S.byNum n) := ⟨_, rfl⟩
 rw [← ha]
 rw [show ptrQ bs (S.L.findIdx? fun p => p.num == n) = ans from ha.symm] at cf
 clear h h1 hn ht ha
 go_enter Tryz.func84, Tryz.ntmps84
 go_wp2_with fail
 refine cf.out.mono ?_
 rintro e w2 ⟨rfl, hb⟩
 replace fin := Lib.hid (fin.out w2 hb)
 clear cf hb
 go_wp2_with fail
 go_ret
 exact ⟨rfl, fin.out⟩
theorem uOptB : ∃ fs f, Tryz.prog.underlying 34 = some (.struct fs) ∧ fs[5]? = some f ∧ f.type = 3 ∧ f.offset = 5 := by
 have h : (Tryz.prog.underlying 34).map (fun t => match t with | .struct fs => (fs[5]?).map (fun f => (f.type, f.offset)) | _ => none) = some (some (3, 5)) := by kernel_rfl
 rw [Option.map_eq_some_iff] at h
 obtain ⟨t, h1, h2⟩ := h
 cases t <;> simp only at h2 <;> try (cases h2; done)
 rw [Option.map_eq_some_iff] at h2
 obtain ⟨f, h3, h4⟩ := h2
 simp only [Prod.mk.injEq] at h4
 exact ⟨_, _, h1, h3, h4.1, h4.2⟩
theorem field_bits (v : Int) (x0 x1 x2 x3 x4 : Value) (W : World) : (Instr.field 34 (.agg #[x0, x1, x2, x3, x4, .int .i64 v]) 5).run Tryz.prog W = .ok (.int .i64 v) W := by
 obtain ⟨fs, f, h1, h2, h3, h4⟩ := uOptB
 simp [Instr.field, go_sem, asAgg, h1, h2, h3, h4]
set_option maxHeartbeats 1000000 in
theorem excl_any (h : QuIs B w0 w qb o M F) (h3 : w.cell? ⟨pb, 3, none⟩ = some (rptr qb)) : Calls Tryz.prog 92 #[bpt pb] w fun e w' => e = .returned (.bool (exclB o.bits)) ∧ QuIs B w0 w' qb o M F := by
 have co := Lib.hid (qu_opts h)
 have hf := fun W => field_bits o.bits (tx o.dead) (tx o.deadKey) (.int .i64 o.maxLen) (.int .i64 o.ttl) (.int .i64 o.prio) W
 unfold exclB
 clear h
 go_enter Tryz.func92, Tryz.ntmps92
 go_wp2_with fail
 refine co.out.mono ?_
 rintro e w2 ⟨rfl, hq⟩
 replace hq := Lib.hid hq
 clear co
 go_wp2_with fail
 go_ret
 exact ⟨rfl, hq.out⟩
end
end Go.Proofs.YtknjamfjonapiaaGreatDoor
namespace Go.Proofs.YtknjamfjonapiaaGreatDoor
open Go.RowKit
set_option linter.unusedVariables false
set_option linter.unusedSectionVars false
set_option linter.unusedSimpArgs false
set_option maxRecDepth 100000
abbrev noneV : Ending := .returned (.tuple #[])
def HeldOk (S : Sto) : Prop := ∀ x ∈ S.sl.bs, x.2.1 < 9223372036854775807
def newS (room : Int) : Sto := ⟨SV.new room, [], [], [], 0, 0, 0⟩
section
variable {qT : Bool} {B : Nat} {w0 w w' : World} {sb pb qb gb c c' i k : Nat} {bs : List Nat} {S S' : Sto} {d d' : Plq} {F F' Z : List (Nat × Obj)} {o : Opt} {M : List Ent} {G : List Gst} {T : Nat} {n : List UInt8} {q z : Int} {e : Ent}
set_option maxHeartbeats 1000000 in
theorem st_new (hT : qT = true → Tab B w0) (hM : Most B w0) (h : St B w0 w F) (room : Int) : Calls Tryz.prog 13 #[.int .i64 room] w fun e w' => ∃ sb, e = .returned (bpt sb) ∧ StoIs qT B w0 w' sb [] (newS room) F 1 := by
 have cn := Lib.hid (new_is h room)
 have fin : Hid (∀ w', SlabIs B w0 w' w.heap.size (SV.new room) F → StoIs qT B w0 (w'.alloc (soO w.heap.size (.pointer none) (.slice none 0 0) (newS room))) w'.heap.size [] (newS room) F 1) := Lib.hid fun w' h' => by
  obtain ⟨SS, h1, h2⟩ := h'.in_
  refine ⟨[], w.heap.size, .pointer none, .slice none 0 0, [], [], SS, ⟨rfl, rfl, SlIs.nil, h2, .inl ⟨rfl, rfl, rfl, rfl⟩, by simp, ?_, hT, hM, Nat.le_refl _⟩, ?_⟩
  ·exact ⟨by simp [newS], by simp [newS], by simp [newS], by simp [newS], Int.le_refl _, by simp [newS], FineX.nil⟩
  ·simpa [stoO, pqsO] using h1.alloc (soO w.heap.size (.pointer none) (.slice none 0 0) (newS room))
 clear h
 generalize w.heap.size = slb at *
 go_enter Tryz.func13, Tryz.ntmps13
 go_wp2_with fail
 refine cn.out.mono ?_
 rintro e w1 ⟨rfl, h1⟩
 replace fin := Lib.hid (fin.out w1 h1)
 clear cn h1
 go_wp2_with fail
 go_ret
 exact ⟨_, rfl, fin.out⟩
set_option maxHeartbeats 400000 in
theorem st_slab {slb : Nat} (h0 : w.cell? ⟨sb, 0, none⟩ = some (ptr slb)) : Calls Tryz.prog 21 #[bpt sb] w fun e w' => e = .returned (ptr slb) ∧ w' = w := by
 go_enter Tryz.func21, Tryz.ntmps21
 go_wp2_with fail
 go_ret
 exact ⟨rfl, rfl⟩
set_option maxHeartbeats 400000 in
theorem st_now (h : StoIs qT B w0 w sb bs S F c) : Calls Tryz.prog 38 #[bpt sb] w fun e w' => e = .returned (.int .i64 S.now) ∧ w' = w := by
 obtain ⟨slb, xv, v, hs⟩ := h.see
 have h5 := hs.c5
 clear hs h
 go_enter Tryz.func38, Tryz.ntmps38
 go_wp2_with fail
 go_ret
 exact ⟨rfl, rfl⟩
set_option maxHeartbeats 1000000 in
theorem st_letgo (h : StoIs qT B w0 w sb bs S F c) (hh : HeldOk S) {b : Int} (hS : S.letGo b = S') : Calls Tryz.prog 70 #[bpt sb, .int .i64 b] w fun e w' => e = noneV ∧ StoIs qT B w0 w' sb bs S' F c := by
 unfold Sto.letGo at hS
 by_cases hb : 0 < b
 ·rw [if_pos hb] at hS
  obtain ⟨slb, Z, c0, h1, h2⟩ := h.slab
  have cs := Lib.hid (st_slab c0)
  have cd := Lib.hid (sb_drop_is h1 b hh)
  have fin : Hid (∀ w', SlabIs B w0 w' slb (S.sl.drop b).2 (Z ++ F) → StoIs qT B w0 w' sb bs S' F c) := Lib.hid fun w' h' => by rw [← hS]; exact h2 w' _ F h'
  clear h h1 h2 c0 hS hh
  go_enter Tryz.func70, Tryz.ntmps70
  go_wp2_with fail
  refine cs.out.mono ?_
  rintro e w1 ⟨rfl, rfl⟩
  clear cs
  go_wp2_with fail
  refine cd.out.mono ?_
  rintro e w2 ⟨rfl, h3⟩
  replace fin := Lib.hid (fin.out w2 h3)
  clear cd h3
  go_wp2_with fail
  exact bodyPost_end (results_none rfl _ _ _) rfl ⟨rfl, fin.out⟩
 ·rw [if_neg hb] at hS
  subst hS
  replace h := Lib.hid h
  clear hh
  go_enter Tryz.func70, Tryz.ntmps70
  go_wp2_with fail
  exact bodyPost_end (results_none rfl _ _ _) rfl ⟨rfl, h.out⟩
set_option maxHeartbeats 1000000 in
theorem st_hold (h : StoIs qT B w0 w sb bs S F c) (hh : HeldOk S) {b : Int} (hS : S.hold b = S') : Calls Tryz.prog 357 #[bpt sb, .int .i64 b] w fun e w' => e = noneV ∧ StoIs qT B w0 w' sb bs S' F c := by
 unfold Sto.hold at hS
 by_cases hb : 0 < b
 ·rw [if_pos hb] at hS
  obtain ⟨slb, Z, c0, h1, h2⟩ := h.slab
  have cs := Lib.hid (st_slab c0)
  have cd := Lib.hid (hold_is h1 b hh)
  have fin : Hid (∀ w', SlabIs B w0 w' slb (S.sl.hold b).2 (Z ++ F) → StoIs qT B w0 w' sb bs S' F c) := Lib.hid fun w' h' => by rw [← hS]; exact h2 w' _ F h'
  clear h h1 h2 c0 hS hh
  go_enter Tryz.func357, Tryz.ntmps357
  go_wp2_with fail
  refine cs.out.mono ?_
  rintro e w1 ⟨rfl, rfl⟩
  clear cs
  go_wp2_with fail
  refine cd.out.mono ?_
  rintro e w2 ⟨rfl, h3⟩
  replace fin := Lib.hid (fin.out w2 h3)
  clear cd h3
  go_wp2_with fail
  exact bodyPost_end (results_none rfl _ _ _) rfl ⟨rfl, fin.out⟩
 ·rw [if_neg hb] at hS
  subst hS
  replace h := Lib.hid h
  clear hh
  go_enter Tryz.func357, Tryz.ntmps357
  go_wp2_with fail
  exact bodyPost_end (results_none rfl _ _ _) rfl ⟨rfl, h.out⟩
set_option maxHeartbeats 1000000 in
theorem st_done (h : StoIs qT B w0 w sb bs S F c) (hh : HeldOk S) (e : Ent) (hS : S.letGo e.body = S') : Calls Tryz.prog 24 #[bpt sb, enV e] w fun r w' => r = noneV ∧ StoIs qT B w0 w' sb bs S' F c := by
 have h1 := h.alloc (enO e)
 have cl : Hid (Calls Tryz.prog 70 #[bpt sb, .int .i64 e.body] (w.alloc (enO e)) fun r w' => r = noneV ∧ StoIs qT B w0 w' sb bs S' F c) :=
  Lib.hid ((st_letgo h1 hh hS).mono fun r w' ⟨a, b⟩ => ⟨a, b.sub (List.sublist_cons_self _ _)⟩)
 clear h h1 hS hh
 go_enter Tryz.func24, Tryz.ntmps24
 go_wp2_with fail
 refine cl.out.mono ?_
 rintro r w1 ⟨rfl, h1⟩
 replace h1 := Lib.hid h1
 clear cl
 go_wp2_with fail
 exact bodyPost_end (results_none rfl _ _ _) rfl ⟨rfl, h1.out⟩
theorem idx_at (S : Sto) (n : List UInt8) : (S.idx n = none ∧ S.at_ n = none) ∨ ∃ i d, S.idx n = some i ∧ S.L[i]? = some d ∧ S.at_ n = some (i, d) ∧ d.name = n := by
 unfold Sto.at_
 cases h : S.idx n with
 | none => exact .inl ⟨rfl, rfl⟩
 | some i =>
  obtain ⟨hl, hn, -⟩ := List.findIdx?_eq_some_iff_getElem.1 h
  exact .inr ⟨i, S.L[i], rfl, List.getElem?_eq_getElem hl, by rw [Option.bind_some, List.getElem?_eq_getElem hl]; rfl, by simpa using hn⟩
theorem open_ways (S : Sto) (n : List UInt8) (q : Int) : (∃ z, S.open_ n q = (z, none) ∧ (z = 404 ∨ z = 405)) ∨ ∃ i d, S.open_ n q = (0, some (i, d)) ∧ S.idx n = some i ∧ S.L[i]? = some d ∧ S.at_ n = some (i, d) ∧ d.name = n := by
 unfold Sto.open_
 rcases idx_at S n with ⟨-, h⟩ | ⟨i, d, h1, h2, h3, h4⟩
 ·rw [h]; exact .inl ⟨404, rfl, .inl rfl⟩
 ·rw [h3]
  simp only
  by_cases hx : exclB d.o.bits = true ∧ d.conn ≠ q
  ·rw [if_pos hx]; exact .inl ⟨405, rfl, .inr rfl⟩
  ·rw [if_neg hx]; exact .inr ⟨i, d, rfl, h1, h2, rfl, h4⟩
theorem StoIs.blk (h : StoIs qT B w0 w sb bs S F c) (hi : S.L[i]? = some d) : ∃ pb, bs[i]? = some pb := by
 obtain ⟨pb, qb, gb, h1, -⟩ := h.place hi
 exact ⟨pb, h1⟩
theorem setM_same (hi : S.L[i]? = some d) : S.setM i d d.M = S := by
 unfold Sto.setM
 obtain ⟨hl, rfl⟩ := List.getElem?_eq_some_iff.1 hi
 rw [List.set_getElem_self]
set_option maxHeartbeats 2000000 in
theorem st_open (h : StoIs qT B w0 w sb bs S F c) (n : List UInt8) (q : Int) : Calls Tryz.prog 71 #[bpt sb, tx n, .int .i64 q] w fun e w' =>
  e = .returned (.tuple #[ptrQ bs ((S.open_ n q).2.map (·.1)), .int .i64 (S.open_ n q).1]) ∧ StoIs qT B w0 w' sb bs S F c := by
 have cn := Lib.hid (named_any h n)
 unfold Sto.open_
 rcases idx_at S n with ⟨e1, e2⟩ | ⟨i, d, e1, hi, e2, -⟩
 ·rw [e2]
  rw [e1, ptrQ_none] at cn
  replace h := Lib.hid h
  simp only [Option.map_none, ptrQ_none]
  clear e1 e2
  go_enter Tryz.func71, Tryz.ntmps71
  go_wp2_with fail
  refine cn.out.mono ?_
  rintro e w1 ⟨rfl, hb⟩
  have fin := Lib.hid (h.out.grow hb)
  clear cn hb h
  go_wp2_with fail
  go_ret2
  exact ⟨rfl, fin.out⟩
 ·rw [e2]
  obtain ⟨pb, hpb⟩ := h.blk hi
  rw [e1, ptrQ_some hpb] at cn
  have see : Hid (∀ w1, Below w.heap.size w w1 → ∃ qb, w1.cell? ⟨pb, 3, none⟩ = some (rptr qb) ∧ Calls Tryz.prog 92 #[bpt pb] w1 fun e w' => e = .returned (.bool (exclB d.o.bits)) ∧ w'.cell? ⟨pb, 2, none⟩ = some (.int .i64 d.conn) ∧ StoIs qT B w0 w' sb bs S F c) := Lib.hid fun w1 hb => by
   obtain ⟨pb', qb, gb, h1, h2, ⟨Z, h3, h4⟩, -⟩ := (h.grow hb).place hi
   rw [hpb] at h1
   obtain rfl := Option.some.inj h1
   refine ⟨qb, h2.c3, (excl_any h3 h2.c3).mono ?_⟩
   rintro e w' ⟨rfl, h5⟩
   obtain ⟨h6, h7⟩ := h4 _ _ _ h5
   rw [setM_same hi] at h7
   exact ⟨rfl, h6.c2, h7⟩
  simp only
  obtain ⟨ex, hex⟩ : ∃ ex, ex = exclB d.o.bits := ⟨_, rfl⟩
  rw [← hex] at see ⊢
  generalize d.conn = cn0 at *
  by_cases hc : ex = true ∧ cn0 ≠ q
  ·rw [if_pos hc]
   simp only [Option.map_none, ptrQ_none]
   obtain ⟨rfl, hc⟩ := hc
   have hcb : (cn0 != q) = true := by simpa using hc
   clear e1 e2 hi hex hpb h hc
   go_enter Tryz.func71, Tryz.ntmps71
   go_wp2_with fail
   refine cn.out.mono ?_
   rintro e w1 ⟨rfl, hb⟩
   obtain ⟨qb, -, ce⟩ := see.out w1 hb
   replace ce := Lib.hid ce
   clear cn hb see
   go_wp2_with fail
   refine ce.out.mono ?_
   rintro e w2 ⟨rfl, c2, h2⟩
   replace h2 := Lib.hid h2
   clear ce
   go_wp2_with fail
   go_ret2
   exact ⟨rfl, h2.out⟩
  ·rw [if_neg hc]
   simp only [Option.map_some, ptrQ_some hpb]
   cases ex with
   | false =>
    clear e1 e2 hi hex hpb h hc
    go_enter Tryz.func71, Tryz.ntmps71
    go_wp2_with fail
    refine cn.out.mono ?_
    rintro e w1 ⟨rfl, hb⟩
    obtain ⟨qb, -, ce⟩ := see.out w1 hb
    replace ce := Lib.hid ce
    clear cn hb see
    go_wp2_with fail
    refine ce.out.mono ?_
    rintro e w2 ⟨rfl, c2, h2⟩
    replace h2 := Lib.hid h2
    clear ce
    go_wp2_with fail
    go_ret2
    exact ⟨rfl, h2.out⟩
   | true =>
    obtain rfl : cn0 = q := by
     by_cases e : cn0 = q
     ·exact e
     ·exact absurd ⟨rfl, e⟩ hc
    have hcb : (cn0 != cn0) = false := by simp
    clear e1 e2 hi hex hpb h hc
    go_enter Tryz.func71, Tryz.ntmps71
    go_wp2_with fail
    refine cn.out.mono ?_
    rintro e w1 ⟨rfl, hb⟩
    obtain ⟨qb, -, ce⟩ := see.out w1 hb
    replace ce := Lib.hid ce
    clear cn hb see
    go_wp2_with fail
    refine ce.out.mono ?_
    rintro e w2 ⟨rfl, c2, h2⟩
    replace h2 := Lib.hid h2
    clear ce
    go_wp2_with fail
    go_ret2
    exact ⟨rfl, h2.out⟩
theorem st_open_no (h : StoIs qT B w0 w sb bs S F c) (ho : S.open_ n q = (z, none)) : Calls Tryz.prog 71 #[bpt sb, tx n, .int .i64 q] w fun e w' =>
  e = .returned (.tuple #[.pointer none, .int .i64 z]) ∧ StoIs qT B w0 w' sb bs S F c := by
 have := st_open h n q
 rw [ho] at this
 exact this
theorem st_open_yes (h : StoIs qT B w0 w sb bs S F c) (ho : S.open_ n q = (0, some (i, d))) (hb : bs[i]? = some pb) : Calls Tryz.prog 71 #[bpt sb, tx n, .int .i64 q] w fun e w' =>
  e = .returned (.tuple #[bpt pb, .int .i64 0]) ∧ StoIs qT B w0 w' sb bs S F c := by
 have := st_open h n q
 rw [ho] at this
 simp only [Option.map_some, ptrQ_some hb] at this
 exact this
end
end Go.Proofs.YtknjamfjonapiaaGreatDoor
namespace Go.Proofs.YtknjamfjonapiaaGreatDoor
open Go.RowKit
set_option linter.unusedVariables false
set_option maxRecDepth 100000
section
variable {B : Nat} {w0 w w' : World} {F F' T R Q S : List (Nat × Obj)} {tb xb c c' pb qb : Nat} {A A' rows : List Bnd} {P P' : List Plc} {v tv u : Value} {n x key : List UInt8} {keys l : List (List UInt8)} {b : Bnd} {z kd bt : Int} {ok : Bool}
theorem decl_is (h : ExIs B w0 w xb P A F c) (hc : 1 ≤ c) (e : declX P n kd (autoB bt) = (P', z)) : Calls Tryz.prog 76 #[bpt xb, tx n, .int .i64 kd, .int .i64 bt] w fun e w' => e = .returned (.int .i64 z) ∧ ExIs B w0 w' xb P' A F c := by
 have := xdeclare_any h hc n kd bt
 rw [e] at this
 exact this
theorem bind_is {b1 b2 b3 : List UInt8} (h : ExIs B w0 w xb P A F c) (hb : FitB (b1, b2, b3)) (hc : c ≤ 100000) (e : bindX P A (b1, b2, b3) = (A', z)) : Calls Tryz.prog 78 #[bpt xb, .agg #[tx b1, tx b2, tx b3]] w fun e w' => e = .returned (.int .i64 z) ∧ ExIs B w0 w' xb P A' F (c + 50) := by
 have := xbind_any h hb hc
 rw [e] at this
 exact this
theorem rou_is (h : ExIs B w0 w xb P A F c) (hk : key.length ≤ 1000) (hc : c ≤ 100000) (e : routeX P A n key = (l, ok)) : Calls Tryz.prog 148 #[bpt xb, tx n, tx key] w fun e w' => ∃ a cap S, e = .returned (.tuple #[.slice a l.length cap, .bool ok]) ∧ TssIs (.slice a l.length cap) l S ∧ ExIs B w0 w' xb P A (S ++ F) c := by
 have := route_is h n key hk hc
 rw [e] at this
 refine this.mono ?_
 rintro e w' ⟨u, rfl, S, hu, hE⟩
 obtain ⟨a, cap, rfl⟩ := hu.form
 exact ⟨a, cap, S, rfl, hu, hE⟩
theorem ReadTs.one {a : Option Addr} {cap : Nat} (h : ReadTs w (.slice a 1 cap) [n]) : ∃ g off, a = some ⟨g, off, none⟩ ∧ w.cell? ⟨g, off, none⟩ = some (tx n) := by
 obtain ⟨a', cap', e, ht⟩ := h
 cases e
 obtain ⟨-, g, off, rfl, hc⟩ := ht.at_ 0 n rfl
 exact ⟨g, off, rfl, hc⟩
end
end Go.Proofs.YtknjamfjonapiaaGreatDoor
namespace Go.Proofs.YtknjamfjonapiaaGreatDoor
open Go.RowKit
set_option linter.unusedVariables false
set_option linter.unusedSectionVars false
set_option linter.unusedSimpArgs false
set_option maxRecDepth 100000
def StoX (qT : Bool) (B : Nat) (w0 w : World) (sb : Nat) (bs : List Nat) (S : Sto) (F : List (Nat × Obj)) (c xb : Nat) : Prop :=
 ∃ Z, ExIs B w0 w xb S.P S.A (Z ++ F) c ∧ ∀ w' P A F' c', 1 ≤ c' → ExIs B w0 w' xb P A (Z ++ F') c' → StoIs qT B w0 w' sb bs { S with P := P, A := A } F' c'
section
variable {qT : Bool} {B : Nat} {w0 w w' : World} {sb slb xb pb qb gb c c' i k : Nat} {bs : List Nat} {S S' : Sto} {L : List Pq} {xv v : Value} {d d' : Plq} {R SX SS F F' Z : List (Nat × Obj)} {o : Opt} {M : List Ent} {G : List Gst} {T : Nat} {n : List UInt8} {q z bt : Int} {e : Ent} {b : Bnd}
theorem FineS.ways (h : FineS S) {P : List Plc} {A : List Bnd} (hf : FineX P A) : FineS { S with P := P, A := A } := ⟨h.few, h.once, h.nums, h.top, h.num0, h.each, hf⟩
theorem StoIn.x (h1 : StoIn qT B w0 bs S L slb xv v R SX SS c) (hx : ExIs B w0 w xb S.P S.A (((sb, soO slb (bpt xb) v S) :: (R ++ (SS ++ pqsO L))) ++ F) c) : StoX qT B w0 w sb bs S F c xb :=
 ⟨_, hx, fun w'' P A F' c' hc h => by
  obtain ⟨SX', a, b⟩ := h.in_
  refine ⟨L, slb, bpt xb, v, R, SX', SS, { h1 with ways := b, fine := h1.fine.ways h.fine, c1 := hc }, ?_⟩
  show St B w0 w'' (stoO sb slb (bpt xb) v S L R SX' SS ++ F')
  refine a.perm (perm_by fun a => ?_)
  simp only [stoO, List.count_append, List.count_cons]; omega⟩
theorem StoX.same (h : StoX qT B w0 w sb bs S F c xb) (hc : 1 ≤ c) : StoIs qT B w0 w sb bs S F c := by
 obtain ⟨Z, h1, h2⟩ := h
 exact h2 _ _ _ _ _ hc h1
theorem StoIs.c1 (h : StoIs qT B w0 w sb bs S F c) : 1 ≤ c := by
 obtain ⟨L, slb, xv, v, R, SX, SS, h1, -⟩ := h
 exact h1.c1
set_option maxHeartbeats 2000000 in
theorem st_ways (h : StoIs qT B w0 w sb bs S F c) : Calls Tryz.prog 63 #[bpt sb] w fun e w' => ∃ xb, e = .returned (bpt xb) ∧ StoX qT B w0 w' sb bs S F c xb := by
 obtain ⟨L, slb, xv, v, R, SX, SS, h1, h2⟩ := h
 have hp : ∀ xv SX, (stoO sb slb xv v S L R SX SS ++ F).Perm (SX ++ (((sb, soO slb xv v S) :: (R ++ (SS ++ pqsO L))) ++ F)) := fun xv SX => perm_by fun a => by
  simp only [stoO, List.count_append, List.count_cons]; omega
 have c1 := (h2.seeS (List.mem_append_left _ List.mem_cons_self)).c1
 rcases h1.ways with ⟨rfl, hP, hA, rfl⟩ | ⟨xb, rfl, hx⟩
 ·have h3 := h2.perm (hp _ _)
  rw [List.nil_append] at h3
  have cn := Lib.hid (xnew_any h3)
  have st : Hid (∀ w1 xb, ExIs B w0 w1 xb [] [] (((sb, soO slb (.pointer none) v S) :: (R ++ (SS ++ pqsO L))) ++ F) 1 → w1.frozen? ⟨sb, 1, none⟩ = false ∧ w1.cell? ⟨sb, 1, none⟩ = some (.pointer none) ∧ (w1.setCell ⟨sb, 1, none⟩ (bpt xb)).cell? ⟨sb, 1, none⟩ = some (bpt xb) ∧ StoX qT B w0 (w1.setCell ⟨sb, 1, none⟩ (bpt xb)) sb bs S F c xb) := Lib.hid fun w1 xb hx => by
   obtain ⟨O, s1, s2⟩ := hx.beside
   have m0 : (sb, soO slb (.pointer none) v S) ∈ O ++ (((sb, soO slb (.pointer none) v S) :: (R ++ (SS ++ pqsO L))) ++ F) := List.mem_append_right _ (List.mem_append_left _ List.mem_cons_self)
   have s3 : St B w0 (w1.setCell ⟨sb, 1, none⟩ (bpt xb)) (O ++ ((sb, soO slb (bpt xb) v S) :: ((R ++ (SS ++ pqsO L)) ++ F))) := St.set (A := O) s1 1 (bpt xb)
   have s4 := s2 _ (((sb, soO slb (bpt xb) v S) :: (R ++ (SS ++ pqsO L))) ++ F) s3
   refine ⟨s1.soft m0 1, s1.cell m0 rfl, s3.cell (b := sb) (List.mem_append_right _ List.mem_cons_self) rfl, StoIn.x h1 ?_⟩
   rw [hP, hA]
   exact s4.mono h1.c1
  clear h1 h2 h3 hp hP hA
  generalize w.heap.size = xb at *
  go_enter Tryz.func63, Tryz.ntmps63
  go_wp2_with fail
  refine cn.out.mono ?_
  rintro e w1 ⟨rfl, hx⟩
  obtain ⟨f1, k1, k2, fin⟩ := st.out w1 xb hx
  replace fin := Lib.hid fin
  clear cn st hx
  go_wp2_with fail
  go_ret
  exact ⟨_, rfl, fin.out⟩
 ·have fin := Lib.hid (StoIn.x h1 (hx _ _ (h2.perm (hp _ _))))
  clear h1 h2 hp hx
  go_enter Tryz.func63, Tryz.ntmps63
  go_wp2_with fail
  go_ret
  exact ⟨_, rfl, fin.out⟩
set_option maxHeartbeats 1000000 in
theorem st_has (h : StoIs qT B w0 w sb bs S F c) (n : List UInt8) : Calls Tryz.prog 17 #[bpt sb, tx n] w fun e w' => e = .returned (.bool (hasX S.P n)) ∧ StoIs qT B w0 w' sb bs S F c := by
 have hc := h.c1
 have cw := Lib.hid (st_ways h)
 clear h
 go_enter Tryz.func17, Tryz.ntmps17
 go_wp2_with fail
 refine cw.out.mono ?_
 rintro e w1 ⟨xb, rfl, hx⟩
 have ch : Hid (Calls Tryz.prog 64 #[bpt xb, tx n] w1 fun e w' => e = .returned (.bool (hasX S.P n)) ∧ w' = w1) := Lib.hid (by
  obtain ⟨Z, x1, -⟩ := hx
  exact has_is x1 n)
 have fin := Lib.hid (hx.same hc)
 clear cw hx
 go_wp2_with fail
 refine ch.out.mono ?_
 rintro e w2 ⟨rfl, rfl⟩
 clear ch
 go_wp2_with fail
 go_ret
 exact ⟨rfl, fin.out⟩
set_option maxHeartbeats 1000000 in
theorem st_exch (h : StoIs qT B w0 w sb bs S F c) (n k : List UInt8) (bt : Int) {S' : Sto} {z : Int} (hS : S.exch n k bt = (S', z)) : Calls Tryz.prog 28 #[bpt sb, tx n, tx k, .int .i64 bt] w fun e w' => e = .returned (.int .i64 z) ∧ StoIs qT B w0 w' sb bs S' F c := by
 have hc := h.c1
 have cw := Lib.hid (st_ways h)
 have ck := Lib.hid (fun w => kind_any k w)
 obtain ⟨kd, hkd⟩ : ∃ kd, kd = kindL k := ⟨_, rfl⟩
 rw [← hkd] at ck
 have cd : Hid (∀ w1 xb, StoX qT B w0 w1 sb bs S F c xb → Calls Tryz.prog 76 #[bpt xb, tx n, .int .i64 kd, .int .i64 bt] w1 fun e w' => e = .returned (.int .i64 z) ∧ StoIs qT B w0 w' sb bs S' F c) := Lib.hid fun w1 xb hx => by
  obtain ⟨Z, x1, x2⟩ := hx
  unfold Sto.exch at hS
  rw [← hkd] at hS
  obtain ⟨rfl, rfl⟩ := Prod.mk.inj hS
  refine (decl_is x1 hc (P' := (declX S.P n kd (autoB bt)).1) (z := (declX S.P n kd (autoB bt)).2) rfl).mono ?_
  rintro e w' ⟨rfl, h2⟩
  exact ⟨rfl, x2 _ _ _ _ _ hc h2⟩
 clear h hS hkd
 go_enter Tryz.func28, Tryz.ntmps28
 go_wp2_with fail
 refine cw.out.mono ?_
 rintro e w1 ⟨xb, rfl, hx⟩
 replace cd := Lib.hid (cd.out w1 xb hx)
 clear cw hx
 go_wp2_with fail
 refine (ck.out w1).mono ?_
 rintro e w2 ⟨rfl, rfl⟩
 clear ck
 go_wp2_with fail
 refine cd.out.mono ?_
 rintro e w3 ⟨rfl, h3⟩
 replace h3 := Lib.hid h3
 clear cd
 go_wp2_with fail
 go_ret
 exact ⟨rfl, h3.out⟩
set_option maxHeartbeats 1000000 in
theorem st_bind (h : StoIs qT B w0 w sb bs S F c) {b1 b2 b3 : List UInt8} (hb : FitB (b1, b2, b3)) (hc : c ≤ 100000) (q : Int) {S' : Sto} {z : Int} (hS : S.bind (b1, b2, b3) q = (S', z)) :
  Calls Tryz.prog 29 #[bpt sb, .agg #[tx b1, tx b2, tx b3], .int .i64 q] w fun e w' => e = .returned (.int .i64 z) ∧ StoIs qT B w0 w' sb bs S' F (c + 50) := by
 have h1 := h.alloc (bO (b1, b2, b3))
 have hc1 := h.c1
 unfold Sto.bind at hS
 simp only at hS
 rcases open_ways S b2 q with ⟨y, ho, hy⟩ | ⟨i, d, ho, e1, hi, e2, -⟩
 ·rw [ho] at hS
  obtain ⟨rfl, rfl⟩ := Prod.mk.inj hS
  have co := Lib.hid (st_open_no h1 ho)
  have fin : Hid (∀ w', StoIs qT B w0 w' sb bs S ((w.heap.size, bO (b1, b2, b3)) :: F) c → StoIs qT B w0 w' sb bs S F (c + 50)) := Lib.hid fun w' h' => (h'.sub (List.sublist_cons_self _ _)).mono (by omega)
  have hyb : (y != 0) = true := by rcases hy with rfl | rfl <;> rfl
  clear h h1 ho hy hb hc hS hc1
  go_enter Tryz.func29, Tryz.ntmps29
  go_wp2_with fail
  refine co.out.mono ?_
  rintro e w1 ⟨rfl, hx⟩
  replace fin := Lib.hid (fin.out w1 hx)
  clear co hx
  go_wp2_with fail
  go_ret
  exact ⟨rfl, fin.out⟩
 ·rw [ho] at hS
  simp only at hS
  obtain ⟨rfl, rfl⟩ := Prod.mk.inj hS
  obtain ⟨pb, hpb⟩ := h.blk hi
  have co := Lib.hid (st_open_yes h1 ho hpb)
  have cw : Hid (∀ w1, StoIs qT B w0 w1 sb bs S ((w.heap.size, bO (b1, b2, b3)) :: F) c → Calls Tryz.prog 63 #[bpt sb] w1 fun e w' => ∃ xb, e = .returned (bpt xb) ∧ StoX qT B w0 w' sb bs S ((w.heap.size, bO (b1, b2, b3)) :: F) c xb ∧ (w'.cell? ⟨w.heap.size, 0, none⟩ = some (tx b1) ∧ w'.cell? ⟨w.heap.size, 1, none⟩ = some (tx b2) ∧ w'.cell? ⟨w.heap.size, 2, none⟩ = some (tx b3))) := Lib.hid fun w1 h' => (st_ways h').mono (by
   rintro e w' ⟨xb, rfl, hx⟩
   have h3 := hx.same hc1
   exact ⟨xb, rfl, hx, ⟨h3.cell List.mem_cons_self rfl, h3.cell List.mem_cons_self rfl, h3.cell List.mem_cons_self rfl⟩⟩)
  have cb : Hid (∀ w1 xb, StoX qT B w0 w1 sb bs S ((w.heap.size, bO (b1, b2, b3)) :: F) c xb → Calls Tryz.prog 78 #[bpt xb, .agg #[tx b1, tx b2, tx b3]] w1 fun e w' => e = .returned (.int .i64 (bindX S.P S.A (b1, b2, b3)).2) ∧ StoIs qT B w0 w' sb bs { S with A := (bindX S.P S.A (b1, b2, b3)).1 } ((w.heap.size, bO (b1, b2, b3)) :: F) (c + 50) ∧
    (w'.cell? ⟨w.heap.size, 0, none⟩ = some (tx b1) ∧ w'.cell? ⟨w.heap.size, 1, none⟩ = some (tx b2) ∧ w'.cell? ⟨w.heap.size, 2, none⟩ = some (tx b3))) := Lib.hid fun w1 xb hx => by
   obtain ⟨Z, x1, x2⟩ := hx
   refine (bind_is x1 hb hc (A' := (bindX S.P S.A (b1, b2, b3)).1) (z := (bindX S.P S.A (b1, b2, b3)).2) rfl).mono ?_
   rintro e w' ⟨rfl, h2⟩
   have h3 := x2 _ _ _ ((w.heap.size, bO (b1, b2, b3)) :: F) _ (by omega) h2
   exact ⟨rfl, h3, h3.cell List.mem_cons_self rfl, h3.cell List.mem_cons_self rfl, h3.cell List.mem_cons_self rfl⟩
  have hcells : Hid (∀ w1, StoIs qT B w0 w1 sb bs S ((w.heap.size, bO (b1, b2, b3)) :: F) c → StoIs qT B w0 w1.drew sb bs S ((w.heap.size, bO (b1, b2, b3)) :: F) c ∧ Hid (w1.drew.cell? ⟨w.heap.size, 0, none⟩ = some (tx b1) ∧ w1.drew.cell? ⟨w.heap.size, 1, none⟩ = some (tx b2) ∧ w1.drew.cell? ⟨w.heap.size, 2, none⟩ = some (tx b3))) := Lib.hid fun w1 h' => by
   have h3 := h'.grow (drew_b w1)
   exact ⟨h3, Lib.hid ⟨h3.cell List.mem_cons_self rfl, h3.cell List.mem_cons_self rfl, h3.cell List.mem_cons_self rfl⟩⟩
  generalize (bindX S.P S.A (b1, b2, b3)).2 = z at *
  generalize ({ S with A := (bindX S.P S.A (b1, b2, b3)).1 } : Sto) = S' at *
  clear h h1 ho hpb hi e1 e2 hb hc hS hc1
  go_enter Tryz.func29, Tryz.ntmps29
  go_wp2_with fail
  refine co.out.mono ?_
  rintro e w1 ⟨rfl, hx⟩
  obtain ⟨hx1, hs0⟩ := hcells.out w1 hx
  clear co hx hcells
  generalize w.heap.size = nb at *
  go_wp2_with fail
  go_region_held3 (fun x => x.cell? ⟨nb, 0, none⟩ = some (tx b1) ∧ x.cell? ⟨nb, 1, none⟩ = some (tx b2) ∧ x.cell? ⟨nb, 2, none⟩ = some (tx b3)) (first | exact kS | exact hs0.out) (first
   | (go_at_call 63; refine (cw.out _ (by assumption)).mono ?_; rintro e w'' ⟨xb, rfl, hX, kS⟩)
   | (go_at_call 78; refine (cb.out _ _ (by assumption)).mono ?_; rintro e w'' ⟨rfl, h3, kS⟩))
  have fin := Lib.hid (h3.sub (List.sublist_cons_self _ _))
  clear h3 hX hx1 hs0 cw cb
  go_wp2_with fail
  go_ret
  exact ⟨rfl, fin.out⟩
end
end Go.Proofs.YtknjamfjonapiaaGreatDoor
