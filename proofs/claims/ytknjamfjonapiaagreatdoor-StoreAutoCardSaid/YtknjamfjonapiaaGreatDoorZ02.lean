import Derived.Test.YtknjamfjonapiaaGreatDoorZ01
import Derived.Laws.BytesArg
import Derived.RegionCalls
import Derived.Maps.OwnSet
import Derived.Deep.RegionHeld3
import Derived.Laws.BitsLemmas
import Derived.Laws.Strings
import Derived.Lib.Bytealg
import Derived.Test.YtknjamfjonapiaaGreatDoorProg
namespace Go.Proofs.YtknjamfjonapiaaGreatDoor
open Go.RowKit
set_option linter.unusedVariables false
set_option maxRecDepth 100000
theorem perm_of_count {α : Type} {l m : List α} (h : ∀ (d : DecidableEq α) (a : α), @List.count α (@instBEqOfDecidableEq α d) a l = @List.count α (@instBEqOfDecidableEq α d) a m) : l.Perm m := by
 classical
 exact List.perm_iff_count.2 (fun a => h _ a)
section
variable {B : Nat} {w0 w : World} {g : SlabG} {F : List (Nat × Obj)}
def SlabG.raw (g : SlabG) (R : List (Nat × Obj)) : List (Nat × Obj) := (g.sb, g.obj) :: (cellsH g.spare ++ R)
theorem giveBack_final {R : List (Nat × Obj)} {l1 : Chain} {b : Nat} {cs : List UInt8} (h : St B w0 w (g.raw (cellsH (l1 ++ [(b, cs)]) ++ R))) (hc : cs.length = 32) :
  St B w0 ((w.setCell ⟨b, 32, none⟩ (headP g.spare)).setCell ⟨g.sb, 2, none⟩ (headP (l1 ++ [(b, cs)]))) ({ g with spare := (l1 ++ [(b, cs)]) ++ g.spare }.raw R) := by
 rw [cellsH_append] at h
 have h1 : St B w0 w (((g.sb, g.obj) :: (cellsH g.spare ++ cellsT l1 (headP [(b, cs)]))) ++ (b, cellObj cs (Value.pointer none)) :: R) := by
  simpa [cellsH, headP, SlabG.raw] using h
 have h2 := St.set (c := (cs.map u8v ++ [Value.pointer none]).toArray) (T := 232) (fr := (0, 0)) h1 32 (headP g.spare)
 rw [cellObj_set cs _ _ hc] at h2
 have h3 : St B w0 (w.setCell ⟨b, 32, none⟩ (headP g.spare)) ((g.sb, g.obj) :: ((cellsH g.spare ++ cellsT l1 (headP [(b, cs)])) ++ (b, cellObj cs (headP g.spare)) :: R)) := h2
 have h4 := h3.set0 2 (headP (l1 ++ [(b, cs)]))
 refine h4.perm ?_
 have e : ({ g with spare := (l1 ++ [(b, cs)]) ++ g.spare } : SlabG).raw R = (g.sb, { g with spare := (l1 ++ [(b, cs)]) ++ g.spare }.obj) :: (cellsT l1 (headP [(b, cs)]) ++ (b, cellObj cs (headP g.spare)) :: (cellsH g.spare ++ R)) := by
  show (_ :: (cellsH ((l1 ++ [(b, cs)]) ++ g.spare) ++ R)) = _
  rw [List.append_assoc l1, cellsH_append]
  simp [cellsH, headP, SlabG.obj]
 rw [e]
 have e2 : (.cells ((#[.int .i64 g.free, .int .i64 g.last, headP g.spare, .map g.mb] : Array Value).setIfInBounds 2 (headP (l1 ++ [(b, cs)]))) 144 : Obj) = ({ g with spare := (l1 ++ [(b, cs)]) ++ g.spare } : SlabG).obj := by
  simp only [SlabG.obj, headP_append (l1 ++ [(b, cs)])]
  cases l1 <;> rfl
 rw [e2]
 refine .cons _ ?_
 refine perm_of_count fun d a => ?_
 simp only [List.count_append, List.count_cons]
 omega
theorem St.r2 {R : List (Nat × Obj)} (h : St B w0 w (g.raw R)) : w.cell? ⟨g.sb, 2, none⟩ = some (headP g.spare) := h.cell List.mem_cons_self rfl
theorem St.rf {R : List (Nat × Obj)} (h : St B w0 w (g.raw R)) (i : Nat) : w.frozen? ⟨g.sb, i, none⟩ = false := h.soft List.mem_cons_self i
set_option maxHeartbeats 1000000 in
theorem giveBack_any {R : List (Nat × Obj)} (ch : Chain) (h : St B w0 w (g.raw (cellsH ch ++ R))) (hf : Full ch) :
  Calls Tryz.prog 193 #[ptr g.sb, headP ch] w fun e w' => e = .returned (.tuple #[]) ∧ St B w0 w' ({ g with spare := ch ++ g.spare }.raw R) := by
 cases hch : ch with
 | nil =>
  subst hch
  have hfin : St B w0 w ({ g with spare := [] ++ g.spare }.raw R) := h
  have hfin := Lib.hid hfin
  clear h
  simp only [headP]
  go_enter Tryz.func193, Tryz.ntmps193
  go_wp2_with fail
  go_step3
  go_wp2_with fail
  try rw [Exit.noGoto_ret]
  exact bodyPost_ret (results_none rfl _ _ _) rfl ⟨rfl, hfin.out⟩
 | cons x r =>
  obtain ⟨b0, cs0⟩ := x
  rw [hch] at h hf
  clear hch
  have hs2 := h.r2
  have hsf := h.rf 2
  obtain ⟨p, hp⟩ := headP_ptr g.spare
  rw [hp] at hs2
  have hp := Lib.hid hp
  have hcell : ∀ (l1 l2 : Chain) (b : Nat) (cs : List UInt8), (b0, cs0) :: r = l1 ++ (b, cs) :: l2 → w.cell? ⟨b, 32, none⟩ = some (headP l2) ∧ w.frozen? ⟨b, 32, none⟩ = false ∧ g.sb ≠ b ∧ cs.length = 32 := by
   intro l1 l2 b cs e
   rw [e] at h hf
   have hm : (b, cellObj cs (headP l2)) ∈ g.raw (cellsH (l1 ++ (b, cs) :: l2) ++ R) := by simp [SlabG.raw, mem_cellsH]
   have hc := hf (b, cs) (by simp)
   refine ⟨h.cell hm (by simp [hc]), h.soft hm 32, ?_, hc⟩
   have h' : St B w0 w ((g.sb, g.obj) :: (cellsH g.spare ++ (cellsH (l1 ++ (b, cs) :: l2) ++ R))) := h
   exact h'.ne (o' := cellObj cs (headP l2)) (by simp [mem_cellsH])
  have hcell := Lib.hid hcell
  have h := Lib.hid h
  show Calls Tryz.prog 193 #[ptr g.sb, ptr b0] w _
  go_enter Tryz.func193, Tryz.ntmps193
  go_wp2_with fail
  refine wp_scope_ghost 0 (fun n a' w' => w = w' ∧ ∃ (l1 l2 : Chain) (b : Nat) (cs : List UInt8), n = l2.length ∧ Hid ((b0, cs0) :: r = l1 ++ (b, cs) :: l2) ∧ Fr 28 [(0, ptr g.sb), (1, ptr b0), (4, ptr b)] a') rfl ?_ ?_
  ·rintro n a' w' ⟨rfl, l1, l2, b, cs, rfl, he, hfr⟩
   obtain ⟨f, rfl, hl⟩ := hfr.lit
   clear hfr
   simp only [List.mem_cons, List.not_mem_nil, or_false, forall_eq_or_imp, forall_eq] at hl
   obtain ⟨f0, f1, f4⟩ := hl
   simp only [List.range, List.range.loop, List.map, f0, f1, f4]
   clear f0 f1 f4
   obtain ⟨c32, cf, cne, clen⟩ := hcell.out l1 l2 b cs he.out
   have clen := Lib.hid clen
   cases l2 with
   | nil =>
    simp only [headP] at c32
    go_wp2_with fail
    simp only [Exit.jump]
    refine bodyPost_end (results_none rfl _ _ _) rfl ⟨rfl, ?_⟩
    have h1 := h.out
    have he := he.out
    show St B w0 _ ({ g with spare := ((b0, cs0) :: r) ++ g.spare }.raw R)
    rw [he] at h1 ⊢
    have h2 := giveBack_final h1 clen.out
    rw [hp.out] at h2
    have e : headP (l1 ++ [(b, cs)]) = ptr b0 := by rw [← he]; rfl
    rw [e] at h2
    exact h2
   | cons y l2 =>
    obtain ⟨b2, cs2⟩ := y
    simp only [headP] at c32
    go_wp2_with fail
    refine wp_goto ?_
    refine ⟨rfl, l2.length, Nat.lt_succ_self _, rfl, l1 ++ [(b, cs)], l2, b2, cs2, rfl, ?_, ⟨rfl, rfl, by simp⟩⟩
    rw [he.out]
    simp [Hid]
  ·intro H
   go_wp2_with fail
   refine wp_label ?_
   go_step
   go_step
   exact H r.length _ _ ⟨rfl, [], r, b0, cs0, rfl, Lib.hid rfl, ⟨rfl, rfl, by simp⟩⟩
end
section
variable {B : Nat} {w0 w : World} {g : SlabG} {F : List (Nat × Obj)}
theorem St.blocks {H : List (Nat × Obj)} (h : St B w0 w H) : ∀ k, w.heap.size ≤ k → k ∉ H.map (·.1) := by
 intro k hk hm
 obtain ⟨p, hp, rfl⟩ := List.mem_map.1 hm
 have := h.lt (b := p.1) (o := p.2) hp
 omega
theorem St.cellAt {H : List (Nat × Obj)} (_h : St B w0 w H) {k : Nat} {cs : List UInt8} {v : Value} (hk : w.heap[k]? = some (cellObj cs v)) (hl : cs.length = 32) : w.cell? ⟨k, 32, none⟩ = some v := by
 unfold cellObj at hk
 simp only [World.cell?, hk]
 simp [hl]
end
section
variable {B : Nat} {w0 w : World} {g : SlabG} {F : List (Nat × Obj)}
def newG (sb : Nat) (room : Int) : SlabG := { sb, free := min (max room 0) 100000, last := 0, spare := [], mb := none, clk := 0, bs := [] }
theorem newG_wf (sb : Nat) (room : Int) : (newG sb room).Wf := by
 refine ⟨fun _ => rfl, fun c hc => ?_, fun b hb => ?_, List.nodup_nil, ?_, ?_, Int.le_refl _, Nat.zero_le _⟩
 ·exact absurd hc List.not_mem_nil
 ·exact absurd hb List.not_mem_nil
 ·simp only [newG]; omega
 ·simp only [newG]; omega
set_option maxHeartbeats 400000 in
theorem sbNew_any (h : St B w0 w F) (room : Int) :
  Calls Tryz.prog 41 #[.int .i64 room] w fun e w' => e = .returned (ptr w.heap.size) ∧ St B w0 w' ((newG w.heap.size room).heap ++ F) := by
 have key : ∀ r : Int, r = min (max room 0) 100000 → St B w0 (w.alloc (.cells #[.int .i64 r, .int .i64 0, .pointer none, .map none] 144)) ((newG w.heap.size room).heap ++ F) := by
  intro r hr
  subst hr
  exact h.alloc _
 have key := Lib.hid key
 clear h
 go_enter Tryz.func41, Tryz.ntmps41
 go_wp2_with fail
 all_goals
  go_ret
  exact ⟨rfl, key.out _ (by omega)⟩
set_option maxHeartbeats 400000 in
theorem drop_none (h : St B w0 w (g.heap ++ F)) {k : Int} (hs : g.seek k = none) :
  Calls Tryz.prog 130 #[ptr g.sb, .int .i64 k] w fun e w' => e = .returned (.tuple #[.bool false, .int .i64 13]) ∧ w = w' := by
 have h0 := h.s3
 have hl := h.look_none hs
 clear hs
 go_enter Tryz.func130, Tryz.ntmps130
 go_wp2_with fail
 go_ret2
 exact ⟨rfl, rfl⟩
def BodyG.less (b : BodyG) : BodyG := { b with held := b.held - 1 }
set_option maxHeartbeats 400000 in
theorem drop_less (h : St B w0 w (g.heap ++ F)) (wf : g.Wf) {k : Int} {b : BodyG} (hs : g.seek k = some b) (h2 : 1 < b.held) (hb : b.held ≤ 9223372036854775807) :
  Calls Tryz.prog 130 #[ptr g.sb, .int .i64 k] w fun e w' => e = .returned (.tuple #[.bool false, .int .i64 0]) ∧ St B w0 w' ((g.upd k BodyG.less).heap ++ F) := by
 have h0 := h.s3
 have hl := h.look_some wf hs
 obtain ⟨l1, l2, hbs, e1, e2, ek⟩ := SlabG.split wf.keys hs
 have hm := (SlabG.mem_of_seek hs).1
 have h2 := h.b2 hm
 have hf := h.bf hm 2
 have HF : Hid (St B w0 (w.setCell ⟨b.blk, 2, none⟩ (.int .i64 (b.held - 1))) ((g.upd k BodyG.less).heap ++ F)) := by
  rw [SlabG.upd_heap hbs e1 e2 ek (f := BodyG.less) rfl rfl]
  rw [SlabG.heap_split hbs] at h
  exact h.set 2 _
 clear hs hbs ek h wf e1 e2 hm
 go_enter Tryz.func130, Tryz.ntmps130
 go_wp2_with fail
 go_ret2
 exact ⟨rfl, HF.out⟩
theorem erase_ents {k : Int} {bs l1 l2 : List BodyG} {b : BodyG} (hbs : bs = l1 ++ b :: l2) (e1 : ∀ x ∈ l1, x.h ≠ k) (ek : b.h = k) :
  (bs.map BodyG.ent).eraseP (·.1 == k) = (l1 ++ l2).map BodyG.ent := by
 rw [List.eraseP_map]
 have : ((fun x : Int × Value × Nat => x.1 == k) ∘ BodyG.ent) = fun x => x.h == k := rfl
 rw [this, hbs, eraseP_split e1 ek]
theorem perm_a {α : Type} (s b m : α) (C L : List α) : (s :: (C ++ (b :: m :: L))).Perm (m :: b :: s :: (C ++ L)) :=
 perm_of_count fun d a => by simp only [List.count_append, List.count_cons]; omega
theorem perm_b {α : Type} (m b : α) (S L1 C L2 F : List α) : (([m] ++ (S ++ L1)) ++ (b :: (C ++ (L2 ++ F)))).Perm (S ++ (C ++ (b :: m :: ((L1 ++ L2) ++ F)))) :=
 perm_of_count fun d a => by simp only [List.count_append, List.count_cons, List.count_nil]; omega
theorem perm_c {α : Type} (m s : α) (C L F : List α) : (m :: s :: (C ++ (L ++ F))).Perm (s :: (([m] ++ (C ++ L)) ++ F)) :=
 perm_of_count fun d a => by simp only [List.count_append, List.count_cons, List.count_nil]; omega
theorem drop_final {l1 l2 : List BodyG} {b : BodyG} {k : Int} {m : Nat} {bo : Obj} {fr : Int} (hfr : fr = g.free + cls b.size) (hbs : g.bs = l1 ++ b :: l2) (e1 : ∀ x ∈ l1, x.h ≠ k) (ek : b.h = k) (hmb : g.mb = some m)
  (h : St B w0 w (({ g with spare := b.cells ++ g.spare } : SlabG).raw ((b.blk, bo) :: (m, .map (entsI (g.bs.map BodyG.ent)) g.clk) :: ((l1 ++ l2).flatMap BodyG.heap ++ F)))) :
  St B w0 (ChangeMaps.setBlock (w.setCell ⟨g.sb, 0, none⟩ (.int .i64 fr)) m (.map (entsI ((g.bs.map BodyG.ent).eraseP (·.1 == k))) g.clk)) ((g.cut k b).heap ++ F) := by
 subst hfr
 have h1 := h.set0 0 (.int .i64 (g.free + cls b.size))
 have h2 : St B w0 _ ((m, .map (entsI (g.bs.map BodyG.ent)) g.clk) :: (b.blk, bo) :: (g.sb, (g.cut k b).obj) :: (cellsH (b.cells ++ g.spare) ++ ((l1 ++ l2).flatMap BodyG.heap ++ F))) := St.perm h1 (perm_a _ _ _ _ _)
 have h3 := h2.block0 (o' := .map (entsI ((g.bs.map BodyG.ent).eraseP (·.1 == k))) g.clk)
 have h5 := (h3.perm (.swap _ _ _)).sub (List.sublist_cons_self _ _)
 rw [erase_ents hbs e1 ek] at h5 ⊢
 refine h5.perm ?_
 have eb : (g.cut k b).bs = l1 ++ l2 := by simp only [SlabG.cut]; rw [hbs, eraseP_split e1 ek]
 have em : (g.cut k b).mapH = [(m, .map (entsI ((l1 ++ l2).map BodyG.ent)) g.clk)] := by
  rw [SlabG.mapH_some (g := g.cut k b) hmb, eb]
  rfl
 unfold SlabG.heap
 rw [em, eb]
 exact perm_c _ _ _ _ _
set_option maxHeartbeats 1000000 in
theorem drop_last (h : St B w0 w (g.heap ++ F)) (wf : g.Wf) {k : Int} {b : BodyG} (hs : g.seek k = some b) (h1 : b.held = 1) (hfree : g.free ≤ 100000) :
  Calls Tryz.prog 130 #[ptr g.sb, .int .i64 k] w fun e w' => e = .returned (.tuple #[.bool true, .int .i64 0]) ∧ St B w0 w' ((g.cut k b).heap ++ F) := by
 obtain ⟨l1, l2, hbs, e1, e2, ek⟩ := SlabG.split wf.keys hs
 have hm := (SlabG.mem_of_seek hs).1
 obtain ⟨m, hmb⟩ := wf.map hm
 have h0 := h.s3
 rw [hmb] at h0
 have hl := h.look_some wf hs
 rw [hmb] at hl
 have h2 := h.b2 hm
 rw [h1] at h2
 have c0 := h.b0 hm
 have hf := h.bf hm 2
 obtain ⟨p, hp⟩ := headP_ptr b.cells
 rw [hp] at c0
 have ha : St B w0 (w.setCell ⟨b.blk, 2, none⟩ (.int .i64 0)) (g.raw (cellsH b.cells ++ ((b.blk, (.cells #[headP b.cells, .int .i64 b.size, .int .i64 0] 146 : Obj)) :: (m, .map (entsI (g.bs.map BodyG.ent)) g.clk) :: ((l1 ++ l2).flatMap BodyG.heap ++ F)))) := by
  rw [SlabG.heap_split hbs] at h
  refine (h.set 2 (.int .i64 0)).perm ?_
  unfold SlabG.pre SlabG.post SlabG.raw
  rw [SlabG.mapH_some hmb]
  rw [List.flatMap_append]
  exact .cons _ (perm_b _ _ _ _ _ _ _)
 have hg := giveBack_any b.cells ha (wf.bodies b hm).1.full
 rw [hp] at hg
 have hg := Lib.hid hg
 have hcl := cls_le b.size
 have f0 := wf.free0
 have hcls := fun w => class_any b.size w
 have hall := Lib.hid (And.intro hbs (And.intro e1 (And.intro ek hmb)))
 clear hs hbs ek h e1 e2 hmb h1 hp ha
 have hm := Lib.hid hm
 have wf := Lib.hid wf
 have hcls := Lib.hid hcls
 go_enter Tryz.func130, Tryz.ntmps130
 go_wp2_with fail
 refine hg.out.mono ?_
 rintro e w1 ⟨rfl, hw1⟩
 have k0 := hw1.cell (b := g.sb) (i := 0) (v := .int .i64 g.free) List.mem_cons_self rfl
 have k3 := hw1.cell (b := g.sb) (i := 3) (v := .map g.mb) List.mem_cons_self rfl
 rw [hall.out.2.2.2] at k3
 have kf := hw1.soft (b := g.sb) List.mem_cons_self 0
 have k1 := hw1.cell (b := b.blk) (i := 1) (v := .int .i64 b.size) (c := #[.pointer p, .int .i64 b.size, .int .i64 0]) (T := 146) (fr := (0, 0)) (by simp [SlabG.raw]) rfl
 have hmap : ∀ v, (w1.drew.setCell ⟨g.sb, 0, none⟩ v).heap[m]? = some (.map (entsI (g.bs.map BodyG.ent)) g.clk) := fun v => (hw1.drew.set0 0 v).get (by simp)
 have hmap := Lib.hid hmap
 have hw1 := Lib.hid hw1
 clear h0 hl h2 c0 hf
 go_wp2_with fail
 go_region_with (go_at_call 95; refine (hcls.out _).mono ?_; rintro e w' ⟨rfl, rfl⟩)
 all_goals
  go_wp2_with (at_delete; refine wpList_deleteI rfl (.tmp 52) (.tmp 53) rfl uBodies uInt rfl (hmap.out _) k rfl ?_; intro w2 hw2)
  go_ret2
  refine ⟨rfl, ?_⟩
  rw [hw2.out]
  exact drop_final rfl hall.out.1 hall.out.2.1 hall.out.2.2.1 hall.out.2.2.2 hw1.out.drew
end
section
variable {B : Nat} {w0 w : World} {g : SlabG} {F : List (Nat × Obj)}
set_option maxHeartbeats 400000 in
theorem put_large (g : SlabG) (s : ByteArray) (hl : 256 < s.size) (hm : s.size ≤ maxLen) :
  Calls Tryz.prog 39 #[ptr g.sb, .string s] w fun e w' => e = .returned (.tuple #[.int .i64 0, .int .i64 15]) ∧ w = w' := by
 have h1 : (256 : Int) < s.size := by omega
 have h2 : (s.size : Int) ≤ 9223372036854775807 := by unfold maxLen at hm; omega
 clear hl hm
 go_enter Tryz.func39, Tryz.ntmps39
 go_wp2_with fail
 go_ret2
 exact ⟨rfl, rfl⟩
set_option maxHeartbeats 400000 in
theorem put_full (h : St B w0 w (g.heap ++ F)) (wf : g.Wf) (s : ByteArray) (hl : s.size ≤ 256) (hf : g.free < cls s.size ∨ 400 ≤ g.bs.length) :
  Calls Tryz.prog 39 #[ptr g.sb, .string s] w fun e w' => e = .returned (.tuple #[.int .i64 0, .int .i64 12]) ∧ w = w' := by
 have h1 : (s.size : Int) ≤ 256 := by omega
 have h0 := h.s0
 have h3 := h.s3
 have hlen := h.len wf 3
 have hcl := Lib.hid (fun w => class_any s.size w)
 have hcb := cls_le s.size
 clear hl h
 by_cases hc : g.free < cls s.size
 ·go_enter Tryz.func39, Tryz.ntmps39
  go_wp2_with fail
  refine (hcl.out _).mono ?_
  rintro e w' ⟨rfl, rfl⟩
  go_wp2_with fail
  go_ret2
  exact ⟨rfl, rfl⟩
 ·have h4 : (400 : Int) ≤ g.bs.length := by omega
  have hc' : cls s.size ≤ g.free := by omega
  clear hf hc
  go_enter Tryz.func39, Tryz.ntmps39
  go_wp2_with fail
  refine (hcl.out _).mono ?_
  rintro e w' ⟨rfl, rfl⟩
  go_wp2_with fail
  go_ret2
  exact ⟨rfl, rfl⟩
def SlabG.put (g : SlabG) (c : Int) (sp : Chain) (m clk : Nat) (nb : BodyG) : SlabG :=
 { g with free := g.free - c, last := g.last + 1, spare := sp, mb := some m, clk := clk, bs := g.bs ++ [nb] }
theorem perm_d {α : Type} (b s m : α) (S Bd C F : List α) : (b :: (s :: (([m] ++ (S ++ Bd)) ++ (C ++ F)))).Perm (m :: (s :: (S ++ (Bd ++ (b :: C)) ++ F))) :=
 perm_of_count fun d a => by simp only [List.count_append, List.count_cons, List.count_nil]; omega
theorem perm_e {α : Type} (s m : α) (X F : List α) : (m :: (s :: (X ++ F))).Perm (s :: (([m] ++ X) ++ F)) :=
 perm_of_count fun d a => by simp only [List.count_append, List.count_cons, List.count_nil]; omega
theorem put_final {g2 : SlabG} {sp acc : Chain} {m : Nat} {sz : Int} (hm : g2.mb = some m) (h : St B w0 w (({ g2 with spare := sp } : SlabG).heap ++ (cellsH acc ++ F))) :
  St B w0 (ChangeMaps.setBlock (w.alloc (.cells #[headP acc, .int .i64 sz, .int .i64 1] 146)) m (.map (entsI (g2.bs.map BodyG.ent ++ [(g2.last, ptr w.heap.size, g2.clk)])) (g2.clk + 1)))
   (({ g2 with spare := sp, clk := g2.clk + 1, bs := g2.bs ++ [⟨g2.last, w.heap.size, g2.clk, acc, sz, 1⟩] } : SlabG).heap ++ F) := by
 have h1 := h.alloc (.cells #[headP acc, .int .i64 sz, .int .i64 1] 146)
 unfold SlabG.heap at h1
 rw [SlabG.mapH_some (g := { g2 with spare := sp }) hm] at h1
 have h2 := (h1.perm (perm_d _ _ _ _ _ _ _)).block0 (o' := .map (entsI (g2.bs.map BodyG.ent ++ [(g2.last, ptr w.heap.size, g2.clk)])) (g2.clk + 1))
 have h3 := h2.perm (perm_e _ _ _ _)
 unfold SlabG.heap
 rw [SlabG.mapH_some (g := { g2 with spare := sp, clk := g2.clk + 1, bs := g2.bs ++ [⟨g2.last, w.heap.size, g2.clk, acc, sz, 1⟩] }) hm]
 have e1 : (g2.bs ++ [(⟨g2.last, w.heap.size, g2.clk, acc, sz, 1⟩ : BodyG)]).map BodyG.ent = g2.bs.map BodyG.ent ++ [(g2.last, ptr w.heap.size, g2.clk)] := by simp [BodyG.ent]
 have e2 : (g2.bs ++ [(⟨g2.last, w.heap.size, g2.clk, acc, sz, 1⟩ : BodyG)]).flatMap BodyG.heap = g2.bs.flatMap BodyG.heap ++ ((w.heap.size, (.cells #[headP acc, .int .i64 sz, .int .i64 1] 146 : Obj)) :: cellsH acc) := by simp [BodyG.heap, BodyG.obj]
 rw [e1, e2]
 exact h3
theorem cell?_setBlock_ne {a : Addr} {m : Nat} {o : Obj} (h : a.block ≠ m) : (ChangeMaps.setBlock w m o).cell? a = w.cell? a := by
 simp only [World.cell?, ChangeMaps.setBlock]
 rw [Array.getElem?_setIfInBounds_ne (Ne.symm h)]
theorem put_facts {g3 : SlabG} {m : Nat} {R : List (Nat × Obj)} (hm : g3.mb = some m) (h : St B w0 w (g3.heap ++ R)) (hk : seekI (g3.bs.map BodyG.ent) g3.last = none) :
  (w.cell? ⟨g3.sb, 3, none⟩ = some (.map (some m)) ∧ w.cell? ⟨g3.sb, 1, none⟩ = some (.int .i64 g3.last)) ∧
  (∀ o, (w.alloc o).cell? ⟨g3.sb, 3, none⟩ = some (.map (some m)) ∧ (w.alloc o).cell? ⟨g3.sb, 1, none⟩ = some (.int .i64 g3.last)) ∧
  (∀ o v, (Instr.mapUpdate 142 (.map (some m)) (.int .i64 g3.last) v).run Tryz.prog (w.alloc o) = .ok () (ChangeMaps.setBlock (w.alloc o) m (.map (entsI (g3.bs.map BodyG.ent ++ [(g3.last, v, g3.clk)])) (g3.clk + 1)))) ∧
  (∀ o x, (ChangeMaps.setBlock (w.alloc o) m (.map x (g3.clk + 1))).cell? ⟨g3.sb, 3, none⟩ = some (.map (some m)) ∧ (ChangeMaps.setBlock (w.alloc o) m (.map x (g3.clk + 1))).cell? ⟨g3.sb, 1, none⟩ = some (.int .i64 g3.last)) := by
 have h3 := h.s3
 have h1 := h.s1
 rw [hm] at h3
 have hlt : g3.sb < w.heap.size := h.slab.lt List.mem_cons_self
 have hma := h.mapAt hm
 have hml : m < w.heap.size := (Array.getElem?_eq_some_iff.1 hma).1
 have hne : g3.sb ≠ m := h.slab.ne (o' := .map (entsI (g3.bs.map BodyG.ent)) g3.clk) (by simp [SlabG.mapH_some hm])
 have h4 : ∀ o, (w.alloc o).cell? ⟨g3.sb, 3, none⟩ = some (.map (some m)) ∧ (w.alloc o).cell? ⟨g3.sb, 1, none⟩ = some (.int .i64 g3.last) := fun o =>
  ⟨by rw [World.cell?_alloc_lt _ _ _ hlt]; exact h3, by rw [World.cell?_alloc_lt _ _ _ hlt]; exact h1⟩
 refine ⟨⟨h3, h1⟩, h4, fun o v => ?_, fun o x => ?_⟩
 ·exact run_mapUpdateI_new uBodies uInt (by rw [Below.heap_alloc _ _ _ hml]; exact hma) _ v hk
 ·rw [cell?_setBlock_ne hne, cell?_setBlock_ne hne]
  exact h4 o
theorem seek_fresh {g : SlabG} (wf : g.Wf) {k : Int} (hk : g.last < k) : seekI (g.bs.map BodyG.ent) k = none := by
 rw [seekI_bodies]
 simp only [Option.map_eq_none_iff, List.find?_eq_none]
 intro b hb e
 have h1 := (wf.bodies b hb).2.2
 have h2 : b.h = k := by simpa using e
 omega
theorem put_done {s : ByteArray} {acc sp : Chain} {p : Option Addr} {m clk : Nat} (hp : headP acc = .pointer p)
  (h : Wrote B w0 ({ g with free := g.free - cls s.size, last := g.last + 1, mb := some m, clk := clk } : SlabG) F s.data.toList 0 acc sp w) (hl : s.size ≤ 256) :
  ∃ sp' m' clk' nb, St B w0 (ChangeMaps.setBlock (w.alloc (.cells #[.pointer p, .int .i64 s.size, .int .i64 1] 146)) m (.map (entsI (g.bs.map BodyG.ent ++ [(g.last + 1, .pointer (some ⟨w.heap.size, 0, none⟩), clk)])) (clk + 1))) ((g.put (cls s.size) sp' m' clk' nb).heap ++ F) ∧
   Full sp' ∧ nb.Wf ∧ nb.h = g.last + 1 ∧ nb.held = 1 ∧ nb.size = s.size ∧ nb.text = s.data.toList := by
 obtain ⟨h1, h2, h3, h4, h5⟩ := h
 have hz : s.data.toList.length = s.size := by simp
 have hf := put_final (m := m) (sz := s.size) rfl h1
 rw [hp] at hf
 refine ⟨sp, m, clk + 1, ⟨g.last + 1, w.heap.size, clk, acc, s.size, 1⟩, hf, h2, ⟨h3, ?_, by simp, by simp; omega, by simp⟩, rfl, rfl, rfl, ?_⟩
 ·rw [hz] at h4
  simpa using h4
 ·rw [hz] at h5
  simpa [BodyG.text] using h5
set_option maxRecDepth 100000 in
set_option maxHeartbeats 4000000 in
theorem put_ok (h : St B w0 w (g.heap ++ F)) (wf : g.Wf) (s : ByteArray) (hl : s.size ≤ 256) (hf : cls s.size ≤ g.free) (hn : g.bs.length < 400) (hlast : g.last < 4611686018427387904) :
  Calls Tryz.prog 39 #[ptr g.sb, .string s] w fun e w' => e = .returned (.tuple #[.int .i64 (g.last + 1), .int .i64 0]) ∧
   ∃ sp m clk nb, St B w0 w' ((g.put (cls s.size) sp m clk nb).heap ++ F) ∧ Full sp ∧ nb.Wf ∧ nb.h = g.last + 1 ∧ nb.held = 1 ∧ nb.size = s.size ∧ nb.text = s.data.toList := by
 have hw : ∃ m clk, ∃ W : World, (g.mb = some m ∧ W = w ∨ g.mb = none ∧ m = w.heap.size ∧ W = (w.alloc (.map #[] 0)).setCell ⟨g.sb, 3, none⟩ (.map (some m))) ∧ St B w0 W (({ g with mb := some m, clk := clk } : SlabG).heap ++ F) := by
  cases hm : g.mb with
  | some m =>
   refine ⟨m, g.clk, w, .inl ⟨rfl, rfl⟩, ?_⟩
   have : ({ g with mb := some m, clk := g.clk } : SlabG) = g := by rw [← hm]
   rw [this]
   exact h
  | none =>
   refine ⟨w.heap.size, 0, _, .inr ⟨rfl, rfl, rfl⟩, ?_⟩
   have h1 := h.alloc (.map #[] 0)
   have hb := wf.nomap hm
   have e1 : g.mapH = [] := by simp [SlabG.mapH, hm]
   unfold SlabG.heap at h1
   rw [e1] at h1
   have h2 := (h1.perm (.swap _ _ _)).set0 3 (.map (some w.heap.size))
   refine h2.perm ?_
   unfold SlabG.heap
   rw [SlabG.mapH_some (g := { g with mb := some w.heap.size, clk := 0 }) rfl]
   simp only [hb]
   exact .refl _
 have k0 := h.s0
 have k3 := h.s3
 have kf := h.sf 0
 have kf1 := h.sf 1
 have kf3 := h.sf 3
 have k1 := h.s1
 have hlen := h.len wf 3
 have hcl := Lib.hid (fun w => class_any s.size w)
 have hcb := cls_le s.size
 have h1 : (s.size : Int) ≤ 256 := by omega
 have hl' := Lib.hid hl
 have hl0 := wf.last0
 have hf1 := wf.free1
 have hn' : (g.bs.length : Int) < 400 := by omega
 have hwf := Lib.hid wf
 have hlt : g.sb < w.heap.size := h.slab.lt List.mem_cons_self
 clear h wf hl
 have hmm := @run_makeMap Tryz.prog
 have heq : ∀ (w : World) (r : Option Nat), (binOp .eql 142 (.map r) (.map none)).run Tryz.prog w = .ok (.bool r.isNone) w := fun w r => run_eql_map_nil w _ _ _ r uBodies
 obtain ⟨m, clk, W, hW, hst⟩ := hw
 have hst2 : St B w0 ((W.setCell ⟨g.sb, 0, none⟩ (.int .i64 (g.free - cls s.size))).setCell ⟨g.sb, 1, none⟩ (.int .i64 (g.last + 1)))
   (({ g with free := g.free - cls s.size, last := g.last + 1, mb := some m, clk := clk } : SlabG).heap ++ F) := (hst.slab.set0 0 (.int .i64 (g.free - cls s.size))).set0 1 (.int .i64 (g.last + 1))
 have hwr := write_any hst2.drew hwf.out.spare s hl'.out
 have hwr := Lib.hid hwr
 have hs := Lib.hid (And.intro hst2.drew.s3 hst2.drew.s1)
 have hkeys := Lib.hid (seek_fresh hwf.out (k := g.last + 1) (by omega))
 have hst := Lib.hid hst
 have hst2 := Lib.hid hst2
 rcases hW with ⟨hm, hW⟩ | ⟨hm, hmw, hW⟩
 ·subst hW
  rw [hm] at k3 hlen
  have hm := Lib.hid hm
  go_enter Tryz.func39, Tryz.ntmps39
  go_wp2_with fail
  refine (hcl.out _).mono ?_
  rintro e w' ⟨rfl, rfl⟩
  go_wp2_with fail
  go_region_held3 (fun x => x.cell? ⟨g.sb, 3, none⟩ = some (.map (some m)) ∧ x.cell? ⟨g.sb, 1, none⟩ = some (.int .i64 (g.last + 1)))
   (first
    | exact hs.out
    | exact hk3
    | exact hk4 _
    | exact hk5 _ _)
   ((go_at_call 96; refine hwr.out.mono ?_; rintro e w3 ⟨acc, sp, rfl, hw3⟩; obtain ⟨p, hp⟩ := headP_ptr acc; rw [hp]; have hp' := Lib.hid hp; clear hp; have hw3' := Lib.hid hw3; clear hw3; obtain ⟨hk3, hk4, hmu, hk5⟩ := put_facts rfl hw3'.out.1 hkeys.out))
  go_wp2_with fail
  go_ret2
  refine ⟨rfl, ?_⟩
  exact put_done hp'.out hw3'.out hl'.out
 ·subst hW
  rw [hm] at k3 hlen
  subst hmw
  rw [World.setCell_alloc_past _ _ _ _ hlt, World.setCell_alloc_past _ _ _ _ (by simpa using hlt), World.setCell_alloc_past _ _ _ _ (by simpa using hlt)] at hwr hs
  have hm := Lib.hid hm
  go_enter Tryz.func39, Tryz.ntmps39
  go_wp2_with fail
  refine (hcl.out _).mono ?_
  rintro e w' ⟨rfl, rfl⟩
  go_wp2_with fail
  go_region_held3 (fun x => x.cell? ⟨g.sb, 3, none⟩ = some (.map (some w.heap.size)) ∧ x.cell? ⟨g.sb, 1, none⟩ = some (.int .i64 (g.last + 1)))
   (first
    | exact hs.out
    | exact hk3
    | exact hk4 _
    | exact hk5 _ _)
   ((go_at_call 96; refine hwr.out.mono ?_; rintro e w3 ⟨acc, sp, rfl, hw3⟩; obtain ⟨p, hp⟩ := headP_ptr acc; rw [hp]; have hp' := Lib.hid hp; clear hp; have hw3' := Lib.hid hw3; clear hw3; obtain ⟨hk3, hk4, hmu, hk5⟩ := put_facts rfl hw3'.out.1 hkeys.out))
  go_wp2_with fail
  go_ret2
  refine ⟨rfl, ?_⟩
  exact put_done hp'.out hw3'.out hl'.out
end
structure SV where
 free : Int
 last : Int
 bs : List (Int × Int × List UInt8)
 deriving DecidableEq
def SV.seek (V : SV) (k : Int) : Option (Int × Int × List UInt8) := V.bs.find? (·.1 == k)
def SV.turn (V : SV) (k by_ : Int) : SV := { V with bs := V.bs.map fun x => if x.1 = k then (x.1, x.2.1 + by_, x.2.2) else x }
def SV.new (room : Int) : SV := ⟨min (max room 0) 100000, 0, []⟩
def SV.put (V : SV) (s : List UInt8) : (Int × Int) × SV :=
 if 256 < s.length then ((0, 15), V)
 else if V.free < cls s.length ∨ 400 ≤ V.bs.length then ((0, 12), V)
 else ((V.last + 1, 0), ⟨V.free - cls s.length, V.last + 1, V.bs ++ [(V.last + 1, 1, s)]⟩)
def SV.hold (V : SV) (k : Int) : Int × SV :=
 match V.seek k with
 | none => (13, V)
 | some _ => (0, V.turn k 1)
def SV.drop (V : SV) (k : Int) : (Bool × Int) × SV :=
 match V.seek k with
 | none => ((false, 13), V)
 | some x => if 1 < x.2.1 then ((false, 0), V.turn k (-1)) else ((true, 0), ⟨V.free + cls x.2.2.length, V.last, V.bs.eraseP (·.1 == k)⟩)
def SV.get (V : SV) (k : Int) : List UInt8 × Int :=
 match V.seek k with
 | none => ([], 13)
 | some x => (x.2.2, 0)
def SV.count (V : SV) (k : Int) : Int :=
 match V.seek k with
 | none => 0
 | some x => x.2.1
def BodyG.v (b : BodyG) : Int × Int × List UInt8 := (b.h, b.held, b.text)
def SlabG.v (g : SlabG) : SV := ⟨g.free, g.last, g.bs.map BodyG.v⟩
def SV.used (V : SV) : Int := (V.bs.map fun x => cls x.2.2.length).sum
theorem sum_cls_ge : ∀ (l : List (Int × Int × List UInt8)), 0 ≤ (l.map fun x => cls x.2.2.length).sum
 | [] => by simp
 | x :: l => by
  have h1 := sum_cls_ge l
  have h2 := (cls_le x.2.2.length).1
  simp only [List.map_cons, List.sum_cons]
  omega
theorem used_turn (V : SV) (k c : Int) : (V.turn k c).used = V.used := by
 unfold SV.used SV.turn
 simp only [List.map_map]
 congr 1
 refine List.map_congr_left fun x _ => ?_
 simp only [Function.comp]
 split <;> rfl
theorem used_erase {k : Int} {x : Int × Int × List UInt8} : ∀ {l : List (Int × Int × List UInt8)}, l.find? (·.1 == k) = some x →
  ((l.eraseP (·.1 == k)).map fun x => cls x.2.2.length).sum + cls x.2.2.length = (l.map fun x => cls x.2.2.length).sum
 | [], h => by simp at h
 | y :: l, h => by
  by_cases hy : (y.1 == k) = true
  ·simp only [List.find?_cons, hy, Option.some.injEq] at h
   subst h
   simp only [List.eraseP_cons, hy, cond_true, List.map_cons, List.sum_cons]
   omega
  ·have hy' : (y.1 == k) = false := by simpa using hy
   simp only [List.find?_cons, hy'] at h
   have := used_erase h
   simp only [List.eraseP_cons, hy', cond_false, List.map_cons, List.sum_cons]
   omega
def SlabIs (B : Nat) (w0 w : World) (sb : Nat) (V : SV) (F : List (Nat × Obj)) : Prop :=
 ∃ g : SlabG, g.sb = sb ∧ g.v = V ∧ g.Wf ∧ V.free + V.used ≤ 100000 ∧ St B w0 w (g.heap ++ F)
theorem BodyG.Wf.len {b : BodyG} (h : b.Wf) : (b.text.length : Int) = b.size := by
 have h1 : (b.cells.flatMap (·.2)).length = 32 * b.cells.length := by
  have := h.full
  generalize b.cells = c at this
  clear h
  induction c with
  | nil => rfl
  | cons x r ih =>
   rw [List.flatMap_cons, List.length_append, ih (fun y hy => this y (List.mem_cons_of_mem _ hy)), this x List.mem_cons_self, List.length_cons]
   omega
 have h2 : b.size ≤ cls b.size := by have := h.size0; have := h.size1; unfold cls; repeat' split <;> omega
 have h3 := h.cells
 have h4 := h.size0
 unfold BodyG.text
 rw [List.length_take, h1]
 omega
theorem seek_v (g : SlabG) (k : Int) : g.v.seek k = (g.seek k).map BodyG.v := by
 unfold SV.seek SlabG.v SlabG.seek
 rw [List.find?_map]
 rfl
section
variable {B : Nat} {w0 w : World} {sb : Nat} {V : SV} {F : List (Nat × Obj)}
theorem SlabIs.alloc (h : SlabIs B w0 w sb V F) (o : Obj) : SlabIs B w0 (w.alloc o) sb V F := by
 obtain ⟨g, h1, h2, h3, hu, h4⟩ := h
 exact ⟨g, h1, h2, h3, hu, (h4.alloc o).sub (List.sublist_cons_self _ _)⟩
theorem new_is (h : St B w0 w F) (room : Int) : Calls Tryz.prog 41 #[.int .i64 room] w fun e w' => e = .returned (ptr w.heap.size) ∧ SlabIs B w0 w' w.heap.size (SV.new room) F :=
 (sbNew_any h room).mono fun _ _ ⟨he, hw⟩ => ⟨he, newG w.heap.size room, rfl, rfl, newG_wf _ _, by simp only [SV.new, SV.used, List.map_nil, List.sum_nil]; omega, hw⟩
theorem live_is (h : SlabIs B w0 w sb V F) : Calls Tryz.prog 23 #[ptr sb] w fun e w' => e = .returned (.int .i64 V.bs.length) ∧ w = w' := by
 obtain ⟨g, rfl, rfl, h3, hu, h4⟩ := h
 have : g.v.bs.length = g.bs.length := by simp [SlabG.v]
 rw [this]
 exact live_ok h4 h3
theorem upd_v {g : SlabG} {k c : Int} {f : BodyG → BodyG} (hf : ∀ b, (f b).v = (b.h, b.held + c, b.text)) : (g.upd k f).v = g.v.turn k c := by
 unfold SV.turn SlabG.v SlabG.upd
 congr 1
 rw [List.map_map, List.map_map]
 refine List.map_congr_left fun b _ => ?_
 simp only [Function.comp]
 by_cases h : b.h = k
 ·rw [if_pos h, hf, if_pos (show b.v.1 = k from h)]
  rfl
 ·rw [if_neg h, if_neg (show ¬ b.v.1 = k from h)]
theorem hold_is (h : SlabIs B w0 w sb V F) (k : Int) (hb : ∀ x ∈ V.bs, x.2.1 < 9223372036854775807) : Calls Tryz.prog 359 #[ptr sb, .int .i64 k] w fun e w' => e = .returned (.int .i64 (V.hold k).1) ∧ SlabIs B w0 w' sb (V.hold k).2 F := by
 obtain ⟨g, rfl, rfl, h3, hu, h4⟩ := h
 unfold SV.hold
 rw [seek_v]
 cases hs : g.seek k with
 | none => exact (hold_none h4 hs).mono fun _ _ ⟨he, hw⟩ => ⟨he, g, rfl, rfl, h3, hu, hw ▸ h4⟩
 | some b =>
  refine (hold_some h4 h3 hs (hb b.v (List.mem_map_of_mem (SlabG.mem_of_seek hs).1))).mono fun _ _ ⟨he, hw⟩ => ⟨he, g.upd k BodyG.more, rfl, upd_v fun _ => rfl, ?_, ?_, hw⟩
  rotate_left
  ·show g.v.free + (g.v.turn k 1).used ≤ 100000
   rw [used_turn]
   exact hu
  refine SlabG.upd_wf h3 fun x _ _ hx => ⟨⟨hx.full, hx.cells, hx.size0, hx.size1, ?_⟩, rfl⟩
  have := hx.held
  show 1 ≤ x.held + 1
  omega
theorem cut_wf {g : SlabG} (wf : g.Wf) {k : Int} {b : BodyG} (hb : b ∈ g.bs) (hroom : g.free + cls b.size ≤ 100000) : (g.cut k b).Wf := by
 have hsub : (g.bs.eraseP (·.h == k)).Sublist g.bs := List.eraseP_sublist
 have hc := cls_le b.size
 refine ⟨fun h => ?_, fun c hc => ?_, fun x hx => wf.bodies x (hsub.subset hx), (hsub.map _).nodup wf.keys, by have := wf.free0; simp only [SlabG.cut]; omega, hroom, wf.last0, Nat.le_trans hsub.length_le wf.many⟩
 ·simp only [SlabG.cut]
  rw [wf.nomap h]
  rfl
 ·rcases List.mem_append.1 hc with hc | hc
  ·exact (wf.bodies b hb).1.full c hc
  ·exact wf.spare c hc
theorem sb_drop_is (h : SlabIs B w0 w sb V F) (k : Int) (hb : ∀ x ∈ V.bs, x.2.1 < 9223372036854775807) :
  Calls Tryz.prog 130 #[ptr sb, .int .i64 k] w fun e w' => e = .returned (.tuple #[.bool (V.drop k).1.1, .int .i64 (V.drop k).1.2]) ∧ SlabIs B w0 w' sb (V.drop k).2 F := by
 obtain ⟨g, rfl, rfl, h3, hu, h4⟩ := h
 unfold SV.drop
 rw [seek_v]
 cases hs : g.seek k with
 | none => exact (drop_none h4 hs).mono fun _ _ ⟨he, hw⟩ => ⟨he, g, rfl, rfl, h3, hu, hw ▸ h4⟩
 | some b =>
  have hm := (SlabG.mem_of_seek hs).1
  have hbb := hb b.v (List.mem_map_of_mem hm)
  have hheld := (h3.bodies b hm).1.held
  simp only [Option.map_some]
  by_cases h1 : 1 < b.held
  ·rw [if_pos (show 1 < b.v.2.1 from h1)]
   refine (drop_less h4 h3 hs h1 (by have : b.held < 9223372036854775807 := hbb; omega)).mono fun _ _ ⟨he, hw⟩ => ⟨he, g.upd k BodyG.less, rfl, upd_v fun _ => rfl, ?_, ?_, hw⟩
   rotate_left
   ·show g.v.free + (g.v.turn k (-1)).used ≤ 100000
    rw [used_turn]
    exact hu
   ·refine SlabG.upd_wf' h3 hs ⟨(h3.bodies b hm).1.full, (h3.bodies b hm).1.cells, (h3.bodies b hm).1.size0, (h3.bodies b hm).1.size1, ?_⟩ rfl
    show 1 ≤ b.held - 1
    omega
  ·rw [if_neg (show ¬ 1 < b.v.2.1 from h1)]
   have hlen := (h3.bodies b hm).1.len
   have hfind : g.v.bs.find? (·.1 == k) = some b.v := by
    have := seek_v g k
    rw [hs] at this
    exact this
   have hue := used_erase hfind
   have e1 : cls b.v.2.2.length = cls b.size := congrArg cls hlen
   rw [e1] at hue ⊢
   have hge := sum_cls_ge (g.v.bs.eraseP (·.1 == k))
   have hu' : g.v.free + (g.v.bs.map fun x => cls x.2.2.length).sum ≤ 100000 := hu
   refine (drop_last h4 h3 hs (by omega) h3.free1).mono fun _ _ ⟨he, hw⟩ => ⟨he, g.cut k b, rfl, ?_, cut_wf h3 hm ?_, ?_, hw⟩
   ·unfold SlabG.v SlabG.cut
    simp only [SV.mk.injEq, true_and]
    rw [List.eraseP_map]
    rfl
   ·have : g.free = g.v.free := rfl
    omega
   ·show (g.v.free + cls b.size) + ((g.v.bs.eraseP (·.1 == k)).map fun x => cls x.2.2.length).sum ≤ 100000
    omega
theorem put_is (h : SlabIs B w0 w sb V F) (s : ByteArray) (hm : s.size ≤ maxLen) (hlast : V.last < 4611686018427387904) :
  Calls Tryz.prog 39 #[ptr sb, .string s] w fun e w' => e = .returned (.tuple #[.int .i64 (V.put s.data.toList).1.1, .int .i64 (V.put s.data.toList).1.2]) ∧ SlabIs B w0 w' sb (V.put s.data.toList).2 F := by
 obtain ⟨g, rfl, rfl, h3, hu, h4⟩ := h
 have hz : s.data.toList.length = s.size := by simp
 have hlen : g.v.bs.length = g.bs.length := by simp [SlabG.v]
 unfold SV.put
 rw [hz, hlen]
 by_cases h1 : 256 < s.size
 ·rw [if_pos h1]
  exact (put_large g s h1 hm).mono fun _ _ ⟨he, hw⟩ => ⟨he, g, rfl, rfl, h3, hu, hw ▸ h4⟩
 ·rw [if_neg h1]
  by_cases h2 : g.free < cls s.size ∨ 400 ≤ g.bs.length
  ·rw [if_pos (show g.v.free < cls s.size ∨ 400 ≤ g.bs.length from h2)]
   exact (put_full h4 h3 s (by omega) h2).mono fun _ _ ⟨he, hw⟩ => ⟨he, g, rfl, rfl, h3, hu, hw ▸ h4⟩
  ·rw [if_neg (show ¬ (g.v.free < cls s.size ∨ 400 ≤ g.bs.length) from h2)]
   refine (put_ok h4 h3 s (by omega) (by omega) (by omega) hlast).mono fun _ _ ⟨he, sp, m, clk, nb, hw, hsp, hnb, e1, e2, e3, e4⟩ => ⟨he, g.put (cls s.size) sp m clk nb, rfl, ?_, ?_, ?_, hw⟩
   ·simp only [SlabG.v, SlabG.put, List.map_append, List.map_cons, List.map_nil, BodyG.v, e1, e2, e4]
   ·have hc := cls_le s.size
    have hl0 := h3.last0
    have hf1 := h3.free1
    refine ⟨fun h => by simp [SlabG.put] at h, hsp, fun b hb => ?_, ?_, by simp only [SlabG.put]; omega, by simp only [SlabG.put]; omega, by simp only [SlabG.put]; omega, by simp only [SlabG.put, List.length_append, List.length_cons, List.length_nil]; omega⟩
    ·rcases List.mem_append.1 hb with hb | hb
     ·obtain ⟨x1, x2, x3⟩ := h3.bodies b hb
      exact ⟨x1, x2, by simp only [SlabG.put]; omega⟩
     ·obtain rfl := List.mem_singleton.1 hb
      exact ⟨hnb, by omega, by rw [e1]; exact Int.le_refl _⟩
    ·simp only [SlabG.put, List.map_append, List.map_cons, List.map_nil]
     refine List.nodup_append.2 ⟨h3.keys, by simp, fun x hx y hy => ?_⟩
     obtain ⟨b, hb, rfl⟩ := List.mem_map.1 hx
     obtain rfl := List.mem_singleton.1 hy
     have := (h3.bodies b hb).2.2
     omega
   ·have hu' : g.v.free + (g.v.bs.map fun x => cls x.2.2.length).sum ≤ 100000 := hu
    simp only [SV.used, List.map_append, List.map_cons, List.map_nil, List.sum_append, List.sum_cons, List.sum_nil, hz]
    omega
theorem sb_put_to (h : SlabIs B w0 w sb V F) (s : ByteArray) (hm : s.size ≤ maxLen) (hlast : V.last < 4611686018427387904) {r c : Int} {V' : SV} (hV : V.put s.data.toList = ((r, c), V')) :
  Calls Tryz.prog 39 #[ptr sb, .string s] w fun e w' => e = .returned (.tuple #[.int .i64 r, .int .i64 c]) ∧ SlabIs B w0 w' sb V' F := by
 have := put_is h s hm hlast
 rw [hV] at this
 exact this
end
abbrev Bnd := List UInt8 × List UInt8 × List UInt8
def onceL : List (List UInt8) → List (List UInt8) → List (List UInt8)
 | acc, [] => acc
 | acc, n :: r => onceL (if n ∈ acc then acc else acc ++ [n]) r
theorem onceL_append (acc l m : List (List UInt8)) : onceL acc (l ++ m) = onceL (onceL acc l) m := by
 induction l generalizing acc with
 | nil => rfl
 | cons n l ih => simp only [List.cons_append, onceL, ih]
theorem onceL_len (acc l : List (List UInt8)) : (onceL acc l).length ≤ acc.length + l.length := by
 induction l generalizing acc with
 | nil => simp [onceL]
 | cons n l ih =>
  simp only [onceL, List.length_cons]
  refine Nat.le_trans (ih _) ?_
  split
  ·omega
  ·rw [List.length_append, List.length_singleton]; omega
theorem onceL_mem (acc l : List (List UInt8)) (x : List UInt8) : x ∈ onceL acc l ↔ x ∈ acc ∨ x ∈ l := by
 induction l generalizing acc with
 | nil => simp [onceL]
 | cons n l ih =>
  simp only [onceL, ih, List.mem_cons]
  split
  ·rename_i h
   constructor
   ·rintro (h1 | h1)
    ·exact .inl h1
    ·exact .inr (.inr h1)
   ·rintro (h1 | rfl | h1)
    ·exact .inl h1
    ·exact .inl h
    ·exact .inr h1
  ·rw [List.mem_append, List.mem_singleton, or_assoc]
def onceS (m : List (List UInt8)) (n : List UInt8) : List (List UInt8) := if n ∈ m then m else m ++ [n]
theorem onceL_snoc (acc l : List (List UInt8)) (n : List UInt8) : onceL acc (l ++ [n]) = onceS (onceL acc l) n := by
 rw [onceL_append]
 rfl
theorem filter_step {L : List Bnd} {p : Bnd → Bool} {i : Nat} {b : Bnd} (h : L[i]? = some b) : (L.take (i + 1)).filter p = (L.take i).filter p ++ (if p b then [b] else []) := by
 rw [List.take_add_one, h, Option.toList_some, List.filter_append]
 congr 1
 simp only [List.filter_cons, List.filter_nil]
theorem map_step {α : Type} {L : List Bnd} {f : Bnd → α} {i : Nat} {b : Bnd} (h : L[i]? = some b) : (L.take (i + 1)).map f = (L.take i).map f ++ [f b] := by
 rw [List.take_add_one, h, Option.toList_some, List.map_append]
 rfl
theorem filter_len_take {L : List Bnd} (p : Bnd → Bool) (i : Nat) : ((L.take i).filter p).length ≤ i := Nat.le_trans (List.length_filter_le _ _) (by rw [List.length_take]; omega)
theorem bnd_cases (x y : Bnd) : x = y ∨ (x.1 == y.1) = false ∨ (x.1 = y.1 ∧ (x.2.1 == y.2.1) = false) ∨ (x.1 = y.1 ∧ x.2.1 = y.2.1 ∧ (x.2.2 == y.2.2) = false) := by
 obtain ⟨a, b, c⟩ := x
 obtain ⟨d, e, f⟩ := y
 by_cases h1 : a = d
 ·by_cases h2 : b = e
  ·by_cases h3 : c = f
   ·exact .inl (by rw [h1, h2, h3])
   ·exact .inr (.inr (.inr ⟨h1, h2, by simpa using h3⟩))
  ·exact .inr (.inr (.inl ⟨h1, by simpa using h2⟩))
 ·exact .inr (.inl (by simpa using h1))
theorem bnd_ne {x y : Bnd} (h : (x.1 == y.1) = false ∨ (x.1 = y.1 ∧ (x.2.1 == y.2.1) = false) ∨ (x.1 = y.1 ∧ x.2.1 = y.2.1 ∧ (x.2.2 == y.2.2) = false)) : x ≠ y := by
 rintro rfl
 rcases h with h | ⟨_, h⟩ | ⟨_, _, h⟩ <;> simp at h
def addL (L : List Bnd) (b : Bnd) : List Bnd × Bool × Int := if b ∈ L then (L, false, 0) else if 40 ≤ L.length then (L, false, 12) else (L ++ [b], true, 0)
def FitB (b : Bnd) : Prop := b.1.length ≤ 140737488351232 ∧ b.2.1.length ≤ 140737488351232 ∧ b.2.2.length ≤ 140737488351232
structure FineL (L : List Bnd) : Prop where
 few : L.length ≤ 40
 once : L.Nodup
 fit : ∀ b ∈ L, FitB b
theorem FineL.nil : FineL [] := ⟨by simp, by simp, by simp⟩
theorem FineL.add {L : List Bnd} (h : FineL L) {b : Bnd} (hb : FitB b) : FineL (addL L b).1 := by
 unfold addL
 split
 ·exact h
 ·split
  ·exact h
  ·rename_i h1 h2
   refine ⟨by rw [List.length_append, List.length_singleton]; omega, ?_, ?_⟩
   ·rw [List.nodup_append]
    exact ⟨h.once, by simp, fun x hx y hy => by rw [List.mem_singleton] at hy; subst hy; exact fun e => h1 (e ▸ hx)⟩
   ·intro x hx
    rcases List.mem_append.1 hx with hx | hx
    ·exact h.fit x hx
    ·rw [List.mem_singleton] at hx
     subst hx
     exact hb
theorem FineL.filter {L : List Bnd} (h : FineL L) (p : Bnd → Bool) : FineL (L.filter p) :=
 ⟨Nat.le_trans (List.length_filter_le _ _) h.few, h.once.sublist List.filter_sublist, fun b hb => h.fit b (List.mem_filter.1 hb).1⟩
theorem filter_and (L : List Bnd) (e k : List UInt8) : (L.filter fun b => b.1 == e).filter (fun b => b.2.2 == k) = L.filter fun b => b.1 == e && b.2.2 == k := by
 rw [List.filter_filter]
 apply List.filter_congr
 intro b _
 rw [Bool.and_comm]
abbrev tx (l : List UInt8) : Value := .string ⟨l.toArray⟩
def num (l : List UInt8) : Nat := l.foldl (fun a b => a * 256 + b.toNat) 0
def wordsL : List UInt8 → List (List UInt8)
 | [] => [[]]
 | c :: l => if c = 46 then [] :: wordsL l else match wordsL l with
  | [] => [[c]]
  | w :: r => (c :: w) :: r
theorem words_pos (l : List UInt8) : 0 < (wordsL l).length := by
 cases l with
 | nil => simp [wordsL]
 | cons c l =>
  unfold wordsL
  split
  ·simp
  ·split <;> simp
theorem words_len (l : List UInt8) : (wordsL l).length ≤ l.length + 1 := by
 induction l with
 | nil => simp [wordsL]
 | cons c l ih =>
  unfold wordsL
  split
  ·simpa using ih
  ·split
   ·simp
   ·rename_i w r h
    rw [h] at ih
    simp only [List.length_cons] at ih ⊢
    omega
theorem words_none {l : List UInt8} (h : 46 ∉ l) : wordsL l = [l] := by
 induction l with
 | nil => rfl
 | cons c l ih =>
  simp only [List.mem_cons, not_or] at h
  rw [wordsL, if_neg (fun e => h.1 e.symm), ih h.2]
theorem words_cut {w : List UInt8} (h : 46 ∉ w) (r : List UInt8) : wordsL (w ++ 46 :: r) = w :: wordsL r := by
 induction w with
 | nil => simp [wordsL]
 | cons c w ih =>
  simp only [List.mem_cons, not_or] at h
  rw [List.cons_append, wordsL, if_neg (fun e => h.1 e.symm), ih h.2]
theorem cut_cases (l : List UInt8) : 46 ∉ l ∨ ∃ w r, l = w ++ 46 :: r ∧ 46 ∉ w := by
 induction l with
 | nil => exact .inl (by simp)
 | cons c l ih =>
  by_cases hc : c = 46
  ·subst hc
   exact .inr ⟨[], l, rfl, by simp⟩
  ·rcases ih with h | ⟨w, r, rfl, h⟩
   ·exact .inl (by simp only [List.mem_cons, not_or]; exact ⟨fun e => hc e.symm, h⟩)
   ·exact .inr ⟨c :: w, r, rfl, by simp only [List.mem_cons, not_or]; exact ⟨fun e => hc e.symm, h⟩⟩
theorem index_none {l : List UInt8} (h : 46 ∉ l) : Lib.indexByte l 46 = -1 := by
 induction l with
 | nil => rfl
 | cons c l ih =>
  simp only [List.mem_cons, not_or] at h
  have hb : (c == (46 : UInt8)) = false := by simpa using fun e => h.1 e.symm
  rw [Lib.indexByte, hb, ih h.2]
  rfl
theorem index_some {w : List UInt8} (h : 46 ∉ w) (r : List UInt8) : Lib.indexByte (w ++ 46 :: r) 46 = w.length := by
 induction w with
 | nil => simp [Lib.indexByte]
 | cons c w ih =>
  simp only [List.mem_cons, not_or] at h
  have hb : (c == (46 : UInt8)) = false := by simpa using fun e => h.1 e.symm
  have hn : (((w.length : Nat) : Int) == -1) = false := by
   rw [beq_eq_false_iff_ne]
   omega
  rw [List.cons_append, Lib.indexByte, hb, ih h.2, hn]
  simp
abbrev Wds := List (List UInt8)
def stands (p x : List UInt8) : Bool := p == [42] || p == x
def hashL (f : Wds → Bool) : Wds → Bool
 | [] => f []
 | x :: k => f (x :: k) || hashL f k
def gl : Wds → Wds → Bool
 | [], k => k.isEmpty
 | p :: ps, k => if p = [35] then hashL (gl ps) k else match k with
  | [] => false
  | x :: ks => stands p x && gl ps ks
theorem gl_nil (k : Wds) : gl [] k = k.isEmpty := rfl
theorem gl_hash (ps k : Wds) : gl ([35] :: ps) k = hashL (gl ps) k := by
 cases k with
 | nil =>
  show (if [35] = [35] then hashL (gl ps) [] else false) = _
  rw [if_pos rfl]
 | cons x k =>
  show (if [35] = [35] then hashL (gl ps) (x :: k) else (stands [35] x && gl ps k)) = _
  rw [if_pos rfl]
theorem gl_short {p : List UInt8} (h : p ≠ [35]) (ps : Wds) : gl (p :: ps) [] = false := by
 show (if p = [35] then hashL (gl ps) [] else false) = false
 rw [if_neg h]
theorem gl_one {p : List UInt8} (h : p ≠ [35]) (ps : Wds) (x : List UInt8) (k : Wds) : gl (p :: ps) (x :: k) = (stands p x && gl ps k) := by
 show (if p = [35] then hashL (gl ps) (x :: k) else (stands p x && gl ps k)) = _
 rw [if_neg h]
theorem hashL_iff (f : Wds → Bool) (k : Wds) : hashL f k = true ↔ ∃ j, j ≤ k.length ∧ f (k.drop j) = true := by
 induction k with
 | nil =>
  rw [hashL]
  constructor
  ·exact fun h => ⟨0, Nat.le_refl _, h⟩
  ·rintro ⟨j, _, h⟩
   rwa [List.drop_nil] at h
 | cons x k ih =>
  rw [hashL, Bool.or_eq_true, ih]
  constructor
  ·rintro (h | ⟨j, hj, h⟩)
   ·exact ⟨0, Nat.zero_le _, h⟩
   ·exact ⟨j + 1, by simpa using hj, h⟩
  ·rintro ⟨j, hj, h⟩
   cases j with
   | zero => exact .inl h
   | succ j => exact .inr ⟨j, by simpa using hj, h⟩
def Fit : Wds → Wds → Prop
 | [], [] => True
 | s :: S, a :: A => s ≠ [35] ∧ stands s a = true ∧ Fit S A
 | _, _ => False
theorem Fit.len : ∀ {S A : Wds}, Fit S A → S.length = A.length
 | [], [], _ => rfl
 | s :: S, a :: A, h => by simp [Fit.len (S := S) (A := A) h.2.2]
 | [], _ :: _, h => h.elim
 | _ :: _, [], h => h.elim
theorem Fit.snoc : ∀ {S A : Wds} {s a : List UInt8}, Fit S A → s ≠ [35] → stands s a = true → Fit (S ++ [s]) (A ++ [a])
 | [], [], _, _, _, h1, h2 => ⟨h1, h2, trivial⟩
 | _ :: _, _ :: _, _, _, h, h1, h2 => ⟨h.1, h.2.1, Fit.snoc h.2.2 h1 h2⟩
 | [], _ :: _, _, _, h, _, _ => h.elim
 | _ :: _, [], _, _, h, _, _ => h.elim
theorem Fit.plain : ∀ {S A : Wds}, Fit S A → ∀ s ∈ S, s ≠ [35]
 | [], [], _ => by simp
 | s :: S, a :: A, h => by
  intro x hx
  rcases List.mem_cons.1 hx with rfl | hx
  ·exact h.1
  ·exact Fit.plain h.2.2 x hx
 | [], _ :: _, h => h.elim
 | _ :: _, [], h => h.elim
section
variable {P K : Wds} {a t f : Nat} {b : Int}
end
section
variable {P K : Wds}
end
def inNm (c : UInt8) : Bool := decide (97 ≤ c.toNat ∧ c.toNat ≤ 122) || decide (65 ≤ c.toNat ∧ c.toNat ≤ 90) || decide (48 ≤ c.toNat ∧ c.toNat ≤ 57) || decide (c.toNat = 45)
def isNm (l : List UInt8) : Bool := decide (1 ≤ l.length) && decide (l.length ≤ 12) && l.all inNm
abbrev Plc := List UInt8 × Int × Bool
def findP (P : List Plc) (n : List UInt8) : Option Plc := P.find? fun p => p.1 == n
def ofB (A : List Bnd) (n : List UInt8) : List Bnd := A.filter fun b => b.1 == n
def dropP (P : List Plc) (n : List UInt8) : List Plc := P.filter fun p => !(p.1 == n)
def leaveX (P : List Plc) (A : List Bnd) (n : List UInt8) : List Plc :=
 match findP P n with
 | some p => if p.2.2 = true ∧ ofB A n = [] then dropP P n else P
 | none => P
def declX (P : List Plc) (n : List UInt8) (k : Int) (a : Bool) : List Plc × Int :=
 if n = [] then (P, 403)
 else if isNm n = false ∨ ¬ (1 ≤ k ∧ k ≤ 3) then (P, 406)
 else match findP P n with
 | some p => if p.2.1 = k ∧ p.2.2 = a then (P, 0) else (P, 406)
 | none => if 8 ≤ P.length then (P, 506) else (P ++ [(n, k, a)], 0)
def delX (P : List Plc) (A : List Bnd) (n : List UInt8) (iu : Bool) : List Plc × List Bnd × Int :=
 if n = [] then (P, A, 403)
 else match findP P n with
 | none => (P, A, 404)
 | some _ => if iu = true ∧ ofB A n ≠ [] then (P, A, 406) else (dropP P n, A.filter (fun b => !(b.1 == n)), 0)
def bindX (P : List Plc) (A : List Bnd) (b : Bnd) : List Bnd × Int :=
 if b.1 = [] then (A, 403)
 else match findP P b.1 with
 | none => (A, 404)
 | some _ => if 40 < b.2.2.length then (A, 406) else if (addL A b).2.2 = 0 then ((addL A b).1, 0) else (A, 506)
def leavesX (P : List Plc) (A : List Bnd) (l : List (List UInt8)) : List Plc := l.foldl (fun P n => leaveX P A n) P
def dropqX (P : List Plc) (A : List Bnd) (q : List UInt8) : List Plc × List Bnd :=
 (leavesX P (A.filter fun b => !(b.2.1 == q)) (onceL [] ((A.filter fun b => b.2.1 == q).map (·.1))), A.filter fun b => !(b.2.1 == q))
def fitsK (k : Int) (key : List UInt8) (b : Bnd) : Bool := k == 2 || k == 1 && b.2.2 == key || k == 3 && gl (wordsL b.2.2) (wordsL key)
def routeL (k : Int) (A : List Bnd) (n key : List UInt8) : List (List UInt8) := onceL [] (((ofB A n).filter (fitsK k key)).map (·.2.1))
def routeX (P : List Plc) (A : List Bnd) (n key : List UInt8) : List (List UInt8) × Bool :=
 if n = [] then ([key], true)
 else match findP P n with
 | none => ([], false)
 | some p => (routeL p.2.1 A n key, true)
structure FineX (P : List Plc) (A : List Bnd) : Prop where
 few : P.length ≤ 8
 once : (P.map (·.1)).Nodup
 each : ∀ p ∈ P, p.1 ≠ [] ∧ p.1.length ≤ 12 ∧ 1 ≤ p.2.1 ∧ p.2.1 ≤ 3
 rows : FineL A
 keys : ∀ b ∈ A, b.2.2.length ≤ 40
 ins : ∀ b ∈ A, b.1 ∈ P.map (·.1)
theorem FineX.nil : FineX [] [] := ⟨by simp, by simp, by simp, FineL.nil, by simp, by simp⟩
section
variable {P : List Plc} {A : List Bnd} {n : List UInt8} {p : Plc} {b : Bnd}
theorem findP_mem (h : findP P n = some p) : p ∈ P ∧ p.1 = n := ⟨List.mem_of_find?_eq_some h, by simpa using List.find?_some h⟩
theorem findP_none : findP P n = none ↔ n ∉ P.map (·.1) := by
 unfold findP
 rw [List.find?_eq_none]
 simp only [List.mem_map, not_exists, not_and, beq_iff_eq]
theorem ofB_nil (h : n ∉ A.map (·.1)) : ofB A n = [] := by
 unfold ofB
 rw [List.filter_eq_nil_iff]
 intro b hb
 simp only [beq_iff_eq]
 exact fun e => h (e ▸ List.mem_map_of_mem hb)
theorem ofB_none (h : FineX P A) (hn : findP P n = none) : ofB A n = [] := by
 refine ofB_nil fun hm => ?_
 obtain ⟨b, hb, rfl⟩ := List.mem_map.1 hm
 exact findP_none.1 hn (h.ins b hb)
theorem dropP_names (P : List Plc) (n : List UInt8) : (dropP P n).map (·.1) = (P.map (·.1)).filter fun x => !(x == n) := by
 unfold dropP
 rw [List.filter_map]
 rfl
theorem mem_dropP : p ∈ dropP P n ↔ p ∈ P ∧ p.1 ≠ n := by simp [dropP]
theorem dropP_split {X Y : List Plc} (h : ((X ++ p :: Y).map (·.1)).Nodup) : dropP (X ++ p :: Y) p.1 = X ++ Y := by
 unfold dropP
 rw [List.map_append, List.map_cons, List.nodup_append, List.nodup_cons] at h
 obtain ⟨-, ⟨h1, -⟩, h3⟩ := h
 rw [List.filter_append, List.filter_cons]
 simp only [beq_self_eq_true, Bool.not_true, Bool.false_eq_true, if_false]
 congr 1
 ·refine List.filter_eq_self.2 fun x hx => ?_
  have : x.1 ≠ p.1 := h3 _ (List.mem_map_of_mem hx) _ List.mem_cons_self
  simpa using this
 ·refine List.filter_eq_self.2 fun x hx => ?_
  have : x.1 ≠ p.1 := fun e => h1 (e ▸ List.mem_map_of_mem hx)
  simpa using this
theorem FineX.dropP (h : FineX P A) {A' : List Bnd} (hA : FineL A') (hs : ∀ b ∈ A', b ∈ A) (hn : ∀ b ∈ A', b.1 ≠ n) : FineX (dropP P n) A' := by
 refine ⟨Nat.le_trans (List.length_filter_le _ _) h.few, ?_, fun p hp => h.each p (mem_dropP.1 hp).1, hA, fun b hb => h.keys b (hs b hb), fun b hb => ?_⟩
 ·rw [dropP_names]
  exact h.once.sublist List.filter_sublist
 ·rw [dropP_names, List.mem_filter]
  exact ⟨h.ins b (hs b hb), by simpa using hn b hb⟩
theorem FineX.sub (h : FineX P A) (q : Bnd → Bool) : FineX P (A.filter q) :=
 ⟨h.few, h.once, h.each, h.rows.filter q, fun b hb => h.keys b (List.mem_filter.1 hb).1, fun b hb => h.ins b (List.mem_filter.1 hb).1⟩
theorem FineX.leave (h : FineX P A) (n : List UInt8) : FineX (leaveX P A n) A := by
 unfold leaveX
 split
 ·split
  ·rename_i hc
   refine h.dropP h.rows (fun b hb => hb) fun b hb e => ?_
   have : b ∈ ofB A n := by simp [ofB, hb, e]
   rw [hc.2] at this
   simp at this
  ·exact h
 ·exact h
theorem isNm_len (h : isNm n = true) : n ≠ [] ∧ n.length ≤ 12 := by
 unfold isNm at h
 simp only [Bool.and_eq_true, decide_eq_true_eq] at h
 refine ⟨fun e => ?_, h.1.2⟩
 rw [e] at h
 simp at h
theorem FineX.decl (h : FineX P A) (n : List UInt8) (k : Int) (a : Bool) : FineX (declX P n k a).1 A := by
 unfold declX
 split
 ·exact h
 ·split
  ·exact h
  ·rename_i hn hc
   split
   ·split <;> exact h
   ·rename_i hf
    split
    ·exact h
    ·rename_i hl
     simp only [not_or, Bool.not_eq_false, Decidable.not_not] at hc
     refine ⟨by rw [List.length_append, List.length_singleton]; omega, ?_, ?_, h.rows, h.keys, fun b hb => ?_⟩
     ·rw [List.map_append, List.nodup_append]
      refine ⟨h.once, by simp, ?_⟩
      intro x hx y hy e
      simp only [List.map_cons, List.map_nil, List.mem_singleton] at hy
      exact findP_none.1 hf (hy ▸ e ▸ hx)
     ·intro p hp
      rcases List.mem_append.1 hp with hp | hp
      ·exact h.each p hp
      ·rw [List.mem_singleton] at hp
       subst hp
       obtain ⟨g1, g2⟩ := isNm_len hc.1
       exact ⟨g1, g2, hc.2.1, hc.2.2⟩
     ·rw [List.map_append, List.mem_append]
      exact .inl (h.ins b hb)
theorem FineX.del (h : FineX P A) (n : List UInt8) (iu : Bool) : FineX (delX P A n iu).1 (delX P A n iu).2.1 := by
 unfold delX
 split
 ·exact h
 ·split
  ·exact h
  ·split
   ·exact h
   ·refine h.dropP (h.rows.filter _) (fun b hb => (List.mem_filter.1 hb).1) fun b hb => ?_
    have := (List.mem_filter.1 hb).2
    simpa using this
theorem FineX.bind (h : FineX P A) (hb : FitB b) : FineX P (bindX P A b).1 := by
 unfold bindX
 split
 ·exact h
 ·split
  ·exact h
  ·rename_i p hp
   split
   ·exact h
   ·rename_i hk
    split
    ·refine ⟨h.few, h.once, h.each, h.rows.add hb, ?_, ?_⟩
     ·intro x hx
      unfold addL at hx
      split at hx
      ·exact h.keys x hx
      ·split at hx
       ·exact h.keys x hx
       ·rcases List.mem_append.1 hx with hx | hx
        ·exact h.keys x hx
        ·rw [List.mem_singleton] at hx
         subst hx
         omega
     ·intro x hx
      unfold addL at hx
      split at hx
      ·exact h.ins x hx
      ·split at hx
       ·exact h.ins x hx
       ·rcases List.mem_append.1 hx with hx | hx
        ·exact h.ins x hx
        ·rw [List.mem_singleton] at hx
         subst hx
         obtain ⟨g1, g2⟩ := findP_mem hp
         exact g2 ▸ List.mem_map_of_mem g1
    ·exact h
end
def autoB (n : Int) : Bool := bits .and .i64 n 2 != 0
def kindL (l : List UInt8) : Int := if l = [100, 105, 114, 101, 99, 116] then 1 else if l = [102, 97, 110, 111, 117, 116] then 2 else if l = [116, 111, 112, 105, 99] then 3 else 0
def unuB (n : Int) : Bool := bits .and .i64 n 1 != 0
def hasX (P : List Plc) (n : List UInt8) : Bool := n == [] || (findP P n).isSome
structure Ent where
 id : Int
 body : Int
 size : Int
 exch : List UInt8
 key : List UInt8
 prio : Int
 ttl : Int
 til : Int
 again : Bool
 hops : Int
abbrev enV (e : Ent) : Value := .agg #[.int .i64 e.id, .int .i64 e.body, .int .i64 e.size, tx e.exch, tx e.key, .int .i64 e.prio, .int .i64 e.ttl, .int .i64 e.til, .bool e.again, .int .i64 e.hops]
abbrev enO (e : Ent) : Obj := .cells #[.int .i64 e.id, .int .i64 e.body, .int .i64 e.size, tx e.exch, tx e.key, .int .i64 e.prio, .int .i64 e.ttl, .int .i64 e.til, .bool e.again, .int .i64 e.hops] 51
def In64 (n : Int) : Prop := -9223372036854775808 ≤ n ∧ n ≤ 9223372036854775807
def lessE (a b : Ent) : Bool := decide (b.prio < a.prio ∨ a.prio = b.prio ∧ a.id < b.id)
def goneE (e : Ent) (now : Int) : Bool := decide (0 < e.til ∧ e.til ≤ now)
end Go.Proofs.YtknjamfjonapiaaGreatDoor
