/- The slab's New, Get, Drop and Put, each told by what it answers and by what its memory holds behind it. -/
import Derived.Test.YtpeedcghpdnogaaSlabE
import Derived.RegionCalls
import Derived.Maps.OwnSet
namespace Go.Proofs.Ytpeedcghpdnogaa
open Go.RowKit

section
variable {B : Nat} {w0 w : World} {g : SlabG} {F : List (Nat × Obj)}

/-! ### New -/
def newG (sb : Nat) (room : Int) : SlabG := { sb, free := min (max room 0) 100000, last := 0, spare := [], mb := none, clk := 0, bs := [] }

theorem newG_wf (sb : Nat) (room : Int) : (newG sb room).Wf := by
  refine ⟨fun _ => rfl, fun c hc => ?_, fun b hb => ?_, List.nodup_nil, ?_, ?_, Int.le_refl _, Nat.zero_le _⟩
  · exact absurd hc List.not_mem_nil
  · exact absurd hb List.not_mem_nil
  · simp only [newG]; omega
  · simp only [newG]; omega

set_option maxHeartbeats 400000 in
theorem new_any (h : St B w0 w F) (room : Int) :
    Calls Try.prog 9 #[.int .i64 room] w fun e w' => e = .returned (ptr w.heap.size) ∧ St B w0 w' ((newG w.heap.size room).heap ++ F) := by
  have key : ∀ r : Int, r = min (max room 0) 100000 → St B w0 (w.alloc (.cells #[.int .i64 r, .int .i64 0, .pointer none, .map none] 59)) ((newG w.heap.size room).heap ++ F) := by
    intro r hr
    subst hr
    exact h.alloc _
  have key := Lib.hid key
  clear h
  go_enter Try.func9, Try.ntmps9
  go_wp2_with fail
  all_goals
    go_ret
    exact ⟨rfl, key.out _ (by omega)⟩

/-! ### Get -/
set_option maxHeartbeats 400000 in
theorem get_none (h : St B w0 w (g.heap ++ F)) {k : Int} (hs : g.seek k = none) :
    Calls Try.prog 20 #[ptr g.sb, .int .i64 k] w fun e w' => e = .returned (.tuple #[bstr [], .int .i64 13]) ∧ w = w' := by
  have h0 := h.s3
  have hl := h.look_none hs
  clear hs
  go_enter Try.func20, Try.ntmps20
  go_wp2_with fail
  go_ret2
  exact ⟨rfl, rfl⟩

set_option maxHeartbeats 400000 in
theorem get_some (h : St B w0 w (g.heap ++ F)) (wf : g.Wf) {k : Int} {b : BodyG} (hs : g.seek k = some b) :
    Calls Try.prog 20 #[ptr g.sb, .int .i64 k] w fun e w' => e = .returned (.tuple #[bstr b.text, .int .i64 0]) ∧ St B w0 w' (g.heap ++ F) := by
  have h0 := h.s3
  have hl := h.look_some wf hs
  have hm := (SlabG.mem_of_seek hs).1
  have ht := text_any h hm (wf.bodies b hm).1
  have ht := Lib.hid ht
  clear hs h wf hm
  go_enter Try.func20, Try.ntmps20
  go_wp2_with fail
  refine ht.out.mono ?_
  rintro e w' ⟨rfl, hw⟩
  have hw := Lib.hid hw
  go_wp2_with fail
  go_ret2
  exact ⟨rfl, hw.out⟩

/-! ### Drop -/
set_option maxHeartbeats 400000 in
theorem drop_none (h : St B w0 w (g.heap ++ F)) {k : Int} (hs : g.seek k = none) :
    Calls Try.prog 15 #[ptr g.sb, .int .i64 k] w fun e w' => e = .returned (.tuple #[.bool false, .int .i64 13]) ∧ w = w' := by
  have h0 := h.s3
  have hl := h.look_none hs
  clear hs
  go_enter Try.func15, Try.ntmps15
  go_wp2_with fail
  go_ret2
  exact ⟨rfl, rfl⟩

def BodyG.less (b : BodyG) : BodyG := { b with held := b.held - 1 }

set_option maxHeartbeats 400000 in
theorem drop_less (h : St B w0 w (g.heap ++ F)) (wf : g.Wf) {k : Int} {b : BodyG} (hs : g.seek k = some b) (h2 : 1 < b.held) (hb : b.held ≤ 9223372036854775807) :
    Calls Try.prog 15 #[ptr g.sb, .int .i64 k] w fun e w' => e = .returned (.tuple #[.bool false, .int .i64 0]) ∧ St B w0 w' ((g.upd k BodyG.less).heap ++ F) := by
  have h0 := h.s3
  have hl := h.look_some wf hs
  obtain ⟨l1, l2, hbs, e1, e2, ek⟩ := SlabG.split wf.keys hs
  have hm := (SlabG.mem_of_seek hs).1
  have h2 := h.b2 hm
  have hf := h.bf hm 2
  have HF : Hid (St B w0 (w.setCell ⟨b.blk, 2, none⟩ (.int .i64 (b.held - 1))) ((g.upd k BodyG.less).heap ++ F)) := by
    rw [SlabG.upd_heap hbs e1 e2 ek (f := BodyG.less) rfl rfl]
    rw [SlabG.heap_split hbs] at h
    exact h.set 2 _
  clear hs hbs ek h wf e1 e2 hm
  go_enter Try.func15, Try.ntmps15
  go_wp2_with fail
  go_ret2
  exact ⟨rfl, HF.out⟩

theorem erase_ents {k : Int} {bs l1 l2 : List BodyG} {b : BodyG} (hbs : bs = l1 ++ b :: l2) (e1 : ∀ x ∈ l1, x.h ≠ k) (ek : b.h = k) :
    (bs.map BodyG.ent).eraseP (·.1 == k) = (l1 ++ l2).map BodyG.ent := by
  rw [List.eraseP_map]
  have : ((fun x : Int × Value × Nat => x.1 == k) ∘ BodyG.ent) = fun x => x.h == k := rfl
  rw [this, hbs, eraseP_split e1 ek]

theorem perm_a {α : Type} (s b m : α) (C L : List α) : (s :: (C ++ (b :: m :: L))).Perm (m :: b :: s :: (C ++ L)) :=
  perm_of_count fun d a => by simp only [List.count_append, List.count_cons]; omega
theorem perm_b {α : Type} (m b : α) (S L1 C L2 F : List α) : (([m] ++ (S ++ L1)) ++ (b :: (C ++ (L2 ++ F)))).Perm (S ++ (C ++ (b :: m :: ((L1 ++ L2) ++ F)))) :=
  perm_of_count fun d a => by simp only [List.count_append, List.count_cons, List.count_nil]; omega
theorem perm_c {α : Type} (m s : α) (C L F : List α) : (m :: s :: (C ++ (L ++ F))).Perm (s :: (([m] ++ (C ++ L)) ++ F)) :=
  perm_of_count fun d a => by simp only [List.count_append, List.count_cons, List.count_nil]; omega

theorem drop_final {l1 l2 : List BodyG} {b : BodyG} {k : Int} {m : Nat} {bo : Obj} {fr : Int} (hfr : fr = g.free + cls b.size) (hbs : g.bs = l1 ++ b :: l2) (e1 : ∀ x ∈ l1, x.h ≠ k) (ek : b.h = k) (hmb : g.mb = some m)
    (h : St B w0 w (({ g with spare := b.cells ++ g.spare } : SlabG).raw ((b.blk, bo) :: (m, .map (entsI (g.bs.map BodyG.ent)) g.clk) :: ((l1 ++ l2).flatMap BodyG.heap ++ F)))) :
    St B w0 (ChangeMaps.setBlock (w.setCell ⟨g.sb, 0, none⟩ (.int .i64 fr)) m (.map (entsI ((g.bs.map BodyG.ent).eraseP (·.1 == k))) g.clk)) ((g.cut k b).heap ++ F) := by
  subst hfr
  have h1 := h.set0 0 (.int .i64 (g.free + cls b.size))
  have h2 : St B w0 _ ((m, .map (entsI (g.bs.map BodyG.ent)) g.clk) :: (b.blk, bo) :: (g.sb, (g.cut k b).obj) :: (cellsH (b.cells ++ g.spare) ++ ((l1 ++ l2).flatMap BodyG.heap ++ F))) := St.perm h1 (perm_a _ _ _ _ _)
  have h3 := h2.block0 (o' := .map (entsI ((g.bs.map BodyG.ent).eraseP (·.1 == k))) g.clk)
  have h5 := (h3.perm (.swap _ _ _)).sub (List.sublist_cons_self _ _)
  rw [erase_ents hbs e1 ek] at h5 ⊢
  refine h5.perm ?_
  have eb : (g.cut k b).bs = l1 ++ l2 := by simp only [SlabG.cut]; rw [hbs, eraseP_split e1 ek]
  have em : (g.cut k b).mapH = [(m, .map (entsI ((l1 ++ l2).map BodyG.ent)) g.clk)] := by
    rw [SlabG.mapH_some (g := g.cut k b) hmb, eb]
    rfl
  unfold SlabG.heap
  rw [em, eb]
  exact perm_c _ _ _ _ _

set_option maxHeartbeats 1000000 in
theorem drop_last (h : St B w0 w (g.heap ++ F)) (wf : g.Wf) {k : Int} {b : BodyG} (hs : g.seek k = some b) (h1 : b.held = 1) (hfree : g.free ≤ 100000) :
    Calls Try.prog 15 #[ptr g.sb, .int .i64 k] w fun e w' => e = .returned (.tuple #[.bool true, .int .i64 0]) ∧ St B w0 w' ((g.cut k b).heap ++ F) := by
  obtain ⟨l1, l2, hbs, e1, e2, ek⟩ := SlabG.split wf.keys hs
  have hm := (SlabG.mem_of_seek hs).1
  obtain ⟨m, hmb⟩ := wf.map hm
  have h0 := h.s3
  rw [hmb] at h0
  have hl := h.look_some wf hs
  rw [hmb] at hl
  have h2 := h.b2 hm
  rw [h1] at h2
  have c0 := h.b0 hm
  have hf := h.bf hm 2
  obtain ⟨p, hp⟩ := headP_ptr b.cells
  rw [hp] at c0
  have ha : St B w0 (w.setCell ⟨b.blk, 2, none⟩ (.int .i64 0)) (g.raw (cellsH b.cells ++ ((b.blk, (.cells #[headP b.cells, .int .i64 b.size, .int .i64 0] 63 : Obj)) :: (m, .map (entsI (g.bs.map BodyG.ent)) g.clk) :: ((l1 ++ l2).flatMap BodyG.heap ++ F)))) := by
    rw [SlabG.heap_split hbs] at h
    refine (h.set 2 (.int .i64 0)).perm ?_
    unfold SlabG.pre SlabG.post SlabG.raw
    rw [SlabG.mapH_some hmb]
    rw [List.flatMap_append]
    exact .cons _ (perm_b _ _ _ _ _ _ _)
  have hg := giveBack_any b.cells ha (wf.bodies b hm).1.full
  rw [hp] at hg
  have hg := Lib.hid hg
  have hcl := cls_le b.size
  have f0 := wf.free0
  have hcls := fun w => class_any b.size w
  have hall := Lib.hid (And.intro hbs (And.intro e1 (And.intro ek hmb)))
  clear hs hbs ek h e1 e2 hmb h1 hp ha
  have hm := Lib.hid hm
  have wf := Lib.hid wf
  have hcls := Lib.hid hcls
  go_enter Try.func15, Try.ntmps15
  go_wp2_with fail
  refine hg.out.mono ?_
  rintro e w1 ⟨rfl, hw1⟩
  have k0 := hw1.cell (b := g.sb) (i := 0) (v := .int .i64 g.free) List.mem_cons_self rfl
  have k3 := hw1.cell (b := g.sb) (i := 3) (v := .map g.mb) List.mem_cons_self rfl
  rw [hall.out.2.2.2] at k3
  have kf := hw1.soft (b := g.sb) List.mem_cons_self 0
  have k1 := hw1.cell (b := b.blk) (i := 1) (v := .int .i64 b.size) (c := #[.pointer p, .int .i64 b.size, .int .i64 0]) (T := 63) (fr := (0, 0)) (by simp [SlabG.raw]) rfl
  have hmap : ∀ v, (w1.drew.setCell ⟨g.sb, 0, none⟩ v).heap[m]? = some (.map (entsI (g.bs.map BodyG.ent)) g.clk) := fun v => (hw1.drew.set0 0 v).get (by simp)
  have hmap := Lib.hid hmap
  have hw1 := Lib.hid hw1
  clear h0 hl h2 c0 hf
  go_wp2_with fail
  go_region_with (go_at_call 24; refine (hcls.out _).mono ?_; rintro e w' ⟨rfl, rfl⟩)
  all_goals
    go_wp2_with (at_delete; refine wpList_deleteI rfl (.tmp 52) (.tmp 53) rfl uBodies uInt rfl (hmap.out _) k rfl ?_; intro w2 hw2)
    go_ret2
    refine ⟨rfl, ?_⟩
    rw [hw2.out]
    exact drop_final rfl hall.out.1 hall.out.2.1 hall.out.2.2.1 hall.out.2.2.2 hw1.out.drew
end
end Go.Proofs.Ytpeedcghpdnogaa
