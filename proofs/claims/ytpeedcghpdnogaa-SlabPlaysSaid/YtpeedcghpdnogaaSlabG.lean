/- What the memory of a slab holds, as plain data: the body list, the chains of cells, and the list of blocks that they make. -/
import Derived.Test.YtpeedcghpdnogaaOwn
namespace Go.Proofs.Ytpeedcghpdnogaa
open Go.RowKit

def cls (n : Int) : Int := if n ≤ 0 then 0 else if n ≤ 32 then 32 else if n ≤ 64 then 64 else if n ≤ 128 then 128 else if n ≤ 256 then 256 else 0

theorem cls_le (n : Int) : 0 ≤ cls n ∧ cls n ≤ 256 := by unfold cls; repeat' split <;> omega

def u8v (c : UInt8) : Value := .int .u8 c.toNat

abbrev Chain := List (Nat × List UInt8)
def headP : Chain → Value
  | [] => .pointer none
  | (b, _) :: _ => .pointer (some ⟨b, 0, none⟩)
def cellObj (cs : List UInt8) (next : Value) : Obj := .cells ((cs.map u8v ++ [next]).toArray) 73
def cellsH : Chain → List (Nat × Obj)
  | [] => []
  | (b, cs) :: r => (b, cellObj cs (headP r)) :: cellsH r

theorem perm_pull {α : Type} (x y : α) (L M F : List α) : (x :: (L ++ (y :: M) ++ F)).Perm (y :: x :: (L ++ M ++ F)) := by
  have h : (L ++ (y :: M) ++ F).Perm (y :: (L ++ M ++ F)) := by
    rw [List.append_assoc, List.append_assoc]
    exact List.perm_middle
  exact (h.cons x).trans (.swap _ _ _)

theorem headP_ptr (c : Chain) : ∃ p, headP c = .pointer p := by
  cases c with
  | nil => exact ⟨_, rfl⟩
  | cons x r => exact ⟨_, rfl⟩

/-- A chain whose last cell leads on to v. -/
def headT : Chain → Value → Value
  | [], v => v
  | (b, _) :: _, _ => .pointer (some ⟨b, 0, none⟩)
def cellsT : Chain → Value → List (Nat × Obj)
  | [], _ => []
  | (b, cs) :: r, v => (b, cellObj cs (headT r v)) :: cellsT r v
theorem headT_nil (c : Chain) : headT c (.pointer none) = headP c := by cases c <;> rfl
theorem headT_append (c d : Chain) (v : Value) : headT (c ++ d) v = headT c (headT d v) := by cases c <;> rfl
theorem cellsT_nil : ∀ c : Chain, cellsT c (.pointer none) = cellsH c
  | [] => rfl
  | (b, cs) :: r => by simp only [cellsT, cellsH, headT_nil, cellsT_nil r]
theorem cellsT_append : ∀ (c d : Chain) (v : Value), cellsT (c ++ d) v = cellsT c (headT d v) ++ cellsT d v
  | [], _, _ => rfl
  | (b, cs) :: r, d, v => by simp only [List.cons_append, cellsT, headT_append, cellsT_append r d v]
theorem headP_append (c d : Chain) : headP (c ++ d) = headT c (headP d) := by cases c <;> rfl
theorem cellsH_append (c d : Chain) : cellsH (c ++ d) = cellsT c (headP d) ++ cellsH d := by
  rw [← cellsT_nil, cellsT_append, headT_nil, cellsT_nil]
theorem mem_cellsH {l1 l2 : Chain} {b : Nat} {cs : List UInt8} : (b, cellObj cs (headP l2)) ∈ cellsH (l1 ++ (b, cs) :: l2) := by
  rw [cellsH_append]
  simp [cellsH]

structure BodyG where
  h : Int
  blk : Nat
  born : Nat
  cells : Chain
  size : Int
  held : Int

def BodyG.ent (b : BodyG) : Int × Value × Nat := (b.h, .pointer (some ⟨b.blk, 0, none⟩), b.born)
def BodyG.obj (b : BodyG) : Obj := .cells #[headP b.cells, .int .i64 b.size, .int .i64 b.held] 63
def BodyG.heap (b : BodyG) : List (Nat × Obj) := (b.blk, b.obj) :: cellsH b.cells
def BodyG.text (b : BodyG) : List UInt8 := (b.cells.flatMap (·.2)).take b.size.toNat

structure SlabG where
  sb : Nat
  free : Int
  last : Int
  spare : Chain
  mb : Option Nat
  clk : Nat
  bs : List BodyG

def SlabG.obj (g : SlabG) : Obj := .cells #[.int .i64 g.free, .int .i64 g.last, headP g.spare, .map g.mb] 59
def SlabG.mapH (g : SlabG) : List (Nat × Obj) := match g.mb with | none => [] | some m => [(m, .map (entsI (g.bs.map BodyG.ent)) g.clk)]
def SlabG.heap (g : SlabG) : List (Nat × Obj) := (g.sb, g.obj) :: (g.mapH ++ (cellsH g.spare ++ g.bs.flatMap BodyG.heap))
def SlabG.seek (g : SlabG) (k : Int) : Option BodyG := g.bs.find? (·.h == k)

structure BodyG.Wf (b : BodyG) : Prop where
  full : ∀ c ∈ b.cells, c.2.length = 32
  cells : (b.cells.length : Int) * 32 = cls b.size
  size0 : 0 ≤ b.size
  size1 : b.size ≤ 256
  held : 1 ≤ b.held

structure SlabG.Wf (g : SlabG) : Prop where
  nomap : g.mb = none → g.bs = []
  spare : ∀ c ∈ g.spare, c.2.length = 32
  bodies : ∀ b ∈ g.bs, b.Wf ∧ 1 ≤ b.h ∧ b.h ≤ g.last
  keys : (g.bs.map (·.h)).Nodup
  free0 : 0 ≤ g.free
  free1 : g.free ≤ 100000
  last0 : 0 ≤ g.last
  many : g.bs.length ≤ 400

theorem seekI_bodies (bs : List BodyG) (k : Int) : seekI (bs.map BodyG.ent) k = (bs.find? (·.h == k)).map BodyG.ent := by
  unfold seekI
  rw [List.find?_map]
  rfl

theorem SlabG.mem_of_seek {g : SlabG} {k : Int} {b : BodyG} (h : g.seek k = some b) : b ∈ g.bs ∧ b.h = k :=
  ⟨List.mem_of_find?_eq_some h, by simpa using List.find?_some h⟩

theorem SlabG.heap_of_mem {g : SlabG} {b : BodyG} (h : b ∈ g.bs) {F : List (Nat × Obj)} : (b.blk, b.obj) ∈ g.heap ++ F := by
  simp only [SlabG.heap, List.cons_append, List.mem_cons, List.mem_append, List.mem_flatMap]
  exact .inr (.inl (.inr (.inr ⟨b, h, by simp [BodyG.heap]⟩)))

theorem SlabG.mapH_some {g : SlabG} {m : Nat} (h : g.mb = some m) : g.mapH = [(m, .map (entsI (g.bs.map BodyG.ent)) g.clk)] := by
  simp [SlabG.mapH, h]

/-- The map that a body's being there proves. -/
theorem SlabG.Wf.map {g : SlabG} (h : g.Wf) {b : BodyG} (hb : b ∈ g.bs) : ∃ m, g.mb = some m := by
  cases hm : g.mb with
  | some m => exact ⟨m, rfl⟩
  | none => rw [h.nomap hm] at hb; simp at hb

theorem find_congr {α : Type} {p q : α → Bool} : ∀ {l : List α}, (∀ x ∈ l, p x = q x) → l.find? p = l.find? q
  | [], _ => rfl
  | x :: l, h => by
    have ih : l.find? p = l.find? q := find_congr (fun y hy => h y (List.mem_cons_of_mem _ hy))
    simp only [List.find?_cons, h x List.mem_cons_self, ih]

/-- One body turned. -/
def SlabG.upd (g : SlabG) (k : Int) (f : BodyG → BodyG) : SlabG := { g with bs := g.bs.map fun b => if b.h = k then f b else b }

theorem SlabG.split {g : SlabG} {k : Int} {b : BodyG} (hn : (g.bs.map (·.h)).Nodup) (hs : g.seek k = some b) :
    ∃ l1 l2, g.bs = l1 ++ b :: l2 ∧ (∀ x ∈ l1, x.h ≠ k) ∧ (∀ x ∈ l2, x.h ≠ k) ∧ b.h = k := by
  obtain ⟨hm, hk⟩ := SlabG.mem_of_seek hs
  obtain ⟨l1, l2, hb⟩ := List.append_of_mem hm
  refine ⟨l1, l2, hb, ?_, ?_, hk⟩
  · intro x hx e
    rw [hb] at hn
    simp only [List.map_append, List.map_cons] at hn
    exact (List.nodup_append.1 hn).2.2 x.h (List.mem_map_of_mem hx) b.h (by simp) (e.trans hk.symm)
  · intro x hx e
    rw [hb] at hn
    simp only [List.map_append, List.map_cons] at hn
    exact (List.nodup_cons.1 (List.nodup_append.1 hn).2.1).1 (by rw [hk, ← e]; exact List.mem_map_of_mem hx)

theorem map_if_ne {k : Int} {f : BodyG → BodyG} : ∀ {l : List BodyG}, (∀ x ∈ l, x.h ≠ k) → l.map (fun b => if b.h = k then f b else b) = l
  | [], _ => rfl
  | x :: l, h => by
    have ih : l.map (fun b => if b.h = k then f b else b) = l := map_if_ne (fun y hy => h y (List.mem_cons_of_mem _ hy))
    simp only [List.map_cons, if_neg (h x List.mem_cons_self), ih]

/-- One body gone. -/
def SlabG.cut (g : SlabG) (k : Int) (b : BodyG) : SlabG := { g with free := g.free + cls b.size, spare := b.cells ++ g.spare, bs := g.bs.eraseP (·.h == k) }

theorem eraseP_split {k : Int} {b : BodyG} : ∀ {l1 l2 : List BodyG}, (∀ x ∈ l1, x.h ≠ k) → b.h = k → (l1 ++ b :: l2).eraseP (·.h == k) = l1 ++ l2
  | [], _, _, hb => by simp [hb]
  | x :: l1, l2, h, hb => by
    have h1 : (x.h == k) = false := by simpa using h x List.mem_cons_self
    rw [List.cons_append, List.eraseP_cons, h1, eraseP_split (fun y hy => h y (List.mem_cons_of_mem _ hy)) hb]
    rfl

def SlabG.pre (g : SlabG) (l1 : List BodyG) : List (Nat × Obj) := (g.sb, g.obj) :: (g.mapH ++ (cellsH g.spare ++ l1.flatMap BodyG.heap))
def SlabG.post (b : BodyG) (l2 : List BodyG) (F : List (Nat × Obj)) : List (Nat × Obj) := cellsH b.cells ++ (l2.flatMap BodyG.heap ++ F)

theorem SlabG.heap_split {g : SlabG} {l1 l2 : List BodyG} {b : BodyG} (hb : g.bs = l1 ++ b :: l2) (F : List (Nat × Obj)) :
    g.heap ++ F = g.pre l1 ++ (b.blk, b.obj) :: SlabG.post b l2 F := by
  simp [SlabG.heap, SlabG.pre, SlabG.post, hb, BodyG.heap]

theorem SlabG.upd_heap {g : SlabG} {l1 l2 : List BodyG} {b : BodyG} {k : Int} (hb : g.bs = l1 ++ b :: l2) (h1 : ∀ x ∈ l1, x.h ≠ k) (h2 : ∀ x ∈ l2, x.h ≠ k) (hk : b.h = k) {f : BodyG → BodyG}
    (hent : (f b).ent = b.ent) (hcells : (f b).cells = b.cells) (F : List (Nat × Obj)) :
    (g.upd k f).heap ++ F = g.pre l1 ++ (b.blk, (f b).obj) :: SlabG.post b l2 F := by
  have hbs : (g.upd k f).bs = l1 ++ f b :: l2 := by
    simp [SlabG.upd, hb, map_if_ne h1, map_if_ne h2, hk]
  have hmap : (g.upd k f).mapH = g.mapH := by
    unfold SlabG.mapH
    rw [hbs, hb]
    simp only [List.map_append, List.map_cons, hent]
    rfl
  have hblk : (f b).blk = b.blk := by
    have := congrArg (fun x => x.2.1) hent
    simpa [BodyG.ent] using this
  rw [SlabG.heap_split hbs]
  simp only [SlabG.pre, SlabG.post, hmap, hcells, hblk]
  rfl

theorem SlabG.upd_wf {g : SlabG} (wf : g.Wf) {k : Int} {f : BodyG → BodyG} (hf : ∀ b ∈ g.bs, b.h = k → b.Wf → (f b).Wf ∧ (f b).h = b.h) : (g.upd k f).Wf := by
  have hh : (g.upd k f).bs.map (·.h) = g.bs.map (·.h) := by
    simp only [SlabG.upd, List.map_map]
    refine List.map_congr_left fun b hb => ?_
    simp only [Function.comp]
    split
    · rename_i h
      exact (hf b hb h (wf.bodies b hb).1).2
    · rfl
  refine ⟨fun h => ?_, wf.spare, fun b hb => ?_, by rw [hh]; exact wf.keys, wf.free0, wf.free1, wf.last0, ?_⟩
  · simp [SlabG.upd, wf.nomap h]
  · obtain ⟨b0, hb0, rfl⟩ := List.mem_map.1 hb
    obtain ⟨w1, w2, w3⟩ := wf.bodies b0 hb0
    by_cases h : b0.h = k
    · obtain ⟨x1, x2⟩ := hf b0 hb0 h w1
      rw [if_pos h]
      exact ⟨x1, by rw [x2]; exact w2, by rw [x2]; exact w3⟩
    · rw [if_neg h]
      exact ⟨w1, w2, w3⟩
  · simpa [SlabG.upd] using wf.many

theorem SlabG.upd_seek {g : SlabG} {k : Int} {f : BodyG → BodyG} (hf : ∀ b ∈ g.bs, b.h = k → (f b).h = b.h) (j : Int) :
    (g.upd k f).seek j = (g.seek j).map fun b => if b.h = k then f b else b := by
  unfold SlabG.seek SlabG.upd
  rw [List.find?_map]
  refine congrArg _ ?_
  refine find_congr fun b hb => ?_
  simp only [Function.comp]
  split
  · rename_i h
    rw [hf b hb h]
  · rfl

/-- .. where only the body at k has to be looked at. -/
theorem SlabG.upd_wf' {g : SlabG} (wf : g.Wf) {k : Int} {b : BodyG} (hs : g.seek k = some b) {f : BodyG → BodyG} (hf : (f b).Wf) (hh : (f b).h = b.h) : (g.upd k f).Wf := by
  obtain ⟨l1, l2, hbs, e1, e2, ek⟩ := SlabG.split wf.keys hs
  refine SlabG.upd_wf wf fun x hx hk _ => ?_
  have : x = b := by
    rw [hbs] at hx
    rcases List.mem_append.1 hx with hx | hx
    · exact absurd hk (e1 x hx)
    · rcases List.mem_cons.1 hx with rfl | hx
      · rfl
      · exact absurd hk (e2 x hx)
  subst this
  exact ⟨hf, hh⟩

end Go.Proofs.Ytpeedcghpdnogaa
