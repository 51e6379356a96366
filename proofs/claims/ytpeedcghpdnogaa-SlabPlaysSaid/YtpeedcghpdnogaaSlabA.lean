/- The slab's small methods (Free, Live, Count, Hold) and Class, each told by what it answers and by what its memory holds behind it. -/
import Derived.Test.YtpeedcghpdnogaaRows
import Derived.Test.YtpeedcghpdnogaaSlabG
namespace Go.Proofs.Ytpeedcghpdnogaa
open Go.RowKit

abbrev ptr (b : Nat) : Value := .pointer (some ⟨b, 0, none⟩)

theorem uBodies : Try.prog.underlying 57 = some (.map 3 60) := by kernel_rfl
theorem uInt : Try.prog.underlying 3 = some (.int .i64) := by kernel_rfl
theorem zpBody (w : World) : (zeroValue 60).run Try.prog w = .ok (.pointer none) w := by kernel_rfl

section
variable {B : Nat} {w0 w : World} {g : SlabG} {F : List (Nat × Obj)}

theorem St.slab (h : St B w0 w (g.heap ++ F)) : St B w0 w ((g.sb, g.obj) :: (g.mapH ++ (cellsH g.spare ++ g.bs.flatMap BodyG.heap) ++ F)) := h
theorem St.s0 (h : St B w0 w (g.heap ++ F)) : w.cell? ⟨g.sb, 0, none⟩ = some (.int .i64 g.free) := h.slab.cell List.mem_cons_self rfl
theorem St.s1 (h : St B w0 w (g.heap ++ F)) : w.cell? ⟨g.sb, 1, none⟩ = some (.int .i64 g.last) := h.slab.cell List.mem_cons_self rfl
theorem St.s2 (h : St B w0 w (g.heap ++ F)) : w.cell? ⟨g.sb, 2, none⟩ = some (headP g.spare) := h.slab.cell List.mem_cons_self rfl
theorem St.s3 (h : St B w0 w (g.heap ++ F)) : w.cell? ⟨g.sb, 3, none⟩ = some (.map g.mb) := h.slab.cell List.mem_cons_self rfl
theorem St.sf (h : St B w0 w (g.heap ++ F)) (i : Nat) : w.frozen? ⟨g.sb, i, none⟩ = false := h.slab.soft List.mem_cons_self i

theorem St.mapAt (h : St B w0 w (g.heap ++ F)) {m : Nat} (hm : g.mb = some m) : w.heap[m]? = some (.map (entsI (g.bs.map BodyG.ent)) g.clk) :=
  h.get (b := m) (by simp [SlabG.heap, SlabG.mapH_some hm])

theorem St.b0 (h : St B w0 w (g.heap ++ F)) {b : BodyG} (hb : b ∈ g.bs) : w.cell? ⟨b.blk, 0, none⟩ = some (headP b.cells) := h.cell (SlabG.heap_of_mem hb) rfl
theorem St.b1 (h : St B w0 w (g.heap ++ F)) {b : BodyG} (hb : b ∈ g.bs) : w.cell? ⟨b.blk, 1, none⟩ = some (.int .i64 b.size) := h.cell (SlabG.heap_of_mem hb) rfl
theorem St.b2 (h : St B w0 w (g.heap ++ F)) {b : BodyG} (hb : b ∈ g.bs) : w.cell? ⟨b.blk, 2, none⟩ = some (.int .i64 b.held) := h.cell (SlabG.heap_of_mem hb) rfl
theorem St.bf (h : St B w0 w (g.heap ++ F)) {b : BodyG} (hb : b ∈ g.bs) (i : Nat) : w.frozen? ⟨b.blk, i, none⟩ = false := h.soft (SlabG.heap_of_mem hb) i

theorem St.look_some (h : St B w0 w (g.heap ++ F)) (wf : g.Wf) {k : Int} {b : BodyG} (hs : g.seek k = some b) :
    (Instr.lookup 57 (.map g.mb) (.int .i64 k) true).run Try.prog w = .ok (.tuple #[ptr b.blk, .bool true]) w := by
  obtain ⟨m, hm⟩ := wf.map (SlabG.mem_of_seek hs).1
  rw [hm, run_lookupI uBodies uInt (zpBody w) (h.mapAt hm) k, seekI_bodies]
  unfold SlabG.seek at hs
  rw [hs]
  rfl

theorem St.look_none (h : St B w0 w (g.heap ++ F)) {k : Int} (hs : g.seek k = none) :
    (Instr.lookup 57 (.map g.mb) (.int .i64 k) true).run Try.prog w = .ok (.tuple #[.pointer none, .bool false]) w := by
  cases hm : g.mb with
  | none => exact run_lookupI_nil uBodies uInt (zpBody w) k
  | some m =>
    rw [run_lookupI uBodies uInt (zpBody w) (h.mapAt hm) k, seekI_bodies]
    unfold SlabG.seek at hs
    rw [hs]
    rfl

theorem St.len (h : St B w0 w (g.heap ++ F)) (wf : g.Wf) (ty : TypeId) : (Builtin.len_ #[57] ty #[.map g.mb]).run Try.prog w = .ok (.int .i64 g.bs.length) w := by
  cases hm : g.mb with
  | none =>
    rw [wf.nomap hm]
    exact Maps.len_nil uBodies ty
  | some m =>
    rw [run_lenI uBodies (h.mapAt hm)]
    simp

set_option maxHeartbeats 400000 in
theorem free_ok (h : St B w0 w (g.heap ++ F)) : Calls Try.prog 17 #[ptr g.sb] w fun e w' => e = .returned (.int .i64 g.free) ∧ w = w' := by
  have h0 := h.s0
  go_enter Try.func17, Try.ntmps17
  go_wp2
  go_ret
  exact ⟨rfl, rfl⟩

set_option maxHeartbeats 400000 in
theorem live_ok (h : St B w0 w (g.heap ++ F)) (wf : g.Wf) : Calls Try.prog 19 #[ptr g.sb] w fun e w' => e = .returned (.int .i64 g.bs.length) ∧ w = w' := by
  have h0 := h.s3
  have hl := h.len wf
  go_enter Try.func19, Try.ntmps19
  go_wp2
  go_ret
  exact ⟨rfl, rfl⟩

set_option maxHeartbeats 400000 in
theorem count_some (h : St B w0 w (g.heap ++ F)) (wf : g.Wf) {k : Int} {b : BodyG} (hs : g.seek k = some b) : Calls Try.prog 22 #[ptr g.sb, .int .i64 k] w fun e w' => e = .returned (.int .i64 b.held) ∧ w = w' := by
  have h0 := h.s3
  have hl := h.look_some wf hs
  have h2 := h.b2 (SlabG.mem_of_seek hs).1
  clear hs
  go_enter Try.func22, Try.ntmps22
  go_wp2
  go_ret
  exact ⟨rfl, rfl⟩

set_option maxHeartbeats 400000 in
theorem count_none (h : St B w0 w (g.heap ++ F)) {k : Int} (hs : g.seek k = none) : Calls Try.prog 22 #[ptr g.sb, .int .i64 k] w fun e w' => e = .returned (.int .i64 0) ∧ w = w' := by
  have h0 := h.s3
  have hl := h.look_none hs
  clear hs
  go_enter Try.func22, Try.ntmps22
  go_wp2
  go_ret
  exact ⟨rfl, rfl⟩

set_option maxHeartbeats 400000 in
theorem hold_none (h : St B w0 w (g.heap ++ F)) {k : Int} (hs : g.seek k = none) : Calls Try.prog 13 #[ptr g.sb, .int .i64 k] w fun e w' => e = .returned (.int .i64 13) ∧ w = w' := by
  have h0 := h.s3
  have hl := h.look_none hs
  clear hs
  go_enter Try.func13, Try.ntmps13
  go_wp2
  go_ret
  exact ⟨rfl, rfl⟩

def BodyG.more (b : BodyG) : BodyG := { b with held := b.held + 1 }

set_option maxHeartbeats 400000 in
theorem hold_some (h : St B w0 w (g.heap ++ F)) (wf : g.Wf) {k : Int} {b : BodyG} (hs : g.seek k = some b) (hb : b.held < 9223372036854775807) :
    Calls Try.prog 13 #[ptr g.sb, .int .i64 k] w fun e w' => e = .returned (.int .i64 0) ∧ St B w0 w' ((g.upd k BodyG.more).heap ++ F) := by
  have h0 := h.s3
  have hl := h.look_some wf hs
  obtain ⟨l1, l2, hbs, e1, e2, ek⟩ := SlabG.split wf.keys hs
  have hm := (SlabG.mem_of_seek hs).1
  have h2 := h.b2 hm
  have hf := h.bf hm 2
  have hh := (wf.bodies b hm).1.held
  have HF : Hid (St B w0 (w.setCell ⟨b.blk, 2, none⟩ (.int .i64 (b.held + 1))) ((g.upd k BodyG.more).heap ++ F)) := by
    rw [SlabG.upd_heap hbs e1 e2 ek (f := BodyG.more) rfl rfl]
    rw [SlabG.heap_split hbs] at h
    exact h.set 2 _
  clear hs hbs ek h wf e1 e2 hm
  go_enter Try.func13, Try.ntmps13
  go_wp2
  go_ret
  exact ⟨rfl, HF.out⟩

end
end Go.Proofs.Ytpeedcghpdnogaa
