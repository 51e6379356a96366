/- The slab's Put: a text too large, a slab too full, and a body laid in. -/
import Derived.Test.YtpeedcghpdnogaaSlabF
import Derived.Deep.RegionHeld3
namespace Go.Proofs.Ytpeedcghpdnogaa
open Go.RowKit

section
variable {B : Nat} {w0 w : World} {g : SlabG} {F : List (Nat × Obj)}

set_option maxHeartbeats 400000 in
theorem put_large (g : SlabG) (s : ByteArray) (hl : 256 < s.size) (hm : s.size ≤ maxLen) :
    Calls Try.prog 11 #[ptr g.sb, .string s] w fun e w' => e = .returned (.tuple #[.int .i64 0, .int .i64 15]) ∧ w = w' := by
  have h1 : (256 : Int) < s.size := by omega
  have h2 : (s.size : Int) ≤ 9223372036854775807 := by unfold maxLen at hm; omega
  clear hl hm
  go_enter Try.func11, Try.ntmps11
  go_wp2_with fail
  go_ret2
  exact ⟨rfl, rfl⟩

set_option maxHeartbeats 400000 in
theorem put_full (h : St B w0 w (g.heap ++ F)) (wf : g.Wf) (s : ByteArray) (hl : s.size ≤ 256) (hf : g.free < cls s.size ∨ 400 ≤ g.bs.length) :
    Calls Try.prog 11 #[ptr g.sb, .string s] w fun e w' => e = .returned (.tuple #[.int .i64 0, .int .i64 12]) ∧ w = w' := by
  have h1 : (s.size : Int) ≤ 256 := by omega
  have h0 := h.s0
  have h3 := h.s3
  have hlen := h.len wf 3
  have hcl := Lib.hid (fun w => class_any s.size w)
  have hcb := cls_le s.size
  clear hl h
  by_cases hc : g.free < cls s.size
  · go_enter Try.func11, Try.ntmps11
    go_wp2_with fail
    refine (hcl.out _).mono ?_
    rintro e w' ⟨rfl, rfl⟩
    go_wp2_with fail
    go_ret2
    exact ⟨rfl, rfl⟩
  · have h4 : (400 : Int) ≤ g.bs.length := by omega
    have hc' : cls s.size ≤ g.free := by omega
    clear hf hc
    go_enter Try.func11, Try.ntmps11
    go_wp2_with fail
    refine (hcl.out _).mono ?_
    rintro e w' ⟨rfl, rfl⟩
    go_wp2_with fail
    go_ret2
    exact ⟨rfl, rfl⟩

/-- What Put leaves. -/
def SlabG.put (g : SlabG) (c : Int) (sp : Chain) (m clk : Nat) (nb : BodyG) : SlabG :=
  { g with free := g.free - c, last := g.last + 1, spare := sp, mb := some m, clk := clk, bs := g.bs ++ [nb] }

theorem perm_d {α : Type} (b s m : α) (S Bd C F : List α) : (b :: (s :: (([m] ++ (S ++ Bd)) ++ (C ++ F)))).Perm (m :: (s :: (S ++ (Bd ++ (b :: C)) ++ F))) :=
  perm_of_count fun d a => by simp only [List.count_append, List.count_cons, List.count_nil]; omega
theorem perm_e {α : Type} (s m : α) (X F : List α) : (m :: (s :: (X ++ F))).Perm (s :: (([m] ++ X) ++ F)) :=
  perm_of_count fun d a => by simp only [List.count_append, List.count_cons, List.count_nil]; omega

theorem put_final {g2 : SlabG} {sp acc : Chain} {m : Nat} {sz : Int} (hm : g2.mb = some m) (h : St B w0 w (({ g2 with spare := sp } : SlabG).heap ++ (cellsH acc ++ F))) :
    St B w0 (ChangeMaps.setBlock (w.alloc (.cells #[headP acc, .int .i64 sz, .int .i64 1] 63)) m (.map (entsI (g2.bs.map BodyG.ent ++ [(g2.last, ptr w.heap.size, g2.clk)])) (g2.clk + 1)))
      (({ g2 with spare := sp, clk := g2.clk + 1, bs := g2.bs ++ [⟨g2.last, w.heap.size, g2.clk, acc, sz, 1⟩] } : SlabG).heap ++ F) := by
  have h1 := h.alloc (.cells #[headP acc, .int .i64 sz, .int .i64 1] 63)
  unfold SlabG.heap at h1
  rw [SlabG.mapH_some (g := { g2 with spare := sp }) hm] at h1
  have h2 := (h1.perm (perm_d _ _ _ _ _ _ _)).block0 (o' := .map (entsI (g2.bs.map BodyG.ent ++ [(g2.last, ptr w.heap.size, g2.clk)])) (g2.clk + 1))
  have h3 := h2.perm (perm_e _ _ _ _)
  unfold SlabG.heap
  rw [SlabG.mapH_some (g := { g2 with spare := sp, clk := g2.clk + 1, bs := g2.bs ++ [⟨g2.last, w.heap.size, g2.clk, acc, sz, 1⟩] }) hm]
  have e1 : (g2.bs ++ [(⟨g2.last, w.heap.size, g2.clk, acc, sz, 1⟩ : BodyG)]).map BodyG.ent = g2.bs.map BodyG.ent ++ [(g2.last, ptr w.heap.size, g2.clk)] := by simp [BodyG.ent]
  have e2 : (g2.bs ++ [(⟨g2.last, w.heap.size, g2.clk, acc, sz, 1⟩ : BodyG)]).flatMap BodyG.heap = g2.bs.flatMap BodyG.heap ++ ((w.heap.size, (.cells #[headP acc, .int .i64 sz, .int .i64 1] 63 : Obj)) :: cellsH acc) := by simp [BodyG.heap, BodyG.obj]
  rw [e1, e2]
  exact h3

theorem cell?_setBlock_ne {a : Addr} {m : Nat} {o : Obj} (h : a.block ≠ m) : (ChangeMaps.setBlock w m o).cell? a = w.cell? a := by
  simp only [World.cell?, ChangeMaps.setBlock]
  rw [Array.getElem?_setIfInBounds_ne (Ne.symm h)]

theorem put_facts {g3 : SlabG} {m : Nat} {R : List (Nat × Obj)} (hm : g3.mb = some m) (h : St B w0 w (g3.heap ++ R)) (hk : seekI (g3.bs.map BodyG.ent) g3.last = none) :
    (w.cell? ⟨g3.sb, 3, none⟩ = some (.map (some m)) ∧ w.cell? ⟨g3.sb, 1, none⟩ = some (.int .i64 g3.last)) ∧
    (∀ o, (w.alloc o).cell? ⟨g3.sb, 3, none⟩ = some (.map (some m)) ∧ (w.alloc o).cell? ⟨g3.sb, 1, none⟩ = some (.int .i64 g3.last)) ∧
    (∀ o v, (Instr.mapUpdate 57 (.map (some m)) (.int .i64 g3.last) v).run Try.prog (w.alloc o) = .ok () (ChangeMaps.setBlock (w.alloc o) m (.map (entsI (g3.bs.map BodyG.ent ++ [(g3.last, v, g3.clk)])) (g3.clk + 1)))) ∧
    (∀ o x, (ChangeMaps.setBlock (w.alloc o) m (.map x (g3.clk + 1))).cell? ⟨g3.sb, 3, none⟩ = some (.map (some m)) ∧ (ChangeMaps.setBlock (w.alloc o) m (.map x (g3.clk + 1))).cell? ⟨g3.sb, 1, none⟩ = some (.int .i64 g3.last)) := by
  have h3 := h.s3
  have h1 := h.s1
  rw [hm] at h3
  have hlt : g3.sb < w.heap.size := h.slab.lt List.mem_cons_self
  have hma := h.mapAt hm
  have hml : m < w.heap.size := (Array.getElem?_eq_some_iff.1 hma).1
  have hne : g3.sb ≠ m := h.slab.ne (o' := .map (entsI (g3.bs.map BodyG.ent)) g3.clk) (by simp [SlabG.mapH_some hm])
  have h4 : ∀ o, (w.alloc o).cell? ⟨g3.sb, 3, none⟩ = some (.map (some m)) ∧ (w.alloc o).cell? ⟨g3.sb, 1, none⟩ = some (.int .i64 g3.last) := fun o =>
    ⟨by rw [World.cell?_alloc_lt _ _ _ hlt]; exact h3, by rw [World.cell?_alloc_lt _ _ _ hlt]; exact h1⟩
  refine ⟨⟨h3, h1⟩, h4, fun o v => ?_, fun o x => ?_⟩
  · exact run_mapUpdateI_new uBodies uInt (by rw [Below.heap_alloc _ _ _ hml]; exact hma) _ v hk
  · rw [cell?_setBlock_ne hne, cell?_setBlock_ne hne]
    exact h4 o

theorem seek_fresh {g : SlabG} (wf : g.Wf) {k : Int} (hk : g.last < k) : seekI (g.bs.map BodyG.ent) k = none := by
  rw [seekI_bodies]
  simp only [Option.map_eq_none_iff, List.find?_eq_none]
  intro b hb e
  have h1 := (wf.bodies b hb).2.2
  have h2 : b.h = k := by simpa using e
  omega

theorem put_done {s : ByteArray} {acc sp : Chain} {p : Option Addr} {m clk : Nat} (hp : headP acc = .pointer p)
    (h : Wrote B w0 ({ g with free := g.free - cls s.size, last := g.last + 1, mb := some m, clk := clk } : SlabG) F s.data.toList 0 acc sp w) (hl : s.size ≤ 256) :
    ∃ sp' m' clk' nb, St B w0 (ChangeMaps.setBlock (w.alloc (.cells #[.pointer p, .int .i64 s.size, .int .i64 1] 63)) m (.map (entsI (g.bs.map BodyG.ent ++ [(g.last + 1, .pointer (some ⟨w.heap.size, 0, none⟩), clk)])) (clk + 1))) ((g.put (cls s.size) sp' m' clk' nb).heap ++ F) ∧
      Full sp' ∧ nb.Wf ∧ nb.h = g.last + 1 ∧ nb.held = 1 ∧ nb.size = s.size ∧ nb.text = s.data.toList := by
  obtain ⟨h1, h2, h3, h4, h5⟩ := h
  have hz : s.data.toList.length = s.size := by simp
  have hf := put_final (m := m) (sz := s.size) rfl h1
  rw [hp] at hf
  refine ⟨sp, m, clk + 1, ⟨g.last + 1, w.heap.size, clk, acc, s.size, 1⟩, hf, h2, ⟨h3, ?_, by simp, by simp; omega, by simp⟩, rfl, rfl, rfl, ?_⟩
  · rw [hz] at h4
    simpa using h4
  · rw [hz] at h5
    simpa [BodyG.text] using h5

set_option maxRecDepth 100000 in
set_option maxHeartbeats 4000000 in
theorem put_ok (h : St B w0 w (g.heap ++ F)) (wf : g.Wf) (s : ByteArray) (hl : s.size ≤ 256) (hf : cls s.size ≤ g.free) (hn : g.bs.length < 400) (hlast : g.last < 4611686018427387904) :
    Calls Try.prog 11 #[ptr g.sb, .string s] w fun e w' => e = .returned (.tuple #[.int .i64 (g.last + 1), .int .i64 0]) ∧
      ∃ sp m clk nb, St B w0 w' ((g.put (cls s.size) sp m clk nb).heap ++ F) ∧ Full sp ∧ nb.Wf ∧ nb.h = g.last + 1 ∧ nb.held = 1 ∧ nb.size = s.size ∧ nb.text = s.data.toList := by
  have hw : ∃ m clk, ∃ W : World, (g.mb = some m ∧ W = w ∨ g.mb = none ∧ m = w.heap.size ∧ W = (w.alloc (.map #[] 0)).setCell ⟨g.sb, 3, none⟩ (.map (some m))) ∧ St B w0 W (({ g with mb := some m, clk := clk } : SlabG).heap ++ F) := by
    cases hm : g.mb with
    | some m =>
      refine ⟨m, g.clk, w, .inl ⟨rfl, rfl⟩, ?_⟩
      have : ({ g with mb := some m, clk := g.clk } : SlabG) = g := by rw [← hm]
      rw [this]
      exact h
    | none =>
      refine ⟨w.heap.size, 0, _, .inr ⟨rfl, rfl, rfl⟩, ?_⟩
      have h1 := h.alloc (.map #[] 0)
      have hb := wf.nomap hm
      have e1 : g.mapH = [] := by simp [SlabG.mapH, hm]
      unfold SlabG.heap at h1
      rw [e1] at h1
      have h2 := (h1.perm (.swap _ _ _)).set0 3 (.map (some w.heap.size))
      refine h2.perm ?_
      unfold SlabG.heap
      rw [SlabG.mapH_some (g := { g with mb := some w.heap.size, clk := 0 }) rfl]
      simp only [hb]
      exact .refl _
  have k0 := h.s0
  have k3 := h.s3
  have kf := h.sf 0
  have kf1 := h.sf 1
  have kf3 := h.sf 3
  have k1 := h.s1
  have hlen := h.len wf 3
  have hcl := Lib.hid (fun w => class_any s.size w)
  have hcb := cls_le s.size
  have h1 : (s.size : Int) ≤ 256 := by omega
  have hl' := Lib.hid hl
  have hl0 := wf.last0
  have hf1 := wf.free1
  have hn' : (g.bs.length : Int) < 400 := by omega
  have hwf := Lib.hid wf
  have hlt : g.sb < w.heap.size := h.slab.lt List.mem_cons_self
  clear h wf hl
  have hmm := @run_makeMap Try.prog
  have heq : ∀ (w : World) (r : Option Nat), (binOp .eql 57 (.map r) (.map none)).run Try.prog w = .ok (.bool r.isNone) w := fun w r => run_eql_map_nil w _ _ _ r uBodies
  obtain ⟨m, clk, W, hW, hst⟩ := hw
  have hst2 : St B w0 ((W.setCell ⟨g.sb, 0, none⟩ (.int .i64 (g.free - cls s.size))).setCell ⟨g.sb, 1, none⟩ (.int .i64 (g.last + 1)))
      (({ g with free := g.free - cls s.size, last := g.last + 1, mb := some m, clk := clk } : SlabG).heap ++ F) := (hst.slab.set0 0 (.int .i64 (g.free - cls s.size))).set0 1 (.int .i64 (g.last + 1))
  have hwr := write_any hst2.drew hwf.out.spare s hl'.out
  have hwr := Lib.hid hwr
  have hs := Lib.hid (And.intro hst2.drew.s3 hst2.drew.s1)
  have hkeys := Lib.hid (seek_fresh hwf.out (k := g.last + 1) (by omega))
  have hst := Lib.hid hst
  have hst2 := Lib.hid hst2
  rcases hW with ⟨hm, hW⟩ | ⟨hm, hmw, hW⟩
  · subst hW
    rw [hm] at k3 hlen
    have hm := Lib.hid hm
    go_enter Try.func11, Try.ntmps11
    go_wp2_with fail
    refine (hcl.out _).mono ?_
    rintro e w' ⟨rfl, rfl⟩
    go_wp2_with fail
    go_region_held3 (fun x => x.cell? ⟨g.sb, 3, none⟩ = some (.map (some m)) ∧ x.cell? ⟨g.sb, 1, none⟩ = some (.int .i64 (g.last + 1)))
      (first
        | exact hs.out
        | exact hk3
        | exact hk4 _
        | exact hk5 _ _)
      ((go_at_call 26; refine hwr.out.mono ?_; rintro e w3 ⟨acc, sp, rfl, hw3⟩; obtain ⟨p, hp⟩ := headP_ptr acc; rw [hp]; have hp' := Lib.hid hp; clear hp; have hw3' := Lib.hid hw3; clear hw3;
        obtain ⟨hk3, hk4, hmu, hk5⟩ := put_facts rfl hw3'.out.1 hkeys.out))
    go_wp2_with fail
    go_ret2
    refine ⟨rfl, ?_⟩
    exact put_done hp'.out hw3'.out hl'.out
  · subst hW
    rw [hm] at k3 hlen
    subst hmw
    rw [World.setCell_alloc_past _ _ _ _ hlt, World.setCell_alloc_past _ _ _ _ (by simpa using hlt), World.setCell_alloc_past _ _ _ _ (by simpa using hlt)] at hwr hs
    have hm := Lib.hid hm
    go_enter Try.func11, Try.ntmps11
    go_wp2_with fail
    refine (hcl.out _).mono ?_
    rintro e w' ⟨rfl, rfl⟩
    go_wp2_with fail
    go_region_held3 (fun x => x.cell? ⟨g.sb, 3, none⟩ = some (.map (some w.heap.size)) ∧ x.cell? ⟨g.sb, 1, none⟩ = some (.int .i64 (g.last + 1)))
      (first
        | exact hs.out
        | exact hk3
        | exact hk4 _
        | exact hk5 _ _)
      ((go_at_call 26; refine hwr.out.mono ?_; rintro e w3 ⟨acc, sp, rfl, hw3⟩; obtain ⟨p, hp⟩ := headP_ptr acc; rw [hp]; have hp' := Lib.hid hp; clear hp; have hw3' := Lib.hid hw3; clear hw3;
        obtain ⟨hk3, hk4, hmu, hk5⟩ := put_facts rfl hw3'.out.1 hkeys.out))
    go_wp2_with fail
    go_ret2
    refine ⟨rfl, ?_⟩
    exact put_done hp'.out hw3'.out hl'.out
end
end Go.Proofs.Ytpeedcghpdnogaa
