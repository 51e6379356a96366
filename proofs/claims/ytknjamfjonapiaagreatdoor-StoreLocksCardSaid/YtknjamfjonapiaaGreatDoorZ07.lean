import Derived.Test.YtknjamfjonapiaaGreatDoorZ03
import Derived.Test.YtknjamfjonapiaaGreatDoorZ05
import Derived.Test.YtknjamfjonapiaaGreatDoorZ06
import Derived.Deep.DeepCutAuto
import Derived.Deep.CutBlock
import Derived.Deep.Fields
import Derived.StillTailTactics
import Derived.Laws.EntriesVeiled
import Derived.Laws.MakeOwn
import Derived.Lib.BufferWrite
import Derived.Deep.RegionHeld3
import Derived.Maps.RangeRun
import Derived.Deep.LoopGhost
import Derived.Lib.Hide
namespace Go.Proofs.YtknjamfjonapiaaGreatDoor
open Go.RowKit
set_option linter.unusedVariables false
set_option linter.unusedSectionVars false
set_option linter.unusedSimpArgs false
set_option maxRecDepth 100000
section
open Go.ChangeMaps (setBlock)
abbrev z0E : Ent := ⟨0, 0, 0, [], [], 0, 0, 0, false, 0⟩
theorem zEnt (w : World) : (zeroValue 51).run Tryz.prog w = .ok (enV z0E) w := Tryz.zeroValue51 w
theorem uMapE : Tryz.prog.underlying 255 = some (.map 3 51) := by kernel_rfl
structure HeldOf (es : List (MapRow Int)) (clk : Nat) (H : List Ent) : Prop where
 rows : (es.map fun x => (x.1, x.2.1)).Perm (H.map fun e => (e.id, enV e))
 born : Born es clk
 ids : (H.map (·.id)).Nodup
section
variable {es : List (MapRow Int)} {clk : Nat} {H H' : List Ent} {e : Ent} {k : Int}
theorem HeldOf.keysP (h : HeldOf es clk H) : (es.map (·.1)).Perm (H.map (·.id)) := by
 have := h.rows.map (·.1)
 simpa [Function.comp_def] using this
theorem HeldOf.keys (h : HeldOf es clk H) : (es.map (·.1)).Nodup := h.keysP.nodup_iff.2 h.ids
theorem HeldOf.len (h : HeldOf es clk H) : es.length = H.length := by
 have := h.keysP.length_eq
 simpa using this
theorem HeldOf.nil : HeldOf [] 0 [] := ⟨List.Perm.refl _, ⟨by simp, by simp⟩, by simp⟩
theorem HeldOf.perm (h : HeldOf es clk H) (hp : H.Perm H') : HeldOf es clk H' := ⟨h.rows.trans (hp.map _), h.born, (hp.map (·.id)).nodup_iff.1 h.ids⟩
theorem HeldOf.seek (h : HeldOf es clk H) (he : e ∈ H) : (seek es e.id).map (·.2.1) = some (enV e) ∧ (seek es e.id).isSome = true := by
 have h1 : (e.id, enV e) ∈ H.map fun e => (e.id, enV e) := List.mem_map.2 ⟨e, he, rfl⟩
 obtain ⟨x, hx, e1⟩ := List.mem_map.1 (h.rows.mem_iff.2 h1)
 simp only [Prod.mk.injEq] at e1
 have h2 := seek_some h.keys hx
 rw [e1.1] at h2
 rw [h2]
 simp [e1.2]
theorem HeldOf.none (h : HeldOf es clk H) (hk : k ∉ H.map (·.id)) : Go.Proofs.YtknjamfjonapiaaGreatDoor.seek es k = Option.none := seek_none.2 fun hm => hk (h.keysP.mem_iff.1 hm)
theorem HeldOf.put (h : HeldOf es clk H) (hk : e.id ∉ H.map (·.id)) : HeldOf (es ++ [(e.id, enV e, clk)]) (clk + 1) (e :: H) := by
 refine ⟨?_, ⟨?_, ?_⟩, ?_⟩
 ·rw [List.map_append]
  exact (List.perm_append_singleton (e.id, enV e) _).trans (h.rows.cons _)
 ·simp only [List.map_append, List.map_cons, List.map_nil]
  rw [List.nodup_append]
  refine ⟨h.born.1, by simp, ?_⟩
  rintro a ha b hb rfl
  rw [List.mem_singleton] at hb
  subst hb
  obtain ⟨x, hx, e1⟩ := List.mem_map.1 ha
  have := h.born.2 x hx
  omega
 ·intro x hx
  rcases List.mem_append.1 hx with hx | hx
  ·have := h.born.2 x hx
   omega
  ·rw [List.mem_singleton] at hx
   subst hx
   exact Nat.lt_succ_self _
 ·rw [List.map_cons, List.nodup_cons]
  exact ⟨hk, h.ids⟩
theorem HeldOf.del (h : HeldOf es clk H) (k : Int) : HeldOf (restE es k) clk (delM H k) := by
 refine ⟨?_, ⟨h.born.1.sublist ((rest_sub es k).map _), fun x hx => h.born.2 x ((rest_sub es k).subset hx)⟩, h.ids.sublist (List.filter_sublist.map _)⟩
 rw [rest_eq h.keys]
 have h1 := h.rows.filter (fun x => decide (x.1 ≠ k))
 have e1 : (es.map fun x => (x.1, x.2.1)).filter (fun x => decide (x.1 ≠ k)) = (es.filter fun x => decide (x.1 ≠ k)).map fun x => (x.1, x.2.1) := by rw [List.filter_map]; rfl
 have e2 : (H.map fun e => (e.id, enV e)).filter (fun x => decide (x.1 ≠ k)) = (delM H k).map fun e => (e.id, enV e) := by rw [List.filter_map]; rfl
 rw [e1, e2] at h1
 exact h1
end
def ringsH : List Nat → List RG → List (Nat × Obj)
 | b :: bs, g :: gs => (b, g.obj) :: (g.cellsH ++ ringsH bs gs)
 | _, _ => []
theorem rings_at : ∀ {bs : List Nat} {gs : List RG} {i : Nat} {b : Nat} {g : RG}, bs[i]? = some b → gs[i]? = some g →
  ∃ Y, (ringsH bs gs).Perm ((b, g.obj) :: (g.cellsH ++ Y)) ∧ ∀ g', ((b, g'.obj) :: (g'.cellsH ++ Y)).Perm (ringsH bs (gs.set i g'))
 | c :: bs, f :: gs, 0, b, g, h1, h2 => by
  simp at h1 h2
  subst h1 h2
  exact ⟨ringsH bs gs, List.Perm.refl _, fun g' => List.Perm.refl _⟩
 | c :: bs, f :: gs, i + 1, b, g, h1, h2 => by
  obtain ⟨Y, p1, p2⟩ := rings_at (bs := bs) (gs := gs) (i := i) (by simpa using h1) (by simpa using h2)
  have key : ∀ g' : RG, ((c, f.obj) :: (f.cellsH ++ ((b, g'.obj) :: (g'.cellsH ++ Y)))).Perm ((b, g'.obj) :: (g'.cellsH ++ ((c, f.obj) :: (f.cellsH ++ Y)))) := fun g' => by
   classical
   exact List.perm_iff_count.2 fun a => by simp only [List.count_append, List.count_cons]; omega
  exact ⟨(c, f.obj) :: (f.cellsH ++ Y), ((p1.append_left f.cellsH).cons _).trans (key g), fun g' => (key g').symm.trans (((p2 g').append_left f.cellsH).cons _)⟩
 | [], _, i, b, g, h1, _ => by simp at h1
 | _ :: _, [], i, b, g, _, h2 => by simp at h2
abbrev rackO (q mb most : Nat) : Obj := .cells #[.slice (some ⟨q, 0, none⟩) 4 4, .map (some mb), .int .i64 most] 257
abbrev rowsO (rbs : List Nat) : Obj := .cells (rbs.map rptr).toArray 260
def RkAt (B : Nat) (w0 w : World) (rk q : Nat) (rbs : List Nat) (R : List (List Int)) (H : List Ent) (F : List (Nat × Obj)) : Prop :=
 ∃ (mb : Nat) (es : List (MapRow Int)) (clk most : Nat) (G : List RG), (rbs.length = 4 ∧ (∀ g ∈ G, g.Wf) ∧ G.map RG.row = R ∧ HeldOf es clk H ∧ most ≤ 100000 ∧ H.length ≤ 100000) ∧
  St B w0 w ((rk, rackO q mb most) :: (q, rowsO rbs) :: (mb, .map (entsE encI es) clk) :: (ringsH rbs G ++ F))
section
variable {B : Nat} {w0 w w' : World} {rk q rb i : Nat} {rbs : List Nat} {R : List (List Int)} {H H' : List Ent} {F F' : List (Nat × Obj)} {l : List Int} {e : Ent}
theorem RkAt.len (h : RkAt B w0 w rk q rbs R H F) : rbs.length = 4 := by obtain ⟨mb, es, clk, most, G, ⟨h1, -⟩, -⟩ := h; exact h1
theorem RkAt.few (h : RkAt B w0 w rk q rbs R H F) : H.length ≤ 100000 := by obtain ⟨mb, es, clk, most, G, ⟨-, -, -, -, -, h1⟩, -⟩ := h; exact h1
theorem RkAt.beside (h : RkAt B w0 w rk q rbs R H F) : ∃ S, St B w0 w (S ++ F) ∧ ∀ w' F', St B w0 w' (S ++ F') → RkAt B w0 w' rk q rbs R H F' := by
 obtain ⟨mb, es, clk, most, G, h1, h2⟩ := h
 exact ⟨(rk, rackO q mb most) :: (q, rowsO rbs) :: (mb, .map (entsE encI es) clk) :: ringsH rbs G, h2, fun w' F' h' => ⟨mb, es, clk, most, G, h1, h'⟩⟩
theorem RkAt.grow (h : RkAt B w0 w rk q rbs R H F) (hb : Below w.heap.size w w') : RkAt B w0 w' rk q rbs R H F := by
 obtain ⟨S, h1, h2⟩ := h.beside
 exact h2 _ _ (h1.grow hb)
theorem RkAt.sub (h : RkAt B w0 w rk q rbs R H F) (hs : F'.Sublist F) : RkAt B w0 w rk q rbs R H F' := by
 obtain ⟨S, h1, h2⟩ := h.beside
 exact h2 _ _ (h1.sub ((List.Sublist.refl S).append hs))
theorem RkAt.permF (h : RkAt B w0 w rk q rbs R H F) (hp : F.Perm F') : RkAt B w0 w rk q rbs R H F' := by
 obtain ⟨S, h1, h2⟩ := h.beside
 exact h2 _ _ (h1.perm (hp.append_left S))
theorem RkAt.below (h : RkAt B w0 w rk q rbs R H F) : Below B w0 w := by
 obtain ⟨S, h1, -⟩ := h.beside
 exact h1.below
theorem RkAt.c0 (h : RkAt B w0 w rk q rbs R H F) : w.cell? ⟨rk, 0, none⟩ = some (.slice (some ⟨q, 0, none⟩) 4 4) := by
 obtain ⟨mb, es, clk, most, G, -, h2⟩ := h
 exact h2.cell (b := rk) List.mem_cons_self rfl
theorem RkAt.soft (h : RkAt B w0 w rk q rbs R H F) (i : Nat) : w.frozen? ⟨rk, i, none⟩ = false := by
 obtain ⟨mb, es, clk, most, G, -, h2⟩ := h
 exact St.soft (b := rk) h2 List.mem_cons_self i
theorem RkAt.at_ (h : RkAt B w0 w rk q rbs R H F) (hb : rbs[i]? = some rb) : w.cell? ⟨q, i, none⟩ = some (rptr rb) := by
 obtain ⟨mb, es, clk, most, G, -, h2⟩ := h
 exact h2.cell (b := q) (List.mem_cons_of_mem _ List.mem_cons_self) (by simp [hb])
theorem RkAt.reset (h : RkAt B w0 w rk q rbs R H F) (hp : H.Perm H') : RkAt B w0 w rk q rbs R H' F := by
 obtain ⟨mb, es, clk, most, G, ⟨a1, a2, a3, a4, a5, a6⟩, h2⟩ := h
 exact ⟨mb, es, clk, most, G, ⟨a1, a2, a3, a4.perm hp, a5, hp.length_eq ▸ a6⟩, h2⟩
theorem RkAt.ring (h : RkAt B w0 w rk q rbs R H F) (hb : rbs[i]? = some rb) (hl : R[i]? = some l) :
  ∃ Z, RingIs B w0 w rb l (Z ++ F) ∧ ∀ w' l' F', RingIs B w0 w' rb l' (Z ++ F') → RkAt B w0 w' rk q rbs (R.set i l') H F' := by
 obtain ⟨mb, es, clk, most, G, ⟨a1, a2, a3, a4, a5, a6⟩, h2⟩ := h
 subst a3
 rw [List.getElem?_map, Option.map_eq_some_iff] at hl
 obtain ⟨g, hg, rfl⟩ := hl
 obtain ⟨Y, p1, p2⟩ := rings_at hb hg
 refine ⟨(rk, rackO q mb most) :: (q, rowsO rbs) :: (mb, .map (entsE encI es) clk) :: Y, ⟨g, a2 g (List.mem_of_getElem? hg), rfl, h2.perm ?_⟩, ?_⟩
 ·classical
  have p1' := List.perm_iff_count.1 p1
  exact List.perm_iff_count.2 fun a => by
   have := p1' a
   simp only [List.count_append, List.count_cons] at this ⊢
   omega
 ·rintro w' l' F' ⟨g', wf, rfl, h'⟩
  refine ⟨mb, es, clk, most, G.set i g', ⟨a1, ?_, by rw [List.map_set], a4, a5, a6⟩, St.perm h' ?_⟩
  ·intro x hx
   rcases List.mem_or_eq_of_mem_set hx with hx | rfl
   ·exact a2 x hx
   ·exact wf
  ·classical
   have p2' := List.perm_iff_count.1 (p2 g')
   exact List.perm_iff_count.2 fun a => by
    have := p2' a
    simp only [List.count_append, List.count_cons] at this ⊢
    omega
theorem RkAt.map (h : RkAt B w0 w rk q rbs R H F) : ∃ mb es clk, w.cell? ⟨rk, 1, none⟩ = some (.map (some mb)) ∧ w.heap[mb]? = some (.map (entsE encI es) clk) ∧ HeldOf es clk H ∧
  ∀ es' clk' H', HeldOf es' clk' H' → H'.length ≤ 100000 → RkAt B w0 (setBlock w mb (.map (entsE encI es') clk')) rk q rbs R H' F := by
 obtain ⟨mb, es, clk, most, G, ⟨a1, a2, a3, a4, a5, a6⟩, h2⟩ := h
 refine ⟨mb, es, clk, h2.cell (b := rk) List.mem_cons_self rfl, h2.get (b := mb) (List.mem_cons_of_mem _ (List.mem_cons_of_mem _ List.mem_cons_self)), a4, fun es' clk' H' h3 h4 => ⟨mb, es', clk', most, G, ⟨a1, a2, a3, h3, a5, h4⟩, ?_⟩⟩
 have p : ∀ o : Obj, ((rk, rackO q mb most) :: (q, rowsO rbs) :: (mb, o) :: (ringsH rbs G ++ F)).Perm ((mb, o) :: (rk, rackO q mb most) :: (q, rowsO rbs) :: (ringsH rbs G ++ F)) := fun o => by
  classical
  exact List.perm_iff_count.2 fun a => by simp only [List.count_cons]; omega
 exact ((h2.perm (p _)).block0).perm (p _).symm
structure LookAt (w : World) (rk : Nat) (H : List Ent) (mb : Nat) : Prop where
 c1 : w.cell? ⟨rk, 1, none⟩ = some (.map (some mb))
 hit : ∀ e ∈ H, ∀ c, (Instr.lookup 255 (.map (some mb)) (.int .i64 e.id) c).run Tryz.prog w = .ok (if c then .tuple #[enV e, .bool true] else enV e) w
 miss : ∀ k, k ∉ H.map (·.id) → ∀ c, (Instr.lookup 255 (.map (some mb)) (.int .i64 k) c).run Tryz.prog w = .ok (if c then .tuple #[enV z0E, .bool false] else enV z0E) w
 len : ∀ ty, (Builtin.len_ #[255] ty #[.map (some mb)]).run Tryz.prog w = .ok (.int .i64 H.length) w
theorem RkAt.look (h : RkAt B w0 w rk q rbs R H F) : ∃ mb, LookAt w rk H mb ∧ (∀ w', Below w.heap.size w w' → LookAt w' rk H mb) := by
 obtain ⟨mb, es, clk, c1, hg, ho, -⟩ := h.map
 have key : ∀ w', Below w.heap.size w w' → LookAt w' rk H mb := fun w' hb => by
  have hg' : w'.heap[mb]? = some (.map (entsE encI es) clk) := (hb.block _ (Array.getElem?_eq_some_iff.1 hg).1).trans hg
  refine ⟨cellUp c1 hb, fun e he c => ?_, fun k hk c => ?_, fun ty => ?_⟩
  ·obtain ⟨q1, q2⟩ := ho.seek he
   have := run_lookE (P := Tryz.prog) (c := c) keyI uMapE (zEnt w') hg' (k := e.id) trivial (fun _ _ => trivial)
   rw [q1, q2] at this
   exact this
  ·have q1 := ho.none hk
   have := run_lookE (P := Tryz.prog) (c := c) keyI uMapE (zEnt w') hg' (k := k) trivial (fun _ _ => trivial)
   rw [q1] at this
   exact this
  ·have := run_lenE (P := Tryz.prog) (ty := ty) uMapE hg'
   rw [ho.len] at this
   exact this
 exact ⟨mb, key w (Below.refl _ _), key⟩
end
end
theorem RingIs.setF {B : Nat} {w0 w : World} {rb t : Nat} {l : List Int} {c : Array Value} {T : TypeId} {F : List (Nat × Obj)} (h : RingIs B w0 w rb l ((t, .cells c T) :: F)) (i : Nat) (v : Value) :
  RingIs B w0 (w.setCell ⟨t, i, none⟩ v) rb l ((t, .cells (c.setIfInBounds i v) T) :: F) := by
 obtain ⟨X, h1, h2⟩ := h.st
 exact h2 _ _ (St.perm ((h1.perm List.perm_middle).set0 i v) List.perm_middle.symm)
theorem RingIs.softF {B : Nat} {w0 w : World} {rb t : Nat} {l : List Int} {c : Array Value} {T : TypeId} {F : List (Nat × Obj)} (h : RingIs B w0 w rb l ((t, .cells c T) :: F)) (i : Nat) : w.frozen? ⟨t, i, none⟩ = false := by
 obtain ⟨X, h1, h2⟩ := h.st
 exact St.soft (h1.perm List.perm_middle) List.mem_cons_self i
def sideL (s : Bool) (v : List Int) : List Int := if s then v else v.reverse
theorem side_len (s : Bool) (v : List Int) : (sideL s v).length = v.length := by cases s <;> simp [sideL]
abbrev EndV (tk pt rb : Nat) : Value := .agg #[.func (.func tk) #[rptr rb] #[], .func (.func pt) #[rptr rb] #[]]
abbrev endO (tk pt rb : Nat) : Obj := .cells #[.func (.func tk) #[rptr rb] #[], .func (.func pt) #[rptr rb] #[]] 351
structure EndOk (rb : Nat) (s : Bool) (tk pt : Nat) : Prop where
 goT : ∀ args w, (callFunc tk args).run Tryz.prog w = .ok (.enter tk args) w
 goP : ∀ args w, (callFunc pt args).run Tryz.prog w = .ok (.enter pt args) w
 take : ∀ B w0 w v F, RingIs B w0 w rb (sideL s v) F → Calls Tryz.prog tk #[rptr rb] w fun e w' => e = .returned (shiftR v) ∧ RingIs B w0 w' rb (sideL s v.tail) F
 put : ∀ B w0 w v F x, RingIs B w0 w rb (sideL s v) F → v.length < 536870912 → Calls Tryz.prog pt #[rptr rb, .int .i64 x] w fun e w' => e = .returned (.tuple #[]) ∧ RingIs B w0 w' rb (sideL s (x :: v)) F
theorem front_ok (rb : Nat) : EndOk rb true 253 300 :=
 ⟨goesIn Tryz.func253 (by kernel_rfl) rfl, goesIn Tryz.func300 (by kernel_rfl) rfl, fun B w0 w v F h => ring_shift h, fun B w0 w v F x h hl => ring_unshift h hl x⟩
theorem back_ok (rb : Nat) : EndOk rb false 301 255 :=
 ⟨goesIn Tryz.func301 (by kernel_rfl) rfl, goesIn Tryz.func255 (by kernel_rfl) rfl,
  fun B w0 w v F h => by
   have := ring_pop h
   have e1 : popR (sideL false v) = shiftR v := by cases v <;> simp [sideL, popR, shiftR]
   have e2 : (sideL false v).dropLast = sideL false v.tail := by cases v <;> simp [sideL]
   rw [e1, e2] at this
   exact this,
  fun B w0 w v F x h hl => by
   have := ring_push h (by rw [side_len]; exact hl) x
   have e1 : sideL false v ++ [x] = sideL false (x :: v) := by simp [sideL]
   rw [e1] at this
   exact this⟩
theorem ints_setA (l : List Int) (i : Nat) (x : Int) : (ints l).toArray.setIfInBounds i (.int .i64 x) = (ints (l.set i x)).toArray := by rw [List.setIfInBounds_toArray, ints_set]
section
variable {B : Nat} {w0 w : World} {rb tk pt : Nat} {s : Bool} {v : List Int} {F : List (Nat × Obj)}
def takenL (v : List Int) (i n : Nat) : List Int := v.take i ++ List.replicate (n - i) 0
theorem taken_zero (v : List Int) (n : Nat) : takenL v 0 n = List.replicate n 0 := by simp [takenL]
theorem taken_all (v : List Int) (n : Nat) : takenL v n n = v.take n := by simp [takenL]
theorem taken_len {v : List Int} {i n : Nat} (h : i ≤ n) (h2 : n ≤ v.length) : (takenL v i n).length = n := by
 unfold takenL
 rw [List.length_append, List.length_take, List.length_replicate]
 omega
theorem taken_set {v : List Int} {i n : Nat} {x : Int} (h : i < n) (h2 : n ≤ v.length) (hx : v[i]? = some x) : (takenL v i n).set i x = takenL v (i + 1) n := by
 unfold takenL
 have hl : (v.take i).length = i := by rw [List.length_take]; omega
 rw [List.set_append_right _ _ (by omega), hl, Nat.sub_self, show n - i = (n - (i + 1)) + 1 by omega, List.replicate_succ, List.set_cons_zero, List.take_add_one, hx, List.append_assoc]
 rfl
def TakeJ (B : Nat) (w0 : World) (rb : Nat) (s : Bool) (tk pt : Nat) (v : List Int) (n eb t : Nat) (F : List (Nat × Obj)) (g : Nat) (a' : Act) (w' : World) : Prop :=
 ∃ i : Nat, i + g = n ∧ Fr 24 [(1, .int .i64 n), (2, .pointer (some ⟨eb, 0, none⟩)), (5, .slice (some ⟨t, 0, none⟩) n n), (6, .int .i64 i)] a' ∧ RingIs B w0 w' rb (sideL s (v.drop i)) ((t, intsObj (takenL v i n)) :: (eb, endO tk pt rb) :: F)
set_option maxHeartbeats 2000000 in
theorem takeOff_any (ok : EndOk rb s tk pt) (h : RingIs B w0 w rb (sideL s v) F) {n : Nat} (hn : n ≤ v.length) (hv : v.length ≤ 1000000) :
  Calls Tryz.prog 283 #[EndV tk pt rb, .int .i64 n] w fun e w' => ∃ t eb, e = .returned (.slice (some ⟨t, 0, none⟩) n n) ∧ RingIs B w0 w' rb (sideL s (v.drop n)) ((t, intsObj (v.take n)) :: (eb, endO tk pt rb) :: F) := by
 obtain ⟨goT, -, cT, -⟩ := ok
 replace cT := Lib.hid cT
 have hmk := mk_ints (w.alloc (endO tk pt rb)) n (by omega) (by omega)
 rw [Int.toNat_natCast] at hmk
 have h1 := (h.alloc (endO tk pt rb)).alloc (intsObj (List.replicate n 0))
 rw [← taken_zero v n] at h1
 replace h1 := Lib.hid h1
 clear h
 go_enter Tryz.func283, Tryz.ntmps283
 go_wp2_with fail
 refine wp_scope_ghost 0 (TakeJ B w0 rb s tk pt v n w.heap.size (w.alloc (endO tk pt rb)).heap.size F) rfl ?_ ?_
 ·rintro g a' wr ⟨i, hi, hfr, hR⟩
  generalize w.heap.size = eb at *
  generalize (w.alloc (endO tk pt rb)).heap.size = t at *
  obtain ⟨f, rfl, hl'⟩ := hfr.lit
  clear hfr h1 hmk
  simp only [List.mem_cons, List.not_mem_nil, or_false, forall_eq_or_imp, forall_eq] at hl'
  obtain ⟨f1, f2, f5, f6⟩ := hl'
  simp only [List.range, List.range.loop, List.map, f1, f2, f5, f6]
  clear f1 f2 f5 f6
  have c0 : wr.cell? ⟨eb, 0, none⟩ = some (.func (.func tk) #[rptr rb] #[]) := hR.cell (b := eb) (List.mem_cons_of_mem _ List.mem_cons_self) rfl
  by_cases hlt : i < n
  ·have hx : v[i]? = some v[i] := List.getElem?_eq_getElem (by omega)
   generalize v[i] = x at hx
   have hd : v.drop i = x :: v.drop (i + 1) := by
    have h1 := (List.getElem?_eq_some_iff.1 hx)
    obtain ⟨h2, h3⟩ := h1
    rw [List.drop_eq_getElem_cons h2, h3]
   have cc := cT.out _ _ _ _ _ hR
   rw [hd] at cc
   have cc2 : Hid (Calls Tryz.prog tk #[rptr rb] wr fun e w' => e = .returned (.tuple #[.int .i64 x, .bool true]) ∧ RingIs B w0 w' rb (sideL s (v.drop (i + 1))) ((t, intsObj (takenL v i n)) :: (eb, endO tk pt rb) :: F)) := Lib.hid cc
   clear cc hR
   have hi0 : (0 : Int) ≤ i := by omega
   have hi1 : (i : Int) < n := by omega
   have hiB : ((i : Int) == n) = false := by rw [beq_eq_false_iff_ne]; omega
   have hlen := taken_len (v := v) (i := i) (n := n) (by omega) hn
   have hset := taken_set hlt hn hx
   have hnx : (n : Int) ≤ 1000000 := by omega
   replace hlen := Lib.hid hlen
   replace hset := Lib.hid hset
   replace hd := Lib.hid hd
   replace hx := Lib.hid hx
   go_wp2_with fail
   refine cc2.out.mono ?_
   rintro e w2 ⟨rfl, h2⟩
   have s0 := h2.softF i
   have hk : w2.cell? ⟨t, i, none⟩ = some ((ints (takenL v i n))[i]'(by rw [ints_len, hlen.out]; omega)) := by
    exact h2.cell (b := t) List.mem_cons_self (by simp [ints, hlen.out, hlt])
   have h3 := h2.setF i (.int .i64 x)
   rw [ints_setA, hset.out] at h3
   have fin : Hid (∀ a', Fr 24 [(1, .int .i64 n), (2, .pointer (some ⟨eb, 0, none⟩)), (5, .slice (some ⟨t, 0, none⟩) n n), (6, .int .i64 ((i : Int) + 1))] a' → ∃ m, m < g ∧ TakeJ B w0 rb s tk pt v n eb t F m a' (w2.setCell ⟨t, i, none⟩ (.int .i64 x))) := by
    refine Lib.hid fun a' hf => ⟨g - 1, by omega, i + 1, by omega, hf, h3⟩
   generalize (ints (takenL v i n))[i]'(by rw [ints_len, hlen.out]; omega) = u at hk
   clear h2 h3 cc2
   go_wp2_with fail
   refine wp_goto ?_
   exact ⟨rfl, fin.out _ ⟨rfl, rfl, by simp⟩⟩
  ·have hin : i = n := by omega
   subst hin
   rw [taken_all] at hR
   replace hR := Lib.hid hR
   go_wp2_with fail
   simp only [Exit.jump]
   go_ret
   exact ⟨_, _, rfl, hR.out⟩
 ·intro H
  go_wp2_with fail
  refine wp_label ?_
  go_step
  go_step
  exact H n _ _ ⟨0, by omega, ⟨rfl, rfl, by simp⟩, h1.out⟩
def BackJ (B : Nat) (w0 : World) (rb : Nat) (s : Bool) (tk pt : Nat) (v u : List Int) (eb t n : Nat) (F : List (Nat × Obj)) (g : Nat) (a' : Act) (w' : World) : Prop :=
 g ≤ n ∧ Fr 18 [(1, .slice (some ⟨t, 0, none⟩) n n), (2, .pointer (some ⟨eb, 0, none⟩)), (4, .int .i64 g)] a' ∧ RingIs B w0 w' rb (sideL s (u.drop g ++ v)) ((eb, endO tk pt rb) :: (t, intsObj u) :: F)
set_option maxHeartbeats 2000000 in
theorem layBack_any (ok : EndOk rb s tk pt) {u : List Int} {t n : Nat} (hu : u.length = n) (h : RingIs B w0 w rb (sideL s v) ((t, intsObj u) :: F)) (hv : v.length + n ≤ 1000000) :
  Calls Tryz.prog 284 #[EndV tk pt rb, .slice (some ⟨t, 0, none⟩) n n] w fun e w' => e = .returned (.tuple #[]) ∧ RingIs B w0 w' rb (sideL s (u ++ v)) F := by
 obtain ⟨-, goP, -, cP⟩ := ok
 replace cP := Lib.hid cP
 have h1 := h.alloc (endO tk pt rb)
 rw [show v = u.drop n ++ v by rw [← hu]; simp] at h1
 replace h1 := Lib.hid h1
 clear h
 go_enter Tryz.func284, Tryz.ntmps284
 go_wp2_with fail
 refine wp_scope_ghost 0 (BackJ B w0 rb s tk pt v u w.heap.size t n F) rfl ?_ ?_
 ·rintro g a' wr ⟨hg, hfr, hR⟩
  generalize w.heap.size = eb at *
  obtain ⟨f, rfl, hl'⟩ := hfr.lit
  clear hfr h1
  simp only [List.mem_cons, List.not_mem_nil, or_false, forall_eq_or_imp, forall_eq] at hl'
  obtain ⟨f1, f2, f4⟩ := hl'
  simp only [List.range, List.range.loop, List.map, f1, f2, f4]
  clear f1 f2 f4
  have c0 : wr.cell? ⟨eb, 1, none⟩ = some (.func (.func pt) #[rptr rb] #[]) := hR.cell (b := eb) List.mem_cons_self rfl
  by_cases hlt : 0 < g
  ·obtain ⟨j, rfl⟩ : ∃ j, g = j + 1 := ⟨g - 1, by omega⟩
   have hx : u[j]? = some u[j] := List.getElem?_eq_getElem (by omega)
   generalize u[j] = x at hx
   have hd : u.drop j = x :: u.drop (j + 1) := by
    obtain ⟨h2, h3⟩ := List.getElem?_eq_some_iff.1 hx
    rw [List.drop_eq_getElem_cons h2, h3]
   have cx : wr.cell? ⟨t, j, none⟩ = some (.int .i64 x) := by
    exact hR.cell (b := t) (List.mem_cons_of_mem _ List.mem_cons_self) (by simp [ints, hx])
   have cc := cP.out _ _ _ _ _ x (hR.drewN 1) (by rw [List.length_append, List.length_drop]; omega)
   rw [← List.cons_append, ← hd] at cc
   replace cc := Lib.hid cc
   clear hR hd hx
   have hj0 : (0 : Int) ≤ j := by omega
   have hj1 : (j : Int) < n := by omega
   have hj2 : (0 : Int) < (j : Int) + 1 := by omega
   have hn2 : (n : Int) ≤ 1000000 := by omega
   have e1 : ((j + 1 : Nat) : Int) = (j : Int) + 1 := by omega
   rw [e1]
   replace e1 := Lib.hid e1
   go_wp2_with fail
   go_still_tail 6, (by kernel_rfl)
   change wpList _ _ _ _ _ wr.drew
   go_wp2_with fail
   refine cc.out.mono ?_
   rintro e w2 ⟨rfl, h2⟩
   replace h2 := Lib.hid h2
   go_wp2_with fail
   refine wp_goto ?_
   exact ⟨rfl, j, by omega, by omega, ⟨rfl, rfl, by simp⟩, h2.out⟩
  ·have hin : g = 0 := by omega
   subst hin
   rw [List.drop_zero] at hR
   have fin := Lib.hid (hR.sub (F' := F) ((List.sublist_cons_self _ _).trans (List.sublist_cons_self _ _)))
   clear hR
   simp only [Int.cast_ofNat_Int]
   go_wp2_with fail
   simp only [Exit.jump]
   exact bodyPost_end (results_none rfl _ _ _) rfl ⟨rfl, fin.out⟩
 ·intro H
  go_wp2_with fail
  refine wp_label ?_
  go_step
  go_step
  exact H n _ _ ⟨Nat.le_refl _, ⟨rfl, rfl, by simp⟩, h1.out⟩
end
theorem nearer_front (rb : Nat) {a b : Int} (h : a < b) (w : World) : Calls Tryz.prog 282 #[rptr rb, .int .i64 a, .int .i64 b] w fun e w' => e = .returned (.tuple #[EndV 253 300 rb, .int .i64 a]) ∧ Below w.heap.size w w' := by
 have hb := Lib.hid (new_below w (endO 253 300 rb))
 go_enter Tryz.func282, Tryz.ntmps282
 go_wp2_with fail
 exact bodyPost_ret (v := .tuple #[EndV 253 300 rb, .int .i64 a]) (by simp [results, Tryz.results282, go_sem]) rfl ⟨rfl, hb.out⟩
theorem nearer_back (rb : Nat) {a b : Int} (h : ¬ a < b) (w : World) : Calls Tryz.prog 282 #[rptr rb, .int .i64 a, .int .i64 b] w fun e w' => e = .returned (.tuple #[EndV 301 255 rb, .int .i64 b]) ∧ Below w.heap.size w w' := by
 have hb := Lib.hid (new_below w (endO 301 255 rb))
 go_enter Tryz.func282, Tryz.ntmps282
 go_wp2_with fail
 exact bodyPost_ret (v := .tuple #[EndV 301 255 rb, .int .i64 b]) (by simp [results, Tryz.results282, go_sem]) rfl ⟨rfl, hb.out⟩
theorem near_lay (rb : Nat) (l : List Int) {a : Nat} (ha : a ≤ l.length) : ∃ s tk pt v n, EndOk rb s tk pt ∧ sideL s v = l ∧ n ≤ v.length ∧ (∀ k, sideL s (v.take n ++ k :: v.drop n) = l.take a ++ k :: l.drop a) ∧
  ∀ w, Calls Tryz.prog 282 #[rptr rb, .int .i64 a, .int .i64 ((l.length : Int) - a)] w fun e w' => e = .returned (.tuple #[EndV tk pt rb, .int .i64 (n : Nat)]) ∧ Below w.heap.size w w' := by
 by_cases h : (a : Int) < (l.length : Int) - a
 ·exact ⟨true, _, _, l, a, front_ok rb, rfl, ha, fun k => rfl, fun w => nearer_front rb h w⟩
 ·refine ⟨false, _, _, l.reverse, l.length - a, back_ok rb, by simp [sideL], by rw [List.length_reverse]; omega, fun k => ?_, fun w => ?_⟩
  ·simp only [sideL, if_false, Bool.false_eq_true]
   rw [List.take_reverse, List.drop_reverse, show l.length - (l.length - a) = a by omega]
   simp
  ·rw [show ((l.length - a : Nat) : Int) = (l.length : Int) - a by omega]
   exact nearer_back rb h w
theorem near_lift (rb : Nat) (l : List Int) {a : Nat} (ha : a < l.length) : ∃ s tk pt v n, EndOk rb s tk pt ∧ sideL s v = l ∧ n < v.length ∧ sideL s (v.take n ++ v.drop (n + 1)) = l.eraseIdx a ∧
  ∀ w, Calls Tryz.prog 282 #[rptr rb, .int .i64 a, .int .i64 ((l.length : Int) - a - 1)] w fun e w' => e = .returned (.tuple #[EndV tk pt rb, .int .i64 (n : Nat)]) ∧ Below w.heap.size w w' := by
 by_cases h : (a : Int) < (l.length : Int) - a - 1
 ·exact ⟨true, _, _, l, a, front_ok rb, rfl, ha, (List.eraseIdx_eq_take_drop_succ _ _).symm, fun w => nearer_front rb h w⟩
 ·refine ⟨false, _, _, l.reverse, l.length - a - 1, back_ok rb, by simp [sideL], by rw [List.length_reverse]; omega, ?_, fun w => ?_⟩
  ·simp only [sideL, if_false, Bool.false_eq_true]
   rw [List.take_reverse, List.drop_reverse, show l.length - (l.length - a - 1) = a + 1 by omega, show l.length - (l.length - a - 1 + 1) = a by omega, List.eraseIdx_eq_take_drop_succ]
   simp
  ·rw [show ((l.length - a - 1 : Nat) : Int) = (l.length : Int) - a - 1 by omega]
   exact nearer_back rb h w
theorem RingIs.grow {B : Nat} {w0 w w' : World} {rb : Nat} {l : List Int} {F : List (Nat × Obj)} (h : RingIs B w0 w rb l F) (hb : Below w.heap.size w w') : RingIs B w0 w' rb l F := by
 obtain ⟨X, h1, h2⟩ := h.st
 exact h2 _ _ (h1.grow hb)
section
variable {B : Nat} {w0 w : World} {rb : Nat} {l : List Int} {F : List (Nat × Obj)}
set_option maxHeartbeats 1000000 in
theorem rkLay_any (h : RingIs B w0 w rb l F) {a : Nat} (ha : a ≤ l.length) (hl : l.length ≤ 100000) (k : Int) :
  Calls Tryz.prog 266 #[rptr rb, .int .i64 a, .int .i64 k] w fun e w' => e = .returned (.tuple #[]) ∧ RingIs B w0 w' rb (l.take a ++ k :: l.drop a) F := by
 obtain ⟨s, tk, pt, v, n, ok, hv, hn, hk, hc⟩ := near_lay rb l ha
 have cl := Lib.hid (fun w h => ring_len (B := B) (w0 := w0) (w := w) (rb := rb) (l := l) (F := F) h)
 have hlen : v.length = l.length := by rw [← hv, side_len]
 obtain ⟨goT, goP, cT, cP⟩ := id ok
 have hlv : v.length ≤ 100000 := by omega
 replace hc := Lib.hid hc
 replace hk := Lib.hid (hk k)
 have ha1 : (a : Int) ≤ l.length := by omega
 have hl1 : (l.length : Int) ≤ 100000 := by omega
 have ct := Lib.hid (fun w F (h : RingIs B w0 w rb (sideL s v) F) => takeOff_any (w := w) (F := F) ok h hn (by omega))
 have cb := Lib.hid (fun w F t (h : RingIs B w0 w rb (sideL s (k :: v.drop n)) ((t, intsObj (v.take n)) :: F)) => layBack_any (w := w) (F := F) (t := t) ok (show (v.take n).length = n by rw [List.length_take]; omega) h (by
  rw [List.length_cons, List.length_drop]
  omega))
 have cp := Lib.hid (fun w F (h : RingIs B w0 w rb (sideL s (v.drop n)) F) => cP B w0 w (v.drop n) F k h (by rw [List.length_drop]; omega))
 have hv2 := Lib.hid hv
 have c1 := cl.out w h
 replace c1 := Lib.hid c1
 replace h := Lib.hid h
 clear ok cT cP hlen hv hn hlv cl
 go_enter Tryz.func266, Tryz.ntmps266
 go_wp2_with fail
 refine c1.out.mono ?_
 rintro e w1 ⟨rfl, rfl⟩
 clear c1
 go_wp2_with fail
 refine (hc.out _).mono ?_
 rintro e w1 ⟨rfl, hb⟩
 have h1 := (h.out.grow hb).alloc (endO tk pt rb)
 rw [← hv2.out] at h1
 have e0 : (w1.alloc (endO tk pt rb)).cell? ⟨w1.heap.size, 0, none⟩ = some (.func (.func tk) #[rptr rb] #[]) := h1.cell (b := w1.heap.size) List.mem_cons_self rfl
 replace h1 := Lib.hid (ct.out _ _ h1)
 clear hb h hc ct
 go_wp2_with fail
 generalize w1.heap.size = nb at *
 refine h1.out.mono ?_
 rintro e w2 ⟨t, eb, rfl, h2⟩
 have k0 : w2.cell? ⟨nb, 0, none⟩ = some (.func (.func tk) #[rptr rb] #[]) := h2.cell (b := nb) (List.mem_cons_of_mem _ (List.mem_cons_of_mem _ List.mem_cons_self)) rfl
 have k1 : w2.cell? ⟨nb, 1, none⟩ = some (.func (.func pt) #[rptr rb] #[]) := h2.cell (b := nb) (List.mem_cons_of_mem _ (List.mem_cons_of_mem _ List.mem_cons_self)) rfl
 replace h2 := Lib.hid (cp.out _ _ h2)
 clear h1 e0
 go_wp2_with fail
 refine h2.out.mono ?_
 rintro e w3 ⟨rfl, h3⟩
 have m0 : w3.cell? ⟨nb, 0, none⟩ = some (.func (.func tk) #[rptr rb] #[]) := h3.cell (b := nb) (List.mem_cons_of_mem _ (List.mem_cons_of_mem _ List.mem_cons_self)) rfl
 have m1 : w3.cell? ⟨nb, 1, none⟩ = some (.func (.func pt) #[rptr rb] #[]) := h3.cell (b := nb) (List.mem_cons_of_mem _ (List.mem_cons_of_mem _ List.mem_cons_self)) rfl
 replace h3 := Lib.hid (cb.out _ _ _ h3)
 clear h2 k0 k1
 go_wp2_with fail
 refine h3.out.mono ?_
 rintro e w4 ⟨rfl, h4⟩
 rw [hk.out] at h4
 replace h4 := Lib.hid (h4.sub ((List.sublist_cons_self _ _).trans (List.sublist_cons_self _ _)))
 clear h3
 go_wp2_with fail
 exact bodyPost_end (results_none rfl _ _ _) rfl ⟨rfl, h4.out⟩
set_option maxHeartbeats 1000000 in
theorem lift_any (h : RingIs B w0 w rb l F) {a : Nat} (ha : a < l.length) (hl : l.length ≤ 100000) :
  Calls Tryz.prog 258 #[rptr rb, .int .i64 a] w fun e w' => e = .returned (.tuple #[]) ∧ RingIs B w0 w' rb (l.eraseIdx a) F := by
 obtain ⟨s, tk, pt, v, n, ok, hv, hn, hk, hc⟩ := near_lift rb l ha
 have cl := Lib.hid (fun w h => ring_len (B := B) (w0 := w0) (w := w) (rb := rb) (l := l) (F := F) h)
 have hlen : v.length = l.length := by rw [← hv, side_len]
 obtain ⟨goT, goP, cT, cP⟩ := id ok
 have hlv : v.length ≤ 100000 := by omega
 obtain ⟨x, hx⟩ : ∃ x, shiftR (v.drop n) = x := ⟨_, rfl⟩
 replace hc := Lib.hid hc
 replace hk := Lib.hid hk
 have ha1 : (a : Int) < l.length := by omega
 have hl1 : (l.length : Int) ≤ 100000 := by omega
 have ct := Lib.hid (fun w F (h : RingIs B w0 w rb (sideL s v) F) => takeOff_any (w := w) (F := F) ok h (Nat.le_of_lt hn) (by omega))
 have cb := Lib.hid (fun w F t (h : RingIs B w0 w rb (sideL s (v.drop (n + 1))) ((t, intsObj (v.take n)) :: F)) => layBack_any (w := w) (F := F) (t := t) ok (show (v.take n).length = n by rw [List.length_take]; omega) h (by
  rw [List.length_drop]
  omega))
 have cp := Lib.hid (fun w F (h : RingIs B w0 w rb (sideL s (v.drop n)) F) => (by
  have := cT B w0 w (v.drop n) F h
  rw [List.tail_drop, hx] at this
  exact this : Calls Tryz.prog tk #[rptr rb] w fun e w' => e = .returned x ∧ RingIs B w0 w' rb (sideL s (v.drop (n + 1))) F))
 have hv2 := Lib.hid hv
 have c1 := cl.out w h
 replace c1 := Lib.hid c1
 replace h := Lib.hid h
 clear ok cT cP hlen hv hn hlv cl hx
 go_enter Tryz.func258, Tryz.ntmps258
 go_wp2_with fail
 refine c1.out.mono ?_
 rintro e w1 ⟨rfl, rfl⟩
 clear c1
 go_wp2_with fail
 refine (hc.out _).mono ?_
 rintro e w1 ⟨rfl, hb⟩
 have h1 := (h.out.grow hb).alloc (endO tk pt rb)
 rw [← hv2.out] at h1
 have e0 : (w1.alloc (endO tk pt rb)).cell? ⟨w1.heap.size, 0, none⟩ = some (.func (.func tk) #[rptr rb] #[]) := h1.cell (b := w1.heap.size) List.mem_cons_self rfl
 replace h1 := Lib.hid (ct.out _ _ h1)
 clear hb h hc ct
 go_wp2_with fail
 generalize w1.heap.size = nb at *
 refine h1.out.mono ?_
 rintro e w2 ⟨t, eb, rfl, h2⟩
 have k0 : w2.cell? ⟨nb, 0, none⟩ = some (.func (.func tk) #[rptr rb] #[]) := h2.cell (b := nb) (List.mem_cons_of_mem _ (List.mem_cons_of_mem _ List.mem_cons_self)) rfl
 have k1 : w2.cell? ⟨nb, 1, none⟩ = some (.func (.func pt) #[rptr rb] #[]) := h2.cell (b := nb) (List.mem_cons_of_mem _ (List.mem_cons_of_mem _ List.mem_cons_self)) rfl
 replace h2 := Lib.hid (cp.out _ _ h2)
 clear h1 e0
 go_wp2_with fail
 refine h2.out.mono ?_
 rintro e w3 ⟨rfl, h3⟩
 have m0 : w3.cell? ⟨nb, 0, none⟩ = some (.func (.func tk) #[rptr rb] #[]) := h3.cell (b := nb) (List.mem_cons_of_mem _ (List.mem_cons_of_mem _ List.mem_cons_self)) rfl
 have m1 : w3.cell? ⟨nb, 1, none⟩ = some (.func (.func pt) #[rptr rb] #[]) := h3.cell (b := nb) (List.mem_cons_of_mem _ (List.mem_cons_of_mem _ List.mem_cons_self)) rfl
 replace h3 := Lib.hid (cb.out _ _ _ h3)
 clear h2 k0 k1
 go_wp2_with fail
 refine h3.out.mono ?_
 rintro e w4 ⟨rfl, h4⟩
 rw [hk.out] at h4
 replace h4 := Lib.hid (h4.sub ((List.sublist_cons_self _ _).trans (List.sublist_cons_self _ _)))
 clear h3
 go_wp2_with fail
 exact bodyPost_end (results_none rfl _ _ _) rfl ⟨rfl, h4.out⟩
end
theorem uPu8 : Tryz.prog.underlying 331 = some (.pointer 5) := by kernel_rfl
abbrev laidW (w : World) (l : List UInt8) : World := (w.alloc (rowOf (List.replicate l.length 0))).setRow w.heap.size (Lib.byteCells l).toArray
theorem laid_at (w : World) (l : List UInt8) : (laidW w l).heap[w.heap.size]? = some (.cells (Lib.byteCells l).toArray 5 (0, 0)) :=
 setRow_heap _ _ _ _ _ (0, 0) (heap_alloc_new w _)
theorem laid_below (w : World) (l : List UInt8) : Below w.heap.size w (laidW w l) :=
 ((Below.refl _ w).alloc (Nat.le_refl _) _).trans ⟨rfl, rfl, rfl, by simp, fun k hk => setRow_other _ _ _ _ (by omega)⟩
theorem run_lay (w : World) (l : List UInt8) (ty : TypeId) :
  (Builtin.copy_ #[83, 9] ty #[.slice (some ⟨w.heap.size, 0, none⟩) l.length l.length, tx l]).run Tryz.prog (w.alloc (rowOf (List.replicate l.length 0))) = .ok (goInt l.length) (laidW w l) := by
 have h := Lib.run_copy_row_string (P := Tryz.prog) (w.alloc (rowOf (List.replicate l.length 0))) 83 9 ty 5 w.heap.size 0 l.length l.length ⟨l.toArray⟩ (Lib.byteCells (List.replicate l.length 0)).toArray 5 uBytes6
  (by obtain ⟨i0, hi, hz0, hz1, hz2⟩ := info_parts infU86; rw [hi]; simp [hz1]) (heap_alloc_new w _) (Nat.le_refl _) (by simp [Lib.byteCells, ByteArray.size])
 rw [h]
 simp [Lib.byteCells, ByteArray.size, laidW]
theorem run_told (w : World) (l : List UInt8) (ty : TypeId) (h0 : l ≠ []) (hl : l.length ≤ 140737488351232) :
  (Builtin.unsafeString_ #[331, 3] ty #[.pointer (some ⟨w.heap.size, 0, none⟩), .int .i64 l.length]).run Tryz.prog (laidW w l) = .ok (tx l) ((laidW w l).freeze ⟨w.heap.size, 0, none⟩ l.length) := by
 obtain ⟨i0, hi, hz0, hz1, hz2⟩ := info_parts infU86
 refine Lib.run_unsafeString_row (P := Tryz.prog) (laidW w l) 331 3 ty 5 uPu8 (by simp [Program.cellsOf, hi, hz1]) w.heap.size l.length ?_ l h0 (Nat.le_refl _) (by omega) fun j x hx => ?_
 ·unfold World.shape?
  rw [laid_at]
  simp [Lib.byteCells]
 ·rw [Go.WideShapes.add_plain]
  have e : (laidW w l).cell? ⟨w.heap.size, 0 + j, none⟩ = (Lib.byteCells l).toArray[0 + j]? := by
   unfold World.cell?
   simp only [laid_at]
   rfl
  rw [e]
  simp [Lib.byteCells, hx]
set_option maxRecDepth 100000 in
theorem sclone_any (l : List UInt8) (w : World) (hl : l.length ≤ 140737488351232) : Calls Tryz.prog 214 #[tx l] w fun e w' => e = .returned (tx l) ∧ Below w.heap.size w w' := by
 by_cases h0 : l = []
 ·subst h0
  go_enter Tryz.func214, Tryz.ntmps214
  go_wp2_with fail
  go_ret
  exact ⟨rfl, Below.refl _ _⟩
 ·have hpos : (0 : Int) < l.length := by
   have := List.length_pos_iff.2 h0
   omega
  have h1 := mk_row w l.length hl
  have h2 := run_lay w l 3
  have h3 := run_told w l 9 h0 hl
  have hb := Lib.hid (Lib.below_freeze (laid_below w l) (p := ⟨w.heap.size, 0, none⟩) (Nat.le_refl _) l.length)
  clear hl
  generalize laidW w l = w2 at *
  generalize w2.freeze ⟨w.heap.size, 0, none⟩ l.length = w3 at *
  go_enter Tryz.func214, Tryz.ntmps214
  go_wp2_with fail
  go_ret
  exact ⟨rfl, hb.out⟩
set_option maxRecDepth 100000 in
theorem clone_any (l : List UInt8) (w : World) (hl : l.length ≤ 140737488351232) : Calls Tryz.prog 154 #[tx l] w fun e w' => e = .returned (tx l) ∧ Below w.heap.size w w' := by
 have c1 := Lib.hid (fun w => sclone_any l w hl)
 clear hl
 go_enter Tryz.func154, Tryz.ntmps154
 go_wp2_with fail
 refine (c1.out _).mono ?_
 rintro e w1 ⟨rfl, hb⟩
 replace hb := Lib.hid hb
 go_wp2_with fail
 go_ret
 exact ⟨rfl, hb.out⟩
section
open Go.ChangeMaps (setBlock)
theorem isPrio_any (p : Int) (w : World) : Calls Tryz.prog 264 #[.int .i64 p] w fun e w' => e = .returned (.bool (decide (0 ≤ p ∧ p ≤ 3))) ∧ w = w' := by
 by_cases h1 : 0 ≤ p
 ·by_cases h2 : p ≤ 3
  ·have e : decide (0 ≤ p ∧ p ≤ 3) = true := by simp [h1, h2]
   rw [e]
   clear e
   go_enter Tryz.func264, Tryz.ntmps264
   go_wp2_with fail
   go_ret
   exact ⟨rfl, rfl⟩
  ·have e : decide (0 ≤ p ∧ p ≤ 3) = false := by simp [h2]
   rw [e]
   clear e
   go_enter Tryz.func264, Tryz.ntmps264
   go_wp2_with fail
   go_ret
   exact ⟨rfl, rfl⟩
 ·have e : decide (0 ≤ p ∧ p ≤ 3) = false := by simp [h1]
  rw [e]
  clear e
  go_enter Tryz.func264, Tryz.ntmps264
  go_wp2_with fail
  go_ret
  exact ⟨rfl, rfl⟩
section
variable {B : Nat} {w0 w : World} {rk q rb i : Nat} {rbs : List Nat} {R : List (List Int)} {H : List Ent} {F : List (Nat × Obj)} {l : List Int} {e : Ent}
set_option maxHeartbeats 1000000 in
theorem rowOf_any (h : RkAt B w0 w rk q rbs R H F) (hi : i < 4) (hp : e.prio = 3 - (i : Int)) (hb : rbs[i]? = some rb) :
  Calls Tryz.prog 257 #[rptr rk, enV e] w fun r w' => r = .returned (rptr rb) ∧ Below w.heap.size w w' := by
 have hnew := Lib.hid (fun n => bel (new_below w (enO e)) (drewN_below _ n))
 have h1 := h.grow (new_below w (enO e))
 have c0 := h1.c0
 have c1 := h1.at_ hb
 have hz : (3 : Int) - e.prio = i := by omega
 have hz0 : (0 : Int) ≤ e.prio := by omega
 have hz1 : e.prio ≤ (3 : Int) := by omega
 have hi0 : (0 : Int) ≤ i := by omega
 have hi1 : (i : Int) < 4 := by omega
 clear h h1 hp hb hi
 go_enter Tryz.func257, Tryz.ntmps257
 go_wp2_with fail
 go_quiet (fail)
 go_wp2_with fail
 go_ret
 exact ⟨rfl, hnew.out _⟩
def AheadJ (B : Nat) (w0 w : World) (rk q rb eb : Nat) (rbs : List Nat) (R : List (List Int)) (H : List Ent) (F : List (Nat × Obj)) (l : List Int) (e : Ent) (g : Nat) (a' : Act) (w' : World) : Prop :=
 ∃ f t : Nat, f + g = t ∧ t ≤ l.length ∧ Fr 41 [(0, rptr rk), (1, rptr rb), (5, .pointer (some ⟨eb, 0, none⟩)), (7, .int .i64 f), (8, .int .i64 t)] a' ∧ (∀ j x, j < f → l[j]? = some x → x < e.id) ∧ (∀ j x, t ≤ j → l[j]? = some x → ¬ x < e.id) ∧
  RkAt B w0 w' rk q rbs R H ((eb, enO e) :: F) ∧ Below w.heap.size w w'
theorem atR_at {l : List Int} {m : Nat} {x : Int} (h : l[m]? = some x) : atR l m = .tuple #[.int .i64 x, .bool true] := by
 unfold atR
 rw [if_neg (by omega), Int.toNat_natCast, h]
set_option maxHeartbeats 2000000 in
theorem ahead_any (h : RkAt B w0 w rk q rbs R H F) (hb : rbs[i]? = some rb) (hl : R[i]? = some l) (hs : l.Pairwise (· < ·)) (hm : ∀ k ∈ l, ∃ x ∈ H, x.id = k ∧ x.prio = e.prio) (hp : 0 ≤ e.prio ∧ e.prio ≤ 3) (hl2 : l.length ≤ 100000) :
  Calls Tryz.prog 259 #[rptr rk, rptr rb, enV e] w fun r w' => r = .returned (.int .i64 (cntL l e.id)) ∧ Below w.heap.size w w' := by
 have h1 : RkAt B w0 (w.alloc (enO e)) rk q rbs R H ((w.heap.size, enO e) :: F) := by
  obtain ⟨S, s1, s2⟩ := h.beside
  exact s2 _ _ ((s1.alloc (enO e)).perm List.perm_middle.symm)
 have hn0 := Lib.hid (new_below w (enO e))
 have cl : ∀ w', RkAt B w0 w' rk q rbs R H ((w.heap.size, enO e) :: F) → Calls Tryz.prog 252 #[rptr rb] w' fun e w'' => e = .returned (.int .i64 l.length) ∧ w' = w'' := fun w' h => by
  obtain ⟨Z, r1, -⟩ := h.ring hb hl
  exact ring_len r1
 have ca : Hid (∀ w' (m : Nat) (x : Int), RkAt B w0 w' rk q rbs R H ((w.heap.size, enO e) :: F) → l[m]? = some x → Calls Tryz.prog 279 #[rptr rb, .int .i64 m] w' fun e w'' => e = .returned (.tuple #[.int .i64 x, .bool true]) ∧ ∃ n, w'' = w'.drewN n) := Lib.hid fun w' m x h hx => by
  obtain ⟨Z, r1, -⟩ := h.ring hb hl
  have := ring_at r1 (m : Int)
  rw [atR_at hx] at this
  exact this
 have c1 := Lib.hid (cl _ h1)
 have hs2 : Hid (∀ (j m : Nat) (x y : Int), j < m → l[j]? = some x → l[m]? = some y → x < y) := Lib.hid fun j m x y hj hx hy => by
  obtain ⟨a1, a2⟩ := List.getElem?_eq_some_iff.1 hx
  obtain ⟨b1, b2⟩ := List.getElem?_eq_some_iff.1 hy
  rw [← a2, ← b2]
  exact List.pairwise_iff_getElem.1 hs j m a1 b1 hj
 replace hm := Lib.hid hm
 replace hp := Lib.hid hp
 replace h1 := Lib.hid h1
 replace hs := Lib.hid hs
 clear h cl
 go_enter Tryz.func259, Tryz.ntmps259
 go_wp2_with fail
 refine wp_scope_ghost 0 (AheadJ B w0 w rk q rb w.heap.size rbs R H F l e) rfl ?_ ?_
 ·rintro g a' wr ⟨f, t, hft, ht, hfr, hlo, hhi, hR, hbl⟩
  obtain ⟨fr, rfl, hl'⟩ := hfr.lit
  clear hfr h1 c1 hn0
  simp only [List.mem_cons, List.not_mem_nil, or_false, forall_eq_or_imp, forall_eq] at hl'
  obtain ⟨f0, f1, f5, f7, f8⟩ := hl'
  simp only [List.range, List.range.loop, List.map, f0, f1, f5, f7, f8]
  clear f0 f1 f5 f7 f8
  by_cases hz : g = 0
  ·obtain rfl : f = t := by omega
   have hc := cntL_is (k := e.id) ht hlo fun x hx => hhi f x (Nat.le_refl _) hx
   have fin : Hid (Ending.returned (.int .i64 f) = Ending.returned (.int .i64 (cntL l e.id)) ∧ Below w.heap.size w wr) := Lib.hid ⟨by rw [hc], hbl⟩
   clear hbl
   clear hR hlo hhi hc hft
   go_wp2_with fail
   simp only [Exit.jump]
   go_ret
   exact fin.out
  ·obtain ⟨d, hd⟩ : ∃ d, d = g / 2 := ⟨_, rfl⟩
   obtain ⟨m, hmd⟩ : ∃ m, m = f + d := ⟨_, rfl⟩
   have hx : l[m]? = some l[m] := List.getElem?_eq_getElem (by omega)
   generalize l[m] = k at hx
   obtain ⟨x, hxH, rfl, hxp⟩ := hm.out k (List.mem_of_getElem? hx)
   have hR2 : ∀ n, RkAt B w0 (wr.drewN n) rk q rbs R H ((w.heap.size, enO e) :: F) := fun n => hR.grow (drewN_below _ n)
   obtain ⟨mb, -, hlook⟩ := hR.look
   have cat := Lib.hid (ca.out wr m x.id hR hx)
   have ceb : ∀ n, EnAt (wr.drewN n) w.heap.size e := fun n => by
    obtain ⟨S, s1, -⟩ := (hR2 n).beside
    have hmem : (w.heap.size, enO e) ∈ S ++ (w.heap.size, enO e) :: F := List.mem_append_right _ List.mem_cons_self
    exact ⟨s1.cell hmem rfl, s1.cell hmem rfl, s1.cell hmem rfl, s1.cell hmem rfl, s1.cell hmem rfl, s1.cell hmem rfl, s1.cell hmem rfl, s1.cell hmem rfl, s1.cell hmem rfl, s1.cell hmem rfl⟩
   have hless : lessE x e = decide (x.id < e.id) := by
    unfold lessE
    exact decide_eq_decide.2 (by omega)
   have hp1 := hp.out
   have cls := fun w' => less_any x e ⟨by omega, by omega⟩ ⟨by omega, by omega⟩ w'
   rw [hless] at cls
   replace cls := Lib.hid cls
   have hlow : x.id < e.id → ∀ j y, j < m + 1 → l[j]? = some y → y < e.id := fun hlt j y hj hy => by
    by_cases hjm : j = m
    ·subst hjm
     rw [hx] at hy
     cases hy
     exact hlt
    ·have := hs2.out j m y x.id (by omega) hy hx
     omega
   have hhigh : ¬ x.id < e.id → ∀ j y, m ≤ j → l[j]? = some y → ¬ y < e.id := fun hlt j y hj hy => by
    by_cases hjm : j = m
    ·subst hjm
     rw [hx] at hy
     cases hy
     exact hlt
    ·have := hs2.out m j x.id y (by omega) hx hy
     omega
   have e1 : (t : Int) - f = g := by omega
   have e2 : (g : Int).tdiv 2 = d := by rw [Int.tdiv_eq_ediv_of_nonneg (by omega)]; omega
   have e3 : (f : Int) + d = m := by omega
   have hne : ((f : Int) == t) = false := by rw [beq_eq_false_iff_ne]; omega
   have b0 : (0 : Int) ≤ f := by omega
   have b1 : (t : Int) ≤ 100000 := by omega
   have b2 : (0 : Int) ≤ d := by omega
   have b3 : (d : Int) ≤ 100000 := by omega
   have b4 : (0 : Int) ≤ g := by omega
   have b5 : (g : Int) ≤ 100000 := by omega
   have b6 : (m : Int) ≤ 100000 := by omega
   have b7 : (0 : Int) ≤ m := by omega
   have fin1 : Hid (x.id < e.id → ∀ a' w', Fr 41 [(0, rptr rk), (1, rptr rb), (5, .pointer (some ⟨w.heap.size, 0, none⟩)), (7, .int .i64 ((m : Int) + 1)), (8, .int .i64 t)] a' → Below wr.heap.size wr w' → ∃ g', g' < g ∧ AheadJ B w0 w rk q rb w.heap.size rbs R H F l e g' a' w') := by
    refine Lib.hid fun hlt a' w' hf hbw => ⟨t - (m + 1), by omega, m + 1, t, by omega, ht, hf, hlow hlt, hhi, hR.grow hbw, bel hbl hbw⟩
   have fin2 : Hid (¬ x.id < e.id → ∀ a' w', Fr 41 [(0, rptr rk), (1, rptr rb), (5, .pointer (some ⟨w.heap.size, 0, none⟩)), (7, .int .i64 f), (8, .int .i64 m)] a' → Below wr.heap.size wr w' → ∃ g', g' < g ∧ AheadJ B w0 w rk q rb w.heap.size rbs R H F l e g' a' w') := by
    refine Lib.hid fun hlt a' w' hf hbw => ⟨m - f, by omega, f, m, by omega, by omega, hf, hlo, hhigh hlt, hR.grow hbw, bel hbl hbw⟩
   replace ceb := Lib.hid ceb
   replace hlook := Lib.hid hlook
   replace hxH := Lib.hid hxH
   have hdr := Lib.hid (drewN_below wr)
   clear hR hR2 hlow hhigh hlo hhi hx hbl hft ht hd hmd hxp hless hz hp1 ca
   generalize he3 : decide (x.id < e.id) = c at cls
   replace he3 := Lib.hid he3
   go_wp2_with fail
   refine cat.out.mono ?_
   rintro r w2 ⟨rfl, n, rfl⟩
   clear cat
   go_wp2_with fail
   have cells := ceb.out n
   obtain ⟨k0, k1, k2, k3, k4, k5, k6, k7, k8, k9⟩ := cells
   have m1 := (hlook.out _ (hdr.out n)).c1
   have hit := (hlook.out _ (hdr.out (n + 1))).hit x hxH.out false
   rw [if_neg (by decide)] at hit
   have hdr2 := Lib.hid (hdr.out (n + 1))
   change (Instr.lookup 255 (.map (some mb)) (.int .i64 x.id) false).run Tryz.prog (wr.drewN n).drew = .ok (enV x) (wr.drewN n).drew at hit
   replace hdr2 : Hid (Below wr.heap.size wr (wr.drewN n).drew) := hdr2
   generalize wr.drewN n = V at *
   go_still_tail 7, (by kernel_rfl)
   change wpList _ _ _ _ _ V.drew
   generalize V.drew = W at *
   clear hdr hlook ceb
   go_wp2_with fail
   refine (cls.out _).mono ?_
   rintro r w3 ⟨rfl, hb3⟩
   have hb4 := Lib.hid (bel hdr2.out hb3)
   clear cls hit k0 k1 k2 k3 k4 k5 k6 k7 k8 k9 m1 hb3
   cases c with
   | true =>
    have hlt : x.id < e.id := by simpa using he3.out
    replace hlt := Lib.hid hlt
    go_wp2_with fail
    refine wp_goto ?_
    exact ⟨rfl, fin1.out hlt.out _ _ ⟨rfl, rfl, by simp⟩ hb4.out⟩
   | false =>
    have hlt : ¬ x.id < e.id := by simpa using he3.out
    replace hlt := Lib.hid hlt
    go_wp2_with fail
    refine wp_goto ?_
    exact ⟨rfl, fin2.out hlt.out _ _ ⟨rfl, rfl, by simp⟩ hb4.out⟩
 ·intro HJ
  go_wp2_with fail
  refine c1.out.mono ?_
  rintro r w1 ⟨rfl, rfl⟩
  go_wp2_with fail
  refine wp_label ?_
  go_step
  go_step
  exact HJ l.length _ _ ⟨0, l.length, by omega, Nat.le_refl _, ⟨rfl, rfl, by simp⟩, fun j x hj => absurd hj (by omega), fun j x hj hx => absurd (List.getElem?_eq_some_iff.1 hx).1 (by omega), h1.out, hn0.out⟩
end
end
section
open Go.ChangeMaps (setBlock)
section
variable {w w' : World} {e : Ent}
def EOwnS (w : World) (e : Ent) (w' : World) : Prop := St w.heap.size w w' [(w.heap.size, enO e), (w.heap.size + 1, enO z0E)]
theorem EOwnS.start (w : World) (e : Ent) : EOwnS w e ((w.alloc (enO e)).alloc (enO z0E)) := by
 have h := ((St.start w).alloc (enO e)).alloc (enO z0E)
 rw [World.size_alloc] at h
 exact h.perm (List.Perm.swap _ _ _)
theorem EOwnS.from (h : EOwnS w e w') : w'.cell? ⟨w.heap.size, 3, none⟩ = some (tx e.exch) ∧ w'.cell? ⟨w.heap.size, 4, none⟩ = some (tx e.key) :=
 ⟨St.cell h List.mem_cons_self rfl, St.cell h List.mem_cons_self rfl⟩
theorem EOwnS.st3 (h : EOwnS w e w') : EOwnS w e (w'.setCell ⟨w.heap.size, 3, none⟩ (tx e.exch)) := St.set0 h 3 (tx e.exch)
theorem EOwnS.st4 (h : EOwnS w e w') : EOwnS w e (w'.setCell ⟨w.heap.size, 4, none⟩ (tx e.key)) := St.set0 h 4 (tx e.key)
theorem eclone_own (h : EOwnS w e w') {l : List UInt8} (hl : l.length ≤ 140737488351232) : Calls Tryz.prog 154 #[tx l] w' fun r w2 => r = .returned (tx l) ∧ EOwnS w e w2 ∧
  (w2.cell? ⟨w.heap.size, 3, none⟩ = some (tx e.exch) ∧ w2.cell? ⟨w.heap.size, 4, none⟩ = some (tx e.key)) ∧
  (w2.frozen? ⟨w.heap.size, 3, none⟩ = false ∧ w2.frozen? ⟨w.heap.size, 4, none⟩ = false) := by
 refine (clone_any l w' hl).mono ?_
 rintro r w2 ⟨rfl, hb⟩
 have h2 : EOwnS w e w2 := St.grow h hb
 exact ⟨rfl, h2, h2.from, St.soft h2 List.mem_cons_self 3, St.soft h2 List.mem_cons_self 4⟩
structure EOwnC (w : World) (e : Ent) (w' : World) : Prop where
 src : EnAt w' w.heap.size e
 dst : EnAt w' (w.heap.size + 1) z0E
 soft : ∀ i, w'.frozen? ⟨w.heap.size + 1, i, none⟩ = false
theorem EOwnS.cells (h : EOwnS w e w') : EOwnC w e w' :=
 have m0 : (w.heap.size, enO e) ∈ [(w.heap.size, enO e), (w.heap.size + 1, enO z0E)] := List.mem_cons_self
 have m1 : (w.heap.size + 1, enO z0E) ∈ [(w.heap.size, enO e), (w.heap.size + 1, enO z0E)] := List.mem_cons_of_mem _ List.mem_cons_self
 ⟨⟨St.cell h m0 rfl, St.cell h m0 rfl, St.cell h m0 rfl, St.cell h m0 rfl, St.cell h m0 rfl, St.cell h m0 rfl, St.cell h m0 rfl, St.cell h m0 rfl, St.cell h m0 rfl, St.cell h m0 rfl⟩,
  ⟨St.cell h m1 rfl, St.cell h m1 rfl, St.cell h m1 rfl, St.cell h m1 rfl, St.cell h m1 rfl, St.cell h m1 rfl, St.cell h m1 rfl, St.cell h m1 rfl, St.cell h m1 rfl, St.cell h m1 rfl⟩, fun i => St.soft h m1 i⟩
abbrev enPut (w : World) (b : Nat) (e : Ent) : World := (((((((((w.setCell ⟨b, 0, none⟩ (.int .i64 e.id)).setCell ⟨b, 1, none⟩ (.int .i64 e.body)).setCell ⟨b, 2, none⟩ (.int .i64 e.size)).setCell ⟨b, 3, none⟩ (tx e.exch)).setCell ⟨b, 4, none⟩ (tx e.key)).setCell ⟨b, 5, none⟩ (.int .i64 e.prio)).setCell ⟨b, 6, none⟩ (.int .i64 e.ttl)).setCell ⟨b, 7, none⟩ (.int .i64 e.til)).setCell ⟨b, 8, none⟩ (.bool e.again)).setCell ⟨b, 9, none⟩ (.int .i64 e.hops)
theorem St.enPut {B : Nat} {w0 w : World} {b : Nat} {e e0 : Ent} {C : List (Nat × Obj)} (h : St B w0 w ((b, enO e0) :: C)) : St B w0 (enPut w b e) ((b, enO e) :: C) := by
 have h10 := (((((((((h.set0 0 (.int .i64 e.id)).set0 1 (.int .i64 e.body)).set0 2 (.int .i64 e.size)).set0 3 (tx e.exch)).set0 4 (tx e.key)).set0 5 (.int .i64 e.prio)).set0 6 (.int .i64 e.ttl)).set0 7 (.int .i64 e.til)).set0 8 (.bool e.again)).set0 9 (.int .i64 e.hops)
 simp only [List.setIfInBounds_toArray, List.set_cons_zero, List.set_cons_succ] at h10
 exact h10
theorem St.enAt {B : Nat} {w0 w : World} {b : Nat} {e : Ent} {H : List (Nat × Obj)} (h : St B w0 w H) (m : (b, enO e) ∈ H) : EnAt w b e :=
 ⟨h.cell m rfl, h.cell m rfl, h.cell m rfl, h.cell m rfl, h.cell m rfl, h.cell m rfl, h.cell m rfl, h.cell m rfl, h.cell m rfl, h.cell m rfl⟩
theorem ret_entry {P : Program} {fn : Func} {d : Nat} {tmps : Array Value} (hr : fn.results = #[.cell 2 51]) (h2 : tmps[2]? = some (.pointer (some ⟨d, 0, none⟩))) (q : EnAt w d e) (hP : P = Tryz.prog) :
  (results fn tmps).run P w = .ok (enV e) w := by
 subst hP
 obtain ⟨q0, q1, q2, q3, q4, q5, q6, q7, q8, q9⟩ := q
 simp [results, hr, go_sem, h2, q0, q1, q2, q3, q4, q5, q6, q7, q8, q9]
set_option maxHeartbeats 2000000 in
theorem eown_any (e : Ent) (h1 : e.exch.length ≤ 140737488351232) (h2 : e.key.length ≤ 140737488351232) (w : World) : Calls Tryz.prog 267 #[enV e] w fun r w' => r = .returned (enV e) ∧ Below w.heap.size w w' := by
 have hs0 : EOwnS w e ((w.alloc (enO e)).alloc (enO z0E)).drew := St.drew (EOwnS.start w e)
 have hs1 := Lib.hid hs0.from
 have cc := Lib.hid (fun (w' : World) (h : EOwnS w e w') (l : List UInt8) (hl : l.length ≤ 140737488351232) => eclone_own h hl)
 go_enter Tryz.func267, Tryz.ntmps267
 go_wp2_with fail
 go_region_held3 (fun wr => wr.cell? ⟨w.heap.size, 3, none⟩ = some (tx e.exch) ∧ wr.cell? ⟨w.heap.size, 4, none⟩ = some (tx e.key)) (first | exact hS | exact hs1.out | exact (EOwnS.st3 hO).from | exact (EOwnS.st4 (EOwnS.st3 hO)).from | go_keep) ((go_at_call 154; refine (cc.out _ (by assumption) _ (by assumption)).mono ?_; rintro r w'' ⟨rfl, hO, hS, f3, f4⟩))
 have hO2 := EOwnS.st4 (EOwnS.st3 hO)
 clear cc hs1 hs0 f3 f4 hS hO h1 h2
 obtain ⟨W, hW⟩ : ∃ W, W = (w''.setCell ⟨w.heap.size, 3, none⟩ (tx e.exch)).setCell ⟨w.heap.size, 4, none⟩ (tx e.key) := ⟨_, rfl⟩
 rw [← hW] at hO2 ⊢
 clear hW
 obtain ⟨⟨k0, k1, k2, k3, k4, k5, k6, k7, k8, k9⟩, ⟨d0, d1, d2, d3, d4, d5, d6, d7, d8, d9⟩, sf⟩ := hO2.cells
 have hO3 : St w.heap.size w (enPut W (w.heap.size + 1) e) [(w.heap.size + 1, enO e), (w.heap.size, enO e)] := St.enPut (St.perm hO2 (List.Perm.swap _ _ _))
 have hE := Lib.hid (St.enAt hO3 List.mem_cons_self)
 have hB := Lib.hid hO3.below
 clear hO2 hO3
 go_wp2_with fail
 exact bodyPost_ret (ret_entry rfl rfl hE.out rfl) rfl ⟨rfl, hB.out⟩
end
end
end Go.Proofs.YtknjamfjonapiaaGreatDoor
