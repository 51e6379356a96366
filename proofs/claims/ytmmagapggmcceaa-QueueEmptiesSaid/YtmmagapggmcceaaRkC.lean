/- A rack in memory: its rows are rings of IDs, its entries lie in a map. -/
import Derived.Test.YtmmagapggmcceaaRkA
import Derived.Test.YtmmagapggmcceaaRkB
import Derived.Test.YtmmagapggmcceaaSeek
import Derived.Test.YtmmagapggmcceaaRingD
namespace Go.Proofs.Ytmmagapggmcceaa
open Go.RowKit
open Go.ChangeMaps (setBlock)
set_option linter.unusedVariables false
set_option linter.unusedSectionVars false

abbrev z0E : Ent := ⟨0, 0, 0, [], [], 0, 0, 0, false, 0⟩
theorem zEnt (w : World) : (zeroValue 32).run Try.prog w = .ok (enV z0E) w := Try.zeroValue32 w
theorem uMapE : Try.prog.underlying 55 = some (.map 3 32) := by kernel_rfl

/-- The map's rows tell these entries. -/
structure HeldOf (es : List (MapRow Int)) (clk : Nat) (H : List Ent) : Prop where
  rows : (es.map fun x => (x.1, x.2.1)).Perm (H.map fun e => (e.id, enV e))
  born : Born es clk
  ids : (H.map (·.id)).Nodup
section
variable {es : List (MapRow Int)} {clk : Nat} {H H' : List Ent} {e : Ent} {k : Int}
theorem HeldOf.keysP (h : HeldOf es clk H) : (es.map (·.1)).Perm (H.map (·.id)) := by
  have := h.rows.map (·.1)
  simpa [Function.comp_def] using this
theorem HeldOf.keys (h : HeldOf es clk H) : (es.map (·.1)).Nodup := h.keysP.nodup_iff.2 h.ids
theorem HeldOf.len (h : HeldOf es clk H) : es.length = H.length := by
  have := h.keysP.length_eq
  simpa using this
theorem HeldOf.nil : HeldOf [] 0 [] := ⟨List.Perm.refl _, ⟨by simp, by simp⟩, by simp⟩
theorem HeldOf.perm (h : HeldOf es clk H) (hp : H.Perm H') : HeldOf es clk H' := ⟨h.rows.trans (hp.map _), h.born, (hp.map (·.id)).nodup_iff.1 h.ids⟩
theorem HeldOf.seek (h : HeldOf es clk H) (he : e ∈ H) : (seek es e.id).map (·.2.1) = some (enV e) ∧ (seek es e.id).isSome = true := by
  have h1 : (e.id, enV e) ∈ H.map fun e => (e.id, enV e) := List.mem_map.2 ⟨e, he, rfl⟩
  obtain ⟨x, hx, e1⟩ := List.mem_map.1 (h.rows.mem_iff.2 h1)
  simp only [Prod.mk.injEq] at e1
  have h2 := seek_some h.keys hx
  rw [e1.1] at h2
  rw [h2]
  simp [e1.2]
theorem HeldOf.none (h : HeldOf es clk H) (hk : k ∉ H.map (·.id)) : Go.Proofs.Ytmmagapggmcceaa.seek es k = Option.none := seek_none.2 fun hm => hk (h.keysP.mem_iff.1 hm)
theorem HeldOf.put (h : HeldOf es clk H) (hk : e.id ∉ H.map (·.id)) : HeldOf (es ++ [(e.id, enV e, clk)]) (clk + 1) (e :: H) := by
  refine ⟨?_, ⟨?_, ?_⟩, ?_⟩
  · rw [List.map_append]
    exact (List.perm_append_singleton (e.id, enV e) _).trans (h.rows.cons _)
  · simp only [List.map_append, List.map_cons, List.map_nil]
    rw [List.nodup_append]
    refine ⟨h.born.1, by simp, ?_⟩
    rintro a ha b hb rfl
    rw [List.mem_singleton] at hb
    subst hb
    obtain ⟨x, hx, e1⟩ := List.mem_map.1 ha
    have := h.born.2 x hx
    omega
  · intro x hx
    rcases List.mem_append.1 hx with hx | hx
    · have := h.born.2 x hx
      omega
    · rw [List.mem_singleton] at hx
      subst hx
      exact Nat.lt_succ_self _
  · rw [List.map_cons, List.nodup_cons]
    exact ⟨hk, h.ids⟩
theorem HeldOf.del (h : HeldOf es clk H) (k : Int) : HeldOf (restE es k) clk (delM H k) := by
  refine ⟨?_, ⟨h.born.1.sublist ((rest_sub es k).map _), fun x hx => h.born.2 x ((rest_sub es k).subset hx)⟩, h.ids.sublist (List.filter_sublist.map _)⟩
  rw [rest_eq h.keys]
  have h1 := h.rows.filter (fun x => decide (x.1 ≠ k))
  have e1 : (es.map fun x => (x.1, x.2.1)).filter (fun x => decide (x.1 ≠ k)) = (es.filter fun x => decide (x.1 ≠ k)).map fun x => (x.1, x.2.1) := by rw [List.filter_map]; rfl
  have e2 : (H.map fun e => (e.id, enV e)).filter (fun x => decide (x.1 ≠ k)) = (delM H k).map fun e => (e.id, enV e) := by rw [List.filter_map]; rfl
  rw [e1, e2] at h1
  exact h1
end

/-! ### the blocks -/
def ringsH : List Nat → List RG → List (Nat × Obj)
  | b :: bs, g :: gs => (b, g.obj) :: (g.cellsH ++ ringsH bs gs)
  | _, _ => []
theorem rings_at : ∀ {bs : List Nat} {gs : List RG} {i : Nat} {b : Nat} {g : RG}, bs[i]? = some b → gs[i]? = some g →
    ∃ Y, (ringsH bs gs).Perm ((b, g.obj) :: (g.cellsH ++ Y)) ∧ ∀ g', ((b, g'.obj) :: (g'.cellsH ++ Y)).Perm (ringsH bs (gs.set i g'))
  | c :: bs, f :: gs, 0, b, g, h1, h2 => by
    simp at h1 h2
    subst h1 h2
    exact ⟨ringsH bs gs, List.Perm.refl _, fun g' => List.Perm.refl _⟩
  | c :: bs, f :: gs, i + 1, b, g, h1, h2 => by
    obtain ⟨Y, p1, p2⟩ := rings_at (bs := bs) (gs := gs) (i := i) (by simpa using h1) (by simpa using h2)
    have key : ∀ g' : RG, ((c, f.obj) :: (f.cellsH ++ ((b, g'.obj) :: (g'.cellsH ++ Y)))).Perm ((b, g'.obj) :: (g'.cellsH ++ ((c, f.obj) :: (f.cellsH ++ Y)))) := fun g' => by
      classical
      exact List.perm_iff_count.2 fun a => by simp only [List.count_append, List.count_cons]; omega
    exact ⟨(c, f.obj) :: (f.cellsH ++ Y), ((p1.append_left f.cellsH).cons _).trans (key g), fun g' => (key g').symm.trans (((p2 g').append_left f.cellsH).cons _)⟩
  | [], _, i, b, g, h1, _ => by simp at h1
  | _ :: _, [], i, b, g, _, h2 => by simp at h2

abbrev rackO (q mb most : Nat) : Obj := .cells #[.slice (some ⟨q, 0, none⟩) 4 4, .map (some mb), .int .i64 most] 57
abbrev rowsO (rbs : List Nat) : Obj := .cells (rbs.map rptr).toArray 60
def RkAt (B : Nat) (w0 w : World) (rk q : Nat) (rbs : List Nat) (R : List (List Int)) (H : List Ent) (F : List (Nat × Obj)) : Prop :=
  ∃ (mb : Nat) (es : List (MapRow Int)) (clk most : Nat) (G : List RG), (rbs.length = 4 ∧ (∀ g ∈ G, g.Wf) ∧ G.map RG.row = R ∧ HeldOf es clk H ∧ most ≤ 100000 ∧ H.length ≤ 100000) ∧
    St B w0 w ((rk, rackO q mb most) :: (q, rowsO rbs) :: (mb, .map (entsE encI es) clk) :: (ringsH rbs G ++ F))
section
variable {B : Nat} {w0 w w' : World} {rk q rb i : Nat} {rbs : List Nat} {R : List (List Int)} {H H' : List Ent} {F F' : List (Nat × Obj)} {l : List Int} {e : Ent}
theorem RkAt.len (h : RkAt B w0 w rk q rbs R H F) : rbs.length = 4 := by obtain ⟨mb, es, clk, most, G, ⟨h1, -⟩, -⟩ := h; exact h1
theorem RkAt.few (h : RkAt B w0 w rk q rbs R H F) : H.length ≤ 100000 := by obtain ⟨mb, es, clk, most, G, ⟨-, -, -, -, -, h1⟩, -⟩ := h; exact h1
theorem RkAt.beside (h : RkAt B w0 w rk q rbs R H F) : ∃ S, St B w0 w (S ++ F) ∧ ∀ w' F', St B w0 w' (S ++ F') → RkAt B w0 w' rk q rbs R H F' := by
  obtain ⟨mb, es, clk, most, G, h1, h2⟩ := h
  exact ⟨(rk, rackO q mb most) :: (q, rowsO rbs) :: (mb, .map (entsE encI es) clk) :: ringsH rbs G, h2, fun w' F' h' => ⟨mb, es, clk, most, G, h1, h'⟩⟩
theorem RkAt.grow (h : RkAt B w0 w rk q rbs R H F) (hb : Below w.heap.size w w') : RkAt B w0 w' rk q rbs R H F := by
  obtain ⟨S, h1, h2⟩ := h.beside
  exact h2 _ _ (h1.grow hb)
theorem RkAt.sub (h : RkAt B w0 w rk q rbs R H F) (hs : F'.Sublist F) : RkAt B w0 w rk q rbs R H F' := by
  obtain ⟨S, h1, h2⟩ := h.beside
  exact h2 _ _ (h1.sub ((List.Sublist.refl S).append hs))
theorem RkAt.permF (h : RkAt B w0 w rk q rbs R H F) (hp : F.Perm F') : RkAt B w0 w rk q rbs R H F' := by
  obtain ⟨S, h1, h2⟩ := h.beside
  exact h2 _ _ (h1.perm (hp.append_left S))
theorem RkAt.below (h : RkAt B w0 w rk q rbs R H F) : Below B w0 w := by
  obtain ⟨S, h1, -⟩ := h.beside
  exact h1.below
theorem RkAt.c0 (h : RkAt B w0 w rk q rbs R H F) : w.cell? ⟨rk, 0, none⟩ = some (.slice (some ⟨q, 0, none⟩) 4 4) := by
  obtain ⟨mb, es, clk, most, G, -, h2⟩ := h
  exact h2.cell (b := rk) List.mem_cons_self rfl
theorem RkAt.soft (h : RkAt B w0 w rk q rbs R H F) (i : Nat) : w.frozen? ⟨rk, i, none⟩ = false := by
  obtain ⟨mb, es, clk, most, G, -, h2⟩ := h
  exact St.soft (b := rk) h2 List.mem_cons_self i
theorem RkAt.at_ (h : RkAt B w0 w rk q rbs R H F) (hb : rbs[i]? = some rb) : w.cell? ⟨q, i, none⟩ = some (rptr rb) := by
  obtain ⟨mb, es, clk, most, G, -, h2⟩ := h
  exact h2.cell (b := q) (List.mem_cons_of_mem _ List.mem_cons_self) (by simp [hb])
theorem RkAt.reset (h : RkAt B w0 w rk q rbs R H F) (hp : H.Perm H') : RkAt B w0 w rk q rbs R H' F := by
  obtain ⟨mb, es, clk, most, G, ⟨a1, a2, a3, a4, a5, a6⟩, h2⟩ := h
  exact ⟨mb, es, clk, most, G, ⟨a1, a2, a3, a4.perm hp, a5, hp.length_eq ▸ a6⟩, h2⟩
/-- One of its rows, and the way back. -/
theorem RkAt.ring (h : RkAt B w0 w rk q rbs R H F) (hb : rbs[i]? = some rb) (hl : R[i]? = some l) :
    ∃ Z, RingIs B w0 w rb l (Z ++ F) ∧ ∀ w' l' F', RingIs B w0 w' rb l' (Z ++ F') → RkAt B w0 w' rk q rbs (R.set i l') H F' := by
  obtain ⟨mb, es, clk, most, G, ⟨a1, a2, a3, a4, a5, a6⟩, h2⟩ := h
  subst a3
  rw [List.getElem?_map, Option.map_eq_some_iff] at hl
  obtain ⟨g, hg, rfl⟩ := hl
  obtain ⟨Y, p1, p2⟩ := rings_at hb hg
  refine ⟨(rk, rackO q mb most) :: (q, rowsO rbs) :: (mb, .map (entsE encI es) clk) :: Y, ⟨g, a2 g (List.mem_of_getElem? hg), rfl, h2.perm ?_⟩, ?_⟩
  · classical
    have p1' := List.perm_iff_count.1 p1
    exact List.perm_iff_count.2 fun a => by
      have := p1' a
      simp only [List.count_append, List.count_cons] at this ⊢
      omega
  · rintro w' l' F' ⟨g', wf, rfl, h'⟩
    refine ⟨mb, es, clk, most, G.set i g', ⟨a1, ?_, by rw [List.map_set], a4, a5, a6⟩, St.perm h' ?_⟩
    · intro x hx
      rcases List.mem_or_eq_of_mem_set hx with hx | rfl
      · exact a2 x hx
      · exact wf
    · classical
      have p2' := List.perm_iff_count.1 (p2 g')
      exact List.perm_iff_count.2 fun a => by
        have := p2' a
        simp only [List.count_append, List.count_cons] at this ⊢
        omega
/-- Its map, and the way back. -/
theorem RkAt.map (h : RkAt B w0 w rk q rbs R H F) : ∃ mb es clk, w.cell? ⟨rk, 1, none⟩ = some (.map (some mb)) ∧ w.heap[mb]? = some (.map (entsE encI es) clk) ∧ HeldOf es clk H ∧
    ∀ es' clk' H', HeldOf es' clk' H' → H'.length ≤ 100000 → RkAt B w0 (setBlock w mb (.map (entsE encI es') clk')) rk q rbs R H' F := by
  obtain ⟨mb, es, clk, most, G, ⟨a1, a2, a3, a4, a5, a6⟩, h2⟩ := h
  refine ⟨mb, es, clk, h2.cell (b := rk) List.mem_cons_self rfl, h2.get (b := mb) (List.mem_cons_of_mem _ (List.mem_cons_of_mem _ List.mem_cons_self)), a4, fun es' clk' H' h3 h4 => ⟨mb, es', clk', most, G, ⟨a1, a2, a3, h3, a5, h4⟩, ?_⟩⟩
  have p : ∀ o : Obj, ((rk, rackO q mb most) :: (q, rowsO rbs) :: (mb, o) :: (ringsH rbs G ++ F)).Perm ((mb, o) :: (rk, rackO q mb most) :: (q, rowsO rbs) :: (ringsH rbs G ++ F)) := fun o => by
    classical
    exact List.perm_iff_count.2 fun a => by simp only [List.count_cons]; omega
  exact ((h2.perm (p _)).block0).perm (p _).symm

/-- What is looked up. -/
structure LookAt (w : World) (rk : Nat) (H : List Ent) (mb : Nat) : Prop where
  c1 : w.cell? ⟨rk, 1, none⟩ = some (.map (some mb))
  hit : ∀ e ∈ H, ∀ c, (Instr.lookup 55 (.map (some mb)) (.int .i64 e.id) c).run Try.prog w = .ok (if c then .tuple #[enV e, .bool true] else enV e) w
  miss : ∀ k, k ∉ H.map (·.id) → ∀ c, (Instr.lookup 55 (.map (some mb)) (.int .i64 k) c).run Try.prog w = .ok (if c then .tuple #[enV z0E, .bool false] else enV z0E) w
  len : ∀ ty, (Builtin.len_ #[55] ty #[.map (some mb)]).run Try.prog w = .ok (.int .i64 H.length) w
theorem RkAt.look (h : RkAt B w0 w rk q rbs R H F) : ∃ mb, LookAt w rk H mb ∧ (∀ w', Below w.heap.size w w' → LookAt w' rk H mb) := by
  obtain ⟨mb, es, clk, c1, hg, ho, -⟩ := h.map
  have key : ∀ w', Below w.heap.size w w' → LookAt w' rk H mb := fun w' hb => by
    have hg' : w'.heap[mb]? = some (.map (entsE encI es) clk) := (hb.block _ (Array.getElem?_eq_some_iff.1 hg).1).trans hg
    refine ⟨cellUp c1 hb, fun e he c => ?_, fun k hk c => ?_, fun ty => ?_⟩
    · obtain ⟨q1, q2⟩ := ho.seek he
      have := run_lookE (P := Try.prog) (c := c) keyI uMapE (zEnt w') hg' (k := e.id) trivial (fun _ _ => trivial)
      rw [q1, q2] at this
      exact this
    · have q1 := ho.none hk
      have := run_lookE (P := Try.prog) (c := c) keyI uMapE (zEnt w') hg' (k := k) trivial (fun _ _ => trivial)
      rw [q1] at this
      exact this
    · have := run_lenE (P := Try.prog) (ty := ty) uMapE hg'
      rw [ho.len] at this
      exact this
  exact ⟨mb, key w (Below.refl _ _), key⟩
end
end Go.Proofs.Ytmmagapggmcceaa
