/- A map of entries copied; room given back. -/
import Derived.Test.YtmmagapggmcceaaRkG
namespace Go.Proofs.Ytmmagapggmcceaa
open Go.RowKit
open Go.ChangeMaps (setBlock)
set_option linter.unusedVariables false
set_option linter.unusedSectionVars false
set_option linter.unusedSimpArgs false
set_option maxRecDepth 100000

theorem run_makeMapE (w : World) (k : Int) : (Instr.makeMap 55 (some (.int .i64 k))).run Try.prog w = .ok (.map (some w.heap.size)) (w.alloc (.map #[] 0)) := by
  simp [Instr.makeMap, run_underlying uMapE, asInt, asIntOf]

section
variable {B : Nat} {w0 w : World} {F : List (Nat × Obj)} {db sb r : Nat} {es : List (MapRow Int)} {clk : Nat} {H : List Ent}
/-- While a map is copied: done came, those of laid are laid. -/
def Copied (B : Nat) (w0 : World) (db sb r : Nat) (es : List (MapRow Int)) (clk : Nat) (F : List (Nat × Obj)) (done laid : List (MapRow Int)) (w' : World) : Prop :=
  IterAt w' sb r encI es clk done ∧ ∃ seen ds c2, ds.map (fun x => (x.1, x.2.1)) = laid.map (fun x => (x.1, x.2.1)) ∧ Born ds c2 ∧
    St B w0 w' ((db, .map (entsE encI ds) c2) :: (sb, .map (entsE encI es) clk) :: (r, .mapIter (some sb) clk seen clk) :: F)

theorem Copied.grow {done laid : List (MapRow Int)} {w' : World} (h : Copied B w0 db sb r es clk F done laid w) (hb : Below w.heap.size w w') : Copied B w0 db sb r es clk F done laid w' := by
  obtain ⟨hI, seen, ds, c2, h1, h2, h3⟩ := h
  exact ⟨hI.kept (hb.block _ (h3.lt (b := sb) (o := .map (entsE encI es) clk) (by simp))) (hb.block _ (h3.lt (b := r) (o := .mapIter (some sb) clk seen clk) (by simp))), seen, ds, c2, h1, h2, h3.grow hb⟩
theorem Copied.next {done : List (MapRow Int)} (h : Copied B w0 db sb r es clk F done done w) (hB : Born es clk) (hn : es.Nodup) (ty : TypeId) :
    (done.Perm es ∧ (Instr.next (.pointer (some ⟨r, 0, none⟩)) false ty).run Try.prog w = .ok (.tuple #[.bool false]) w) ∨
    ∃ e w', e ∈ es ∧ e ∉ done ∧ (Instr.next (.pointer (some ⟨r, 0, none⟩)) false ty).run Try.prog w = .ok (.tuple #[.bool true, encI e.1, e.2.1]) w' ∧ (Instr.entry (.pointer (some ⟨r, 0, none⟩))).run Try.prog w' = .ok (.tuple #[encI e.1, e.2.1]) w' ∧
      Copied B w0 db sb r es clk F (done ++ [e]) done w' := by
  obtain ⟨hI, seen, ds, c2, h1, h2, h3⟩ := h
  rcases hI.next (P := Try.prog) hB hn ty with ⟨hp, hr⟩ | ⟨e, he, hd, w', hr, hI', hk, hs, ho, ht, hu, hen⟩
  · exact .inl ⟨hp, hr⟩
  · obtain ⟨-, seen', hs', -⟩ := id hI'
    have pm : ∀ x : Obj, ((db, Obj.map (entsE encI ds) c2) :: (sb, .map (entsE encI es) clk) :: (r, x) :: F).Perm ([(db, Obj.map (entsE encI ds) c2), (sb, .map (entsE encI es) clk)] ++ (r, x) :: F) := fun x => List.Perm.refl _
    have h4 := ((h3.perm (pm _)).write hs' hk hs ho ht hu).perm (pm _).symm
    exact .inr ⟨e, w', he, hd, hr, hen, hI', seen', ds, c2, h1, h2, h4⟩
theorem Copied.laid {done : List (MapRow Int)} {e : MapRow Int} (h : Copied B w0 db sb r es clk F (done ++ [e]) done w) (hk : (es.map (·.1)).Nodup) (he : e ∈ es) (hd : e ∉ done) :
    ∃ w', (Instr.mapUpdate 55 (.map (some db)) (.int .i64 e.1) e.2.1).run Try.prog w = .ok () w' ∧ Copied B w0 db sb r es clk F (done ++ [e]) (done ++ [e]) w' := by
  obtain ⟨hI, seen, ds, c2, h1, h2, h3⟩ := h
  have hks : ds.map (·.1) = done.map (·.1) := by
    have := congrArg (List.map (·.1)) h1
    simpa [Function.comp_def] using this
  have hnk : e.1 ∉ ds.map (·.1) := by
    rw [hks]
    intro hm
    obtain ⟨x, hx, e1⟩ := List.mem_map.1 hm
    have hxe := hI.2.choose_spec.2.2.1 x (by simp [hx])
    have := (seek_some hk he).symm.trans (e1 ▸ seek_some hk hxe)
    rw [Option.some.inj this] at hd
    exact hd hx
  have hg := h3.get (b := db) List.mem_cons_self
  have h4 := h3.block0 (o' := .map (entsE encI (ds ++ [(e.1, e.2.1, c2)])) (c2 + 1))
  refine ⟨_, run_mapE_new keyI uMapE hg (k := e.1) trivial (fun _ _ => trivial) e.2.1 (seek_none.2 hnk), hI.kept ?_ ?_, seen, _, _, ?_, ?_, h4⟩
  · exact (h4.get (b := sb) (o := .map (entsE encI es) clk) (by simp)).trans hI.1.symm
  · exact (h4.get (b := r) (o := .mapIter (some sb) clk seen clk) (by simp)).trans (h3.get (b := r) (by simp)).symm
  · rw [List.map_append, List.map_append, h1]
    rfl
  · refine ⟨?_, ?_⟩
    · rw [List.map_append, List.nodup_append]
      refine ⟨h2.1, by simp, ?_⟩
      rintro a ha b hb rfl
      simp only [List.map_cons, List.map_nil, List.mem_singleton] at hb
      subst hb
      obtain ⟨x, hx, e1⟩ := List.mem_map.1 ha
      have := h2.2 x hx
      omega
    · intro x hx
      rcases List.mem_append.1 hx with hx | hx
      · have := h2.2 x hx
        omega
      · rw [List.mem_singleton] at hx
        subst hx
        exact Nat.lt_succ_self _

def CopyR (B : Nat) (w0 : World) (db sb : Nat) (es : List (MapRow Int)) (clk : Nat) (F : List (Nat × Obj)) (H : List Ent) (e : Ending) (w' : World) : Prop :=
  e = .returned (.tuple #[]) ∧ ∃ ds c2, HeldOf ds c2 H ∧ St B w0 w' ((db, .map (entsE encI ds) c2) :: (sb, .map (entsE encI es) clk) :: F)

set_option maxHeartbeats 1000000 in
theorem copyE_any (hst : St B w0 w ((db, .map (entsE encI []) 0) :: (sb, .map (entsE encI es) clk) :: F)) (ho : HeldOf es clk H) :
    Calls Try.prog 53 #[.map (some db), .map (some sb)] w (CopyR B w0 db sb es clk F H) := by
  have hg := hst.get (b := sb) (List.mem_cons_of_mem _ List.mem_cons_self)
  have hrg := run_range_map (P := Try.prog) w 55 _ _ sb _ _ uMapE hg
  have hs4 := (hst.alloc (.mapIter (some sb) clk #[] clk)).perm ((List.Perm.swap _ _ _).trans ((List.Perm.swap _ _ _).cons _))
  have start : Hid (Copied B w0 db sb w.heap.size es clk F [] [] (w.alloc (.mapIter (some sb) clk #[] clk))) := Lib.hid ⟨⟨hs4.get (b := sb) (by simp), #[], hs4.get (b := w.heap.size) (by simp), by simp, by simp, by simp⟩, #[], [], 0, rfl, ⟨by simp, by simp⟩, hs4⟩
  have hob := Lib.hid ho.born
  have hkn := Lib.hid ho.keys
  have hnd : Hid es.Nodup := Lib.hid (List.Pairwise.of_map (S := fun a b => a ≠ b) _ (fun a b h e => h (by rw [e])) ho.keys)
  have hva : Hid (∀ e ∈ es, ∃ x : Ent, e.2.1 = enV x) := Lib.hid fun e he => by
    have h1 := ho.rows.mem_iff.1 (List.mem_map_of_mem (f := fun x : MapRow Int => (x.1, x.2.1)) he)
    obtain ⟨x, -, e1⟩ := List.mem_map.1 h1
    simp only [Prod.mk.injEq] at e1
    exact ⟨x, e1.2.symm⟩
  have fin : Hid (∀ done w', Copied B w0 db sb w.heap.size es clk F done done w' → done.Perm es → CopyR B w0 db sb es clk F H (.returned (.tuple #[])) w') := Lib.hid (by
    rintro done w' ⟨-, seen, ds, c2, g1, g2, g3⟩ hp
    refine ⟨rfl, ds, c2, ⟨?_, g2, ho.ids⟩, g3.sub ?_⟩
    · rw [g1]
      exact (hp.map _).trans ho.rows
    · exact ((List.sublist_cons_self _ _).cons_cons _).cons_cons _)
  clear hst hg hs4 ho
  generalize w.heap.size = r at *
  generalize w.alloc (.mapIter (some sb) clk #[] clk) = W4 at *
  go_enter Try.func53, Try.ntmps53
  go_wp2_with fail
  go_loopg [4] es.length (fun g v4 wr => ∃ done, done.length + g = es.length ∧ Hid (Copied B w0 db sb r es clk F done done wr))
  case atStart => exact ⟨[], by simp, start⟩
  case round =>
    obtain ⟨done, hg, hM⟩ := hrel
    rcases hM.out.next hob.out hnd.out 0 with ⟨hp, hnx⟩ | ⟨e, w', he, hd, hnx, hen, hM2⟩
    · have fin := Lib.hid (fin.out _ _ hM.out hp)
      go_wp2_with fail
      exact bodyPost_end (results_none rfl _ _ _) rfl fin.out
    · obtain ⟨x, hev⟩ := hva.out e he
      have hle : done.length + 1 ≤ es.length := by
        have := nodup_len (l := done ++ [e]) (m := es) (hM2.1.2.choose_spec.2.1) hM2.1.2.choose_spec.2.2.1
        simpa using this
      have hM3 := hM2.grow (new_below w' (enO x))
      obtain ⟨w5, hup, hM4⟩ := hM3.laid hkn.out he hd
      replace hM4 := Lib.hid hM4
      rw [hev] at hnx hen hup
      clear hM hM2 hM3 hd he fin start hev
      go_wp2_with fail
      go_roundg (es.length - (done.length + 1))
      case measure => omega
      case rel => exact ⟨done ++ [e], by rw [List.length_append, List.length_singleton]; omega, hM4⟩
end

section
variable {B : Nat} {w0 w : World} {rk q rb i : Nat} {rbs : List Nat} {R : List (List Int)} {H : List Ent} {F : List (Nat × Obj)} {l : List Int} {e : Ent}
set_option maxHeartbeats 1000000 in
theorem giveRk_any (h : RkAt B w0 w rk q rbs R H F) : Calls Try.prog 39 #[rptr rk] w fun e w' => e = .returned (.tuple #[]) ∧ RkAt B w0 w' rk q rbs R H F := by
  obtain ⟨mb, es, clk, most, G, ⟨a1, a2, a3, a4, a5, a6⟩, h2⟩ := id h
  have c1 : w.cell? ⟨rk, 1, none⟩ = some (.map (some mb)) := h2.cell (b := rk) List.mem_cons_self rfl
  have c2 : w.cell? ⟨rk, 2, none⟩ = some (.int .i64 most) := h2.cell (b := rk) List.mem_cons_self rfl
  have gl := fun ty n => run_lenE (P := Try.prog) (ty := ty) uMapE ((h2.drewN n).get (b := mb) (List.mem_cons_of_mem _ (List.mem_cons_of_mem _ List.mem_cons_self)))
  obtain ⟨L, hL⟩ : ∃ L, L = es.length := ⟨_, rfl⟩
  obtain ⟨d, hd⟩ : ∃ d, d = most / 4 := ⟨_, rfl⟩
  rw [← hL] at gl
  have hHl : H.length = L := by rw [hL, a4.len]
  replace h := Lib.hid h
  replace hL := Lib.hid hL
  by_cases h8 : (most : Int) ≤ 8
  · clear h2 a1 a2 a3 a4 a5 a6 hd hHl
    have hdr := Lib.hid (fun n => h.out.grow (drewN_below _ n))
    go_enter Try.func39, Try.ntmps39
    go_wp2_with fail
    go_quiet (fail)
    go_wp2_with fail
    exact bodyPost_ret (results_none rfl _ _ _) rfl ⟨rfl, hdr.out _⟩
  have hq0 : (0 : Int) ≤ most := by omega
  have hq1 : (most : Int) ≤ 100000 := by omega
  have hd1 : (most : Int) / 4 = d := by omega
  have hd3 : (most : Int).tdiv 4 = d := by rw [Int.tdiv_eq_ediv_of_nonneg (by omega)]; omega
  have hd2 : IntKind.i64.wrap (d : Int) = d := IntWalk.i64_in _ (by omega)
  have hd0 : (0 : Int) ≤ d := by omega
  have hd4 : (d : Int) ≤ 100000 := by omega
  by_cases hc : (d : Int) < L
  · clear h2 a1 a2 a3 a4 a5 a6 hd hHl
    have hdr := Lib.hid (fun n => h.out.grow (drewN_below _ n))
    go_enter Try.func39, Try.ntmps39
    go_wp2_with fail
    go_quiet (fail)
    go_wp2_with fail
    exact bodyPost_ret (results_none rfl _ _ _) rfl ⟨rfl, hdr.out _⟩
  have fin0 : Hid (∀ n, St B w0 (w.drewN n) ((rk, rackO q mb most) :: (q, rowsO rbs) :: (mb, .map (entsE encI es) clk) :: (ringsH rbs G ++ F))) := Lib.hid fun n => h2.drewN n
  clear h2 h
  replace a1 := Lib.hid a1
  replace a2 := Lib.hid a2
  replace a3 := Lib.hid a3
  replace a4 := Lib.hid a4
  replace a5 := Lib.hid a5
  replace a6 := Lib.hid a6
  replace hHl := Lib.hid hHl
  replace hd := Lib.hid hd
  go_enter Try.func39, Try.ntmps39
  go_wp2_with fail
  go_quiet (fail)
  go_upto_region 1 with fail
  have h2 := fin0.out nq
  generalize w.drewN nq = w at *
  have c1 : w.cell? ⟨rk, 1, none⟩ = some (.map (some mb)) := h2.cell (b := rk) List.mem_cons_self rfl
  have c2 : w.cell? ⟨rk, 2, none⟩ = some (.int .i64 most) := h2.cell (b := rk) List.mem_cons_self rfl
  have gl := fun ty => run_lenE (P := Try.prog) (ty := ty) uMapE (h2.get (b := mb) (List.mem_cons_of_mem _ (List.mem_cons_of_mem _ List.mem_cons_self)))
  rw [← hL.out] at gl
  have hmk := run_makeMapE w
  have pm : ∀ x y z u (X : List (Nat × Obj)), ((u :: x :: y :: z :: X) : List (Nat × Obj)).Perm (u :: z :: x :: y :: X) := fun x y z u X => by
    classical
    exact List.perm_iff_count.2 fun a => by simp only [List.count_cons]; omega
  have h3 := (h2.alloc (.map #[] 0)).perm (pm _ _ _ _ _)
  have cc := Lib.hid (copyE_any (es := es) (clk := clk) (H := H) h3 a4.out)
  have k1 : (w.alloc (.map #[] 0)).cell? ⟨rk, 1, none⟩ = some (.map (some mb)) := h3.cell (b := rk) (c := #[.slice (some ⟨q, 0, none⟩) 4 4, .map (some mb), .int .i64 most]) (T := 57) (fr := (0, 0)) (by simp) rfl
  have fin : Hid (∀ w', CopyR B w0 w.heap.size mb es clk ((rk, rackO q mb most) :: (q, rowsO rbs) :: (ringsH rbs G ++ F)) H (.returned (.tuple #[])) w' → w'.cell? ⟨rk, 1, none⟩ = some (.map (some mb)) ∧ w'.cell? ⟨rk, 2, none⟩ = some (.int .i64 most) ∧
      w'.frozen? ⟨rk, 1, none⟩ = false ∧ w'.frozen? ⟨rk, 2, none⟩ = false ∧ (∀ ty, (Builtin.len_ #[55] ty #[.map (some w.heap.size)]).run Try.prog w' = .ok (.int .i64 L) w') ∧
      RkAt B w0 ((w'.setCell ⟨rk, 1, none⟩ (.map (some w.heap.size))).setCell ⟨rk, 2, none⟩ (.int .i64 L)) rk q rbs R H F) := Lib.hid (by
    rintro w' ⟨-, ds, c3, g1, g2⟩
    have m : (rk, rackO q mb most) ∈ (w.heap.size, Obj.map (entsE encI ds) c3) :: (mb, .map (entsE encI es) clk) :: (rk, rackO q mb most) :: (q, rowsO rbs) :: (ringsH rbs G ++ F) := by simp
    refine ⟨g2.cell (b := rk) m rfl, g2.cell (b := rk) m rfl, g2.soft (b := rk) m 1, g2.soft (b := rk) m 2, fun ty => ?_, ?_⟩
    · have := run_lenE (P := Try.prog) (ty := ty) uMapE (g2.get (b := w.heap.size) List.mem_cons_self)
      rw [g1.len, hHl.out] at this
      exact this
    · have g3 := g2.perm (H' := (rk, rackO q mb most) :: (q, rowsO rbs) :: (w.heap.size, .map (entsE encI ds) c3) :: (ringsH rbs G ++ ((mb, .map (entsE encI es) clk) :: F))) (by
        classical
        exact List.perm_iff_count.2 fun a => by simp only [List.count_cons, List.count_append]; omega)
      have g4 := (g3.set0 1 (.map (some w.heap.size))).set0 2 (.int .i64 L)
      refine ⟨w.heap.size, ds, c3, L, G, ⟨a1.out, a2.out, a3.out, g1, by have := a6.out; have := hHl.out; omega, a6.out⟩, g4.sub ?_⟩
      exact (((List.Sublist.refl _).append (List.sublist_cons_self _ _)).cons_cons _).cons_cons _ |>.cons_cons _)
  clear h2 h3 a1 a2 a3 a4 a5 a6 hd hHl pm fin0
  go_wp2_with fail
  refine cc.out.mono ?_
  rintro e w' hcr
  obtain rfl := hcr.1
  obtain ⟨q1, q2, f1, f2, gl2, hfin⟩ := fin.out _ hcr
  replace hfin := Lib.hid hfin
  clear hcr fin cc c1 c2 k1 gl hmk
  generalize w.heap.size = nb at *
  go_wp2_with fail
  exact bodyPost_end (results_none rfl _ _ _) rfl ⟨rfl, hfin.out⟩
end
end Go.Proofs.Ytmmagapggmcceaa
