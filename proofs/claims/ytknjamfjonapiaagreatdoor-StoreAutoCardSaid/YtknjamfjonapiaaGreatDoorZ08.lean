import Derived.Test.YtknjamfjonapiaaGreatDoorZ07
namespace Go.Proofs.YtknjamfjonapiaaGreatDoor
open Go.RowKit
set_option linter.unusedVariables false
set_option linter.unusedSectionVars false
set_option linter.unusedSimpArgs false
set_option maxRecDepth 100000
section
open Go.ChangeMaps (setBlock)
theorem run_makeMapE (w : World) (k : Int) : (Instr.makeMap 255 (some (.int .i64 k))).run Tryz.prog w = .ok (.map (some w.heap.size)) (w.alloc (.map #[] 0)) := by
 simp [Instr.makeMap, run_underlying uMapE, asInt, asIntOf]
section
variable {B : Nat} {w0 w : World} {F : List (Nat × Obj)} {db sb r : Nat} {es : List (MapRow Int)} {clk : Nat} {H : List Ent}
def Copied (B : Nat) (w0 : World) (db sb r : Nat) (es : List (MapRow Int)) (clk : Nat) (F : List (Nat × Obj)) (done laid : List (MapRow Int)) (w' : World) : Prop :=
 IterAt w' sb r encI es clk done ∧ ∃ seen ds c2, ds.map (fun x => (x.1, x.2.1)) = laid.map (fun x => (x.1, x.2.1)) ∧ Born ds c2 ∧
  St B w0 w' ((db, .map (entsE encI ds) c2) :: (sb, .map (entsE encI es) clk) :: (r, .mapIter (some sb) clk seen clk) :: F)
theorem Copied.grow {done laid : List (MapRow Int)} {w' : World} (h : Copied B w0 db sb r es clk F done laid w) (hb : Below w.heap.size w w') : Copied B w0 db sb r es clk F done laid w' := by
 obtain ⟨hI, seen, ds, c2, h1, h2, h3⟩ := h
 exact ⟨hI.kept (hb.block _ (h3.lt (b := sb) (o := .map (entsE encI es) clk) (by simp))) (hb.block _ (h3.lt (b := r) (o := .mapIter (some sb) clk seen clk) (by simp))), seen, ds, c2, h1, h2, h3.grow hb⟩
theorem Copied.next {done : List (MapRow Int)} (h : Copied B w0 db sb r es clk F done done w) (hB : Born es clk) (hn : es.Nodup) (ty : TypeId) :
  (done.Perm es ∧ (Instr.next (.pointer (some ⟨r, 0, none⟩)) false ty).run Tryz.prog w = .ok (.tuple #[.bool false]) w) ∨
  ∃ e w', e ∈ es ∧ e ∉ done ∧ (Instr.next (.pointer (some ⟨r, 0, none⟩)) false ty).run Tryz.prog w = .ok (.tuple #[.bool true, encI e.1, e.2.1]) w' ∧ (Instr.entry (.pointer (some ⟨r, 0, none⟩))).run Tryz.prog w' = .ok (.tuple #[encI e.1, e.2.1]) w' ∧
   Copied B w0 db sb r es clk F (done ++ [e]) done w' := by
 obtain ⟨hI, seen, ds, c2, h1, h2, h3⟩ := h
 rcases hI.next (P := Tryz.prog) hB hn ty with ⟨hp, hr⟩ | ⟨e, he, hd, w', hr, hI', hk, hs, ho, ht, hu, hen⟩
 ·exact .inl ⟨hp, hr⟩
 ·obtain ⟨-, seen', hs', -⟩ := id hI'
  have pm : ∀ x : Obj, ((db, Obj.map (entsE encI ds) c2) :: (sb, .map (entsE encI es) clk) :: (r, x) :: F).Perm ([(db, Obj.map (entsE encI ds) c2), (sb, .map (entsE encI es) clk)] ++ (r, x) :: F) := fun x => List.Perm.refl _
  have h4 := ((h3.perm (pm _)).write hs' hk hs ho ht hu).perm (pm _).symm
  exact .inr ⟨e, w', he, hd, hr, hen, hI', seen', ds, c2, h1, h2, h4⟩
theorem Copied.laid {done : List (MapRow Int)} {e : MapRow Int} (h : Copied B w0 db sb r es clk F (done ++ [e]) done w) (hk : (es.map (·.1)).Nodup) (he : e ∈ es) (hd : e ∉ done) :
  ∃ w', (Instr.mapUpdate 255 (.map (some db)) (.int .i64 e.1) e.2.1).run Tryz.prog w = .ok () w' ∧ Copied B w0 db sb r es clk F (done ++ [e]) (done ++ [e]) w' := by
 obtain ⟨hI, seen, ds, c2, h1, h2, h3⟩ := h
 have hks : ds.map (·.1) = done.map (·.1) := by
  have := congrArg (List.map (·.1)) h1
  simpa [Function.comp_def] using this
 have hnk : e.1 ∉ ds.map (·.1) := by
  rw [hks]
  intro hm
  obtain ⟨x, hx, e1⟩ := List.mem_map.1 hm
  have hxe := hI.2.choose_spec.2.2.1 x (by simp [hx])
  have := (seek_some hk he).symm.trans (e1 ▸ seek_some hk hxe)
  rw [Option.some.inj this] at hd
  exact hd hx
 have hg := h3.get (b := db) List.mem_cons_self
 have h4 := h3.block0 (o' := .map (entsE encI (ds ++ [(e.1, e.2.1, c2)])) (c2 + 1))
 refine ⟨_, run_mapE_new keyI uMapE hg (k := e.1) trivial (fun _ _ => trivial) e.2.1 (seek_none.2 hnk), hI.kept ?_ ?_, seen, _, _, ?_, ?_, h4⟩
 ·exact (h4.get (b := sb) (o := .map (entsE encI es) clk) (by simp)).trans hI.1.symm
 ·exact (h4.get (b := r) (o := .mapIter (some sb) clk seen clk) (by simp)).trans (h3.get (b := r) (by simp)).symm
 ·rw [List.map_append, List.map_append, h1]
  rfl
 ·refine ⟨?_, ?_⟩
  ·rw [List.map_append, List.nodup_append]
   refine ⟨h2.1, by simp, ?_⟩
   rintro a ha b hb rfl
   simp only [List.map_cons, List.map_nil, List.mem_singleton] at hb
   subst hb
   obtain ⟨x, hx, e1⟩ := List.mem_map.1 ha
   have := h2.2 x hx
   omega
  ·intro x hx
   rcases List.mem_append.1 hx with hx | hx
   ·have := h2.2 x hx
    omega
   ·rw [List.mem_singleton] at hx
    subst hx
    exact Nat.lt_succ_self _
def CopyR (B : Nat) (w0 : World) (db sb : Nat) (es : List (MapRow Int)) (clk : Nat) (F : List (Nat × Obj)) (H : List Ent) (e : Ending) (w' : World) : Prop :=
 e = .returned (.tuple #[]) ∧ ∃ ds c2, HeldOf ds c2 H ∧ St B w0 w' ((db, .map (entsE encI ds) c2) :: (sb, .map (entsE encI es) clk) :: F)
set_option maxHeartbeats 1000000 in
theorem copyE_any (hst : St B w0 w ((db, .map (entsE encI []) 0) :: (sb, .map (entsE encI es) clk) :: F)) (ho : HeldOf es clk H) :
  Calls Tryz.prog 251 #[.map (some db), .map (some sb)] w (CopyR B w0 db sb es clk F H) := by
 have hg := hst.get (b := sb) (List.mem_cons_of_mem _ List.mem_cons_self)
 have hrg := run_range_map (P := Tryz.prog) w 255 _ _ sb _ _ uMapE hg
 have hs4 := (hst.alloc (.mapIter (some sb) clk #[] clk)).perm ((List.Perm.swap _ _ _).trans ((List.Perm.swap _ _ _).cons _))
 have start : Hid (Copied B w0 db sb w.heap.size es clk F [] [] (w.alloc (.mapIter (some sb) clk #[] clk))) := Lib.hid ⟨⟨hs4.get (b := sb) (by simp), #[], hs4.get (b := w.heap.size) (by simp), by simp, by simp, by simp⟩, #[], [], 0, rfl, ⟨by simp, by simp⟩, hs4⟩
 have hob := Lib.hid ho.born
 have hkn := Lib.hid ho.keys
 have hnd : Hid es.Nodup := Lib.hid (List.Pairwise.of_map (S := fun a b => a ≠ b) _ (fun a b h e => h (by rw [e])) ho.keys)
 have hva : Hid (∀ e ∈ es, ∃ x : Ent, e.2.1 = enV x) := Lib.hid fun e he => by
  have h1 := ho.rows.mem_iff.1 (List.mem_map_of_mem (f := fun x : MapRow Int => (x.1, x.2.1)) he)
  obtain ⟨x, -, e1⟩ := List.mem_map.1 h1
  simp only [Prod.mk.injEq] at e1
  exact ⟨x, e1.2.symm⟩
 have fin : Hid (∀ done w', Copied B w0 db sb w.heap.size es clk F done done w' → done.Perm es → CopyR B w0 db sb es clk F H (.returned (.tuple #[])) w') := Lib.hid (by
  rintro done w' ⟨-, seen, ds, c2, g1, g2, g3⟩ hp
  refine ⟨rfl, ds, c2, ⟨?_, g2, ho.ids⟩, g3.sub ?_⟩
  ·rw [g1]
   exact (hp.map _).trans ho.rows
  ·exact ((List.sublist_cons_self _ _).cons_cons _).cons_cons _)
 clear hst hg hs4 ho
 generalize w.heap.size = r at *
 generalize w.alloc (.mapIter (some sb) clk #[] clk) = W4 at *
 go_enter Tryz.func251, Tryz.ntmps251
 go_wp2_with fail
 go_loopg [4] es.length (fun g v4 wr => ∃ done, done.length + g = es.length ∧ Hid (Copied B w0 db sb r es clk F done done wr))
 case atStart => exact ⟨[], by simp, start⟩
 case round =>
  obtain ⟨done, hg, hM⟩ := hrel
  rcases hM.out.next hob.out hnd.out 0 with ⟨hp, hnx⟩ | ⟨e, w', he, hd, hnx, hen, hM2⟩
  ·have fin := Lib.hid (fin.out _ _ hM.out hp)
   go_wp2_with fail
   exact bodyPost_end (results_none rfl _ _ _) rfl fin.out
  ·obtain ⟨x, hev⟩ := hva.out e he
   have hle : done.length + 1 ≤ es.length := by
    have := nodup_len (l := done ++ [e]) (m := es) (hM2.1.2.choose_spec.2.1) hM2.1.2.choose_spec.2.2.1
    simpa using this
   have hM3 := hM2.grow (new_below w' (enO x))
   obtain ⟨w5, hup, hM4⟩ := hM3.laid hkn.out he hd
   replace hM4 := Lib.hid hM4
   rw [hev] at hnx hen hup
   clear hM hM2 hM3 hd he fin start hev
   go_wp2_with fail
   go_roundg (es.length - (done.length + 1))
   case measure => omega
   case rel => exact ⟨done ++ [e], by rw [List.length_append, List.length_singleton]; omega, hM4⟩
end
section
variable {B : Nat} {w0 w : World} {rk q rb i : Nat} {rbs : List Nat} {R : List (List Int)} {H : List Ent} {F : List (Nat × Obj)} {l : List Int} {e : Ent}
set_option maxHeartbeats 1000000 in
theorem giveRk_any (h : RkAt B w0 w rk q rbs R H F) : Calls Tryz.prog 210 #[rptr rk] w fun e w' => e = .returned (.tuple #[]) ∧ RkAt B w0 w' rk q rbs R H F := by
 obtain ⟨mb, es, clk, most, G, ⟨a1, a2, a3, a4, a5, a6⟩, h2⟩ := id h
 have c1 : w.cell? ⟨rk, 1, none⟩ = some (.map (some mb)) := h2.cell (b := rk) List.mem_cons_self rfl
 have c2 : w.cell? ⟨rk, 2, none⟩ = some (.int .i64 most) := h2.cell (b := rk) List.mem_cons_self rfl
 have gl := fun ty n => run_lenE (P := Tryz.prog) (ty := ty) uMapE ((h2.drewN n).get (b := mb) (List.mem_cons_of_mem _ (List.mem_cons_of_mem _ List.mem_cons_self)))
 obtain ⟨L, hL⟩ : ∃ L, L = es.length := ⟨_, rfl⟩
 obtain ⟨d, hd⟩ : ∃ d, d = most / 4 := ⟨_, rfl⟩
 rw [← hL] at gl
 have hHl : H.length = L := by rw [hL, a4.len]
 replace h := Lib.hid h
 replace hL := Lib.hid hL
 by_cases h8 : (most : Int) ≤ 8
 ·clear h2 a1 a2 a3 a4 a5 a6 hd hHl
  have hdr := Lib.hid (fun n => h.out.grow (drewN_below _ n))
  go_enter Tryz.func210, Tryz.ntmps210
  go_wp2_with fail
  go_quiet (fail)
  go_wp2_with fail
  exact bodyPost_ret (results_none rfl _ _ _) rfl ⟨rfl, hdr.out _⟩
 have hq0 : (0 : Int) ≤ most := by omega
 have hq1 : (most : Int) ≤ 100000 := by omega
 have hd1 : (most : Int) / 4 = d := by omega
 have hd3 : (most : Int).tdiv 4 = d := by rw [Int.tdiv_eq_ediv_of_nonneg (by omega)]; omega
 have hd2 : IntKind.i64.wrap (d : Int) = d := IntWalk.i64_in _ (by omega)
 have hd0 : (0 : Int) ≤ d := by omega
 have hd4 : (d : Int) ≤ 100000 := by omega
 by_cases hc : (d : Int) < L
 ·clear h2 a1 a2 a3 a4 a5 a6 hd hHl
  have hdr := Lib.hid (fun n => h.out.grow (drewN_below _ n))
  go_enter Tryz.func210, Tryz.ntmps210
  go_wp2_with fail
  go_quiet (fail)
  go_wp2_with fail
  exact bodyPost_ret (results_none rfl _ _ _) rfl ⟨rfl, hdr.out _⟩
 have fin0 : Hid (∀ n, St B w0 (w.drewN n) ((rk, rackO q mb most) :: (q, rowsO rbs) :: (mb, .map (entsE encI es) clk) :: (ringsH rbs G ++ F))) := Lib.hid fun n => h2.drewN n
 clear h2 h
 replace a1 := Lib.hid a1
 replace a2 := Lib.hid a2
 replace a3 := Lib.hid a3
 replace a4 := Lib.hid a4
 replace a5 := Lib.hid a5
 replace a6 := Lib.hid a6
 replace hHl := Lib.hid hHl
 replace hd := Lib.hid hd
 go_enter Tryz.func210, Tryz.ntmps210
 go_wp2_with fail
 go_quiet (fail)
 go_upto_region 1 with fail
 have h2 := fin0.out nq
 generalize w.drewN nq = w at *
 have c1 : w.cell? ⟨rk, 1, none⟩ = some (.map (some mb)) := h2.cell (b := rk) List.mem_cons_self rfl
 have c2 : w.cell? ⟨rk, 2, none⟩ = some (.int .i64 most) := h2.cell (b := rk) List.mem_cons_self rfl
 have gl := fun ty => run_lenE (P := Tryz.prog) (ty := ty) uMapE (h2.get (b := mb) (List.mem_cons_of_mem _ (List.mem_cons_of_mem _ List.mem_cons_self)))
 rw [← hL.out] at gl
 have hmk := run_makeMapE w
 have pm : ∀ x y z u (X : List (Nat × Obj)), ((u :: x :: y :: z :: X) : List (Nat × Obj)).Perm (u :: z :: x :: y :: X) := fun x y z u X => by
  classical
  exact List.perm_iff_count.2 fun a => by simp only [List.count_cons]; omega
 have h3 := (h2.alloc (.map #[] 0)).perm (pm _ _ _ _ _)
 have cc := Lib.hid (copyE_any (es := es) (clk := clk) (H := H) h3 a4.out)
 have k1 : (w.alloc (.map #[] 0)).cell? ⟨rk, 1, none⟩ = some (.map (some mb)) := h3.cell (b := rk) (c := #[.slice (some ⟨q, 0, none⟩) 4 4, .map (some mb), .int .i64 most]) (T := 257) (fr := (0, 0)) (by simp) rfl
 have fin : Hid (∀ w', CopyR B w0 w.heap.size mb es clk ((rk, rackO q mb most) :: (q, rowsO rbs) :: (ringsH rbs G ++ F)) H (.returned (.tuple #[])) w' → w'.cell? ⟨rk, 1, none⟩ = some (.map (some mb)) ∧ w'.cell? ⟨rk, 2, none⟩ = some (.int .i64 most) ∧
   w'.frozen? ⟨rk, 1, none⟩ = false ∧ w'.frozen? ⟨rk, 2, none⟩ = false ∧ (∀ ty, (Builtin.len_ #[255] ty #[.map (some w.heap.size)]).run Tryz.prog w' = .ok (.int .i64 L) w') ∧
   RkAt B w0 ((w'.setCell ⟨rk, 1, none⟩ (.map (some w.heap.size))).setCell ⟨rk, 2, none⟩ (.int .i64 L)) rk q rbs R H F) := Lib.hid (by
  rintro w' ⟨-, ds, c3, g1, g2⟩
  have m : (rk, rackO q mb most) ∈ (w.heap.size, Obj.map (entsE encI ds) c3) :: (mb, .map (entsE encI es) clk) :: (rk, rackO q mb most) :: (q, rowsO rbs) :: (ringsH rbs G ++ F) := by simp
  refine ⟨g2.cell (b := rk) m rfl, g2.cell (b := rk) m rfl, g2.soft (b := rk) m 1, g2.soft (b := rk) m 2, fun ty => ?_, ?_⟩
  ·have := run_lenE (P := Tryz.prog) (ty := ty) uMapE (g2.get (b := w.heap.size) List.mem_cons_self)
   rw [g1.len, hHl.out] at this
   exact this
  ·have g3 := g2.perm (H' := (rk, rackO q mb most) :: (q, rowsO rbs) :: (w.heap.size, .map (entsE encI ds) c3) :: (ringsH rbs G ++ ((mb, .map (entsE encI es) clk) :: F))) (by
    classical
    exact List.perm_iff_count.2 fun a => by simp only [List.count_cons, List.count_append]; omega)
   have g4 := (g3.set0 1 (.map (some w.heap.size))).set0 2 (.int .i64 L)
   refine ⟨w.heap.size, ds, c3, L, G, ⟨a1.out, a2.out, a3.out, g1, by have := a6.out; have := hHl.out; omega, a6.out⟩, g4.sub ?_⟩
   exact (((List.Sublist.refl _).append (List.sublist_cons_self _ _)).cons_cons _).cons_cons _ |>.cons_cons _)
 clear h2 h3 a1 a2 a3 a4 a5 a6 hd hHl pm fin0
 go_wp2_with fail
 refine cc.out.mono ?_
 rintro e w' hcr
 obtain rfl := hcr.1
 obtain ⟨q1, q2, f1, f2, gl2, hfin⟩ := fin.out _ hcr
 replace hfin := Lib.hid hfin
 clear hcr fin cc c1 c2 k1 gl hmk
 generalize w.heap.size = nb at *
 go_wp2_with fail
 exact bodyPost_end (results_none rfl _ _ _) rfl ⟨rfl, hfin.out⟩
end
end
section
open Go.ChangeMaps (setBlock)
theorem ret_entry2 {P : Program} {fn : Func} {a c d : Nat} {b : Bool} {tmps : Array Value} {w : World} {e : Ent} (hr : fn.results = #[.cell a 51, .tmp c]) (h2 : tmps[a]? = some (.pointer (some ⟨d, 0, none⟩))) (h3 : tmps[c]? = some (.bool b)) (q : EnAt w d e) (hP : P = Tryz.prog) :
  (results fn tmps).run P w = .ok (.tuple #[enV e, .bool b]) w := by
 subst hP
 obtain ⟨q0, q1, q2, q3, q4, q5, q6, q7, q8, q9⟩ := q
 simp [results, hr, go_sem, h2, h3, q0, q1, q2, q3, q4, q5, q6, q7, q8, q9]
theorem Below.enPut {B b : Nat} {a w : World} {e : Ent} (h : Below B a w) (hb : B ≤ b) : Below B a (enPut w b e) :=
 (Below.setCell (Below.setCell (Below.setCell (Below.setCell (Below.setCell (Below.setCell (Below.setCell (Below.setCell (Below.setCell (Below.setCell h (p := ⟨b, 0, none⟩) hb (.int .i64 e.id)) (p := ⟨b, 1, none⟩) hb (.int .i64 e.body)) (p := ⟨b, 2, none⟩) hb (.int .i64 e.size)) (p := ⟨b, 3, none⟩) hb (tx e.exch)) (p := ⟨b, 4, none⟩) hb (tx e.key)) (p := ⟨b, 5, none⟩) hb (.int .i64 e.prio)) (p := ⟨b, 6, none⟩) hb (.int .i64 e.ttl)) (p := ⟨b, 7, none⟩) hb (.int .i64 e.til)) (p := ⟨b, 8, none⟩) hb (.bool e.again)) (p := ⟨b, 9, none⟩) hb (.int .i64 e.hops))
structure Ahd (R : List (List Int)) (at_ step : Int) (X : List (List Int)) : Prop where
 way : step = 1 ∧ at_ + X.length = 4 ∧ 0 ≤ at_ ∧ X = R.drop at_.toNat ∨ step = -1 ∧ at_ + 1 = X.length ∧ X = (R.take X.length).reverse
 len : R.length = 4
theorem Ahd.none {R : List (List Int)} {a s : Int} (h : Ahd R a s []) : (s = 1 ∧ a = 4) ∨ (s = -1 ∧ a = -1) := by
 rcases h.way with ⟨h1, h2, -⟩ | ⟨h1, h2, -⟩ <;> simp at h2 <;> omega
theorem Ahd.some {R : List (List Int)} {a s : Int} {l : List Int} {X : List (List Int)} (h : Ahd R a s (l :: X)) : (s = 1 ∨ s = -1) ∧ ∃ i : Nat, a = i ∧ i < 4 ∧ R[i]? = some l ∧ Ahd R (a + s) s X := by
 have hlen := h.len
 rcases h.way with ⟨h1, h2, h3, h4⟩ | ⟨h1, h2, h4⟩
 ·refine ⟨.inl h1, a.toNat, by omega, ?_, ?_, .inl ⟨h1, ?_, by omega, ?_⟩, hlen⟩
  ·rw [List.length_cons] at h2; omega
  ·have := congrArg List.head? h4
   rw [List.head?_cons, List.head?_drop] at this
   exact this.symm
  ·rw [List.length_cons] at h2; omega
  ·have := congrArg List.tail h4
   rw [List.tail_cons, List.tail_drop] at this
   rw [this]
   congr 1
   omega
 ·rw [List.length_cons] at h2 h4
  have hX : X.length < 4 := by
   have := congrArg List.length h4
   rw [List.length_reverse, List.length_take, List.length_cons] at this
   omega
  have e := congrArg List.reverse h4
  rw [List.reverse_reverse, List.reverse_cons] at e
  have hx : R[X.length]? = Option.some l := by
   have e2 := congrArg (fun z => z[X.length]?) e
   rw [List.getElem?_append_right (by rw [List.length_reverse]; omega), List.length_reverse, Nat.sub_self, List.getElem?_take] at e2
   rw [if_pos (by omega)] at e2
   exact e2.symm
  refine ⟨.inr h1, X.length, by omega, hX, hx, .inr ⟨h1, by omega, ?_⟩, hlen⟩
  rw [List.take_add_one, hx] at e
  have := (List.append_inj' e rfl).1
  rw [← this, List.reverse_reverse]
section
variable {B : Nat} {w0 w : World} {rk q rb i : Nat} {rbs : List Nat} {R : List (List Int)} {H : List Ent} {F : List (Nat × Obj)} {l : List Int} {e : Ent}
def HeadR (H : List Ent) (k : Option Int) (w : World) (r : Ending) (w' : World) : Prop := (∃ (x : Ent) (b : Bool), r = .returned (.tuple #[enV x, .bool b]) ∧ match k with
 | none => x = z0E ∧ b = false
 | some k => x ∈ H ∧ x.id = k ∧ b = true) ∧ Below w.heap.size w w'
def HeadJ (B : Nat) (w0 w : World) (rk q : Nat) (rbs : List Nat) (R : List (List Int)) (H : List Ent) (F : List (Nat × Obj)) (s : Int) (k : Option Int) (g : Nat) (a' : Act) (w' : World) : Prop :=
 ∃ (at_ : Int) (X : List (List Int)), X.length = g ∧ Ahd R at_ s X ∧ lookR X = k ∧ Fr 43 [(0, rptr rk), (1, .int .i64 at_), (2, .int .i64 s), (6, .pointer (some ⟨w.heap.size, 0, none⟩))] a' ∧ RkAt B w0 w' rk q rbs R H ((w.heap.size, enO z0E) :: F) ∧ Below w.heap.size w w'
set_option maxHeartbeats 2000000 in
theorem head_any (h : RkAt B w0 w rk q rbs R H F) (hm : ∀ l ∈ R, ∀ k ∈ l, ∃ x ∈ H, x.id = k) {at_ s : Int} {X : List (List Int)} (ha : Ahd R at_ s X) :
  Calls Tryz.prog 256 #[rptr rk, .int .i64 at_, .int .i64 s] w (HeadR H (lookR X) w) := by
 have h1 : RkAt B w0 (w.alloc (enO z0E)) rk q rbs R H ((w.heap.size, enO z0E) :: F) := by
  obtain ⟨S, s1, s2⟩ := h.beside
  exact s2 _ _ ((s1.alloc (enO z0E)).perm List.perm_middle.symm)
 have hn0 := Lib.hid (new_below w (enO z0E))
 have ca : Hid (∀ w' (i rb : Nat) l, RkAt B w0 w' rk q rbs R H ((w.heap.size, enO z0E) :: F) → rbs[i]? = some rb → R[i]? = some l → Calls Tryz.prog 279 #[rptr rb, .int .i64 0] w' fun e w'' => e = .returned (atR l 0) ∧ ∃ n, w'' = w'.drewN n) := Lib.hid fun w' i rb l h hb hl => by
  obtain ⟨Z, r1, -⟩ := h.ring hb hl
  exact ring_at r1 0
 obtain ⟨k, hk⟩ : ∃ k, k = lookR X := ⟨_, rfl⟩
 rw [← hk]
 replace hm := Lib.hid hm
 replace h1 := Lib.hid h1
 replace hk := Lib.hid hk
 have h4 := Lib.hid h.len
 clear h
 go_enter Tryz.func256, Tryz.ntmps256
 go_wp2_with fail
 refine wp_scope_ghost 0 (HeadJ B w0 w rk q rbs R H F s k) rfl ?_ ?_
 ·clear ha h1 hn0 hk
  rintro g a' wr ⟨a, X, hX, ha, hk, hfr, hR, hbl⟩
  obtain ⟨fr, rfl, hl'⟩ := hfr.lit
  clear hfr
  simp only [List.mem_cons, List.not_mem_nil, or_false, forall_eq_or_imp, forall_eq] at hl'
  obtain ⟨f0, f1, f2, f6⟩ := hl'
  simp only [List.range, List.range.loop, List.map, f0, f1, f2, f6]
  clear f0 f1 f2 f6
  have c0 := hR.c0
  have hst : ∃ S, St B w0 wr (S ++ (w.heap.size, enO z0E) :: F) := by
   obtain ⟨S, s1, -⟩ := hR.beside
   exact ⟨S, s1⟩
  obtain ⟨S, hst⟩ := hst
  have hst1 := hst.perm (List.perm_middle (a := (w.heap.size, enO z0E)))
  match X, hX, ha, hk with
  | [], hX, ha, hk =>
   simp only [lookR] at hk
   subst hk
   obtain ⟨z0, z1, z2, z3, z4, z5, z6, z7, z8, z9⟩ := hst1.enAt List.mem_cons_self
   have zs := fun i => hst1.soft (b := w.heap.size) List.mem_cons_self i
   have fin := hst1.enPut (e := z0E)
   have finE := Lib.hid (fin.enAt List.mem_cons_self)
   have finB : Hid (Below w.heap.size w (enPut wr w.heap.size z0E)) := Lib.hid (Below.enPut hbl (Nat.le_refl _))
   clear hst hst1 fin hR hbl ca hX
   rcases ha.none with ⟨rfl, rfl⟩ | ⟨rfl, rfl⟩
   ·clear ha
    go_wp2_with fail
    simp only [Exit.jump]
    exact bodyPost_ret (ret_entry2 rfl rfl rfl finE.out rfl) rfl ⟨⟨_, _, rfl, rfl, rfl⟩, finB.out⟩
   ·clear ha
    go_wp2_with fail
    simp only [Exit.jump]
    exact bodyPost_ret (ret_entry2 rfl rfl rfl finE.out rfl) rfl ⟨⟨_, _, rfl, rfl, rfl⟩, finB.out⟩
  | l :: X, hX, ha, hk =>
   obtain ⟨hs, i, rfl, hi, hl, hnx⟩ := ha.some
   obtain ⟨rb, hb⟩ : ∃ rb, rbs[i]? = some rb := ⟨rbs[i]'(by have := h4.out; omega), List.getElem?_eq_getElem _⟩
   have c1 := hR.at_ hb
   have cat := ca.out wr i rb l hR hb hl
   have i0 : (0 : Int) ≤ i := by omega
   have i1 : (i : Int) < 4 := by omega
   cases l with
   | nil =>
    have e0 : atR [] 0 = .tuple #[.int .i64 0, .bool false] := rfl
    rw [e0] at cat
    replace cat := Lib.hid cat
    have s0 : -(1 : Int) ≤ s := by omega
    have s1 : s ≤ (1 : Int) := by omega
    have fin : Hid (∀ n a', Fr 43 [(0, rptr rk), (1, .int .i64 ((i : Int) + s)), (2, .int .i64 s), (6, .pointer (some ⟨w.heap.size, 0, none⟩))] a' → ∃ m, m < g ∧ HeadJ B w0 w rk q rbs R H F s k m a' (wr.drewN n)) := Lib.hid fun n a' hf =>
     ⟨X.length, by rw [List.length_cons] at hX; omega, _, X, rfl, hnx, hk, hf, hR.grow (drewN_below _ n), bel hbl (drewN_below _ n)⟩
    clear hst hst1 hR hbl ca hnx hX hk ha hl hb hm
    go_wp2_with fail
    refine cat.out.mono ?_
    rintro e w2 ⟨rfl, n, rfl⟩
    go_wp2_with fail
    refine wp_goto ?_
    exact ⟨rfl, fin.out n _ ⟨rfl, rfl, by simp⟩⟩
   | cons k0 l =>
    simp only [lookR] at hk
    subst hk
    have e0 : atR (k0 :: l) 0 = .tuple #[.int .i64 k0, .bool true] := rfl
    rw [e0] at cat
    replace cat := Lib.hid cat
    obtain ⟨x, hx, rfl⟩ := hm.out _ (List.mem_of_getElem? hl) k0 List.mem_cons_self
    obtain ⟨mb, -, hlook⟩ := hR.look
    have fin : Hid (∀ n, (wr.drewN n).cell? ⟨rk, 1, none⟩ = some (.map (some mb)) ∧ (Instr.lookup 255 (.map (some mb)) (.int .i64 x.id) false).run Tryz.prog (wr.drewN n) = .ok (enV x) (wr.drewN n) ∧
      EnAt (wr.drewN n) w.heap.size z0E ∧ (∀ i, (wr.drewN n).frozen? ⟨w.heap.size, i, none⟩ = false) ∧ EnAt (enPut (wr.drewN n) w.heap.size x) w.heap.size x ∧ Below w.heap.size w (enPut (wr.drewN n) w.heap.size x)) := Lib.hid fun n => by
     have hl := hlook _ (drewN_below wr n)
     have hbn := bel hbl (drewN_below wr n)
     have h9 := hst1.drewN n
     refine ⟨hl.c1, hl.hit x hx false, h9.enAt List.mem_cons_self, fun i => h9.soft (b := w.heap.size) List.mem_cons_self i, (h9.enPut (e := x)).enAt List.mem_cons_self, Below.enPut hbn (Nat.le_refl _)⟩
    replace hx := Lib.hid hx
    clear hst hst1 hR hbl ca hnx hX ha hl hb hm hlook hs
    go_wp2_with fail
    refine cat.out.mono ?_
    rintro e w2 ⟨rfl, n, rfl⟩
    obtain ⟨q1, q2, ⟨z0, z1, z2, z3, z4, z5, z6, z7, z8, z9⟩, zs, finE, finB⟩ := fin.out n
    replace finE := Lib.hid finE
    replace finB := Lib.hid finB
    clear fin cat c0 c1
    generalize wr.drewN n = V at *
    go_wp2_with fail
    simp only [Exit.jump]
    exact bodyPost_ret (ret_entry2 rfl rfl rfl finE.out rfl) rfl ⟨⟨_, _, rfl, hx.out, rfl, rfl⟩, finB.out⟩
 ·intro HJ
  go_wp2_with fail
  refine wp_label ?_
  go_step
  go_step
  exact HJ X.length _ _ ⟨at_, X, rfl, ha, hk.out.symm, ⟨rfl, rfl, by simp⟩, h1.out, hn0.out⟩
end
end
section
open Go.ChangeMaps (setBlock)
abbrev rack0 : Obj := .cells #[.slice none 0 0, .map none, .int .i64 0] 257
def RackIs (B : Nat) (w0 w : World) (rk : Nat) (M : List Ent) (F : List (Nat × Obj)) : Prop := RkOk M ∧ ((M = [] ∧ St B w0 w ((rk, rack0) :: F)) ∨ ∃ q rbs, RkAt B w0 w rk q rbs (rowsM M) M F)
section
variable {B : Nat} {w0 w w' : World} {rk : Nat} {M : List Ent} {F F' : List (Nat × Obj)} {e : Ent}
theorem RackIs.ok (h : RackIs B w0 w rk M F) : RkOk M := h.1
theorem RackIs.beside (h : RackIs B w0 w rk M F) : ∃ S, St B w0 w (S ++ F) ∧ ∀ w' F', St B w0 w' (S ++ F') → RackIs B w0 w' rk M F' := by
 obtain ⟨h1, ⟨h2, h3⟩ | ⟨q, rbs, h2⟩⟩ := h
 ·exact ⟨[(rk, rack0)], h3, fun w' F' h' => ⟨h1, .inl ⟨h2, h'⟩⟩⟩
 ·obtain ⟨S, s1, s2⟩ := h2.beside
  exact ⟨S, s1, fun w' F' h' => ⟨h1, .inr ⟨q, rbs, s2 _ _ h'⟩⟩⟩
theorem RackIs.grow (h : RackIs B w0 w rk M F) (hb : Below w.heap.size w w') : RackIs B w0 w' rk M F := by
 obtain ⟨S, h1, h2⟩ := h.beside
 exact h2 _ _ (h1.grow hb)
theorem RackIs.sub (h : RackIs B w0 w rk M F) (hs : F'.Sublist F) : RackIs B w0 w rk M F' := by
 obtain ⟨S, h1, h2⟩ := h.beside
 exact h2 _ _ (h1.sub ((List.Sublist.refl S).append hs))
theorem RackIs.permF (h : RackIs B w0 w rk M F) (hp : F.Perm F') : RackIs B w0 w rk M F' := by
 obtain ⟨S, h1, h2⟩ := h.beside
 exact h2 _ _ (h1.perm (hp.append_left S))
theorem RackIs.alloc (h : RackIs B w0 w rk M F) (o : Obj) : RackIs B w0 (w.alloc o) rk M ((w.heap.size, o) :: F) := by
 obtain ⟨S, h1, h2⟩ := h.beside
 exact h2 _ _ ((h1.alloc o).perm List.perm_middle.symm)
theorem RackIs.below (h : RackIs B w0 w rk M F) : Below B w0 w := by
 obtain ⟨S, h1, -⟩ := h.beside
 exact h1.below
theorem RackIs.st (h : RackIs B w0 w rk M F) : ∃ S, St B w0 w (S ++ F) := by
 obtain ⟨S, h1, -⟩ := h.beside
 exact ⟨S, h1⟩
theorem RkAt.alloc {q : Nat} {rbs : List Nat} {R : List (List Int)} {H : List Ent} (h : RkAt B w0 w rk q rbs R H F) (o : Obj) : RkAt B w0 (w.alloc o) rk q rbs R H ((w.heap.size, o) :: F) := by
 obtain ⟨S, h1, h2⟩ := h.beside
 exact h2 _ _ ((h1.alloc o).perm List.perm_middle.symm)
theorem rows_in (M : List Ent) : ∀ l ∈ rowsM M, ∀ k ∈ l, ∃ x ∈ M, x.id = k := by
 intro l hl k hk
 simp only [rowsM, List.mem_cons, List.not_mem_nil, or_false] at hl
 rcases hl with rfl | rfl | rfl | rfl <;>
 ·obtain ⟨x, hx, e⟩ := List.mem_map.1 hk
  exact ⟨x, (mem_entP.1 hx).1, e⟩
set_option maxHeartbeats 400000 in
theorem rk_new (h : St B w0 w F) : Calls Tryz.prog 190 #[] w fun e w' => e = .returned (rptr w.heap.size) ∧ RackIs B w0 w' w.heap.size [] F := by
 have h1 : RackIs B w0 (w.alloc rack0) w.heap.size [] F := ⟨RkOk.nil, .inl ⟨rfl, h.alloc _⟩⟩
 replace h1 := Lib.hid h1
 clear h
 go_enter Tryz.func190, Tryz.ntmps190
 go_wp2_with fail
 go_ret
 exact ⟨rfl, h1.out⟩
theorem rk_len (h : RackIs B w0 w rk M F) : Calls Tryz.prog 131 #[rptr rk] w fun e w' => e = .returned (.int .i64 M.length) ∧ w' = w := by
 obtain ⟨h1, ⟨rfl, h3⟩ | ⟨q, rbs, h2⟩⟩ := h
 ·have c1 : w.cell? ⟨rk, 1, none⟩ = some (.map none) := h3.cell (b := rk) List.mem_cons_self rfl
  have gl := fun ty => run_lenE_nil (P := Tryz.prog) (w := w) (ty := ty) uMapE
  clear h3 h1
  go_enter Tryz.func131, Tryz.ntmps131
  go_wp2_with fail
  go_ret
  exact ⟨rfl, rfl⟩
 ·obtain ⟨mb, hl, -⟩ := h2.look
  have c1 := hl.c1
  have gl := hl.len
  clear h2 h1 hl
  generalize M.length = L at *
  go_enter Tryz.func131, Tryz.ntmps131
  go_wp2_with fail
  go_ret
  exact ⟨rfl, rfl⟩
set_option maxHeartbeats 2000000 in
theorem head_none (h : St B w0 w ((rk, rack0) :: F)) {a s : Int} (ha : a = 0 ∨ a = -1) : Calls Tryz.prog 256 #[rptr rk, .int .i64 a, .int .i64 s] w (HeadR [] none w) := by
 have h1 := (h.alloc (enO z0E)).perm (List.Perm.swap _ _ _)
 have c0 : (w.alloc (enO z0E)).cell? ⟨rk, 0, none⟩ = some (.slice none 0 0) := h1.cell (b := rk) List.mem_cons_self rfl
 have h2 := h.alloc (enO z0E)
 obtain ⟨z0, z1, z2, z3, z4, z5, z6, z7, z8, z9⟩ := h2.enAt List.mem_cons_self
 have zs := fun i => h2.soft (b := w.heap.size) List.mem_cons_self i
 have finE := Lib.hid (h2.enAt List.mem_cons_self)
 have finB := Lib.hid (new_below w (enO z0E))
 clear h h1 h2
 replace ha := Lib.hid ha
 go_enter Tryz.func256, Tryz.ntmps256
 go_wp2_with fail
 refine wp_scope_ghost 0 (fun g a' w' => g = 0 ∧ ∃ at_ : Int, (at_ = 0 ∨ at_ = -1) ∧ Fr 43 [(0, rptr rk), (1, .int .i64 at_), (2, .int .i64 s), (6, .pointer (some ⟨w.heap.size, 0, none⟩))] a' ∧ w' = w.alloc (enO z0E)) rfl ?_ ?_
 ·rintro g a' wr ⟨hg, at_, ha, hfr, rfl⟩
  obtain ⟨fr, rfl, hl'⟩ := hfr.lit
  clear hfr
  simp only [List.mem_cons, List.not_mem_nil, or_false, forall_eq_or_imp, forall_eq] at hl'
  obtain ⟨f0, f1, f2, f6⟩ := hl'
  simp only [List.range, List.range.loop, List.map, f0, f1, f2, f6]
  clear f0 f1 f2 f6
  rcases ha with rfl | rfl
  all_goals
   go_wp2_with fail
   simp only [Exit.jump]
   exact bodyPost_ret (ret_entry2 rfl rfl rfl finE.out rfl) rfl ⟨⟨_, _, rfl, rfl, rfl⟩, finB.out⟩
 ·intro HJ
  go_wp2_with fail
  refine wp_label ?_
  go_step
  go_step
  exact HJ 0 _ _ ⟨rfl, a, ha.out, ⟨rfl, rfl, by simp⟩, rfl⟩
def firstV (M : List Ent) : Value := match M with | [] => .tuple #[enV z0E, .bool false] | e :: _ => .tuple #[enV e, .bool true]
theorem Ahd.first (R : List (List Int)) (h : R.length = 4) : Ahd R 0 1 R := ⟨.inl ⟨rfl, by omega, by omega, by simp⟩, h⟩
theorem Ahd.last (R : List (List Int)) (h : R.length = 4) : Ahd R 3 (-1) R.reverse := ⟨.inr ⟨rfl, by rw [List.length_reverse]; omega, by rw [List.length_reverse, List.take_length]⟩, h⟩
theorem first_head (h : RackIs B w0 w rk M F) : Calls Tryz.prog 256 #[rptr rk, .int .i64 0, .int .i64 1] w fun r w' => (∃ (x : Ent) (b : Bool), r = .returned (.tuple #[enV x, .bool b]) ∧ firstV M = .tuple #[enV x, .bool b]) ∧ Below w.heap.size w w' := by
 obtain ⟨h1, ⟨rfl, h3⟩ | ⟨q, rbs, h2⟩⟩ := h
 ·refine (head_none h3 (a := 0) (s := 1) (.inl rfl)).mono ?_
  rintro r w' ⟨⟨x, b, rfl, rfl, rfl⟩, hb⟩
  exact ⟨⟨_, _, rfl, rfl⟩, hb⟩
 ·refine (head_any h2 (rows_in M) (Ahd.first (rowsM M) rfl)).mono ?_
  rw [look_first h1]
  rintro r w' ⟨⟨x, b, rfl, hx⟩, hb⟩
  refine ⟨⟨x, b, rfl, ?_⟩, hb⟩
  cases M with
  | nil =>
   obtain ⟨rfl, rfl⟩ := hx
   rfl
  | cons y M =>
   simp only [List.head?_cons, Option.map_some] at hx
   obtain ⟨h3, h4, rfl⟩ := hx
   rw [h1.inj h3 List.mem_cons_self h4]
   rfl
def WorstR (M : List Ent) (x : Ent) (b : Bool) : Prop := (M = [] ∧ x = z0E ∧ b = false) ∨ (IsWorst M x ∧ b = true)
theorem worst_head (h : RackIs B w0 w rk M F) : ∃ n : Nat, (∃ a, w.cell? ⟨rk, 0, none⟩ = some (.slice a n n) ∧ ∀ w', Below w.heap.size w w' → w'.cell? ⟨rk, 0, none⟩ = some (.slice a n n)) ∧ n ≤ 4 ∧ Calls Tryz.prog 256 #[rptr rk, .int .i64 ((n : Int) - 1), .int .i64 (-1)] w fun r w' => (∃ (x : Ent) (b : Bool), r = .returned (.tuple #[enV x, .bool b]) ∧ WorstR M x b) ∧ Below w.heap.size w w' := by
 obtain ⟨h1, ⟨rfl, h3⟩ | ⟨q, rbs, h2⟩⟩ := h
 ·have c0 : w.cell? ⟨rk, 0, none⟩ = some (.slice none 0 0) := h3.cell (b := rk) List.mem_cons_self rfl
  refine ⟨0, ⟨_, c0, fun w' hb => cellUp c0 hb⟩, by omega, (head_none h3 (a := ((0 : Nat) : Int) - 1) (s := -1) (.inr rfl)).mono ?_⟩
  rintro r w' ⟨⟨x, b, rfl, rfl, rfl⟩, hb⟩
  exact ⟨⟨_, _, rfl, .inl ⟨rfl, rfl, rfl⟩⟩, hb⟩
 ·refine ⟨4, ⟨_, h2.c0, fun w' hb => cellUp h2.c0 hb⟩, by omega, (head_any h2 (rows_in M) (at_ := ((4 : Nat) : Int) - 1) (s := -1) (X := (rowsM M).reverse) (by rw [show (((4 : Nat) : Int) - 1) = 3 from rfl]; exact Ahd.last (rowsM M) rfl)).mono ?_⟩
  have hw := look_worst h1
  generalize lookR (rowsM M).reverse = k at *
  rintro r w' ⟨⟨x, b, rfl, hx⟩, hb⟩
  refine ⟨⟨x, b, rfl, ?_⟩, hb⟩
  cases k with
  | none =>
   obtain ⟨rfl, rfl⟩ := hx
   exact .inl ⟨hw, rfl, rfl⟩
  | some k =>
   obtain ⟨h3, h4, rfl⟩ := hx
   obtain ⟨y, h5, h6⟩ := hw
   rw [← h1.inj h6.mem h3 (by omega)]
   exact .inr ⟨h6, rfl⟩
set_option maxHeartbeats 400000 in
theorem rk_first (h : RackIs B w0 w rk M F) : Calls Tryz.prog 212 #[rptr rk] w fun r w' => r = .returned (firstV M) ∧ Below w.heap.size w w' := by
 have h1 := (h.alloc (enO z0E))
 have c := Lib.hid (first_head h1)
 have fin : Hid (∀ (x : Ent) w', Below (w.alloc (enO z0E)).heap.size (w.alloc (enO z0E)) w' → EnAt w' w.heap.size z0E ∧ (∀ i, w'.frozen? ⟨w.heap.size, i, none⟩ = false) ∧ EnAt (enPut w' w.heap.size x) w.heap.size x ∧ Below w.heap.size w (enPut w' w.heap.size x)) := Lib.hid fun x w' hb => by
  obtain ⟨S, hs⟩ := (h1.grow hb).st
  have hs2 := hs.perm List.perm_middle
  exact ⟨hs2.enAt List.mem_cons_self, fun i => hs2.soft (b := w.heap.size) List.mem_cons_self i, (hs2.enPut (e := x)).enAt List.mem_cons_self, Below.enPut (bel (new_below _ _) hb) (Nat.le_refl _)⟩
 clear h h1
 go_enter Tryz.func212, Tryz.ntmps212
 go_wp2_with fail
 refine c.out.mono ?_
 rintro r w1 ⟨⟨x, b, rfl, hx⟩, hb⟩
 obtain ⟨⟨z0, z1, z2, z3, z4, z5, z6, z7, z8, z9⟩, zs, finE, finB⟩ := fin.out x w1 hb
 replace finE := Lib.hid finE
 replace finB := Lib.hid finB
 replace hx := Lib.hid hx
 clear fin hb c
 go_wp2_with fail
 exact bodyPost_ret (ret_entry2 rfl rfl rfl finE.out rfl) rfl ⟨by rw [hx.out], finB.out⟩
set_option maxHeartbeats 400000 in
theorem rk_worst (h : RackIs B w0 w rk M F) : Calls Tryz.prog 365 #[rptr rk] w fun r w' => (∃ (x : Ent) (b : Bool), r = .returned (.tuple #[enV x, .bool b]) ∧ WorstR M x b) ∧ Below w.heap.size w w' := by
 have h1 := (h.alloc (enO z0E))
 obtain ⟨n, ⟨a, c0, -⟩, hn, c⟩ := worst_head h1
 replace c := Lib.hid c
 have fin : Hid (∀ (x : Ent) w', Below (w.alloc (enO z0E)).heap.size (w.alloc (enO z0E)) w' → EnAt w' w.heap.size z0E ∧ (∀ i, w'.frozen? ⟨w.heap.size, i, none⟩ = false) ∧ EnAt (enPut w' w.heap.size x) w.heap.size x ∧ Below w.heap.size w (enPut w' w.heap.size x)) := Lib.hid fun x w' hb => by
  obtain ⟨S, hs⟩ := (h1.grow hb).st
  have hs2 := hs.perm List.perm_middle
  exact ⟨hs2.enAt List.mem_cons_self, fun i => hs2.soft (b := w.heap.size) List.mem_cons_self i, (hs2.enPut (e := x)).enAt List.mem_cons_self, Below.enPut (bel (new_below _ _) hb) (Nat.le_refl _)⟩
 have n0 : (0 : Int) ≤ n := by omega
 have n1 : (n : Int) ≤ 4 := by omega
 clear h h1
 go_enter Tryz.func365, Tryz.ntmps365
 go_wp2_with fail
 refine c.out.mono ?_
 rintro r w1 ⟨⟨x, b, rfl, hx⟩, hb⟩
 obtain ⟨⟨z0, z1, z2, z3, z4, z5, z6, z7, z8, z9⟩, zs, finE, finB⟩ := fin.out x w1 hb
 replace finE := Lib.hid finE
 replace finB := Lib.hid finB
 replace hx := Lib.hid hx
 clear fin hb c
 go_wp2_with fail
 exact bodyPost_ret (ret_entry2 rfl rfl rfl finE.out rfl) rfl ⟨⟨x, b, rfl, hx.out⟩, finB.out⟩
end
end
section
open Go.ChangeMaps (setBlock)
theorem row_no {p : Int} (h : 0 ≤ p ∧ p ≤ 3) : ∃ i : Nat, i < 4 ∧ p = 3 - (i : Int) := ⟨(3 - p).toNat, by omega, by omega⟩
theorem rows_get {M : List Ent} {i : Nat} (h : i < 4) : (rowsM M)[i]? = some (rowP M (3 - (i : Int))) := by
 rcases (by omega : i = 0 ∨ i = 1 ∨ i = 2 ∨ i = 3) with rfl | rfl | rfl | rfl <;> rfl
theorem rows_put {M : List Ent} (h : RkOk M) {e : Ent} (hn : ∀ x ∈ M, x.id ≠ e.id) {i : Nat} (hi : i < 4) (hp : e.prio = 3 - (i : Int)) : (rowsM M).set i (rkPutRow (rowP M e.prio) e.id) = rowsM (insM e M) := by
 unfold rowsM
 rw [ins_row h hn 3, ins_row h hn 2, ins_row h hn 1, ins_row h hn 0]
 rcases (by omega : i = 0 ∨ i = 1 ∨ i = 2 ∨ i = 3) with rfl | rfl | rfl | rfl
 ·have : e.prio = 3 := by simpa using hp
  simp [this]
 ·have : e.prio = 2 := by simpa using hp
  simp [this]
 ·have : e.prio = 1 := by simpa using hp
  simp [this]
 ·have : e.prio = 0 := by simpa using hp
  simp [this]
theorem rows_cut {M : List Ent} (h : RkOk M) {e : Ent} (he : e ∈ M) {i : Nat} (hi : i < 4) (hp : e.prio = 3 - (i : Int)) : (rowsM M).set i ((rowP M e.prio).eraseIdx (cntL (rowP M e.prio) e.id)) = rowsM (delM M e.id) := by
 unfold rowsM
 rw [del_rows h he 3, del_rows h he 2, del_rows h he 1, del_rows h he 0]
 rcases (by omega : i = 0 ∨ i = 1 ∨ i = 2 ∨ i = 3) with rfl | rfl | rfl | rfl
 ·have : e.prio = 3 := by simpa using hp
  simp [this]
 ·have : e.prio = 2 := by simpa using hp
  simp [this]
 ·have : e.prio = 1 := by simpa using hp
  simp [this]
 ·have : e.prio = 0 := by simpa using hp
  simp [this]
theorem row_le (M : List Ent) (p : Int) : (rowP M p).length ≤ M.length := by
 unfold rowP entP
 rw [List.length_map]
 exact List.length_filter_le _ _
theorem row_mem {M : List Ent} {p k : Int} (h : k ∈ rowP M p) : ∃ x ∈ M, x.id = k ∧ x.prio = p := by
 obtain ⟨x, hx, e⟩ := List.mem_map.1 h
 exact ⟨x, (mem_entP.1 hx).1, e, (mem_entP.1 hx).2⟩
section
variable {B : Nat} {w0 w w' : World} {rk q rb i : Nat} {rbs : List Nat} {R : List (List Int)} {H : List Ent} {F F' : List (Nat × Obj)} {l : List Int} {e : Ent}
theorem RkAt.row_at (h : RkAt B w0 w rk q rbs R H F) (hi : i < 4) : ∃ rb, rbs[i]? = some rb := ⟨rbs[i]'(by have := h.len; omega), List.getElem?_eq_getElem _⟩
theorem RkAt.most (h : RkAt B w0 w rk q rbs R H F) : ∃ m : Nat, m ≤ 100000 ∧ w.cell? ⟨rk, 2, none⟩ = some (.int .i64 m) ∧ ∀ n : Nat, n ≤ 100000 → RkAt B w0 (w.setCell ⟨rk, 2, none⟩ (.int .i64 n)) rk q rbs R H F := by
 obtain ⟨mb, es, clk, most, G, ⟨a1, a2, a3, a4, a5, a6⟩, h2⟩ := h
 exact ⟨most, a5, h2.cell (b := rk) List.mem_cons_self rfl, fun n hn => ⟨mb, es, clk, n, G, ⟨a1, a2, a3, a4, hn, a6⟩, h2.set0 2 (.int .i64 n)⟩⟩
theorem RkAt.put (h : RkAt B w0 w rk q rbs R H F) (he : e.id ∉ H.map (·.id)) (hl : H.length < 100000) : ∃ mb W, w.cell? ⟨rk, 1, none⟩ = some (.map (some mb)) ∧
  (∀ w', Below w.heap.size w w' → ∃ W, (Instr.mapUpdate 255 (.map (some mb)) (.int .i64 e.id) (enV e)).run Tryz.prog w' = .ok () W ∧ RkAt B w0 W rk q rbs R (e :: H) F) ∧ W = w := by
 obtain ⟨mb, es, clk, c1, hg, ho, hback⟩ := h.map
 refine ⟨mb, w, c1, fun w' hb => ?_, rfl⟩
 have h' := h.grow hb
 obtain ⟨mb', es', clk', c1', hg', ho', hback'⟩ := h'.map
 have e1 := (cellUp c1 hb).symm.trans c1'
 simp only [Option.some.injEq, Value.map.injEq] at e1
 subst e1
 exact ⟨_, run_mapE_new keyI uMapE hg' (k := e.id) trivial (fun _ _ => trivial) (enV e) (ho'.none he), hback' _ _ _ (ho'.put he) (by rw [List.length_cons]; omega)⟩
def rowsPart (rbs : List Nat) : Obj := .cells (rbs.map rptr ++ List.replicate (4 - rbs.length) (Value.pointer none)).toArray 260
theorem infRing : (Tryz.prog.info? 260).map (fun i => (i.zero, i.size, i.bytes)) = some (some (.pointer none), 1, 8) := by kernel_rfl
theorem uRings : Tryz.prog.underlying 254 = some (.slice 260) := by kernel_rfl
theorem mk_rings (w : World) : (Instr.makeSlice 254 (.int .i64 4) (.int .i64 4)).run Tryz.prog w = .ok (.slice (some ⟨w.heap.size, 0, none⟩) 4 4) (w.alloc (rowsPart [])) := by
 obtain ⟨i0, hi, hz0, hz1, hz2⟩ := info_parts infRing
 have h := run_make (P := Tryz.prog) w 254 260 i0 (.pointer none) uRings hi hz0 .i64 .i64 4 4 (by decide) (Int.le_refl _) (by rw [hz2]; omega) (by omega)
 rw [h]
 congr 2
 unfold rowsPart
 congr 1
 apply Array.toList_inj.1
 rw [hz1, Nat.mul_one, show (Value.pointer none).cells = #[Value.pointer none] from rfl, toList_madeCells_one]
 simp
def MadeJ (B : Nat) (w0 : World) (q : Nat) (F : List (Nat × Obj)) (g : Nat) (a' : Act) (w' : World) : Prop :=
 ∃ (rbs : List Nat) (G : List RG), rbs.length + g = 4 ∧ G.length = rbs.length ∧ (∀ x ∈ G, x.Wf ∧ x.row = []) ∧ Fr 15 [(1, .slice (some ⟨q, 0, none⟩) 4 4), (2, .int .i64 rbs.length)] a' ∧ St B w0 w' ((q, rowsPart rbs) :: (ringsH rbs G ++ F))
theorem rings_snoc : ∀ {bs : List Nat} {gs : List RG} {b : Nat} {g : RG}, gs.length = bs.length → (ringsH (bs ++ [b]) (gs ++ [g])).Perm ((b, g.obj) :: (g.cellsH ++ ringsH bs gs))
 | [], [], b, g, _ => List.Perm.refl _
 | c :: bs, f :: gs, b, g, h => by
  have ih := rings_snoc (bs := bs) (gs := gs) (b := b) (g := g) (by simpa using h)
  classical
  have h1 := List.perm_iff_count.1 ih
  refine List.perm_iff_count.2 fun a => ?_
  have h2 := h1 a
  simp only [List.cons_append, ringsH, List.count_append, List.count_cons] at h2 ⊢
  omega
 | [], _ :: _, b, g, h => by simp at h
 | _ :: _, [], b, g, h => by simp at h
set_option maxHeartbeats 1000000 in
theorem newRows_any (h : St B w0 w F) : Calls Tryz.prog 265 #[] w fun r w' => ∃ q rbs G, r = .returned (.slice (some ⟨q, 0, none⟩) 4 4) ∧ rbs.length = 4 ∧ (∀ x ∈ G, RG.Wf x) ∧ G.map RG.row = [[], [], [], []] ∧ St B w0 w' ((q, rowsO rbs) :: (ringsH rbs G ++ F)) := by
 have hmk := mk_rings w
 have h1 : St B w0 (w.alloc (rowsPart [])) ((w.heap.size, rowsPart []) :: (ringsH [] [] ++ F)) := h.alloc _
 replace h1 := Lib.hid h1
 clear h
 go_enter Tryz.func265, Tryz.ntmps265
 go_wp2_with fail
 refine wp_scope_ghost 0 (MadeJ B w0 w.heap.size F) rfl ?_ ?_
 ·rintro g a' wr ⟨rbs, G, hg, hG, hW, hfr, hst⟩
  generalize w.heap.size = q at *
  obtain ⟨fr, rfl, hl'⟩ := hfr.lit
  clear hfr h1 hmk
  simp only [List.mem_cons, List.not_mem_nil, or_false, forall_eq_or_imp, forall_eq] at hl'
  obtain ⟨f1, f2⟩ := hl'
  simp only [List.range, List.range.loop, List.map, f1, f2]
  clear f1 f2
  obtain ⟨n, hn⟩ : ∃ n, n = rbs.length := ⟨_, rfl⟩
  rw [← hn] at hg hG ⊢
  by_cases hlt : n < 4
  ·have cn := Lib.hid (ring_new hst)
   have n0 : (0 : Int) ≤ n := by omega
   have n1 : (n : Int) < 4 := by omega
   have fin : Hid (∀ w', RingIs B w0 w' wr.heap.size [] ((q, rowsPart rbs) :: (ringsH rbs G ++ F)) → w'.cell? ⟨q, n, none⟩ = some (.pointer none) ∧ w'.frozen? ⟨q, n, none⟩ = false ∧
     ∀ a', Fr 15 [(1, .slice (some ⟨q, 0, none⟩) 4 4), (2, .int .i64 ((n : Int) + 1))] a' → ∃ m, m < g ∧ MadeJ B w0 q F m a' (w'.setCell ⟨q, n, none⟩ (rptr wr.heap.size))) := by
    refine Lib.hid ?_
    rintro w' ⟨g0, wf0, r0, hR⟩
    have hR1 : St B w0 w' ((wr.heap.size, g0.obj) :: (g0.cellsH ++ ((q, rowsPart rbs) :: (ringsH rbs G ++ F)))) := hR
    have pm : ∀ o : Obj, ((wr.heap.size, g0.obj) :: (g0.cellsH ++ ((q, o) :: (ringsH rbs G ++ F)))).Perm ((q, o) :: (ringsH (rbs ++ [wr.heap.size]) (G ++ [g0]) ++ F)) := fun o => by
     classical
     have h1 := List.perm_iff_count.1 (rings_snoc (bs := rbs) (gs := G) (b := wr.heap.size) (g := g0) (by omega))
     refine List.perm_iff_count.2 fun a => ?_
     have h2 := h1 a
     simp only [List.count_append, List.count_cons] at h2 ⊢
     omega
    have hR2 := hR1.perm (pm _)
    have hset := hR2.set0 n (rptr wr.heap.size)
    have e1 : (rbs.map rptr ++ List.replicate (4 - rbs.length) (Value.pointer none)).toArray.setIfInBounds n (rptr wr.heap.size) = ((rbs ++ [wr.heap.size]).map rptr ++ List.replicate (4 - (rbs ++ [wr.heap.size]).length) (Value.pointer none)).toArray := by
     rw [List.setIfInBounds_toArray]
     congr 1
     rw [List.set_append_right _ _ (by rw [List.length_map]; omega), List.length_map, hn, Nat.sub_self, show 4 - rbs.length = (4 - (rbs ++ [wr.heap.size]).length) + 1 by rw [List.length_append, List.length_singleton]; omega, List.replicate_succ, List.set_cons_zero]
     simp
    rw [e1] at hset
    refine ⟨hR2.cell (b := q) List.mem_cons_self ?_, hR2.soft (b := q) List.mem_cons_self n, fun a' hf => ⟨g - 1, by omega, rbs ++ [wr.heap.size], G ++ [g0], ?_, ?_, ?_, ?_, hset⟩⟩
    ·have h0 : (rbs.map rptr).length ≤ n := by rw [List.length_map]; omega
     rw [List.getElem?_toArray, List.getElem?_append_right h0, List.length_map, hn, Nat.sub_self, show 4 - rbs.length = (4 - rbs.length - 1) + 1 by omega, List.replicate_succ]
     rfl
    ·rw [List.length_append, List.length_singleton]; omega
    ·rw [List.length_append, List.length_append, List.length_singleton, List.length_singleton]; omega
    ·intro x hx
     rcases List.mem_append.1 hx with hx | hx
     ·exact hW x hx
     ·rw [List.mem_singleton] at hx
      subst hx
      exact ⟨wf0, r0⟩
    ·rw [List.length_append, List.length_singleton, ← hn]
     exact hf
   have hne : ((n : Int) == 4) = false := by rw [beq_eq_false_iff_ne]; omega
   clear hst hW hn hG
   go_wp2_with fail
   refine cn.out.mono ?_
   rintro r w2 ⟨rfl, h2⟩
   obtain ⟨k1, k2, fin2⟩ := fin.out _ h2
   replace fin2 := Lib.hid fin2
   clear fin cn h2
   generalize wr.heap.size = nb at *
   go_wp2_with fail
   refine wp_goto ?_
   exact ⟨rfl, fin2.out _ ⟨rfl, rfl, by simp⟩⟩
  ·have hn4 : n = 4 := by omega
   have fin : Hid (∃ q' rbs G, (Ending.returned (.slice (some ⟨q, 0, none⟩) 4 4)) = .returned (.slice (some ⟨q', 0, none⟩) 4 4) ∧ rbs.length = 4 ∧ (∀ x ∈ G, RG.Wf x) ∧ G.map RG.row = [[], [], [], []] ∧ St B w0 wr ((q', rowsO rbs) :: (ringsH rbs G ++ F))) := Lib.hid (by
    refine ⟨q, rbs, G, rfl, by omega, fun x hx => (hW x hx).1, ?_, ?_⟩
    ·have : G.map RG.row = List.replicate G.length [] := by
      rw [List.eq_replicate_iff]
      refine ⟨by simp, fun x hx => ?_⟩
      obtain ⟨y, hy, e⟩ := List.mem_map.1 hx
      rw [← e, (hW y hy).2]
     rw [this, hG, hn4]
     rfl
    ·have e1 : rowsPart rbs = rowsO rbs := by
      unfold rowsPart rowsO
      rw [show 4 - rbs.length = 0 by omega]
      simp
     rw [← e1]
     exact hst)
   subst hn4
   clear hst hW hn hG
   simp only [Int.cast_ofNat_Int]
   go_wp2_with fail
   simp only [Exit.jump]
   go_ret
   exact fin.out
 ·intro HJ
  go_wp2_with fail
  refine wp_label ?_
  go_step
  go_step
  exact HJ 4 _ _ ⟨[], [], rfl, rfl, by simp, ⟨rfl, rfl, by simp⟩, h1.out⟩
end
end
end Go.Proofs.YtknjamfjonapiaaGreatDoor
