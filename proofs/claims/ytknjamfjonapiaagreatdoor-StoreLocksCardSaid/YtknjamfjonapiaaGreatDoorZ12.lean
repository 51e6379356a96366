import Derived.Test.YtknjamfjonapiaaGreatDoorZ11
import Derived.Test.YtknjamfjonapiaaGreatDoorZ02
namespace Go.Proofs.YtknjamfjonapiaaGreatDoor
open Go.RowKit
set_option linter.unusedVariables false
set_option linter.unusedSectionVars false
set_option linter.unusedSimpArgs false
set_option maxRecDepth 100000
section
open Go.ChangeMaps (setBlock)
abbrev np (b : Nat) : Value := .pointer (some ⟨b, 0, none⟩)
theorem uMapS : Tryz.prog.underlying 311 = some (.map 9 310) := by kernel_rfl
theorem zNode (w : World) : (zeroValue 310).run Tryz.prog w = .ok (.pointer none) w := Tryz.zeroValue310 w
section
variable {B : Nat} {w0 w : World} {F : List (Nat × Obj)} {b o : Nat} {c : Array Value} {T : TypeId} {t : Tb (List UInt8)} {n : Nat} {k : List UInt8} {v : Value}
theorem countS_any (h : TbAt w b o encS t) (hb : t.mv = none → t.es = []) : Calls Tryz.prog 304 #[.pointer (some ⟨b, o, none⟩)] w fun e w' => e = .returned (.int .i64 t.es.length) ∧ w' = w := by
 obtain ⟨c0, -, hm⟩ := h
 cases hmv : t.mv with
 | none =>
  rw [hmv] at c0
  have hl := fun ty => run_lenE_nil (P := Tryz.prog) (w := w) (ty := ty) uMapS
  rw [hb hmv]
  go_enter Tryz.func304, Tryz.ntmps304
  go_wp2_with fail
  go_ret
  exact ⟨rfl, rfl⟩
 | some mb =>
  rw [hmv] at c0
  have hl := fun ty => run_lenE (P := Tryz.prog) (ty := ty) uMapS (hm mb hmv)
  generalize t.es.length = L at *
  go_enter Tryz.func304, Tryz.ntmps304
  go_wp2_with fail
  go_ret
  exact ⟨rfl, rfl⟩
theorem uEqMapS (w : World) (m : Option Nat) : (binOp .eql 311 (.map m) (.map none)).run Tryz.prog w = .ok (.bool m.isNone) w := by
 simp only [binOp]
 simp [run_equal_map_nil w 311 _ _ m uMapS]
set_option maxHeartbeats 1000000 in
theorem putS_any (hst : St B w0 w ((b, .cells c T) :: (tabH encS t ++ F))) (h0 : c[o]? = some (.map t.mv)) (h1 : c[o + 1]? = some (.int .i64 t.most)) (hok : TbOk t n) (hn : n ≤ 1000000) (hk : k ∉ t.es.map (·.1)) :
  Calls Tryz.prog 294 #[.pointer (some ⟨b, o, none⟩), tx k, v] w (TPutR encS B w0 b o c T F t k v n) := by
 have hmk := fun w : World => run_makeMap (P := Tryz.prog) 311 w
 have heq := uEqMapS
 have hso : w.cell? ⟨b, o, none⟩ = some (.map t.mv) := hst.cell (b := b) List.mem_cons_self h0
 have hlen := hok.len
 have hmost := hok.most
 replace hok := Lib.hid hok
 replace h0 := Lib.hid h0
 replace h1 := Lib.hid h1
 replace hst := Lib.hid hst
 go_enter Tryz.func294, Tryz.ntmps294
 go_upto_if 10 with fail
 go_cut [] (fun wy => ∃ mb, Hid (St B w0 wy ((b, .cells (c.setIfInBounds o (.map (some mb))) T) :: ((mb, .map (entsE encS t.es) t.clk) :: F))))
 case first =>
  cases hmv : t.mv with
  | none =>
   rw [hmv] at hso
   obtain ⟨he, hclk⟩ := hok.out.bare hmv
   have hs2 := hst.out.alloc (.map #[] 0)
   unfold tabH at hs2
   rw [hmv] at hs2
   have hs2' := hs2.perm (List.Perm.swap _ _ _)
   have f2 := hs2'.soft (b := b) List.mem_cons_self o
   have c2 := hs2'.cell (b := b) List.mem_cons_self h0.out
   have hs3 := hs2'.set0 o (.map (some w.heap.size))
   have fin : Hid (∃ mb, Hid (St B w0 ((w.alloc (.map #[] 0)).setCell ⟨b, o, none⟩ (.map (some w.heap.size))) ((b, .cells (c.setIfInBounds o (.map (some mb))) T) :: ((mb, .map (entsE encS t.es) t.clk) :: F)))) := by
    refine Lib.hid ⟨w.heap.size, Lib.hid ?_⟩
    rw [he, hclk]
    exact hs3
   clear hs2 hs2' hs3 hst
   go_wp2_with fail
   go_meet
   case rel => exact fin.out
  | some mb =>
   rw [hmv] at hso
   have hs2 := hst.out
   unfold tabH at hs2
   rw [hmv] at hs2
   have hsame : c.setIfInBounds o (.map (some mb)) = c := by
    rw [hmv] at h0
    have := h0.out
    apply Array.ext_getElem?
    intro i
    rw [Array.getElem?_setIfInBounds]
    split
    ·rename_i e
     subst e
     rw [this, if_pos (Array.getElem?_eq_some_iff.1 this).1]
    ·rfl
   have fin : Hid (∃ mb, Hid (St B w0 w ((b, .cells (c.setIfInBounds o (.map (some mb))) T) :: ((mb, .map (entsE encS t.es) t.clk) :: F)))) := Lib.hid ⟨mb, Lib.hid (by rw [hsame]; exact hs2)⟩
   clear hs2 hsame hst
   go_wp2_with fail
   go_meet
   case rel => exact fin.out
 case rest =>
  clear hst
  obtain ⟨mb, hst⟩ := hcut
  clear hso heq hmk
  have hlt : o < c.size := (Array.getElem?_eq_some_iff.1 h0.out).1
  have e0 := hst.out.cell (b := b) (i := o) (v := .map (some mb)) List.mem_cons_self (by simp [hlt])
  have hg : wc.heap[mb]? = some (.map (entsE encS t.es) t.clk) := hst.out.get (b := mb) (List.mem_cons_of_mem _ List.mem_cons_self)
  have hmu := run_mapE_new keyS uMapS hg (k := k) trivial (fun _ _ => trivial) v (seek_none.2 hk)
  have hs2 := (hst.out.perm (List.Perm.swap _ _ _)).block0 (o' := .map (entsE encS (t.es ++ [(k, v, t.clk)])) (t.clk + 1))
  generalize hW : setBlock wc mb (.map (entsE encS (t.es ++ [(k, v, t.clk)])) (t.clk + 1)) = W at *
  replace hW := Lib.hid hW
  have g0 := hs2.cell (b := b) (i := o) (v := .map (some mb)) (List.mem_cons_of_mem _ List.mem_cons_self) (by simp [hlt])
  have g1 := hs2.cell (b := b) (i := o + 1) (v := .int .i64 t.most) (List.mem_cons_of_mem _ List.mem_cons_self) (by rw [Array.getElem?_setIfInBounds_ne (by omega)]; exact h1.out)
  have gf := hs2.soft (b := b) (List.mem_cons_of_mem _ List.mem_cons_self) (o + 1)
  have gl := fun ty => run_lenE (P := Tryz.prog) (ty := ty) uMapS (hs2.drew.get (b := mb) List.mem_cons_self)
  rw [List.length_append, List.length_singleton] at gl
  have hs3d := (hs2.drew.perm (List.Perm.swap _ _ _)).set0 (o + 1) (.int .i64 (max t.most (t.es.length + 1) : Nat))
  have fin : Hid (TPutR encS B w0 b o c T F t k v n (.returned (.tuple #[])) (W.drew.setCell ⟨b, o + 1, none⟩ (.int .i64 (max t.most (t.es.length + 1) : Nat)))) := Lib.hid ⟨rfl, mb, hs3d⟩
  have hL : (t.es.length + 1 : Nat) ≤ 1000001 := by omega
  generalize t.es.length + 1 = L at *
  generalize t.most = q at *
  clear hs2 hs3d hst
  go_upto_region 3 with fail
  clear e0 hg hmu hW
  by_cases hm : q < L
  ·rw [Nat.max_eq_right (Nat.le_of_lt hm)] at fin
   have hm1 : (q : Int) < L := by omega
   go_still_tail 13, (by kernel_rfl)
   change wpList _ _ _ _ _ W.drew
   go_wp2_with fail
   exact bodyPost_end (results_none rfl _ _ _) rfl fin.out
  ·rw [Nat.max_eq_left (by omega)] at fin
   have hm1 : ¬ (q : Int) < L := by omega
   go_still_tail 13, (by kernel_rfl)
   change wpList _ _ _ _ _ W.drew
   go_wp2_with fail
   exact bodyPost_end (results_none rfl _ _ _) rfl fin.out
theorem putS_is (hst : St B w0 w ((b, .cells c T) :: (tabH encS t ++ F))) (h0 : c[o]? = some (.map t.mv)) (h1 : c[o + 1]? = some (.int .i64 t.most)) (hok : TbOk t n) (hn : n ≤ 1000000) (hk : k ∉ t.es.map (·.1)) :
  Calls Tryz.prog 294 #[.pointer (some ⟨b, o, none⟩), tx k, v] w (TabR encS B w0 b o c T F (fun t' => t'.rows = t.rows ++ [(k, v)] ∧ TbOk t' (n + 1))) := by
 refine (putS_any hst h0 h1 hok hn hk).mono ?_
 rintro e w' ⟨rfl, mb, h⟩
 exact ⟨rfl, ⟨some mb, _, _, _⟩, ⟨by simp [Tb.rows], hok.push hk _ mb⟩, h⟩
def MovedS (B : Nat) (w0 : World) (b o : Nat) (c : Array Value) (T : TypeId) (F : List (Nat × Obj)) (mb r : Nat) (es : List (MapRow (List UInt8))) (clk : Nat) (done laid : List (MapRow (List UInt8))) (w' : World) : Prop :=
 IterAt w' mb r encS es clk done ∧ ∃ seen t2, t2.rows = laid.map (fun e => (e.1, e.2.1)) ∧ TbOk t2 laid.length ∧ St B w0 w' ((b, .cells (tabC c o t2.mv t2.most) T) :: (tabH encS t2 ++ ((mb, .map (entsE encS es) clk) :: (r, .mapIter (some mb) clk seen clk) :: F)))
theorem perm_mS {α : Type} (x y z : α) (A F : List α) : (x :: (A ++ (y :: z :: F))).Perm ((x :: A) ++ z :: (y :: F)) := by
 classical
 exact List.perm_iff_count.2 fun a => by simp only [List.count_append, List.count_cons]; omega
theorem MovedS.next {mb r : Nat} {es : List (MapRow (List UInt8))} {clk : Nat} {done : List (MapRow (List UInt8))} (h : MovedS B w0 b o c T F mb r es clk done done w) (hB : Born es clk) (hn : es.Nodup) (ty : TypeId) :
  (done.Perm es ∧ (Instr.next (.pointer (some ⟨r, 0, none⟩)) false ty).run Tryz.prog w = .ok (.tuple #[.bool false]) w) ∨
  ∃ e w', e ∈ es ∧ e ∉ done ∧ (Instr.next (.pointer (some ⟨r, 0, none⟩)) false ty).run Tryz.prog w = .ok (.tuple #[.bool true, encS e.1, e.2.1]) w' ∧ (Instr.entry (.pointer (some ⟨r, 0, none⟩))).run Tryz.prog w' = .ok (.tuple #[encS e.1, e.2.1]) w' ∧
   MovedS B w0 b o c T F mb r es clk (done ++ [e]) done w' := by
 obtain ⟨hI, seen, t2, h1, h2, h3⟩ := h
 rcases hI.next (P := Tryz.prog) hB hn ty with ⟨hp, hr⟩ | ⟨e, he, hd, w', hr, hI', hk, hs, ho, ht, hu, hen⟩
 ·exact .inl ⟨hp, hr⟩
 ·obtain ⟨-, seen', hs', -⟩ := id hI'
  have h3' := h3.perm (perm_mS _ _ _ _ _)
  have h4 := (h3'.write hs' hk hs ho ht hu).perm (perm_mS _ _ _ _ _).symm
  exact .inr ⟨e, w', he, hd, hr, hen, hI', seen', t2, h1, h2, h4⟩
theorem MovedS.laid {mb r : Nat} {es : List (MapRow (List UInt8))} {clk : Nat} {done : List (MapRow (List UInt8))} {e : MapRow (List UInt8)} (h : MovedS B w0 b o c T F mb r es clk (done ++ [e]) done w) (hk : (es.map (·.1)).Nodup) (he : e ∈ es) (hd : e ∉ done) (hl : done.length ≤ 1000000) (hc : o + 1 < c.size) {w1 : World} (hb : Below w.heap.size w w1) :
  Calls Tryz.prog 294 #[.pointer (some ⟨b, o, none⟩), tx e.1, e.2.1] w1 fun e2 w' => e2 = .returned (.tuple #[]) ∧ MovedS B w0 b o c T F mb r es clk (done ++ [e]) (done ++ [e]) w' := by
 obtain ⟨hI, seen, t2, h1, h2, h3o⟩ := h
 have h3 := h3o.grow hb
 have hnk : e.1 ∉ t2.es.map (·.1) := by
  rw [← keys_rows, h1]
  intro hm
  simp only [List.map_map, List.mem_map, Function.comp_apply] at hm
  obtain ⟨x, hx, e1⟩ := hm
  have hxe := hI.2.choose_spec.2.2.1 x (by simp [hx])
  have := (seek_some hk he).symm.trans (e1 ▸ seek_some hk hxe)
  rw [Option.some.inj this] at hd
  exact hd hx
 refine (putS_is h3 (tabC_0 _ _ (by omega)) (tabC_1 _ _ hc) h2 hl hnk).mono ?_
 rintro e2 w' ⟨rfl, t3, ⟨h4, h5⟩, h6⟩
 rw [tabC_tabC] at h6
 refine ⟨rfl, hI.kept ?_ ?_, seen, t3, ?_, by rw [List.length_append]; exact h5, h6⟩
 ·exact (h6.get (b := mb) (o := .map (entsE encS es) clk) (by simp)).trans hI.1.symm
 ·exact (h6.get (b := r) (o := .mapIter (some mb) clk seen clk) (by simp)).trans (h3o.get (b := r) (by simp)).symm
 ·rw [h4, h1, List.map_append]
  simp
set_option maxHeartbeats 1000000 in
theorem dropS_any (hst : St B w0 w ((b, .cells c T) :: (tabH encS t ++ F))) (h0 : c[o]? = some (.map t.mv)) (h1 : c[o + 1]? = some (.int .i64 t.most)) (hok : TbOk t n) (hn : n ≤ 1000000) (hk : k ∈ t.es.map (·.1)) :
  Calls Tryz.prog 305 #[.pointer (some ⟨b, o, none⟩), tx k] w (TabR encS B w0 b o c T F (fun t' => t'.rows.Perm (t.rows.filter fun x => decide (x.1 ≠ k)) ∧ TbOk t' n)) := by
 obtain ⟨mb, hmv⟩ : ∃ mb, t.mv = some mb := by
  cases h : t.mv with
  | some mb => exact ⟨mb, rfl⟩
  | none => rw [(hok.bare h).1] at hk; simp at hk
 have hst' : St B w0 w ((b, .cells c T) :: ((mb, .map (entsE encS t.es) t.clk) :: F)) := by
  unfold tabH at hst; rw [hmv] at hst; exact hst
 have c0 : w.cell? ⟨b, o, none⟩ = some (.map (some mb)) := hst'.cell (b := b) List.mem_cons_self (hmv ▸ h0)
 have hg := hst'.get (b := mb) (List.mem_cons_of_mem _ List.mem_cons_self)
 have hs1 := ((hst'.perm (List.Perm.swap _ _ _)).block0 (o' := .map (entsE encS (restE t.es k)) t.clk)).perm (List.Perm.swap _ _ _)
 have hrest := hok.rest (by rw [hmv]; simp) k
 have hre := rest_eq hok.keys k
 have hmost := hok.most
 have hlt : (restE t.es k).length ≤ n := hrest.len
 have fin1 : ∀ w', St B w0 w' ((b, .cells c T) :: ((mb, .map (entsE encS (restE t.es k)) t.clk) :: F)) → TabR encS B w0 b o c T F (fun t' => t'.rows.Perm (t.rows.filter fun x => decide (x.1 ≠ k)) ∧ TbOk t' n) (.returned (.tuple #[])) w' := fun w' h => by
  refine ⟨rfl, ⟨t.mv, restE t.es k, t.clk, t.most⟩, ⟨?_, hrest⟩, ?_⟩
  ·rw [rows_filter, ← hre]
   exact List.Perm.refl _
  ·rw [tabC_same h0 h1]
   unfold tabH
   rw [hmv]
   exact h
 generalize hW : setBlock w mb (.map (entsE encS (restE t.es k)) t.clk) = W at *
 have d0 : W.cell? ⟨b, o, none⟩ = some (.map (some mb)) := hs1.cell (b := b) List.mem_cons_self (hmv ▸ h0)
 have d1 : W.cell? ⟨b, o + 1, none⟩ = some (.int .i64 t.most) := hs1.cell (b := b) List.mem_cons_self h1
 have gl := fun ty => run_lenE (P := Tryz.prog) (ty := ty) uMapS (hs1.drew.get (b := mb) (List.mem_cons_of_mem _ List.mem_cons_self))
 replace hs1 := Lib.hid hs1
 replace fin1 := Lib.hid fin1
 replace hW := Lib.hid hW
 go_enter Tryz.func305, Tryz.ntmps305
 go_wp2_with (at_delete; refine wpList_delE rfl (.tmp 10) (.tmp 11) rfl keyS uMapS rfl hg (k := k) trivial (fun _ _ => trivial) rfl ?_; intro w2 hw2; replace hw2 := Lib.hid (hw2.out.trans hW.out); rw [hw2.out])
 clear hst hst' h0 hg c0 gl
 replace hre := Lib.hid hre
 obtain ⟨L, hLn⟩ : ∃ L, L = (restE t.es k).length := ⟨_, rfl⟩
 obtain ⟨q, hqn⟩ : ∃ q, q = t.most := ⟨_, rfl⟩
 obtain ⟨d, hd⟩ : ∃ d, d = q / 4 := ⟨_, rfl⟩
 have gl2 := fun ty n => run_lenE (P := Tryz.prog) (ty := ty) uMapS ((hs1.out.drewN n).get (b := mb) (List.mem_cons_of_mem _ List.mem_cons_self))
 rw [← hLn] at gl2 hlt
 rw [← hqn] at d1 hmost
 have hL : (L : Int) ≤ 1000000 := by omega
 have hd1 : (q : Int) / 4 = d := by omega
 have hd2 : IntKind.i64.wrap (d : Int) = d := IntWalk.i64_in _ (by omega)
 have f0 : W.frozen? ⟨b, o, none⟩ = false := hs1.out.soft (b := b) List.mem_cons_self o
 have f1 : W.frozen? ⟨b, o + 1, none⟩ = false := hs1.out.soft (b := b) List.mem_cons_self (o + 1)
 have hq0 : (0 : Int) ≤ q := by omega
 replace hLn := Lib.hid hLn
 replace hqn := Lib.hid hqn
 replace hd := Lib.hid hd
 by_cases hc : (d : Int) < L
 ·have fin := Lib.hid (fun n => fin1.out _ (hs1.out.drewN n))
  go_quiet (fail)
  go_wp2_with fail
  exact bodyPost_end (results_none rfl _ _ _) rfl (fin.out _)
 ·have hs2 := Lib.hid (hs1.out.drewN 1)
  go_quiet (fail)
  go_upto_region 4 with fail
  have hs3 : St B w0 (((W.drewN nq).setCell ⟨b, o, none⟩ (.map none)).setCell ⟨b, o + 1, none⟩ (.int .i64 0)) ((b, .cells (tabC c o none 0) T) :: ((mb, .map (entsE encS (restE t.es k)) t.clk) :: F)) := ((hs1.out.drewN nq).set0 o (.map none)).set0 (o + 1) (.int .i64 0)
  generalize ((W.drewN nq).setCell ⟨b, o, none⟩ (.map none)).setCell ⟨b, o + 1, none⟩ (.int .i64 0) = W3 at *
  have hg3 := hs3.get (b := mb) (List.mem_cons_of_mem _ List.mem_cons_self)
  have hrg := run_range_map (P := Tryz.prog) W3 311 _ _ mb _ _ uMapS hg3
  have hs4 := (hs3.alloc (.mapIter (some mb) t.clk #[] t.clk)).perm ((List.Perm.swap _ _ _).trans ((List.Perm.swap _ _ _).cons _))
  have start : Hid (MovedS B w0 b o c T F mb W3.heap.size (restE t.es k) t.clk [] [] (W3.alloc (.mapIter (some mb) t.clk #[] t.clk))) := Lib.hid ⟨⟨hs4.get (b := mb) (by simp), #[], hs4.get (b := W3.heap.size) (by simp), by simp, by simp, by simp⟩, #[], Tb.new, rfl, TbOk.new _, hs4⟩
  have hob := Lib.hid hrest.born
  have hkn := Lib.hid hrest.keys
  have hnd : (restE t.es k).Nodup := List.Pairwise.of_map (S := fun a b => a ≠ b) _ (fun a b h e => h (by rw [e])) hrest.keys
  have hcs : o + 1 < c.size := (Array.getElem?_eq_some_iff.1 h1).1
  have fin : Hid (∀ done w', MovedS B w0 b o c T F mb W3.heap.size (restE t.es k) t.clk done done w' → done.Perm (restE t.es k) → TabR encS B w0 b o c T F (fun t' => t'.rows.Perm (t.rows.filter fun x => decide (x.1 ≠ k)) ∧ TbOk t' n) (.returned (.tuple #[])) w') := Lib.hid (by
   rintro done w' ⟨-, seen, t2, g1, g2, g3⟩ hp
   refine ⟨rfl, t2, ⟨?_, g2.mono ?_⟩, g3.sub ?_⟩
   ·rw [g1, rows_filter, ← hre.out]
    exact hp.map _
   ·rw [hp.length_eq]
    have := hLn.out
    omega
   ·refine List.Sublist.cons_cons _ ((List.Sublist.refl _).append ?_)
    exact (List.sublist_cons_self _ _).trans (List.sublist_cons_self _ _))
  replace hlt := Lib.hid (show (restE t.es k).length ≤ 1000000 by have := hLn.out; omega)
  replace hnd := Lib.hid hnd
  clear hs1 hs2 hs3 hs4 hg3 hrest fin1 hW gl2 d0 d1 f0 f1 h1 hok hk hLn hqn hd hre hd1 hd2 hc hL hq0 hmost
  generalize restE t.es k = es at *
  generalize t.clk = clk at *
  generalize W3.heap.size = r at *
  generalize W3.alloc (.mapIter (some mb) clk #[] clk) = W4 at *
  go_wp2_with fail
  go_loopg [5] es.length (fun g v5 wr => ∃ done, done.length + g = es.length ∧ Hid (MovedS B w0 b o c T F mb r es clk done done wr))
  case atStart => exact ⟨[], by simp, start⟩
  case round =>
   obtain ⟨done, hg, hM⟩ := hrel
   rcases hM.out.next hob.out hnd.out 0 with ⟨hp, hnx⟩ | ⟨e, w', he, hd, hnx, hen, hM2⟩
   ·have fin := Lib.hid (fin.out _ _ hM.out hp)
    go_wp2_with fail
    exact bodyPost_end (results_none rfl _ _ _) rfl fin.out
   ·have hle : done.length + 1 ≤ es.length := by
     have := nodup_len (l := done ++ [e]) (m := es) (hM2.1.2.choose_spec.2.1) hM2.1.2.choose_spec.2.2.1
     simpa using this
    have cp := Lib.hid (fun w1 hb => hM2.laid hkn.out he hd (by have := hlt.out; omega) hcs (w1 := w1) hb)
    clear hM hM2 hd he fin start
    go_wp2_with fail
    refine (cp.out _ (Below.refl _ _)).mono ?_
    rintro e2 w5 ⟨rfl, hM3⟩
    go_wp2_with fail
    go_roundg (es.length - (done.length + 1))
    case measure => omega
    case rel => exact ⟨done ++ [e], by rw [List.length_append, List.length_singleton]; omega, Lib.hid hM3⟩
end
end
section
open Go.ChangeMaps (setBlock)
structure Nd where
 p : Wds
 b : Nat
 u : Option Nat
 s : Tb (List UInt8)
 i : Tb Int
 x : List Value
 y : TypeId
def lastW (p : Wds) : List UInt8 := p.getLastD []
theorem lastW_snoc (p : Wds) (w : List UInt8) : lastW (p ++ [w]) = w := by simp [lastW]
theorem snoc_inj {p q : Wds} {w v : List UInt8} (h : p ++ [w] = q ++ [v]) : p = q ∧ w = v := by
 have := List.append_inj' h rfl
 exact ⟨this.1, by simpa using this.2⟩
def upV (u : Option Nat) : Value := .pointer (u.map fun a => ⟨a, 0, none⟩)
def Nd.cells (n : Nd) : Array Value := ([upV n.u, tx (lastW n.p), .map n.s.mv, .int .i64 n.s.most, .map n.i.mv, .int .i64 n.i.most] ++ n.x).toArray
def Nd.objs (n : Nd) : List (Nat × Obj) := (n.b, .cells n.cells n.y) :: (tabH encS n.s ++ tabH encI n.i)
def objsL (L : List Nd) : List (Nat × Obj) := L.flatMap Nd.objs
structure TreeOk (L : List Nd) (tb c : Nat) : Prop where
 paths : (L.map Nd.p).Nodup
 blocks : (L.map Nd.b).Nodup
 root : ∃ n ∈ L, n.p = [] ∧ n.b = tb
 ups : ∀ n ∈ L, (n.p = [] ∧ n.u = none) ∨ ∃ q ∈ L, ∃ w, n.p = q.p ++ [w] ∧ n.u = some q.b ∧ (w, np n.b) ∈ q.s.rows
 downs : ∀ n ∈ L, ∀ r ∈ n.s.rows, ∃ m ∈ L, m.p = n.p ++ [r.1] ∧ r.2 = np m.b
 bare : ∀ n ∈ L, Bare n.i
 oks : ∀ n ∈ L, TbOk n.s c ∧ TbOk n.i c
 few : L.length ≤ c
theorem map_inj {α β : Type} {f : α → β} {L : List α} (h : (L.map f).Nodup) {m n : α} (hm : m ∈ L) (hn : n ∈ L) (e : f m = f n) : m = n := by
 obtain ⟨i, hi⟩ := List.getElem?_of_mem hm
 obtain ⟨j, hj⟩ := List.getElem?_of_mem hn
 have hil := (List.getElem?_eq_some_iff.1 hi).1
 have : i = j := (List.getElem?_inj (by simpa using hil) h).1 (by simp [hi, hj, e])
 subst this
 rw [hi] at hj; cases hj; rfl
def nd (L : List Nd) (p : Wds) : Option Nd := L.find? fun n => decide (n.p = p)
def ptrP (L : List Nd) (p : Wds) : Value := match nd L p with
 | some n => np n.b
 | none => .pointer none
def HasId (L : List Nd) (p : Wds) (k : Int) : Prop := ∃ n ∈ L, n.p = p ∧ k ∈ n.i.es.map (·.1)
section
variable {L : List Nd} {tb c : Nat} {n m : Nd} {p : Wds}
theorem nd_mem (h : nd L p = some n) : n ∈ L ∧ n.p = p := ⟨List.mem_of_find?_eq_some h, by simpa using List.find?_some h⟩
theorem nd_none : nd L p = none ↔ ∀ n ∈ L, n.p ≠ p := by
 unfold nd
 rw [List.find?_eq_none]
 simp
theorem TreeOk.nd_some (h : TreeOk L tb c) (hn : n ∈ L) : nd L n.p = some n := by
 cases hs : nd L n.p with
 | none => exact absurd rfl (nd_none.1 hs n hn)
 | some m =>
  obtain ⟨h1, h2⟩ := nd_mem hs
  rw [map_inj h.paths h1 hn h2]
theorem TreeOk.ptr (h : TreeOk L tb c) (hn : n ∈ L) : ptrP L n.p = np n.b := by
 unfold ptrP
 rw [h.nd_some hn]
theorem TreeOk.kid (h : TreeOk L tb c) (hn : n ∈ L) (w : List UInt8) : ((seek n.s.es w).map (·.2.1)).getD (.pointer none) = ptrP L (n.p ++ [w]) := by
 cases hs : seek n.s.es w with
 | none =>
  have : nd L (n.p ++ [w]) = none := by
   rw [nd_none]
   intro m hm e
   rcases h.ups m hm with ⟨h1, _⟩ | ⟨q, hq, w', h1, _, h2⟩
   ·rw [h1] at e; simp at e
   ·rw [h1] at e
    obtain ⟨e1, rfl⟩ := snoc_inj e
    obtain rfl := map_inj h.paths hq hn e1
    refine seek_none.1 hs ?_
    rw [← keys_rows]
    exact List.mem_map_of_mem (f := (·.1)) h2
  unfold ptrP
  rw [this]
  rfl
 | some e =>
  obtain ⟨h1, rfl⟩ := seek_mem hs
  obtain ⟨m, hm, h2, h3⟩ := h.downs n hn (e.1, e.2.1) (List.mem_map_of_mem (f := fun e => (e.1, e.2.1)) h1)
  rw [← h2, h.ptr hm]
  exact h3
theorem TreeOk.up (h : TreeOk L tb c) (hn : n ∈ L) : (n.p = [] ∧ upV n.u = .pointer none) ∨ ∃ q ∈ L, ∃ w, n.p = q.p ++ [w] ∧ upV n.u = np q.b := by
 rcases h.ups n hn with ⟨h1, h2⟩ | ⟨q, hq, w, h1, h2, _⟩
 ·exact .inl ⟨h1, by rw [h2]; rfl⟩
 ·exact .inr ⟨q, hq, w, h1, by rw [h2]; rfl⟩
theorem HasId.of (h : TreeOk L tb c) (hn : n ∈ L) (k : Int) : HasId L n.p k ↔ k ∈ n.i.es.map (·.1) := by
 constructor
 ·rintro ⟨m, hm, e, hk⟩
  rwa [map_inj h.paths hm hn e] at hk
 ·exact fun hk => ⟨n, hn, rfl, hk⟩
theorem TreeOk.sim {L' : List Nd} {c' : Nat} (h : TreeOk L tb c) (hf : ∀ m ∈ L, ∃ m' ∈ L', m'.p = m.p ∧ m'.b = m.b ∧ m'.u = m.u ∧ m'.s = m.s) (hg : ∀ m' ∈ L', ∃ m ∈ L, m'.p = m.p ∧ m'.b = m.b ∧ m'.u = m.u ∧ m'.s = m.s)
  (h1 : (L'.map Nd.p).Nodup) (h2 : (L'.map Nd.b).Nodup) (h3 : ∀ n ∈ L', Bare n.i) (h4 : ∀ n ∈ L', TbOk n.s c' ∧ TbOk n.i c') (h5 : L'.length ≤ c') : TreeOk L' tb c' := by
 refine ⟨h1, h2, ?_, ?_, ?_, h3, h4, h5⟩
 ·obtain ⟨n, hn, e1, e2⟩ := h.root
  obtain ⟨m, hm, g1, g2, -⟩ := hf n hn
  exact ⟨m, hm, g1.trans e1, g2.trans e2⟩
 ·intro m' hm'
  obtain ⟨m, hm, g1, g2, g3, g4⟩ := hg m' hm'
  rw [g1, g2, g3]
  rcases h.ups m hm with e | ⟨q, hq, w, e1, e2, e3⟩
  ·exact .inl e
  ·obtain ⟨q', hq', k1, k2, k3, k4⟩ := hf q hq
   exact .inr ⟨q', hq', w, by rw [e1, k1], by rw [e2, k2], by rw [k4]; exact e3⟩
 ·intro m' hm' r hr
  obtain ⟨m, hm, g1, g2, g3, g4⟩ := hg m' hm'
  rw [g4] at hr
  obtain ⟨q, hq, e1, e2⟩ := h.downs m hm r hr
  obtain ⟨q', hq', k1, k2, k3, k4⟩ := hf q hq
  exact ⟨q', hq', by rw [k1, e1, g1], by rw [e2, k2]⟩
theorem TreeOk.perm {L' : List Nd} (h : TreeOk L tb c) (hp : L.Perm L') : TreeOk L' tb c :=
 h.sim (fun m hm => ⟨m, hp.mem_iff.1 hm, rfl, rfl, rfl, rfl⟩) (fun m hm => ⟨m, hp.mem_iff.2 hm, rfl, rfl, rfl, rfl⟩) ((hp.map _).nodup_iff.1 h.paths) ((hp.map _).nodup_iff.1 h.blocks)
  (fun m hm => h.bare m (hp.mem_iff.2 hm)) (fun m hm => h.oks m (hp.mem_iff.2 hm)) (by rw [← hp.length_eq]; exact h.few)
theorem TreeOk.mono {c' : Nat} (h : TreeOk L tb c) (hc : c ≤ c') : TreeOk L tb c' :=
 ⟨h.paths, h.blocks, h.root, h.ups, h.downs, h.bare, fun n hn => ⟨(h.oks n hn).1.mono hc, (h.oks n hn).2.mono hc⟩, Nat.le_trans h.few hc⟩
theorem TreeOk.ids {R : List Nd} {c' : Nat} {i' : Tb Int} {x' : List Value} (h : TreeOk (n :: R) tb c) (hb : Bare i') (hc : c ≤ c') (hok : TbOk i' c') : TreeOk ({ n with i := i', x := x' } :: R) tb c' := by
 refine h.sim ?_ ?_ h.paths h.blocks ?_ ?_ (Nat.le_trans h.few hc)
 ·intro m hm
  rcases List.mem_cons.1 hm with rfl | hm
  ·exact ⟨_, List.mem_cons_self, rfl, rfl, rfl, rfl⟩
  ·exact ⟨m, List.mem_cons_of_mem _ hm, rfl, rfl, rfl, rfl⟩
 ·intro m hm
  rcases List.mem_cons.1 hm with rfl | hm
  ·exact ⟨n, List.mem_cons_self, rfl, rfl, rfl, rfl⟩
  ·exact ⟨m, List.mem_cons_of_mem _ hm, rfl, rfl, rfl, rfl⟩
 ·intro m hm
  rcases List.mem_cons.1 hm with rfl | hm
  ·exact hb
  ·exact h.bare m (List.mem_cons_of_mem _ hm)
 ·intro m hm
  rcases List.mem_cons.1 hm with rfl | hm
  ·exact ⟨(h.oks n List.mem_cons_self).1.mono hc, hok⟩
  ·exact ⟨(h.oks m (List.mem_cons_of_mem _ hm)).1.mono hc, (h.oks m (List.mem_cons_of_mem _ hm)).2.mono hc⟩
abbrev newNd (n : Nd) (w : List UInt8) (nb : Nat) (y : TypeId) : Nd := ⟨n.p ++ [w], nb, some n.b, Tb.new, Tb.new, [], y⟩
theorem TreeOk.grow {R : List Nd} {w : List UInt8} {nb : Nat} {y : TypeId} {s' : Tb (List UInt8)} (h : TreeOk (n :: R) tb c) (hw : ∀ m ∈ n :: R, m.p ≠ n.p ++ [w]) (hnb : ∀ m ∈ n :: R, m.b ≠ nb)
  (hs : s'.rows = n.s.rows ++ [(w, np nb)]) (hok : TbOk s' (c + 1)) : TreeOk (newNd n w nb y :: { n with s := s' } :: R) tb (c + 1) := by
 have hf : ∀ m ∈ n :: R, ∃ m' ∈ newNd n w nb y :: { n with s := s' } :: R, m'.p = m.p ∧ m'.b = m.b ∧ m'.u = m.u ∧ (∀ r ∈ m.s.rows, r ∈ m'.s.rows) := by
  intro m hm
  rcases List.mem_cons.1 hm with rfl | hm
  ·exact ⟨{ m with s := s' }, by simp, rfl, rfl, rfl, fun r hr => by show r ∈ s'.rows; rw [hs]; exact List.mem_append_left _ hr⟩
  ·exact ⟨m, by simp [hm], rfl, rfl, rfl, fun r hr => hr⟩
 refine ⟨?_, ?_, ?_, ?_, ?_, ?_, ?_, by have := h.few; simpa using this⟩
 ·show ((n.p ++ [w]) :: ((n :: R).map Nd.p)).Nodup
  rw [List.nodup_cons]
  refine ⟨fun hm => ?_, h.paths⟩
  obtain ⟨m, hm, e⟩ := List.mem_map.1 hm
  exact hw m hm e
 ·show (nb :: ((n :: R).map Nd.b)).Nodup
  rw [List.nodup_cons]
  refine ⟨fun hm => ?_, h.blocks⟩
  obtain ⟨m, hm, e⟩ := List.mem_map.1 hm
  exact hnb m hm e
 ·obtain ⟨r, hr, e1, e2⟩ := h.root
  obtain ⟨r', hr', g1, g2, -⟩ := hf r hr
  exact ⟨r', hr', g1.trans e1, g2.trans e2⟩
 ·have key : ∀ m ∈ n :: R, (m.p = [] ∧ m.u = none) ∨ ∃ q ∈ newNd n w nb y :: { n with s := s' } :: R, ∃ w', m.p = q.p ++ [w'] ∧ m.u = some q.b ∧ (w', np m.b) ∈ q.s.rows := by
   intro m hm
   rcases h.ups m hm with e | ⟨q, hq, w', e1, e2, e3⟩
   ·exact .inl e
   ·obtain ⟨q', hq', k1, k2, k3, k4⟩ := hf q hq
    exact .inr ⟨q', hq', w', by rw [e1, k1], by rw [e2, k2], k4 _ e3⟩
  intro m hm
  rcases List.mem_cons.1 hm with rfl | hm
  ·exact .inr ⟨{ n with s := s' }, by simp, w, rfl, rfl, by show _ ∈ s'.rows; rw [hs]; simp⟩
  rcases List.mem_cons.1 hm with rfl | hm
  ·exact key n List.mem_cons_self
  ·exact key m (List.mem_cons_of_mem _ hm)
 ·have key : ∀ m ∈ n :: R, ∀ r ∈ m.s.rows, ∃ m' ∈ newNd n w nb y :: { n with s := s' } :: R, m'.p = m.p ++ [r.1] ∧ r.2 = np m'.b := by
   intro m hm r hr
   obtain ⟨q, hq, e1, e2⟩ := h.downs m hm r hr
   obtain ⟨q', hq', k1, k2, k3, k4⟩ := hf q hq
   exact ⟨q', hq', by rw [k1, e1], by rw [e2, k2]⟩
  intro m hm r hr
  rcases List.mem_cons.1 hm with rfl | hm
  ·exact absurd hr (by show r ∉ (Tb.new : Tb (List UInt8)).rows; simp [Tb.new, Tb.rows])
  rcases List.mem_cons.1 hm with rfl | hm
  ·have hr : r ∈ s'.rows := hr
   rw [hs] at hr
   rcases List.mem_append.1 hr with hr | hr
   ·exact key n List.mem_cons_self r hr
   ·rw [List.mem_singleton] at hr
    subst hr
    exact ⟨newNd n w nb y, by simp, rfl, rfl⟩
  ·exact key m (List.mem_cons_of_mem _ hm) r hr
 ·intro m hm
  rcases List.mem_cons.1 hm with rfl | hm
  ·intro e he
   exact absurd he (by simp [Tb.new])
  rcases List.mem_cons.1 hm with rfl | hm
  ·exact h.bare n List.mem_cons_self
  ·exact h.bare m (List.mem_cons_of_mem _ hm)
 ·intro m hm
  rcases List.mem_cons.1 hm with rfl | hm
  ·exact ⟨TbOk.new _, TbOk.new _⟩
  rcases List.mem_cons.1 hm with rfl | hm
  ·exact ⟨hok, (h.oks n List.mem_cons_self).2.mono (Nat.le_succ _)⟩
  ·exact ⟨(h.oks m (List.mem_cons_of_mem _ hm)).1.mono (Nat.le_succ _), (h.oks m (List.mem_cons_of_mem _ hm)).2.mono (Nat.le_succ _)⟩
theorem TreeOk.cut {R : List Nd} {w : List UInt8} {s' : Tb (List UInt8)} (h : TreeOk (m :: n :: R) tb c) (hm : m.p = n.p ++ [w]) (h0 : m.s.rows = [])
  (hs : s'.rows.Perm (n.s.rows.filter fun x => decide (x.1 ≠ w))) (hok : TbOk s' c) : TreeOk ({ n with s := s' } :: R) tb c := by
 have hmp : m.p ≠ [] := by rw [hm]; simp
 have nm : ∀ k ∈ n :: R, k.p ≠ m.p := fun k hk e => by
  have := h.paths
  rw [List.map_cons, List.nodup_cons] at this
  exact this.1 (e ▸ List.mem_map_of_mem hk)
 have nn : ∀ k ∈ R, k.p ≠ n.p := fun k hk e => by
  have := h.paths
  rw [List.map_cons, List.nodup_cons, List.map_cons, List.nodup_cons] at this
  exact this.2.1 (e ▸ List.mem_map_of_mem hk)
 have hin : ∀ k ∈ m :: n :: R, k.p ≠ m.p → ∃ k' ∈ { n with s := s' } :: R, k'.p = k.p ∧ k'.b = k.b := by
  intro k hk hne
  rcases List.mem_cons.1 hk with rfl | hk
  ·exact absurd rfl hne
  rcases List.mem_cons.1 hk with rfl | hk
  ·exact ⟨_, List.mem_cons_self, rfl, rfl⟩
  ·exact ⟨k, List.mem_cons_of_mem _ hk, rfl, rfl⟩
 have mem : ∀ r, r ∈ s'.rows ↔ r ∈ n.s.rows ∧ r.1 ≠ w := fun r => by rw [hs.mem_iff, List.mem_filter]; simp
 refine ⟨?_, ?_, ?_, ?_, ?_, ?_, ?_, ?_⟩
 ·have := h.paths
  rw [List.map_cons, List.nodup_cons] at this
  exact this.2
 ·have := h.blocks
  rw [List.map_cons, List.nodup_cons] at this
  exact this.2
 ·obtain ⟨r, hr, e1, e2⟩ := h.root
  obtain ⟨r', hr', g1, g2⟩ := hin r hr (by rw [e1]; exact Ne.symm hmp)
  exact ⟨r', hr', g1.trans e1, g2.trans e2⟩
 ·have key : ∀ k ∈ n :: R, (k.p = [] ∧ k.u = none) ∨ ∃ q ∈ { n with s := s' } :: R, ∃ w', k.p = q.p ++ [w'] ∧ k.u = some q.b ∧ (w', np k.b) ∈ q.s.rows := by
   intro k hk
   rcases h.ups k (List.mem_cons_of_mem _ hk) with e | ⟨q, hq, w', e1, e2, e3⟩
   ·exact .inl e
   ·refine .inr ?_
    rcases List.mem_cons.1 hq with rfl | hq
    ·rw [h0] at e3
     exact absurd e3 (by simp)
    rcases List.mem_cons.1 hq with rfl | hq
    ·refine ⟨_, List.mem_cons_self, w', e1, e2, (mem _).2 ⟨e3, fun e => ?_⟩⟩
     have e : w' = w := e
     rw [e, ← hm] at e1
     exact nm k hk e1
    ·exact ⟨q, List.mem_cons_of_mem _ hq, w', e1, e2, e3⟩
  intro k hk
  rcases List.mem_cons.1 hk with rfl | hk
  ·exact key n List.mem_cons_self
  ·exact key k (List.mem_cons_of_mem _ hk)
 ·intro k hk r hr
  rcases List.mem_cons.1 hk with rfl | hk
  ·obtain ⟨h1, h2⟩ := (mem r).1 hr
   obtain ⟨q, hq, e1, e2⟩ := h.downs n (by simp) r h1
   obtain ⟨q', hq', k1, k2⟩ := hin q hq (by rw [e1, hm]; intro e; exact h2 (snoc_inj e).2)
   exact ⟨q', hq', by rw [k1, e1], by rw [e2, k2]⟩
  ·obtain ⟨q, hq, e1, e2⟩ := h.downs k (by simp [hk]) r hr
   obtain ⟨q', hq', k1, k2⟩ := hin q hq (by rw [e1, hm]; intro e; exact nn k hk (snoc_inj e).1)
   exact ⟨q', hq', by rw [k1, e1], by rw [e2, k2]⟩
 ·intro k hk
  rcases List.mem_cons.1 hk with rfl | hk
  ·exact h.bare n (by simp)
  ·exact h.bare k (by simp [hk])
 ·intro k hk
  rcases List.mem_cons.1 hk with rfl | hk
  ·exact ⟨hok, (h.oks n (by simp)).2⟩
  ·exact h.oks k (by simp [hk])
 ·have := h.few
  simp only [List.length_cons] at this ⊢
  omega
end
section
variable {B : Nat} {w0 w : World} {F : List (Nat × Obj)} {L : List Nd} {tb c : Nat} {n m : Nd}
theorem objs_perm {L' : List Nd} (h : L.Perm L') : (objsL L).Perm (objsL L') := List.Perm.flatMap_right _ h
theorem objs_cons (n : Nd) (R : List Nd) : objsL (n :: R) = n.objs ++ objsL R := rfl
theorem mem_cells (hn : n ∈ L) : (n.b, (.cells n.cells n.y : Obj)) ∈ objsL L ++ F := List.mem_append_left _ (List.mem_flatMap.2 ⟨n, hn, List.mem_cons_self⟩)
theorem St.node (h : St B w0 w (objsL L ++ F)) (hn : n ∈ L) {j : Nat} {v : Value} (hj : n.cells[j]? = some v) : w.cell? ⟨n.b, j, none⟩ = some v := h.cell (b := n.b) (mem_cells hn) hj
theorem St.nodeSoft (h : St B w0 w (objsL L ++ F)) (hn : n ∈ L) (j : Nat) : w.frozen? ⟨n.b, j, none⟩ = false := h.soft (b := n.b) (mem_cells hn) j
theorem St.nodeIn (h : St B w0 w (objsL L ++ F)) (hn : n ∈ L) : w.heap[n.b]? = some (.cells n.cells n.y) := h.get (b := n.b) (mem_cells hn)
theorem St.tabS (h : St B w0 w (objsL L ++ F)) (hn : n ∈ L) : TbAt w n.b 2 encS n.s :=
 ⟨h.node hn rfl, h.node hn rfl, fun mb e => h.get (b := mb) (List.mem_append_left _ (List.mem_flatMap.2 ⟨n, hn, by unfold Nd.objs tabH; rw [e]; simp⟩))⟩
theorem St.tabI (h : St B w0 w (objsL L ++ F)) (hn : n ∈ L) : TbAt w n.b 4 encI n.i :=
 ⟨h.node hn rfl, h.node hn rfl, fun mb e => h.get (b := mb) (List.mem_append_left _ (List.mem_flatMap.2 ⟨n, hn, by unfold Nd.objs; simp only [tabH, e]; simp⟩))⟩
theorem run_kid (h : St B w0 w (objsL L ++ F)) (ht : TreeOk L tb c) (hn : n ∈ L) (v : List UInt8) :
  (Instr.lookup 311 (.map n.s.mv) (tx v) false).run Tryz.prog w = .ok (ptrP L (n.p ++ [v])) w := by
 have hk := ht.kid hn v
 cases hmv : n.s.mv with
 | none =>
  have := run_lookE_nil (c := false) keyS uMapS (zNode w) (k := v) trivial
  rw [((ht.oks n hn).1.bare hmv).1] at hk
  rw [← hk]
  exact this
 | some mb =>
  have := run_lookE (c := false) keyS uMapS (zNode w) ((h.tabS hn).map mb hmv) (k := v) trivial (fun _ _ => trivial)
  rw [hk] at this
  exact this
end
end
theorem gl_split {P Q K : Wds} : gl (P ++ Q) K = true ↔ ∃ j, j ≤ K.length ∧ gl P (K.take j) = true ∧ gl Q (K.drop j) = true := by
 induction P generalizing K with
 | nil =>
  constructor
  ·exact fun h => ⟨0, Nat.zero_le _, rfl, h⟩
  ·rintro ⟨j, hj, h1, h2⟩
   rw [gl_nil, List.isEmpty_iff] at h1
   have : j = 0 := by
    have := congrArg List.length h1
    rw [List.length_take, List.length_nil] at this
    omega
   subst this
   exact h2
 | cons p P ih =>
  by_cases hp : p = [35]
  ·subst hp
   rw [List.cons_append, gl_hash, hashL_iff]
   constructor
   ·rintro ⟨i, hi, h⟩
    obtain ⟨j, hj, h1, h2⟩ := ih.1 h
    rw [List.length_drop] at hj
    refine ⟨i + j, by omega, ?_, by rw [← List.drop_drop]; exact h2⟩
    rw [gl_hash, hashL_iff]
    refine ⟨i, by rw [List.length_take]; omega, ?_⟩
    rw [List.drop_take, show i + j - i = j by omega]
    exact h1
   ·rintro ⟨j, hj, h1, h2⟩
    rw [gl_hash, hashL_iff] at h1
    obtain ⟨i, hi, h1⟩ := h1
    rw [List.length_take] at hi
    rw [List.drop_take] at h1
    refine ⟨i, by omega, ih.2 ⟨j - i, by rw [List.length_drop]; omega, h1, ?_⟩⟩
    rw [List.drop_drop, show i + (j - i) = j by omega]
    exact h2
  ·cases K with
   | nil =>
    rw [List.cons_append, gl_short hp]
    constructor
    ·intro h; cases h
    ·rintro ⟨j, hj, h1, _⟩
     rw [List.take_nil, gl_short hp] at h1
     cases h1
   | cons x K =>
    rw [List.cons_append, gl_one hp, Bool.and_eq_true, ih]
    constructor
    ·rintro ⟨h0, j, hj, h1, h2⟩
     exact ⟨j + 1, by rw [List.length_cons]; omega, by rw [List.take_succ_cons, gl_one hp, h0, h1]; rfl, h2⟩
    ·rintro ⟨j, hj, h1, h2⟩
     cases j with
     | zero => rw [List.take_zero, gl_short hp] at h1; cases h1
     | succ j =>
      rw [List.take_succ_cons, gl_one hp, Bool.and_eq_true] at h1
      exact ⟨h1.1, j, by rw [List.length_cons] at hj; omega, h1.2, h2⟩
theorem gl_last_one {P K : Wds} {v x : List UInt8} (hv : v ≠ [35]) : gl (P ++ [v]) (K ++ [x]) = true ↔ gl P K = true ∧ stands v x = true := by
 rw [gl_split]
 constructor
 ·rintro ⟨j, hj, h1, h2⟩
  have hl : (K ++ [x]).length = K.length + 1 := by simp
  cases hd : (K ++ [x]).drop j with
  | nil => rw [hd, gl_short hv] at h2; cases h2
  | cons y Y =>
   rw [hd, gl_one hv, Bool.and_eq_true, gl_nil, List.isEmpty_iff] at h2
   have hn := congrArg List.length hd
   rw [List.length_drop, h2.2] at hn
   simp only [List.length_cons, List.length_nil] at hn
   have e : j = K.length := by omega
   subst e
   simp only [List.take_left] at h1
   simp only [List.drop_left] at hd
   rw [List.cons.injEq] at hd
   rw [hd.1]
   exact ⟨h1, h2.1⟩
 ·rintro ⟨h1, h2⟩
  refine ⟨K.length, by simp, by simpa using h1, ?_⟩
  rw [List.drop_left, gl_one hv, h2]
  rfl
theorem gl_last_short {P : Wds} {v : List UInt8} (hv : v ≠ [35]) : gl (P ++ [v]) [] = false := by
 apply Bool.eq_false_iff.2
 intro h
 obtain ⟨j, _, _, h2⟩ := gl_split.1 h
 rw [List.drop_nil, gl_short hv] at h2
 cases h2
theorem hash_all (K : Wds) : gl [[35]] K = true := by
 rw [gl_hash, hashL_iff]
 exact ⟨K.length, Nat.le_refl _, by rw [List.drop_of_length_le (Nat.le_refl _)]; rfl⟩
theorem gl_last_hash {P K : Wds} : gl (P ++ [[35]]) K = true ↔ ∃ j, j ≤ K.length ∧ gl P (K.take j) = true := by
 rw [gl_split]
 exact ⟨fun ⟨j, h1, h2, _⟩ => ⟨j, h1, h2⟩, fun ⟨j, h1, h2⟩ => ⟨j, h1, h2, hash_all _⟩⟩
theorem gl_hash_on {P K : Wds} {x : List UInt8} : gl (P ++ [[35]]) (K ++ [x]) = true ↔ gl P (K ++ [x]) = true ∨ gl (P ++ [[35]]) K = true := by
 rw [gl_last_hash, gl_last_hash]
 constructor
 ·rintro ⟨j, hj, h⟩
  by_cases e : j = K.length + 1
  ·subst e
   rw [List.take_of_length_le (by simp)] at h
   exact .inl h
  ·rw [List.length_append, List.length_singleton] at hj
   refine .inr ⟨j, by omega, ?_⟩
   rw [List.take_append_of_le_length (by omega)] at h
   exact h
 ·rintro (h | ⟨j, hj, h⟩)
  ·exact ⟨K.length + 1, by simp, by rw [List.take_of_length_le (by simp)]; exact h⟩
  ·exact ⟨j, by rw [List.length_append]; omega, by rw [List.take_append_of_le_length hj]; exact h⟩
theorem gl_hash_more {P K : Wds} (h : gl P K = true) : gl (P ++ [[35]]) K = true := gl_last_hash.2 ⟨K.length, Nat.le_refl _, by rwa [List.take_of_length_le (Nat.le_refl _)]⟩
theorem gl_hashes {P K : Wds} (h : gl P K = true) (j : Nat) : gl (P ++ List.replicate j [35]) K = true := by
 induction j with
 | zero => simpa using h
 | succ j ih =>
  rw [List.replicate_succ', ← List.append_assoc]
  exact gl_hash_more ih
theorem gl_none {K : Wds} {x : List UInt8} : gl [] (K ++ [x]) = false := by
 rw [gl_nil]
 simp
abbrev Kn := Wds → Nat
section
variable {L : List Nd} {tb c : Nat} {K K' K0 : Kn} {n m : Nd}
structure KOk (L : List Nd) (K : Kn) : Prop where
 two : ∀ n ∈ L, K n.p = 2 → n.i.es = [] ∧ ∀ m ∈ L, ∀ w, m.p = n.p ++ [w] → K m.p ≠ 0
 one : ∀ n ∈ L, K n.p = 1 → ∃ p, n.p = p ++ [[35]]
 few : ∀ p, K p ≤ 2
def Kn.set (K : Kn) (p : Wds) (v : Nat) : Kn := fun q => if q = p then v else K q
theorem Kn.set_same (K : Kn) (p : Wds) (v : Nat) : K.set p v p = v := by simp [Kn.set]
theorem Kn.set_ne (K : Kn) {p q : Wds} (v : Nat) (h : q ≠ p) : K.set p v q = K q := by simp [Kn.set, h]
theorem KOk.zero (L : List Nd) : KOk L (fun _ => 0) := ⟨fun _ _ h => absurd h (by simp), fun _ _ h => absurd h (by simp), fun _ => Nat.zero_le _⟩
theorem TreeOk.only (h : TreeOk L tb c) (hn : n ∈ L) (hl : n.s.es.length ≤ 1) {m m' : Nd} {w w' : List UInt8} (hm : m ∈ L) (hm' : m' ∈ L) (e : m.p = n.p ++ [w]) (e' : m'.p = n.p ++ [w']) : m = m' := by
 have row : ∀ {m : Nd} {w}, m ∈ L → m.p = n.p ++ [w] → (w, np m.b) ∈ n.s.rows := by
  intro m w hm e
  rcases h.ups m hm with ⟨h1, _⟩ | ⟨q, hq, w', h1, _, h2⟩
  ·rw [h1] at e; simp at e
  ·rw [h1] at e
   obtain ⟨e1, rfl⟩ := snoc_inj e
   obtain rfl := map_inj h.paths hq hn e1
   exact h2
 have h1 := row hm e
 have h2 := row hm' e'
 have hl2 : n.s.rows.length ≤ 1 := by simpa [Tb.rows] using hl
 cases hr : n.s.rows with
 | nil => rw [hr] at h1; simp at h1
 | cons a r =>
  rw [hr] at h1 h2 hl2
  have : r = [] := List.eq_nil_of_length_eq_zero (by rw [List.length_cons] at hl2; omega)
  subst this
  rw [List.mem_singleton] at h1 h2
  have e3 := h1.trans h2.symm
  rw [Prod.mk.injEq] at e3
  rw [e3.1, ← e'] at e
  exact map_inj h.paths hm hm' e
theorem KOk.pass (h : KOk L K) (ht : TreeOk L tb c) (hn : n ∈ L) (hi : n.i.es = []) (hl : n.s.es.length ≤ 1) {m : Nd} {w : List UInt8} (hm : m ∈ L) (e : m.p = n.p ++ [w]) (hk : K m.p ≠ 0) : KOk L (K.set n.p 2) := by
 have up : ∀ q, K q ≠ 0 → K.set n.p 2 q ≠ 0 := fun q hq => by
  unfold Kn.set
  split
  ·decide
  ·exact hq
 refine ⟨fun x hx h2 => ?_, fun x hx h1 => ?_, fun p => ?_⟩
 ·by_cases hxn : x.p = n.p
  ·obtain rfl := map_inj ht.paths hx hn hxn
   exact ⟨hi, fun y hy w' e' => up _ (by rw [← ht.only hn hl hm hy e e']; exact hk)⟩
  ·rw [Kn.set_ne _ _ hxn] at h2
   obtain ⟨g1, g2⟩ := h.two x hx h2
   exact ⟨g1, fun y hy w' e' => up _ (g2 y hy w' e')⟩
 ·by_cases hxn : x.p = n.p
  ·rw [hxn, Kn.set_same] at h1; cases h1
  ·rw [Kn.set_ne _ _ hxn] at h1
   exact h.one x hx h1
 ·unfold Kn.set
  split
  ·decide
  ·exact h.few p
theorem KOk.reach (h : KOk L K) (ht : TreeOk L tb c) (hn : n ∈ L) {p : Wds} (e : n.p = p ++ [[35]]) : KOk L (K.set n.p 1) := by
 have up : ∀ q, K q ≠ 0 → K.set n.p 1 q ≠ 0 := fun q hq => by
  unfold Kn.set
  split
  ·decide
  ·exact hq
 refine ⟨fun x hx h2 => ?_, fun x hx h1 => ?_, fun p => ?_⟩
 ·by_cases hxn : x.p = n.p
  ·rw [hxn, Kn.set_same] at h2; cases h2
  ·rw [Kn.set_ne _ _ hxn] at h2
   obtain ⟨g1, g2⟩ := h.two x hx h2
   exact ⟨g1, fun y hy w' e' => up _ (g2 y hy w' e')⟩
 ·by_cases hxn : x.p = n.p
  ·exact ⟨p, hxn.trans e⟩
  ·rw [Kn.set_ne _ _ hxn] at h1
   exact h.one x hx h1
 ·unfold Kn.set
  split
  ·decide
  ·exact h.few p
def PassK (K K' : Kn) : Prop := ∀ q, K' q = K q ∨ K' q = 2
theorem PassK.refl (K : Kn) : PassK K K := fun _ => .inl rfl
theorem PassK.step (h : PassK K0 K) (p : Wds) : PassK K0 (K.set p 2) := fun q => by
 unfold Kn.set
 split
 ·exact .inr rfl
 ·exact h q
theorem PassK.up (h : PassK K K') {q : Wds} (hq : K q ≠ 0) : K' q ≠ 0 := by
 rcases h q with e | e <;> rw [e]
 ·exact hq
 ·decide
structure ReachOk (L : List Nd) (K0 : Kn) (A : List Nd) (o0 : Option Nd) (K : Kn) (X : List Nd) (o : Option Nd) : Prop where
 ok : KOk L K
 nodup : (A ++ X).Nodup
 mem : ∀ y ∈ A ++ X, y ∈ L
 hash : ∀ y ∈ A ++ X, ∀ p, y.p = p ++ [[35]] → K y.p ≠ 0
 turn : ∀ q, K q = K0 q ∨ K q = 2 ∨ (K0 q = 0 ∧ ∃ y ∈ X, y.p = q)
 zero : ∀ y ∈ X, K0 y.p = 0
 form : ∀ y ∈ X, ∃ n j, o0 = some n ∧ y.p = n.p ++ List.replicate j [35]
 next : ∀ y, o = some y → y ∈ L ∧ (K y.p = 0 → y ∉ A ++ X) ∧ ∃ n j, o0 = some n ∧ y.p = n.p ++ List.replicate j [35]
 first : ∀ n, o0 = some n → (X = [] ∧ o = some n) ∨ n ∈ X
 kids : ∀ y ∈ X, ∀ z ∈ L, z.p = y.p ++ [[35]] → K z.p ≠ 0 ∨ o = some z
variable {A X : List Nd} {o0 o : Option Nd}
theorem ReachOk.start (h : KOk L K) (hn : A.Nodup) (hm : ∀ y ∈ A, y ∈ L) (hh : ∀ y ∈ A, ∀ p, y.p = p ++ [[35]] → K y.p ≠ 0) (ho : ∀ y, o = some y → y ∈ L ∧ (K y.p = 0 → y ∉ A)) : ReachOk L K A o K [] o :=
 ⟨h, by simpa using hn, by simpa using hm, by simpa using hh, fun q => .inl rfl, by simp, by simp,
  fun y hy => ⟨(ho y hy).1, by simpa using (ho y hy).2, y, 0, hy, by simp⟩, fun n hn => .inl ⟨rfl, hn⟩, by simp⟩
theorem ReachOk.up (h : ReachOk L K0 A o0 K X o) {q : Wds} (hq : K0 q ≠ 0) : K q ≠ 0 := by
 rcases h.turn q with e | e | ⟨e, _⟩
 ·rw [e]; exact hq
 ·rw [e]; decide
 ·exact absurd e hq
theorem ReachOk.step (h : ReachOk L K0 A o0 K X (some n)) (ht : TreeOk L tb c) (hz : K n.p = 0) (hk : KOk L K')
  (ht2 : ∀ q, K' q = K q ∨ K' q = 2 ∨ q = n.p) (hp : ∀ p, n.p = p ++ [[35]] → K' n.p ≠ 0) (hnn : (∀ p, n.p ≠ p ++ [[35]]) → K' n.p = K n.p ∨ K' n.p = 2) : ReachOk L K0 A o0 K' (X ++ [n]) (nd L (n.p ++ [[35]])) := by
 obtain ⟨hnL, hnA, nf⟩ := h.next n rfl
 have hnA := hnA hz
 have e0 : A ++ (X ++ [n]) = (A ++ X) ++ [n] := by simp
 have up : ∀ q, K q ≠ 0 → K' q ≠ 0 := by
  intro q hq
  rcases ht2 q with e | e | e
  ·rw [e]; exact hq
  ·rw [e]; decide
  ·rw [e] at hq; exact absurd hz hq
 have hash' : ∀ y ∈ A ++ (X ++ [n]), ∀ p, y.p = p ++ [[35]] → K' y.p ≠ 0 := by
  rw [e0]
  intro y hy p hyp
  rcases List.mem_append.1 hy with hy | hy
  ·exact up _ (h.hash y hy p hyp)
  ·rw [List.mem_singleton] at hy
   subst hy
   exact hp p hyp
 refine ⟨hk, ?_, ?_, hash', ?_, ?_, ?_, ?_, ?_, ?_⟩
 ·rw [e0, List.nodup_append]
  exact ⟨h.nodup, by simp, by rintro a ha b hb rfl; rw [List.mem_singleton] at hb; subst hb; exact hnA ha⟩
 ·rw [e0]
  intro y hy
  rcases List.mem_append.1 hy with hy | hy
  ·exact h.mem y hy
  ·rw [List.mem_singleton] at hy
   subst hy
   exact hnL
 ·intro q
  by_cases hq : q = n.p
  ·subst hq
   rcases h.turn n.p with e | e | ⟨e, _⟩
   ·exact .inr (.inr ⟨e ▸ hz, n, by simp, rfl⟩)
   ·rw [hz] at e; cases e
   ·exact .inr (.inr ⟨e, n, by simp, rfl⟩)
  ·rcases ht2 q with e | e | e
   ·rcases h.turn q with g | g | ⟨g, y, hy, g2⟩
    ·exact .inl (e.trans g)
    ·exact .inr (.inl (e.trans g))
    ·exact .inr (.inr ⟨g, y, by simp [hy], g2⟩)
   ·exact .inr (.inl e)
   ·exact absurd e hq
 ·intro y hy
  rcases List.mem_append.1 hy with hy | hy
  ·exact h.zero y hy
  ·rw [List.mem_singleton] at hy
   subst hy
   rcases h.turn y.p with e | e | ⟨e, _⟩
   ·rw [← e, hz]
   ·rw [hz] at e; cases e
   ·exact e
 ·intro y hy
  rcases List.mem_append.1 hy with hy | hy
  ·exact h.form y hy
  ·rw [List.mem_singleton] at hy
   subst hy
   exact nf
 ·intro y hy
  obtain ⟨h1, h2⟩ := nd_mem hy
  refine ⟨h1, fun hz hin => hash' y hin n.p h2 hz, ?_⟩
  obtain ⟨x, j, e1, e2⟩ := nf
  refine ⟨x, j + 1, e1, ?_⟩
  rw [h2, e2, List.replicate_succ', List.append_assoc]
 ·intro x hx
  rcases h.first x hx with ⟨_, e⟩ | e
  ·cases e
   exact .inr (by simp)
  ·exact .inr (by simp [e])
 ·intro y hy z hz2 hzp
  rcases List.mem_append.1 hy with hy | hy
  ·rcases h.kids y hy z hz2 hzp with e | e
   ·exact .inl (up _ e)
   ·cases e
    exact .inl (hp _ hzp)
  ·rw [List.mem_singleton] at hy
   subst hy
   right
   rw [← hzp]
   exact ht.nd_some hz2
end
section
variable {L : List Nd} {tb c : Nat} {K K' K0 : Kn} {n m : Nd} {A X H : List Nd} {o0 o : Option Nd} {ks : Wds} {w : List UInt8}
def Stop (K : Kn) (o : Option Nd) : Prop := ∀ y, o = some y → K y.p ≠ 0
structure Here (L : List Nd) (ks : Wds) (K : Kn) (H : List Nd) : Prop where
 ok : KOk L K
 nodup : H.Nodup
 mem : ∀ y ∈ H, y ∈ L
 sound : ∀ y ∈ H, gl y.p ks = true
 hash : ∀ y ∈ H, ∀ p, y.p = p ++ [[35]] → K y.p ≠ 0
 kids : ∀ y ∈ H, ∀ z ∈ L, z.p = y.p ++ [[35]] → K z.p ≠ 0
 one : ∀ n ∈ L, K n.p = 1 → n ∈ H
 all : ∀ q ∈ L, gl q.p ks = true → q ∈ H ∨ K q.p = 2
theorem KOk.cases (h : KOk L K) {p : Wds} (h0 : K p ≠ 0) : K p = 1 ∨ K p = 2 := by
 have := h.few p
 omega
theorem Here.start (ht : TreeOk L tb c) (hn : n ∈ L) (h0 : n.p = []) (R : ReachOk L (fun _ => 0) [] (some n) K X o) (hs : Stop K o) : Here L [] K X := by
 have one : ∀ m ∈ L, K m.p = 1 → m ∈ X := by
  intro m hm h1
  rcases R.turn m.p with e | e | ⟨_, y, hy, e⟩
  ·rw [h1] at e; cases e
  ·rw [h1] at e; cases e
  ·rw [← map_inj ht.paths (R.mem y (by simpa using hy)) hm e]
   exact hy
 have kids : ∀ y ∈ X, ∀ z ∈ L, z.p = y.p ++ [[35]] → K z.p ≠ 0 := fun y hy z hz e => (R.kids y hy z hz e).elim id fun e => hs z e
 refine ⟨R.ok, by simpa using R.nodup, fun y hy => R.mem y (by simpa using hy), ?_, fun y hy => R.hash y (by simpa using hy), kids, one, ?_⟩
 ·intro y hy
  obtain ⟨x, j, e1, e2⟩ := R.form y hy
  cases e1
  rw [e2, h0]
  exact gl_hashes rfl j
 ·have key : ∀ d, ∀ q ∈ L, q.p.length = d → gl q.p [] = true → q ∈ X ∨ K q.p = 2 := by
   intro d
   induction d with
   | zero =>
    intro q hq hd _
    have e : q.p = [] := List.eq_nil_of_length_eq_zero hd
    obtain rfl := map_inj ht.paths hq hn (e.trans h0.symm)
    rcases R.first q rfl with ⟨e1, e2⟩ | e1
    ·right
     rcases R.ok.cases (hs q e2) with e3 | e3
     ·have := one q hq e3
      rw [e1] at this
      simp at this
     ·exact e3
    ·exact .inl e1
   | succ d ih =>
    intro q hq hd hg
    rcases ht.ups q hq with ⟨e, _⟩ | ⟨x, hx, v, e, _, _⟩
    ·rw [e] at hd; cases hd
    ·rw [e] at hg
     by_cases hv : v = [35]
     ·subst hv
      obtain ⟨j, hj, hg⟩ := gl_last_hash.1 hg
      rw [List.take_nil] at hg
      have hxd : x.p.length = d := by
       rw [e, List.length_append, List.length_singleton] at hd
       omega
      have hk : K q.p ≠ 0 := by
       rcases ih x hx hxd hg with h1 | h1
       ·exact kids x h1 q hq e
       ·exact (R.ok.two x hx h1).2 q hq _ e
      rcases R.ok.cases hk with h1 | h1
      ·exact .inl (one q hq h1)
      ·exact .inr h1
     ·rw [gl_last_short hv] at hg
      cases hg
  exact fun q hq => key _ q hq rfl
structure Taking (L : List Nd) (ks : Wds) (w : List UInt8) (K0 : Kn) (H : List Nd) (stays : Nd → Prop) (led : Nd → List UInt8 → Prop) (K : Kn) (A : List Nd) : Prop where
 here : Here L ks K0 H
 ok : KOk L K
 nodup : A.Nodup
 mem : ∀ y ∈ A, y ∈ L
 sound : ∀ y ∈ A, gl y.p (ks ++ [w]) = true
 hash : ∀ y ∈ A, ∀ p, y.p = p ++ [[35]] → K y.p ≠ 0
 kids : ∀ y ∈ A, ∀ z ∈ L, z.p = y.p ++ [[35]] → K z.p ≠ 0
 turn : ∀ q, K q = K0 q ∨ K q = 2 ∨ (K0 q = 0 ∧ ∃ y ∈ A, y.p = q)
 stay : ∀ n ∈ H, stays n → K n.p = 1 → n ∈ A
 lead : ∀ n ∈ H, ∀ v, led n v → ∀ z ∈ L, z.p = n.p ++ [v] → z ∈ A ∨ K z.p ≠ 0
 from_ : ∀ y ∈ A, (∀ p, y.p ≠ p ++ [[35]]) → ∃ n ∈ H, ∃ v, y.p = n.p ++ [v] ∧ led n v
 back : ∀ y ∈ A, y ∈ H → ∀ p, y.p = p ++ [[35]] → stays y
variable {stays : Nd → Prop} {led : Nd → List UInt8 → Prop}
theorem Taking.start (h : Here L ks K H) (w : List UInt8) : Taking L ks w K H (fun _ => False) (fun _ _ => False) K [] :=
 ⟨h, h.ok, by simp, by simp, by simp, by simp, by simp, fun q => .inl rfl, fun _ _ e => e.elim, fun _ _ _ e => e.elim, by simp, by simp⟩
theorem Taking.up (h : Taking L ks w K0 H stays led K A) {q : Wds} (hq : K0 q ≠ 0) : K q ≠ 0 := by
 rcases h.turn q with e | e | ⟨e, _⟩
 ·rw [e]; exact hq
 ·rw [e]; decide
 ·exact absurd e hq
theorem Taking.stay0 (h : Taking L ks w K0 H stays led K A) (hk : K n.p ≠ 1) : Taking L ks w K0 H (fun x => stays x ∨ x = n) led K A :=
 ⟨h.here, h.ok, h.nodup, h.mem, h.sound, h.hash, h.kids, h.turn, fun m hm hs h1 => hs.elim (fun hs => h.stay m hm hs h1) fun e => absurd (e ▸ h1) hk, h.lead, h.from_, fun y hy hyH p e => .inl (h.back y hy hyH p e)⟩
theorem Taking.fresh (h : Taking L ks w K0 H stays led K A) (hn : n ∈ H) (hs : ¬ stays n) (hk : K n.p = 1) : n ∉ A := fun hA => by
 obtain ⟨p, e⟩ := h.ok.one n (h.here.mem n hn) hk
 exact hs (h.back n hA hn p e)
theorem Taking.stay1 (h : Taking L ks w K0 H stays led K A) (hn : n ∈ H) (hs : ¬ stays n) (hk : K n.p = 1) : Taking L ks w K0 H (fun x => stays x ∨ x = n) led K (A ++ [n]) := by
 obtain ⟨p, e⟩ := h.ok.one n (h.here.mem n hn) hk
 have hnA := h.fresh hn hs hk
 have all : ∀ {Q : Nd → Prop}, (∀ y ∈ A, Q y) → Q n → ∀ y ∈ A ++ [n], Q y := by
  intro Q h1 h2 y hy
  rcases List.mem_append.1 hy with hy | hy
  ·exact h1 y hy
  ·rw [List.mem_singleton] at hy
   subst hy
   exact h2
 refine ⟨h.here, h.ok, ?_, all h.mem (h.here.mem n hn), all h.sound ?_, all h.hash (fun _ _ => by rw [hk]; decide), all h.kids (fun z hz e2 => h.up (h.here.kids n hn z hz e2)), ?_, ?_, ?_, ?_, ?_⟩
 ·rw [List.nodup_append]
  exact ⟨h.nodup, by simp, by rintro a ha b hb rfl; rw [List.mem_singleton] at hb; subst hb; exact hnA ha⟩
 ·have := h.here.sound n hn
  rw [e] at this ⊢
  exact gl_hash_on.2 (.inr this)
 ·intro q
  rcases h.turn q with g | g | ⟨g, y, hy, e2⟩
  ·exact .inl g
  ·exact .inr (.inl g)
  ·exact .inr (.inr ⟨g, y, by simp [hy], e2⟩)
 ·intro m hm hs h1
  rcases hs with hs | rfl
  ·exact List.mem_append_left _ (h.stay m hm hs h1)
  ·simp
 ·intro m hm v hv z hz e2
  exact (h.lead m hm v hv z hz e2).imp (fun x => List.mem_append_left _ x) id
 ·exact all h.from_ (fun hno => absurd e (hno p))
 ·exact all (fun y hy hyH p e => .inl (h.back y hy hyH p e)) (fun _ _ _ => .inr rfl)
theorem Taking.ask (h : Taking L ks w K0 H stays led K A) (ht : TreeOk L tb c) (hn : n ∈ H) {v : List UInt8} (hl : ¬ led n v) : ∀ y, nd L (n.p ++ [v]) = some y → y ∈ L ∧ (K y.p = 0 → y ∉ A) := by
 intro y hy
 obtain ⟨h1, h2⟩ := nd_mem hy
 refine ⟨h1, fun hk hA => ?_⟩
 by_cases hv : v = [35]
 ·subst hv
  exact h.hash y hA _ h2 hk
 ·obtain ⟨m, hm, v', e1, e2⟩ := h.from_ y hA (fun p e => hv (by rw [h2] at e; exact (snoc_inj e).2))
  rw [h2] at e1
  obtain ⟨e3, rfl⟩ := snoc_inj e1
  obtain rfl := map_inj ht.paths (h.here.mem n hn) (h.here.mem m hm) e3
  exact hl e2
theorem Taking.reach (h : Taking L ks w K0 H stays led K A) (ht : TreeOk L tb c) (hn : n ∈ H) {v : List UInt8} (hv : stands v w = true ∨ v = [35]) (R : ReachOk L K A (nd L (n.p ++ [v])) K' X o) (hs : Stop K' o) :
  Taking L ks w K0 H stays (fun x u => led x u ∨ (x = n ∧ u = v)) K' (A ++ X) := by
 have hnL := h.here.mem n hn
 have all : ∀ {Q : Nd → Prop}, (∀ y ∈ A, Q y) → (∀ y ∈ X, Q y) → ∀ y ∈ A ++ X, Q y := fun h1 h2 y hy => (List.mem_append.1 hy).elim (h1 y) (h2 y)
 refine ⟨h.here, R.ok, R.nodup, R.mem, all h.sound ?_, R.hash, all (fun y hy z hz e => R.up (h.kids y hy z hz e)) (fun y hy z hz e => (R.kids y hy z hz e).elim id fun e => hs z e), ?_, ?_, ?_, all ?_ ?_, all h.back ?_⟩
 ·intro y hy
  obtain ⟨x, j, e1, e2⟩ := R.form y hy
  obtain ⟨-, e3⟩ := nd_mem e1
  rw [e2, e3]
  refine gl_hashes ?_ j
  have hg := h.here.sound n hn
  by_cases h35 : v = [35]
  ·subst h35
   exact gl_hash_on.2 (.inr (gl_hash_more hg))
  ·exact (gl_last_one h35).2 ⟨hg, hv.elim id fun e => absurd e h35⟩
 ·intro q
  rcases R.turn q with e | e | ⟨e, y, hy, e2⟩
  ·rcases h.turn q with g | g | ⟨g, y, hy, e2⟩
   ·exact .inl (e.trans g)
   ·exact .inr (.inl (e.trans g))
   ·exact .inr (.inr ⟨g, y, by simp [hy], e2⟩)
  ·exact .inr (.inl e)
  ·rcases h.turn q with g | g | ⟨g, -⟩
   ·exact .inr (.inr ⟨by rw [← g, e], y, by simp [hy], e2⟩)
   ·rw [e] at g; cases g
   ·exact .inr (.inr ⟨g, y, by simp [hy], e2⟩)
 ·intro m hm hsm h1
  rcases R.turn m.p with e | e | ⟨e, y, hy, e2⟩
  ·exact List.mem_append_left _ (h.stay m hm hsm (e ▸ h1))
  ·rw [h1] at e; cases e
  ·rw [← map_inj ht.paths (R.mem y (by simp [hy])) (h.here.mem m hm) e2]
   exact List.mem_append_right _ hy
 ·intro m hm u hu z hz e
  rcases hu with hu | ⟨rfl, rfl⟩
  ·exact (h.lead m hm u hu z hz e).imp (fun x => List.mem_append_left _ x) R.up
  ·have : nd L (m.p ++ [u]) = some z := by rw [← e]; exact ht.nd_some hz
   rcases R.first z this with ⟨_, e2⟩ | e2
   ·exact .inr (hs z e2)
   ·exact .inl (List.mem_append_right _ e2)
 ·intro y hy hno
  obtain ⟨x, hx, u, e1, e2⟩ := h.from_ y hy hno
  exact ⟨x, hx, u, e1, .inl e2⟩
 ·intro y hy hno
  obtain ⟨x, j, e1, e2⟩ := R.form y hy
  obtain ⟨-, e3⟩ := nd_mem e1
  cases j with
  | zero => exact ⟨n, hn, v, by simpa [e3] using e2, .inr ⟨rfl, rfl⟩⟩
  | succ j =>
   rw [List.replicate_succ', ← List.append_assoc] at e2
   exact absurd e2 (hno _)
 ·intro y hy hyH p e
  exact absurd (R.zero y hy) (h.up (h.here.hash y hyH p e))
theorem Taking.done (h : Taking L ks w K0 H stays led K A) (ht : TreeOk L tb c) (h1 : ∀ n ∈ H, stays n) (h2 : ∀ n ∈ H, ∀ v, v ≠ [35] → stands v w = true → led n v) : Here L (ks ++ [w]) K A := by
 have one : ∀ n ∈ L, K n.p = 1 → n ∈ A := by
  intro n hn hk
  rcases h.turn n.p with e | e | ⟨_, y, hy, e⟩
  ·have := h.here.one n hn (e ▸ hk)
   exact h.stay n this (h1 n this) hk
  ·rw [hk] at e; cases e
  ·rw [← map_inj ht.paths (h.mem y hy) hn e]
   exact hy
 have two : ∀ q, K0 q = 2 → K q = 2 := fun q hq => by
  rcases h.turn q with e | e | ⟨e, _⟩
  ·rw [e, hq]
  ·exact e
  ·rw [hq] at e; cases e
 refine ⟨h.ok, h.nodup, h.mem, h.sound, h.hash, h.kids, one, ?_⟩
 have fin : ∀ q ∈ L, K q.p ≠ 0 → q ∈ A ∨ K q.p = 2 := fun q hq hk => (h.ok.cases hk).imp (one q hq) id
 have key : ∀ d, ∀ q ∈ L, q.p.length = d → gl q.p (ks ++ [w]) = true → q ∈ A ∨ K q.p = 2 := by
  intro d
  induction d with
  | zero =>
   intro q hq hd hg
   rw [List.eq_nil_of_length_eq_zero hd, gl_none] at hg
   cases hg
  | succ d ih =>
   intro q hq hd hg
   rcases ht.ups q hq with ⟨e, _⟩ | ⟨x, hx, v, e, _, _⟩
   ·rw [e] at hd; cases hd
   ·have hxd : x.p.length = d := by
     rw [e, List.length_append, List.length_singleton] at hd
     omega
    rw [e] at hg
    by_cases hv : v = [35]
    ·subst hv
     rcases gl_hash_on.1 hg with hg | hg
     ·refine fin q hq ?_
      rcases ih x hx hxd hg with g | g
      ·exact h.kids x g q hq e
      ·exact (h.ok.two x hx g).2 q hq _ e
     ·rw [← e] at hg
      rcases h.here.all q hq hg with g | g
      ·exact fin q hq (h.up (h.here.hash q g _ e))
      ·exact .inr (two _ g)
    ·obtain ⟨hg, hst⟩ := (gl_last_one hv).1 hg
     rcases h.here.all x hx hg with g | g
     ·rcases h.lead x g v (h2 x g v hv hst) q hq e with k | k
      ·exact .inl k
      ·exact fin q hq k
     ·exact fin q hq ((h.ok.two x hx (two _ g)).2 q hq _ e)
 exact fun q hq => key _ q hq rfl
theorem Here.none (h : Here L ks K []) (ht : TreeOk L tb c) (more : Wds) : Here L (ks ++ more) K [] := by
 induction more generalizing ks with
 | nil => simpa using h
 | cons w more ih =>
  have := ih ((Taking.start h w).done ht (by simp) (by simp))
  simpa using this
theorem Here.len (h : Here L ks K H) : H.length ≤ L.length := nodup_len h.nodup h.mem
theorem Here.ids (h : Here L ks K H) (k : Int) : (∃ n ∈ H, k ∈ n.i.es.map (·.1)) ↔ ∃ p, HasId L p k ∧ gl p ks = true := by
 constructor
 ·rintro ⟨n, hn, hk⟩
  exact ⟨n.p, ⟨n, h.mem n hn, rfl, hk⟩, h.sound n hn⟩
 ·rintro ⟨p, ⟨n, hn, rfl, hk⟩, hg⟩
  rcases h.all n hn hg with g | g
  ·exact ⟨n, g, hk⟩
  ·rw [(h.ok.two n hn g).1] at hk
   simp at hk
end
end Go.Proofs.YtknjamfjonapiaaGreatDoor
