import Derived.Test.YtknjamfjonapiaaGreatDoorZ08
import Derived.Test.YtknjamfjonapiaaGreatDoorZ02
import Derived.Test.YtknjamfjonapiaaGreatDoorZ04
namespace Go.Proofs.YtknjamfjonapiaaGreatDoor
open Go.RowKit
set_option linter.unusedVariables false
set_option linter.unusedSectionVars false
set_option linter.unusedSimpArgs false
set_option maxRecDepth 100000
section
open Go.ChangeMaps (setBlock)
theorem uEqMapE (w : World) (m : Option Nat) : (binOp .eql 255 (.map m) (.map none)).run Tryz.prog w = .ok (.bool m.isNone) w := by
 simp only [binOp]
 simp [run_equal_map_nil w 255 _ _ m uMapE]
def putOk (M : List Ent) (e : Ent) : Bool := decide (e.id ∉ M.map (·.id) ∧ 0 ≤ e.prio ∧ e.prio ≤ 3)
def putM (M : List Ent) (e : Ent) : List Ent := if putOk M e = true then insM e M else M
section
variable {B : Nat} {w0 w : World} {rk : Nat} {M : List Ent} {F : List (Nat × Obj)} {e : Ent}
structure PutSee (rk : Nat) (e : Ent) (th : Bool) (y : Ent) (mv : Option Nat) (W : World) : Prop where
 c1 : W.cell? ⟨rk, 1, none⟩ = some (.map mv)
 look : (Instr.lookup 255 (.map mv) (.int .i64 e.id) true).run Tryz.prog W = .ok (.tuple #[enV y, .bool th]) W
theorem put_see (h : RackIs B w0 w rk M F) (e : Ent) {th : Bool} (hth : th = decide (e.id ∈ M.map (·.id))) : ∃ y mv, (mv = none → ∀ W, Below w.heap.size w W → M = [] ∧ St B w0 W ((rk, rack0) :: F)) ∧
  (∀ mb, mv = some mb → ∀ W, Below w.heap.size w W → ∃ q rbs, RkAt B w0 W rk q rbs (rowsM M) M F) ∧ ∀ W, Below w.heap.size w W → PutSee rk e th y mv W := by
 subst hth
 obtain ⟨h1, ⟨rfl, h3⟩ | ⟨q, rbs, h2⟩⟩ := h
 ·have c1 : w.cell? ⟨rk, 1, none⟩ = some (.map none) := h3.cell (b := rk) List.mem_cons_self rfl
  refine ⟨z0E, none, fun _ W hb => ⟨rfl, h3.grow hb⟩, (fun mb e => by cases e), fun W hb => ⟨cellUp c1 hb, ?_⟩⟩
  exact run_lookE_nil (P := Tryz.prog) (c := true) keyI uMapE (zEnt W) (k := e.id) trivial
 ·obtain ⟨mb, -, hl⟩ := h2.look
  by_cases hin : e.id ∈ M.map (·.id)
  ·obtain ⟨y, hy, hid⟩ := List.mem_map.1 hin
   refine ⟨y, some mb, (fun e => by cases e), fun _ _ W hb => ⟨q, rbs, h2.grow hb⟩, fun W hb => ⟨(hl W hb).c1, ?_⟩⟩
   have := (hl W hb).hit y hy true
   rw [hid] at this
   rw [decide_eq_true hin]
   exact this
  ·refine ⟨z0E, some mb, (fun e => by cases e), fun _ _ W hb => ⟨q, rbs, h2.grow hb⟩, fun W hb => ⟨(hl W hb).c1, ?_⟩⟩
   have := (hl W hb).miss _ hin true
   rw [decide_eq_false hin]
   exact this
set_option maxHeartbeats 2000000 in
theorem rk_put (h : RackIs B w0 w rk M F) (h1 : e.exch.length ≤ 140737488351232) (h2 : e.key.length ≤ 140737488351232) (hlen : M.length < 100000) :
  Calls Tryz.prog 227 #[rptr rk, enV e] w fun r w' => r = .returned (.bool (putOk M e)) ∧ RackIs B w0 w' rk (putM M e) F := by
 have ha := h.alloc (enO e)
 obtain ⟨th, hth⟩ : ∃ th, th = decide (e.id ∈ M.map (·.id)) := ⟨_, rfl⟩
 obtain ⟨y, mv, hnone, hsome, hsee⟩ := put_see ha e hth
 have heb : ∀ W, Below (w.alloc (enO e)).heap.size (w.alloc (enO e)) W → EnAt W w.heap.size e := fun W hb => by
  obtain ⟨S, hs⟩ := ha.st
  exact (hs.grow hb).enAt (List.mem_append_right _ List.mem_cons_self)
 have hs1 : Hid (∀ o, ((w.alloc (enO e)).drew.alloc o).cell? ⟨rk, 1, none⟩ = some (.map mv) ∧ ((w.alloc (enO e)).drew.alloc o).cell? ⟨w.heap.size, 0, none⟩ = some (.int .i64 e.id) ∧ (Instr.lookup 255 (.map mv) (.int .i64 e.id) true).run Tryz.prog ((w.alloc (enO e)).drew.alloc o) = .ok (.tuple #[enV y, .bool th]) ((w.alloc (enO e)).drew.alloc o)) := Lib.hid fun o => by
  have hb : Below (w.alloc (enO e)).heap.size (w.alloc (enO e)) ((w.alloc (enO e)).drew.alloc o) := bel (drew_b _) (new_below _ o)
  exact ⟨(hsee _ hb).c1, (heb _ hb).1, (hsee _ hb).look⟩
 obtain ⟨i1, i2, i3⟩ := (⟨(hsee _ (drew_b _)).c1, (heb _ (drew_b _)).1, (hsee _ (drew_b _)).look⟩ : (w.alloc (enO e)).drew.cell? ⟨rk, 1, none⟩ = some (.map mv) ∧ (w.alloc (enO e)).drew.cell? ⟨w.heap.size, 0, none⟩ = some (.int .i64 e.id) ∧ (Instr.lookup 255 (.map mv) (.int .i64 e.id) true).run Tryz.prog (w.alloc (enO e)).drew = .ok (.tuple #[enV y, .bool th]) (w.alloc (enO e)).drew)
 have hnew : Hid (∀ o, Below (w.alloc (enO e)).heap.size (w.alloc (enO e)) ((w.alloc (enO e)).alloc o).drew) := Lib.hid fun o => bel (new_below _ o) (drew_b _)
 go_enter Tryz.func227, Tryz.ntmps227
 go_upto_region 1 with fail
 go_cut [6] (fun v6 wy => v6 = .bool th ∧ Hid (Below (w.alloc (enO e)).heap.size (w.alloc (enO e)) wy))
 case first =>
  clear ha hnone hsome hsee heb hth h
  go_region_held3 (fun wr => wr.cell? ⟨rk, 1, none⟩ = some (.map mv) ∧ wr.cell? ⟨w.heap.size, 0, none⟩ = some (.int .i64 e.id) ∧ (Instr.lookup 255 (.map mv) (.int .i64 e.id) true).run Tryz.prog wr = .ok (.tuple #[enV y, .bool th]) wr) (first | exact hs1.out _ | go_keep) (fail)
  all_goals
   go_wp2_with fail
   go_meet
   case rel => exact ⟨rfl, Lib.hid (hnew.out _)⟩
 case rest =>
  obtain ⟨rfl, hb1⟩ := hcut
  have hR1 := (ha.grow hb1.out)
  obtain ⟨k0, k1, k2, k3, k4, k5, k6, k7, k8, k9⟩ := heb _ hb1.out
  have c1 := (hsee _ hb1.out).c1
  have same : ∀ w', RackIs B w0 w' rk M ((w.heap.size, enO e) :: F) → RackIs B w0 w' rk M F := fun w' h => h.sub (List.sublist_cons_self _ _)
  have hnoR := Lib.hid (same _ hR1)
  replace hnone := Lib.hid (fun h => hnone h wc hb1.out)
  replace hsome := Lib.hid (fun mb h => hsome mb h wc hb1.out)
  have hno : Hid (putOk M e = false → (Ending.returned (.bool false) = .returned (.bool (putOk M e))) ∧ RackIs B w0 wc rk (putM M e) F) := Lib.hid fun h => by
   unfold putM
   rw [h]
   exact ⟨rfl, hnoR.out⟩
  replace hth := Lib.hid hth
  replace hlen := Lib.hid hlen
  have hok := Lib.hid h.ok
  replace h1 := Lib.hid h1
  replace h2 := Lib.hid h2
  clear ha hsee heb hs1 i1 i2 i3 hnew hnoR same hb1 hR1 h
  generalize w.heap.size = eb at *
  cases th with
  | true =>
   have fin := Lib.hid (hno.out (by
    have := of_decide_eq_true hth.out.symm
    simp only [putOk, decide_eq_false_iff_not]
    exact fun h => h.1 this))
   clear hno hnone hsome
   go_wp2_with fail
   go_ret
   exact fin.out
  | false =>
   have cp := Lib.hid (isPrio_any e.prio wc)
   by_cases hp : 0 ≤ e.prio ∧ e.prio ≤ 3
   rotate_left
   ·have fin := Lib.hid (hno.out (by
     simp only [putOk, decide_eq_false_iff_not]
     exact fun h => hp h.2))
    rw [decide_eq_false hp] at cp
    clear hno hnone hsome hp
    go_wp2_with fail
    refine cp.out.mono ?_
    rintro r w1 ⟨rfl, rfl⟩
    clear cp
    go_wp2_with fail
    go_ret
    exact fin.out
   have hin : e.id ∉ M.map (·.id) := of_decide_eq_false hth.out.symm
   have hpo : putOk M e = true := by
    simp only [putOk, decide_eq_true_eq]
    exact ⟨hin, hp⟩
   rw [decide_eq_true hp] at cp
   have hdone : Hid (∀ w', RackIs B w0 w' rk (insM e M) ((eb, enO e) :: F) → (Ending.returned (.bool true) = .returned (.bool (putOk M e))) ∧ RackIs B w0 w' rk (putM M e) F) := Lib.hid fun w' h => by
    unfold putM
    rw [hpo, if_pos rfl]
    exact ⟨rfl, h.sub (List.sublist_cons_self _ _)⟩
   replace hp := Lib.hid hp
   replace hin := Lib.hid hin
   clear hno hpo hth
   go_wp2_with fail
   refine cp.out.mono ?_
   rintro r w1 ⟨rfl, rfl⟩
   clear cp
   have heq := uEqMapE wc mv
   go_upto_if 29 with fail
   go_cut [] (fun wy => ∃ q rbs, Hid (RkAt B w0 wy rk q rbs (rowsM M) M ((eb, enO e) :: F)))
   case first =>
    cases mv with
    | some mb =>
     have fin := Lib.hid (hsome.out mb rfl)
     clear hnone hsome
     go_wp2_with fail
     go_meet
     case rel => exact ⟨_, _, Lib.hid fin.out.choose_spec.choose_spec⟩
    | none =>
     obtain ⟨rfl, hst⟩ := hnone.out rfl
     have cn := Lib.hid (newRows_any hst)
     have hmk := fun w => @run_makeMap Tryz.prog 255 w
     clear hnone hsome hst k0 k1 k2 k3 k4 k5 k6 k7 k8 k9
     go_wp2_with fail
     refine cn.out.mono ?_
     rintro r w2 ⟨q, rbs, G, rfl, hl, hW, hG, h2⟩
     have h3 := (h2.alloc (.map #[] 0)).perm (H' := (rk, rack0) :: (q, rowsO rbs) :: (w2.heap.size, .map (entsE encI []) 0) :: (ringsH rbs G ++ ((eb, enO e) :: F))) (by
      classical
      exact List.perm_iff_count.2 fun a => by
       simp only [List.count_append, List.count_cons]
       have : entsE encI [] = #[] := rfl
       rw [this]
       omega)
     have f0 := h3.soft (b := rk) List.mem_cons_self 0
     have f1 := h3.soft (b := rk) List.mem_cons_self 1
     have d0 := h3.cell (b := rk) (i := 0) List.mem_cons_self rfl
     have d1 := h3.cell (b := rk) (i := 1) List.mem_cons_self rfl
     have h4 := (h3.set0 0 (.slice (some ⟨q, 0, none⟩) 4 4)).set0 1 (.map (some w2.heap.size))
     have fin : Hid (RkAt B w0 (((w2.alloc (.map #[] 0)).setCell ⟨rk, 0, none⟩ (.slice (some ⟨q, 0, none⟩) 4 4)).setCell ⟨rk, 1, none⟩ (.map (some w2.heap.size))) rk q rbs (rowsM []) [] ((eb, enO e) :: F)) :=
      Lib.hid ⟨w2.heap.size, [], 0, 0, G, ⟨hl, hW, hG, HeldOf.nil, by omega, by simp⟩, h4⟩
     clear h2 h3 h4 hW hG cn hl heq c1
     go_wp2_with fail
     go_meet
     case rel => exact ⟨_, _, fin⟩
   case rest =>
    clear hnone hsome heq c1 k0 k1 k2 k3 k4 k5 k6 k7 k8 k9
    obtain ⟨q, rbs, hR⟩ := hcut
    obtain ⟨i, hi, hpi⟩ := row_no hp.out
    obtain ⟨rb, hb⟩ := hR.out.row_at hi
    have hro := hok.out
    have hnin : ∀ x ∈ M, x.id ≠ e.id := fun x hx e1 => hin.out (e1 ▸ List.mem_map_of_mem hx)
    have hgl := rows_get (M := M) hi
    rw [← hpi] at hgl
    have hrl := row_le M e.prio
    have hln := hlen.out
    have eAt : ∀ (R : List (List Int)) (H : List Ent) (W : World), RkAt B w0 W rk q rbs R H ((eb, enO e) :: F) → EnAt W eb e := fun R H W h => by
     obtain ⟨S, hs, -⟩ := h.beside
     exact hs.enAt (List.mem_append_right _ List.mem_cons_self)
    obtain ⟨k0, k1, k2, k3, k4, k5, k6, k7, k8, k9⟩ := eAt _ _ _ hR.out
    have cro := Lib.hid (rowOf_any (e := e) hR.out hi hpi hb)
    obtain ⟨N, hN⟩ : ∃ N, N = cntL (rowP M e.prio) e.id := ⟨_, rfl⟩
    have ca : Hid (∀ W, RkAt B w0 W rk q rbs (rowsM M) M ((eb, enO e) :: F) → Calls Tryz.prog 259 #[rptr rk, rptr rb, enV e] W fun r w' => r = .returned (.int .i64 N) ∧ RkAt B w0 w' rk q rbs (rowsM M) M ((eb, enO e) :: F) ∧ EnAt w' eb e) := Lib.hid fun W h => by
     rw [hN]
     refine (ahead_any (e := e) h hb hgl (row_up hro _) (fun k hk => row_mem hk) hp.out (by omega)).mono ?_
     rintro r w' ⟨rfl, hb⟩
     exact ⟨rfl, h.grow hb, eAt _ _ _ (h.grow hb)⟩
    have cl : Hid (∀ W, RkAt B w0 W rk q rbs (rowsM M) M ((eb, enO e) :: F) → Calls Tryz.prog 266 #[rptr rb, .int .i64 N, .int .i64 e.id] W fun r w' => r = .returned (.tuple #[]) ∧ RkAt B w0 w' rk q rbs (rowsM (insM e M)) M ((eb, enO e) :: F) ∧ EnAt w' eb e) := Lib.hid fun W h => by
     obtain ⟨Z, hr, hback⟩ := h.ring hb hgl
     rw [hN]
     refine (rkLay_any hr (cntL_le _ _) (by omega) e.id).mono ?_
     rintro r w' ⟨rfl, h'⟩
     have h2 := hback _ _ _ h'
     rw [show (rowP M e.prio).take (cntL (rowP M e.prio) e.id) ++ e.id :: (rowP M e.prio).drop (cntL (rowP M e.prio) e.id) = rkPutRow (rowP M e.prio) e.id from rfl, rows_put hro hnin hi hpi] at h2
     exact ⟨rfl, h2, eAt _ _ _ h2⟩
    have eAtH := Lib.hid eAt
    have hfin : Hid (∀ W R, RkAt B w0 W rk q rbs R (e :: M) ((eb, enO e) :: F) → RkAt B w0 W rk q rbs R (insM e M) ((eb, enO e) :: F)) := Lib.hid fun W R h => h.reset (ins_perm e M).symm
    have hokI := Lib.hid (hro.ins hp.out hnin)
    replace hnin := Lib.hid hnin
    clear hgl hrl hln hro hb hpi hi hN eAt
    go_wp2_with fail
    refine cro.out.mono ?_
    rintro r w1 ⟨rfl, hbw⟩
    have hR1 := hR.out.grow hbw
    obtain ⟨j0, j1, j2, j3, j4, j5, j6, j7, j8, j9⟩ := eAtH.out _ _ _ hR1
    have hR2 := hR1.grow (drew_b _)
    have hS0 := Lib.hid (eAtH.out _ _ _ hR2)
    clear cro hbw hR k0 k1 k2 k3 k4 k5 k6 k7 k8 k9 hR1
    go_wp2_with fail
    go_region_held3 (fun x => x.cell? ⟨eb, 0, none⟩ = some (.int .i64 e.id) ∧ x.cell? ⟨eb, 1, none⟩ = some (.int .i64 e.body) ∧ x.cell? ⟨eb, 2, none⟩ = some (.int .i64 e.size) ∧ x.cell? ⟨eb, 3, none⟩ = some (tx e.exch) ∧ x.cell? ⟨eb, 4, none⟩ = some (tx e.key) ∧ x.cell? ⟨eb, 5, none⟩ = some (.int .i64 e.prio) ∧ x.cell? ⟨eb, 6, none⟩ = some (.int .i64 e.ttl) ∧ x.cell? ⟨eb, 7, none⟩ = some (.int .i64 e.til) ∧ x.cell? ⟨eb, 8, none⟩ = some (.bool e.again) ∧ x.cell? ⟨eb, 9, none⟩ = some (.int .i64 e.hops)) (first | exact kS | exact hS0.out) (first
     | (go_at_call 259; refine (ca.out _ (by assumption)).mono ?_; rintro r w'' ⟨rfl, hA, kS⟩)
     | (go_at_call 266; refine (cl.out _ (by assumption)).mono ?_; rintro r w'' ⟨rfl, hL, kS⟩))
    have hL2 := hL.grow (drew_b _)
    obtain ⟨j0, j1, j2, j3, j4, j5, j6, j7, j8, j9⟩ := eAtH.out _ _ _ hL2
    obtain ⟨mb, -, m1, hmu, -⟩ := hL2.put (e := e) hin.out (by have := hlen.out; omega)
    have co : Hid (Calls Tryz.prog 267 #[enV e] w''.drew fun r w' => r = .returned (enV e) ∧ (∃ W2, (Instr.mapUpdate 255 (.map (some mb)) (.int .i64 e.id) (enV e)).run Tryz.prog w' = .ok () W2 ∧ RkAt B w0 W2 rk q rbs (rowsM (insM e M)) (e :: M) ((eb, enO e) :: F) ∧ W2.cell? ⟨rk, 1, none⟩ = some (.map (some mb)) ∧ EnAt W2 eb e) ∧ w'.cell? ⟨rk, 1, none⟩ = some (.map (some mb)) ∧ EnAt w' eb e) := Lib.hid (by
     refine (eown_any e h1.out h2.out _).mono ?_
     rintro r w' ⟨rfl, hb⟩
     obtain ⟨mb', es', clk', c1', hg', ho', hback'⟩ := (hL2.grow hb).map
     have e1 := (cellUp m1 hb).symm.trans c1'
     simp only [Option.some.injEq, Value.map.injEq] at e1
     subst e1
     have hR9 := hback' _ _ _ (ho'.put (e := e) hin.out) (by rw [List.length_cons]; have := hlen.out; omega)
     refine ⟨rfl, ⟨_, run_mapE_new keyI uMapE hg' (k := e.id) trivial (fun _ _ => trivial) (enV e) (ho'.none hin.out), hR9, ?_, eAtH.out _ _ _ hR9⟩, c1', eAtH.out _ _ _ (hL2.grow hb)⟩
     have hne : rk ≠ mb := by
      rintro rfl
      obtain ⟨S, hs, -⟩ := (hL2.grow hb).beside
      unfold World.cell? at c1'
      rw [hg'] at c1'
      simp at c1'
     have : (setBlock w' mb (Obj.map (entsE encI (es' ++ [(e.id, enV e, clk')])) (clk' + 1))).heap[rk]? = w'.heap[rk]? := by
      simp only [setBlock]
      rw [Array.getElem?_setIfInBounds_ne (Ne.symm hne)]
     unfold World.cell?
     rw [this]
     exact c1')
    clear ca cl hR2 hS0 hA hL hL2 hmu
    go_wp2_with fail
    go_region_held3 (fun x => x.cell? ⟨rk, 1, none⟩ = some (.map (some mb)) ∧ x.cell? ⟨eb, 0, none⟩ = some (.int .i64 e.id) ∧ x.cell? ⟨eb, 1, none⟩ = some (.int .i64 e.body) ∧ x.cell? ⟨eb, 2, none⟩ = some (.int .i64 e.size) ∧ x.cell? ⟨eb, 3, none⟩ = some (tx e.exch) ∧ x.cell? ⟨eb, 4, none⟩ = some (tx e.key) ∧ x.cell? ⟨eb, 5, none⟩ = some (.int .i64 e.prio) ∧ x.cell? ⟨eb, 6, none⟩ = some (.int .i64 e.ttl) ∧ x.cell? ⟨eb, 7, none⟩ = some (.int .i64 e.til) ∧ x.cell? ⟨eb, 8, none⟩ = some (.bool e.again) ∧ x.cell? ⟨eb, 9, none⟩ = some (.int .i64 e.hops)) (first | exact kS2 | exact kS3 | exact ⟨m1, j0, j1, j2, j3, j4, j5, j6, j7, j8, j9⟩) ((go_at_call 267; refine co.out.mono ?_; rintro r w2 ⟨rfl, ⟨W2, hmu, hRk, kS3⟩, kS2⟩))
    clear co hmu kS2 m1 j0 j1 j2 j3 j4 j5 j6 j7 j8 j9
    have kS4 := kS3.1
    have hRd := hfin.out _ _ (hRk.grow (drew_b _))
    obtain ⟨m, hm, d2, hmost⟩ := hRd.most
    have f2 := hRk.soft 2
    have d2' : W2.cell? ⟨rk, 2, none⟩ = some (.int .i64 m) := d2
    obtain ⟨mb2, hlk, -⟩ := hRd.look
    have c1' : W2.cell? ⟨rk, 1, none⟩ = some (.map (some mb2)) := hlk.c1
    have e1 : mb2 = mb := by
     have := kS4.symm.trans c1'
     simp only [Option.some.injEq, Value.map.injEq] at this
     exact this.symm
    subst e1
    have gl := hlk.len
    rw [ins_len] at gl
    have hL : M.length + 1 ≤ 100000 := by have := hlen.out; omega
    have hfin2 : Hid (∀ n : Nat, n ≤ 100000 → (Ending.returned (.bool true) = .returned (.bool (putOk M e))) ∧ RackIs B w0 (W2.drew.setCell ⟨rk, 2, none⟩ (.int .i64 n)) rk (putM M e) F) := Lib.hid fun n hn => hdone.out _ ⟨hokI.out, .inr ⟨q, rbs, hmost n hn⟩⟩
    clear hRk hRd hmost hlk kS3 c1' kS hdone hfin hokI d2
    generalize M.length + 1 = L at *
    go_wp2_with fail
    by_cases hml : m < L
    ·have hm1 : (m : Int) < L := by omega
     have fin := Lib.hid (hfin2.out L hL)
     clear hfin2
     go_still_tail 13, (by kernel_rfl)
     change wpList _ _ _ _ _ W2.drew
     go_wp2_with fail
     go_ret
     exact fin.out
    ·have hm1 : ¬ (m : Int) < L := by omega
     have fin := Lib.hid (hfin2.out m hm)
     clear hfin2
     go_still_tail 13, (by kernel_rfl)
     change wpList _ _ _ _ _ W2.drew
     go_wp2_with fail
     go_ret
     exact fin.out
end
end
section
open Go.ChangeMaps (setBlock)
section
variable {B : Nat} {w0 w : World} {rk q rb i k : Nat} {rbs : List Nat} {R : List (List Int)} {H M : List Ent} {F : List (Nat × Obj)} {e e0 : Ent}
theorem RkAt.at_block (h : RkAt B w0 w rk q rbs R H F) (hm : (k, enO e) ∈ F) : EnAt w k e ∧ ∀ i, w.frozen? ⟨k, i, none⟩ = false := by
 obtain ⟨S, hs, -⟩ := h.beside
 exact ⟨hs.enAt (List.mem_append_right _ hm), fun i => hs.soft (List.mem_append_right _ hm) i⟩
theorem RackIs.at_block (h : RackIs B w0 w rk M F) (hm : (k, enO e) ∈ F) : EnAt w k e ∧ ∀ i, w.frozen? ⟨k, i, none⟩ = false := by
 obtain ⟨S, hs⟩ := h.st
 exact ⟨hs.enAt (List.mem_append_right _ hm), fun i => hs.soft (List.mem_append_right _ hm) i⟩
theorem RackIs.enPut (h : RackIs B w0 w rk M ((k, enO e0) :: F)) : RackIs B w0 (enPut w k e) rk M F ∧ EnAt (enPut w k e) k e := by
 obtain ⟨S, h1, h2⟩ := h.beside
 have h3 := (h1.perm List.perm_middle).enPut (e := e)
 exact ⟨h2 _ _ (h3.sub (List.sublist_cons_self _ _)), h3.enAt List.mem_cons_self⟩
theorem RackIs.at (h : RackIs B w0 w rk M F) (he : e ∈ M) : RkOk M ∧ ∃ q rbs, RkAt B w0 w rk q rbs (rowsM M) M F := by
 obtain ⟨h1, ⟨rfl, h3⟩ | h2⟩ := h
 ·simp at he
 ·exact ⟨h1, h2⟩
set_option maxHeartbeats 2000000 in
theorem rk_drop_hit (h : RackIs B w0 w rk M F) (he : e ∈ M) : Calls Tryz.prog 213 #[rptr rk, .int .i64 e.id] w fun r w' => r = .returned (.tuple #[enV e, .bool true]) ∧ RackIs B w0 w' rk (delM M e.id) F := by
 obtain ⟨hok, q, rbs, hA⟩ := h.at he
 have hA1 := hA.alloc (enO z0E)
 have hA2 := hA1.alloc (enO e)
 obtain ⟨mb, hl, -⟩ := hA1.look
 have c1 := hl.c1
 have hlk := hl.hit e he true
 rw [if_pos rfl] at hlk
 have hsz : (w.alloc (enO z0E)).heap.size = w.heap.size + 1 := World.size_alloc _ _
 rw [hsz] at hA2
 obtain ⟨i, hi, hpi⟩ := row_no (hok.prio e he)
 obtain ⟨rb, hb⟩ := hA.row_at hi
 have hgl := rows_get (M := M) hi
 rw [← hpi] at hgl
 have hrl := row_le M e.prio
 have hfew := hA.few
 have hin : e.id ∈ M.map (·.id) := List.mem_map_of_mem he
 have cro := Lib.hid (rowOf_any (e := e) hA2 hi hpi hb)
 obtain ⟨N, hN⟩ : ∃ N, N = cntL (rowP M e.prio) e.id := ⟨_, rfl⟩
 have eAt := Lib.hid (fun (R : List (List Int)) (H : List Ent) (W : World) (h : RkAt B w0 W rk q rbs R H ((w.heap.size + 1, enO e) :: (w.heap.size, enO z0E) :: F)) => (h.at_block (k := w.heap.size + 1) (e := e) List.mem_cons_self).1)
 have ca : Hid (∀ W, RkAt B w0 W rk q rbs (rowsM M) M ((w.heap.size + 1, enO e) :: (w.heap.size, enO z0E) :: F) → Calls Tryz.prog 259 #[rptr rk, rptr rb, enV e] W fun r w' => r = .returned (.int .i64 N) ∧ RkAt B w0 w' rk q rbs (rowsM M) M ((w.heap.size + 1, enO e) :: (w.heap.size, enO z0E) :: F)) := Lib.hid fun W h => by
  rw [hN]
  refine (ahead_any (e := e) h hb hgl (row_up hok _) (fun k hk => row_mem hk) (hok.prio e he) (by omega)).mono ?_
  rintro r w' ⟨rfl, hb⟩
  exact ⟨rfl, h.grow hb⟩
 have cl : Hid (∀ W, RkAt B w0 W rk q rbs (rowsM M) M ((w.heap.size + 1, enO e) :: (w.heap.size, enO z0E) :: F) → Calls Tryz.prog 258 #[rptr rb, .int .i64 N] W fun r w' => r = .returned (.tuple #[]) ∧ RkAt B w0 w' rk q rbs (rowsM (delM M e.id)) M ((w.heap.size + 1, enO e) :: (w.heap.size, enO z0E) :: F)) := Lib.hid fun W h => by
  obtain ⟨Z, hr, hback⟩ := h.ring hb hgl
  rw [hN]
  refine (lift_any hr (del_cnt hok he) (by omega)).mono ?_
  rintro r w' ⟨rfl, h'⟩
  have h2 := hback _ _ _ h'
  rw [rows_cut hok he hi hpi] at h2
  exact ⟨rfl, h2⟩
 have cg := Lib.hid (fun W (h : RkAt B w0 W rk q rbs (rowsM (delM M e.id)) (delM M e.id) ((w.heap.size + 1, enO e) :: (w.heap.size, enO z0E) :: F)) => giveRk_any h)
 have hdel : Hid (∀ W, RkAt B w0 W rk q rbs (rowsM (delM M e.id)) M ((w.heap.size + 1, enO e) :: (w.heap.size, enO z0E) :: F) → ∃ (mb : Nat) (es : List (MapRow Int)) (clk : Nat), W.cell? ⟨rk, 1, none⟩ = some (.map (some mb)) ∧ W.heap[mb]? = some (.map (entsE encI es) clk) ∧
   RkAt B w0 (setBlock W mb (.map (entsE encI (restE es e.id)) clk)) rk q rbs (rowsM (delM M e.id)) (delM M e.id) ((w.heap.size + 1, enO e) :: (w.heap.size, enO z0E) :: F)) := Lib.hid fun W h => by
  obtain ⟨mb, es, clk, c1, hg, ho, hback⟩ := h.map
  exact ⟨mb, es, clk, c1, hg, hback _ _ _ (ho.del e.id) (by have := del_len hok he; have := h.few; omega)⟩
 have hok2 := Lib.hid (hok.del e.id)
 obtain ⟨k0, k1, k2, k3, k4, k5, k6, k7, k8, k9⟩ := eAt.out _ _ _ hA2
 replace hA2 := Lib.hid hA2
 clear hA hA1 h he hl hb hgl hrl hfew hin hpi hok hN
 go_enter Tryz.func213, Tryz.ntmps213
 go_wp2_with fail
 refine cro.out.mono ?_
 rintro r w1 ⟨rfl, hb1⟩
 have hA3 := hA2.out.grow hb1
 obtain ⟨k0, k1, k2, k3, k4, k5, k6, k7, k8, k9⟩ := eAt.out _ _ _ hA3
 have ca1 := Lib.hid (ca.out _ hA3)
 clear hA2 hb1 cro hA3 ca
 go_wp2_with fail
 refine ca1.out.mono ?_
 rintro r w2 ⟨rfl, hA4⟩
 obtain ⟨k0, k1, k2, k3, k4, k5, k6, k7, k8, k9⟩ := eAt.out _ _ _ hA4
 have cl1 := Lib.hid (cl.out _ hA4)
 clear hA4 ca1 cl
 go_wp2_with fail
 refine cl1.out.mono ?_
 rintro r w3 ⟨rfl, hA5⟩
 obtain ⟨mb2, es, clk, d1, hg, hA6⟩ := hdel.out _ hA5
 obtain ⟨k0, k1, k2, k3, k4, k5, k6, k7, k8, k9⟩ := eAt.out _ _ _ hA6
 have cg1 := Lib.hid (cg.out _ hA6)
 clear hA5 cl1 hdel hA6 cg
 generalize hW : setBlock w3 mb2 (.map (entsE encI (restE es e.id)) clk) = W at *
 replace hW := Lib.hid hW
 go_wp2_with (at_delete; refine wpList_delE rfl (.tmp 33) (.tmp 34) rfl keyI uMapE rfl hg (k := e.id) trivial (fun _ _ => trivial) rfl ?_; intro w9 hw9; replace hw9 := Lib.hid (hw9.out.trans hW.out); rw [hw9.out])
 refine cg1.out.mono ?_
 rintro r w4 ⟨rfl, hA7⟩
 obtain ⟨k0, k1, k2, k3, k4, k5, k6, k7, k8, k9⟩ := eAt.out _ _ _ hA7
 obtain ⟨z0, z1, z2, z3, z4, z5, z6, z7, z8, z9⟩ := (hA7.at_block (k := w.heap.size) (e := z0E) (by simp)).1
 have zs := (hA7.at_block (k := w.heap.size) (e := z0E) (by simp)).2
 have hRk : RackIs B w0 w4 rk (delM M e.id) ((w.heap.size + 1, enO e) :: (w.heap.size, enO z0E) :: F) := ⟨hok2.out, .inr ⟨q, rbs, hA7⟩⟩
 have fin := (hRk.permF (List.Perm.swap _ _ _)).enPut (e := e)
 have finR := Lib.hid (fin.1.sub (List.sublist_cons_self _ _))
 have finE := Lib.hid fin.2
 clear fin hRk hA7 cg1 hW hok2 d1 hg eAt c1 hlk
 go_wp2_with fail
 exact bodyPost_ret (ret_entry2 rfl rfl rfl finE.out rfl) rfl ⟨rfl, finR.out⟩
def RkTakeR (B : Nat) (w0 : World) (rk : Nat) (M : List Ent) (F : List (Nat × Obj)) (r : Ending) (w' : World) : Prop := r = .returned (firstV M) ∧ RackIs B w0 w' rk M.tail F
set_option maxHeartbeats 1000000 in
theorem rk_take (h : RackIs B w0 w rk M F) : Calls Tryz.prog 150 #[rptr rk] w (RkTakeR B w0 rk M F) := by
 have h1 := h.alloc (enO z0E)
 have cf := Lib.hid (rk_first h1)
 have hsz : ∀ w' : World, Below (w.alloc (enO z0E)).heap.size (w.alloc (enO z0E)) w' → w'.heap.size ≠ w.heap.size := fun w' hb => by
  have := hb.size
  rw [World.size_alloc] at this
  omega
 cases M with
 | nil =>
  have fin : Hid (∀ w', Below (w.alloc (enO z0E)).heap.size (w.alloc (enO z0E)) w' → EnAt (w'.alloc (enO z0E)) w.heap.size z0E ∧ (∀ i, (w'.alloc (enO z0E)).frozen? ⟨w.heap.size, i, none⟩ = false) ∧ RkTakeR B w0 rk [] F (.returned (.tuple #[enV z0E, .bool false])) (enPut (w'.alloc (enO z0E)) w.heap.size z0E) ∧ EnAt (enPut (w'.alloc (enO z0E)) w.heap.size z0E) w.heap.size z0E) := Lib.hid fun w' hb => by
   have h2 := ((h1.grow hb).alloc (enO z0E)).permF (List.Perm.swap _ _ _)
   have h3 := h2.at_block (k := w.heap.size) (e := z0E) List.mem_cons_self
   have h4 := h2.enPut (e := z0E)
   exact ⟨h3.1, h3.2, ⟨rfl, h4.1.sub (List.sublist_cons_self _ _)⟩, h4.2⟩
  clear h h1 hsz
  go_enter Tryz.func150, Tryz.ntmps150
  go_wp2_with fail
  refine cf.out.mono ?_
  rintro r w1 ⟨rfl, hb⟩
  obtain ⟨⟨z0, z1, z2, z3, z4, z5, z6, z7, z8, z9⟩, zs, finR, finE⟩ := fin.out _ hb
  replace finR := Lib.hid finR
  replace finE := Lib.hid finE
  have hfv : firstV [] = .tuple #[enV z0E, .bool false] := rfl
  rw [hfv]
  clear fin cf hb hfv
  go_wp2_with fail
  exact bodyPost_ret (ret_entry2 rfl rfl rfl finE.out rfl) rfl finR.out
 | cons e L =>
  have fin : Hid (∀ w', Below (w.alloc (enO z0E)).heap.size (w.alloc (enO z0E)) w' → (w'.alloc (enO e)).cell? ⟨w'.heap.size, 0, none⟩ = some (.int .i64 e.id) ∧
    Calls Tryz.prog 213 #[rptr rk, .int .i64 e.id] (w'.alloc (enO e)) fun r w'' => r = .returned (.tuple #[enV e, .bool true]) ∧ EnAt w'' w.heap.size z0E ∧ (∀ i, w''.frozen? ⟨w.heap.size, i, none⟩ = false) ∧ RkTakeR B w0 rk (e :: L) F (.returned (.tuple #[enV e, .bool true])) (enPut w'' w.heap.size e) ∧ EnAt (enPut w'' w.heap.size e) w.heap.size e) := Lib.hid fun w' hb => by
   have h2 := (h1.grow hb).alloc (enO e)
   refine ⟨(h2.at_block (k := w'.heap.size) (e := e) List.mem_cons_self).1.1, ?_⟩
   refine (rk_drop_hit h2 (e := e) List.mem_cons_self).mono ?_
   rintro r w'' ⟨rfl, h3⟩
   rw [del_head h.ok] at h3
   have h4 := h3.permF (List.Perm.swap _ _ _)
   have h5 := h4.at_block (k := w.heap.size) (e := z0E) List.mem_cons_self
   have h6 := h4.enPut (e := e)
   exact ⟨rfl, h5.1, h5.2, ⟨rfl, h6.1.sub (List.sublist_cons_self _ _)⟩, h6.2⟩
  clear h h1 hsz
  go_enter Tryz.func150, Tryz.ntmps150
  go_wp2_with fail
  refine cf.out.mono ?_
  rintro r w1 ⟨rfl, hb⟩
  obtain ⟨q0, cd⟩ := fin.out _ hb
  replace cd := Lib.hid cd
  have hfv : firstV (e :: L) = .tuple #[enV e, .bool true] := rfl
  rw [hfv]
  clear fin cf hb hfv
  go_wp2_with fail
  refine cd.out.mono ?_
  rintro r w2 ⟨rfl, ⟨z0, z1, z2, z3, z4, z5, z6, z7, z8, z9⟩, zs, finR, finE⟩
  replace finR := Lib.hid finR
  replace finE := Lib.hid finE
  clear cd q0
  go_wp2_with fail
  exact bodyPost_ret (ret_entry2 rfl rfl rfl finE.out rfl) rfl finR.out
end
end
section
open Go.ChangeMaps (setBlock)
abbrev ensO (L : List Ent) : Obj := .cells (entsV L).toArray 51
theorem uEnts : Tryz.prog.underlying 46 = some (.slice 51) := by kernel_rfl
theorem infEnt : (Tryz.prog.info? 51).map (fun i => (i.zero, i.size, i.bytes)) = some (some (enV z0E), 10, 96) := by kernel_rfl
theorem made_ents : ∀ (n : Nat), (madeCells (enV z0E).cells (n * 10)).toList = entsV (List.replicate n z0E)
 | 0 => by simp [madeCells, entsV]
 | n + 1 => by
  have ih := made_ents n
  unfold madeCells at ih ⊢
  rw [Array.toList_map, Array.toList_range] at ih ⊢
  have hz : (enV z0E).cells.size = 10 := rfl
  rw [show (n + 1) * 10 = n * 10 + 10 by omega, List.range_add, List.map_append, ih, List.map_map, List.replicate_succ', entsV_app]
  congr 1
  have : (fun j => (enV z0E).cells[j % (enV z0E).cells.size]!) ∘ (fun x => n * 10 + x) = fun k => (enV z0E).cells[k % 10]! := by
   funext k
   simp only [Function.comp_apply, hz]
   congr 1
   omega
  rw [this]
  rfl
theorem mk_ents (w : World) (n : Nat) (h1 : n ≤ 100000) :
  (Instr.makeSlice 46 (.int .i64 n) (.int .i64 n)).run Tryz.prog w = .ok (.slice (some ⟨w.heap.size, 0, none⟩) n n) (w.alloc (ensO (List.replicate n z0E))) := by
 obtain ⟨i0, hi, hz0, hz1, hz2⟩ := info_parts infEnt
 have h := run_make (P := Tryz.prog) w 46 51 i0 (enV z0E) uEnts hi hz0 .i64 .i64 n n (by omega) (Int.le_refl _) (by rw [hz2]; omega) (by omega)
 rw [h]
 congr 2
 unfold ensO
 congr 1
 apply Array.toList_inj.1
 rw [hz1, Int.toNat_natCast, made_ents]
abbrev enPutAt (w : World) (b o : Nat) (e : Ent) : World := (((((((((w.setCell ⟨b, o, none⟩ (.int .i64 e.id)).setCell ⟨b, o + 1, none⟩ (.int .i64 e.body)).setCell ⟨b, o + 2, none⟩ (.int .i64 e.size)).setCell ⟨b, o + 3, none⟩ (tx e.exch)).setCell ⟨b, o + 4, none⟩ (tx e.key)).setCell ⟨b, o + 5, none⟩ (.int .i64 e.prio)).setCell ⟨b, o + 6, none⟩ (.int .i64 e.ttl)).setCell ⟨b, o + 7, none⟩ (.int .i64 e.til)).setCell ⟨b, o + 8, none⟩ (.bool e.again)).setCell ⟨b, o + 9, none⟩ (.int .i64 e.hops)
theorem ents_set {L : List Ent} {i : Nat} (hi : i < L.length) (e : Ent) :
  ((((((((((entsV L).set (i * 10) (.int .i64 e.id)).set (i * 10 + 1) (.int .i64 e.body)).set (i * 10 + 2) (.int .i64 e.size)).set (i * 10 + 3) (tx e.exch)).set (i * 10 + 4) (tx e.key)).set (i * 10 + 5) (.int .i64 e.prio)).set (i * 10 + 6) (.int .i64 e.ttl)).set (i * 10 + 7) (.int .i64 e.til)).set (i * 10 + 8) (.bool e.again)).set (i * 10 + 9) (.int .i64 e.hops) = entsV (L.set i e) := by
 have h1 : L = L.take i ++ L[i] :: L.drop (i + 1) := by rw [← List.drop_eq_getElem_cons hi, List.take_append_drop]
 have hl : (entsV (L.take i)).length = i * 10 := by rw [entsV_len, List.length_take]; omega
 have h2 : L.set i e = L.take i ++ e :: L.drop (i + 1) := by rw [List.set_eq_take_append_cons_drop, if_pos hi]
 have h3 : entsV L = entsV (L.take i) ++ (ecells L[i] ++ entsV (L.drop (i + 1))) := by
  have := congrArg entsV h1
  rw [entsV_app, entsV_cons] at this
  exact this
 rw [h2, entsV_app, entsV_cons, h3, ← hl]
 have key : ∀ (A C : List Value) (k : Nat) (v : Value), (A ++ C).set (A.length + k) v = A ++ C.set k v := fun A C k v => by
  rw [List.set_append_right _ _ (Nat.le_add_right _ _), Nat.add_sub_cancel_left]
 have key0 : ∀ (A C : List Value) (v : Value), (A ++ C).set A.length v = A ++ C.set 0 v := fun A C v => key A C 0 v
 rw [key0, key, key, key, key, key, key, key, key, key]
 rfl
theorem St.rowPut {B : Nat} {w0 w : World} {t : Nat} {L : List Ent} {C : List (Nat × Obj)} {i : Nat} (h : St B w0 w ((t, ensO L) :: C)) (hi : i < L.length) (e : Ent) : St B w0 (enPutAt w t (i * 10) e) ((t, ensO (L.set i e)) :: C) := by
 have h10 := (((((((((h.set0 (i * 10) (.int .i64 e.id)).set0 (i * 10 + 1) (.int .i64 e.body)).set0 (i * 10 + 2) (.int .i64 e.size)).set0 (i * 10 + 3) (tx e.exch)).set0 (i * 10 + 4) (tx e.key)).set0 (i * 10 + 5) (.int .i64 e.prio)).set0 (i * 10 + 6) (.int .i64 e.ttl)).set0 (i * 10 + 7) (.int .i64 e.til)).set0 (i * 10 + 8) (.bool e.again)).set0 (i * 10 + 9) (.int .i64 e.hops)
 simp only [List.setIfInBounds_toArray] at h10
 rw [ents_set hi e] at h10
 exact h10
theorem St.rowAt {B : Nat} {w0 w : World} {t : Nat} {L : List Ent} {H : List (Nat × Obj)} {i : Nat} {e : Ent} (h : St B w0 w H) (hm : (t, ensO L) ∈ H) (hi : L[i]? = some e) : EnRow w t (i * 10) e := by
 have key : ∀ {k : Nat} {v : Value}, (ecells e)[k]? = some v → w.cell? ⟨t, i * 10 + k, none⟩ = some v := fun hk => h.cell hm (by rw [List.getElem?_toArray]; exact entsV_at hi hk)
 exact ⟨key (k := 0) rfl, key (k := 1) rfl, key (k := 2) rfl, key (k := 3) rfl, key (k := 4) rfl, key (k := 5) rfl, key (k := 6) rfl, key (k := 7) rfl, key (k := 8) rfl, key (k := 9) rfl⟩
section
variable {B : Nat} {w0 w : World} {rk q rb i k : Nat} {rbs : List Nat} {R : List (List Int)} {H M : List Ent} {F A : List (Nat × Obj)} {e e0 : Ent} {E : List Ent}
def fillE (E : List Ent) (i : Nat) : List Ent := E.take i ++ List.replicate (E.length - i) z0E
theorem fill_zero (E : List Ent) : fillE E 0 = List.replicate E.length z0E := by simp [fillE]
theorem fill_all (E : List Ent) : fillE E E.length = E := by simp [fillE]
theorem fill_len {E : List Ent} {i : Nat} (h : i ≤ E.length) : (fillE E i).length = E.length := by
 unfold fillE
 rw [List.length_append, List.length_take, List.length_replicate]
 omega
theorem fill_at {E : List Ent} {i : Nat} (h : i < E.length) : (fillE E i)[i]? = some z0E := by
 unfold fillE
 rw [List.getElem?_append_right (by rw [List.length_take]; omega), List.length_take, Nat.min_eq_left (by omega), Nat.sub_self, List.getElem?_replicate, if_pos (by omega)]
theorem fill_set {E : List Ent} {i : Nat} {x : Ent} (h : E[i]? = some x) : (fillE E i).set i x = fillE E (i + 1) := by
 have hi := (List.getElem?_eq_some_iff.1 h).1
 unfold fillE
 have hl : (E.take i).length = i := by rw [List.length_take]; omega
 rw [List.set_append_right _ _ (by omega), hl, Nat.sub_self, show E.length - i = (E.length - (i + 1)) + 1 by omega, List.replicate_succ, List.set_cons_zero, List.take_add_one, h, List.append_assoc]
 rfl
def FillJ (B : Nat) (w0 : World) (rk q : Nat) (rbs : List Nat) (R : List (List Int)) (H : List Ent) (F : List (Nat × Obj)) (t : Nat) (ids : Value) (E : List Ent) (g : Nat) (a' : Act) (w' : World) : Prop :=
 ∃ i : Nat, i + g = E.length ∧ Fr 29 [(0, rptr rk), (1, ids), (5, .slice (some ⟨t, 0, none⟩) E.length E.length), (6, .int .i64 i)] a' ∧ RkAt B w0 w' rk q rbs R H ((t, ensO (fillE E i)) :: F)
set_option maxHeartbeats 2000000 in
theorem entries_any (h : RkAt B w0 w rk q rbs R H (A ++ F)) {v : Value} (hs : SlIs 3 1 v E.length (ints (E.map (·.id))) A) (hE : ∀ x ∈ E, x ∈ H) (hl : E.length ≤ 100000) :
  Calls Tryz.prog 191 #[rptr rk, v] w fun r w' => ∃ t, r = .returned (.slice (some ⟨t, 0, none⟩) E.length E.length) ∧ RkAt B w0 w' rk q rbs R H ((t, ensO E) :: F) := by
 obtain ⟨a, c, rfl, -, -, hfa⟩ := hs.form
 have hmk := mk_ents w E.length hl
 have h1 := h.alloc (ensO (List.replicate E.length z0E))
 rw [← fill_zero] at h1
 replace h1 := Lib.hid h1
 replace hE := Lib.hid hE
 have hIds : Hid (∀ (w' : World) (X : List (Nat × Obj)), RkAt B w0 w' rk q rbs R H (X ++ (A ++ F)) → ∀ j (x : Ent), E[j]? = some x → ∃ g off, a = some ⟨g, off, none⟩ ∧ w'.cell? ⟨g, off + j, none⟩ = some (.int .i64 x.id)) := Lib.hid fun w' X h j x hj => by
  obtain ⟨S, hst, -⟩ := h.beside
  obtain ⟨g, off, rfl⟩ := hfa j (List.getElem?_eq_some_iff.1 hj).1
  refine ⟨g, off, rfl, hs.cellAt (A := S ++ X ++ F) (hst.perm ?_) (by simp [ints, hj])⟩
  classical
  exact List.perm_iff_count.2 fun a => by simp only [List.count_append]; omega
 clear h hs hfa
 obtain ⟨n, hn⟩ : ∃ n, n = E.length := ⟨_, rfl⟩
 go_enter Tryz.func191, Tryz.ntmps191
 go_wp2_with fail
 refine wp_scope_ghost 0 (FillJ B w0 rk q rbs R H (A ++ F) w.heap.size (.slice a E.length c) E) rfl ?_ ?_
 ·clear h1 hmk
  rintro g a' wr ⟨i, hi, hfr, hR⟩
  generalize w.heap.size = t at *
  obtain ⟨fr, rfl, hl'⟩ := hfr.lit
  clear hfr
  simp only [List.mem_cons, List.not_mem_nil, or_false, forall_eq_or_imp, forall_eq] at hl'
  obtain ⟨f0, f1, f5, f6⟩ := hl'
  simp only [List.range, List.range.loop, List.map, f0, f1, f5, f6]
  clear f0 f1 f5 f6
  by_cases hlt : i < E.length
  ·have hx : E[i]? = some E[i] := List.getElem?_eq_getElem hlt
   generalize E[i] = x at hx
   obtain ⟨gb, off, rfl, cx⟩ := hIds.out wr [(t, ensO (fillE E i))] hR i x hx
   obtain ⟨mb, hlk, hlook⟩ := hR.look
   have hit := (hlook _ (drew_b wr)).hit x (hE.out x (List.mem_of_getElem? hx)) false
   rw [if_neg (by decide)] at hit
   have c1 := hlk.c1
   obtain ⟨S, hst, -⟩ := hR.beside
   have hmem : (t, ensO (fillE E i)) ∈ S ++ (t, ensO (fillE E i)) :: (A ++ F) := List.mem_append_right _ List.mem_cons_self
   obtain ⟨z0, z1, z2, z3, z4, z5, z6, z7, z8, z9⟩ := hst.rowAt hmem (fill_at hlt)
   have zs := fun j => hst.soft (b := t) hmem j
   have fin : Hid (∀ a', Fr 29 [(0, rptr rk), (1, .slice (some ⟨gb, off, none⟩) E.length c), (5, .slice (some ⟨t, 0, none⟩) E.length E.length), (6, .int .i64 ((i : Int) + 1))] a' → ∃ m, m < g ∧ FillJ B w0 rk q rbs R H (A ++ F) t (.slice (some ⟨gb, off, none⟩) E.length c) E m a' (enPutAt wr t (i * 10) x).drew) := Lib.hid fun a' hf => by
    refine ⟨g - 1, by omega, i + 1, by omega, hf, ?_⟩
    obtain ⟨S, h1, h2⟩ := hR.beside
    have h3 := (h1.perm List.perm_middle).rowPut (i := i) (by rw [fill_len (by omega)]; exact hlt) x
    rw [fill_set hx] at h3
    exact (h2 _ _ (h3.perm List.perm_middle.symm)).grow (drew_b _)
   have hi0 : (0 : Int) ≤ i := by omega
   have hi1 : (i : Int) < E.length := by omega
   have hiB : ((i : Int) == E.length) = false := by rw [beq_eq_false_iff_ne]; omega
   have hl3 : (E.length : Int) ≤ 100000 := by omega
   clear hR hst hx hIds hlk hlook hE hmem hi
   generalize E.length = n at *
   go_wp2_with fail
   go_still_tail 12, (by kernel_rfl)
   change wpList _ _ _ _ _ wr.drew
   go_wp2_with fail
   refine wp_goto ?_
   exact ⟨rfl, fin.out _ ⟨rfl, rfl, by simp⟩⟩
  ·have hin : i = E.length := by omega
   subst hin
   rw [fill_all] at hR
   have fin : Hid (∃ t', Ending.returned (.slice (some ⟨t, 0, none⟩) E.length E.length) = .returned (.slice (some ⟨t', 0, none⟩) E.length E.length) ∧ RkAt B w0 wr rk q rbs R H ((t', ensO E) :: F)) := Lib.hid ⟨t, rfl, hR.sub ((List.sublist_append_right _ _).cons_cons _)⟩
   clear hR hIds hE hi
   go_wp2_with fail
   simp only [Exit.jump]
   go_ret
   exact fin.out
 ·intro HJ
  go_wp2_with fail
  refine wp_label ?_
  go_step
  go_step
  exact HJ E.length _ _ ⟨0, by omega, ⟨rfl, rfl, by simp⟩, h1.out⟩
end
end
section
open Go.ChangeMaps (setBlock)
def uptoE (M : List Ent) (i : Nat) : List Ent := (List.range i).flatMap fun (j : Nat) => entP M (3 - (j : Int))
theorem upto_succ (M : List Ent) (i : Nat) : uptoE M (i + 1) = uptoE M i ++ entP M (3 - (i : Int)) := by simp [uptoE, List.range_succ]
theorem upto_zero (M : List Ent) : uptoE M 0 = [] := rfl
theorem upto_all {M : List Ent} (h : RkOk M) : uptoE M 4 = M := by
 have := by_rows h
 simp only [uptoE, List.range, List.range.loop, List.flatMap_cons, List.flatMap_nil]
 simp only [Int.cast_ofNat_Int, Int.sub_zero, List.append_nil]
 exact this.symm
theorem upto_len {M : List Ent} (h : RkOk M) {i : Nat} (hi : i < 4) : (uptoE M i).length + (entP M (3 - (i : Int))).length ≤ M.length := by
 have h4 := congrArg List.length (upto_all h)
 rw [show 4 = 3 + 1 from rfl, upto_succ, show 3 = 2 + 1 from rfl, upto_succ, show 2 = 1 + 1 from rfl, upto_succ, show 1 = 0 + 1 from rfl, upto_succ] at h4
 simp only [List.length_append, Int.cast_ofNat_Int] at h4
 rcases (by omega : i = 0 ∨ i = 1 ∨ i = 2 ∨ i = 3) with rfl | rfl | rfl | rfl
 ·simp only [Int.cast_ofNat_Int] at h4 ⊢; omega
 ·rw [show (1 : Nat) = 0 + 1 from rfl, upto_succ, List.length_append]; simp only [Int.cast_ofNat_Int] at h4 ⊢; omega
 ·rw [show (2 : Nat) = 1 + 1 from rfl, upto_succ, show (1 : Nat) = 0 + 1 from rfl, upto_succ, List.length_append, List.length_append]; simp only [Int.cast_ofNat_Int] at h4 ⊢; omega
 ·rw [show (3 : Nat) = 2 + 1 from rfl, upto_succ, show (2 : Nat) = 1 + 1 from rfl, upto_succ, show (1 : Nat) = 0 + 1 from rfl, upto_succ, List.length_append, List.length_append, List.length_append]; simp only [Int.cast_ofNat_Int] at h4 ⊢; omega
section
variable {B : Nat} {w0 w : World} {rk q rb i k : Nat} {rbs : List Nat} {R : List (List Int)} {H M L : List Ent} {F A S : List (Nat × Obj)} {e e0 : Ent} {E : List Ent} {l : List Int}
theorem RkAt.ring_all (h : RkAt B w0 w rk q rbs R H F) (hb : rbs[i]? = some rb) (hl : R[i]? = some l) : Calls Tryz.prog 192 #[rptr rb] w fun r w' => ∃ a c A, r = .returned (.slice a l.length c) ∧ SlIs 3 1 (.slice a l.length c) l.length (ints l) A ∧ RkAt B w0 w' rk q rbs R H (A ++ F) := by
 obtain ⟨Z, hr, hback⟩ := h.ring hb hl
 refine (Go.Proofs.YtknjamfjonapiaaGreatDoor.ring_all hr).mono ?_
 rintro r w' ⟨v, A, rfl, hs, h'⟩
 obtain ⟨a, c, rfl, -⟩ := hs.form
 have h2 := hback w' l (A ++ F) (h'.perm (by
  classical
  exact List.perm_iff_count.2 fun a => by simp only [List.count_append]; omega))
 have e1 : R.set i l = R := by
  apply List.ext_getElem?
  intro j
  rw [List.getElem?_set]
  split
  ·rename_i hj
   subst hj
   split
   ·exact hl.symm
   ·rename_i h9
    rw [List.getElem?_eq_none (by omega)]
  ·rfl
 rw [e1] at h2
 exact ⟨a, c, A, rfl, hs, h2⟩
theorem RkAt.app {a a2 : Option Addr} {c c2 : Nat} {Y : List (Nat × Obj)} (h : RkAt B w0 w rk q rbs R H (Y ++ (S ++ F))) (hs : EnsIs (.slice a L.length c) L S) (h2 : EnsIs (.slice a2 E.length c2) E Y) (hl : L.length + E.length ≤ 100000) :
  ∃ a' c' W S', (Builtin.append_ #[46, 46] 0 #[.slice a L.length c, .slice a2 E.length c2]).run Tryz.prog w = .ok (.slice a' (L ++ E).length c') W ∧ EnsIs (.slice a' (L ++ E).length c') (L ++ E) S' ∧ RkAt B w0 W rk q rbs R H (S' ++ F) := by
 obtain ⟨Z, z1, z2⟩ := h.beside
 have p1 : (Z ++ (Y ++ (S ++ F))).Perm ((Z ++ (Y ++ F)) ++ S) := by
  classical
  exact List.perm_iff_count.2 fun a => by simp only [List.count_append]; omega
 have p2 : (Z ++ (Y ++ (S ++ F))).Perm ((Z ++ (S ++ F)) ++ Y) := by
  classical
  exact List.perm_iff_count.2 fun a => by simp only [List.count_append]; omega
 obtain ⟨a', c', W, S', q1, q2, q3⟩ := ens_app hs (z1.perm p1) h2 (z1.perm p2) hl
 refine ⟨a', c', W, S', q1, q2, z2 _ _ ((q3.perm (H' := (Z ++ (S' ++ F)) ++ Y) ?_).sub (List.sublist_append_left _ _))⟩
 classical
 exact List.perm_iff_count.2 fun a => by simp only [List.count_append]; omega
theorem EnsIs.made (t : Nat) (E : List Ent) (h : E.length ≤ 100000) : EnsIs (.slice (some ⟨t, 0, none⟩) E.length E.length) E [(t, ensO E)] := SlIs.made (entsV_len E) (by unfold maxLen; omega)
def AllJ (B : Nat) (w0 : World) (rk q : Nat) (rbs : List Nat) (M : List Ent) (F : List (Nat × Obj)) (g : Nat) (a' : Act) (w' : World) : Prop :=
 ∃ (i : Nat) (a : Option Addr) (c : Nat) (S : List (Nat × Obj)), i + g = 4 ∧ Fr 27 [(0, rptr rk), (3, .slice a (uptoE M i).length c), (4, .int .i64 i)] a' ∧ EnsIs (.slice a (uptoE M i).length c) (uptoE M i) S ∧ RkAt B w0 w' rk q rbs (rowsM M) M (S ++ F)
def AllR (B : Nat) (w0 : World) (rk : Nat) (M : List Ent) (F : List (Nat × Obj)) (r : Ending) (w' : World) : Prop :=
 ∃ a c S, r = .returned (.slice a M.length c) ∧ EnsIs (.slice a M.length c) M S ∧ RackIs B w0 w' rk M (S ++ F)
set_option maxHeartbeats 2000000 in
theorem all_some (hok : RkOk M) (h : RkAt B w0 w rk q rbs (rowsM M) M F) : Calls Tryz.prog 129 #[rptr rk] w (AllR B w0 rk M F) := by
 have hfew := h.few
 have hlen4 := Lib.hid h.len
 replace h := Lib.hid h
 replace hok := Lib.hid hok
 go_enter Tryz.func129, Tryz.ntmps129
 go_wp2_with fail
 refine wp_scope_ghost 0 (AllJ B w0 rk q rbs M F) rfl ?_ ?_
 ·clear h
  rintro g a' wr ⟨i, a, c, S, hi, hfr, hs, hR⟩
  obtain ⟨fr, rfl, hl'⟩ := hfr.lit
  clear hfr
  simp only [List.mem_cons, List.not_mem_nil, or_false, forall_eq_or_imp, forall_eq] at hl'
  obtain ⟨f0, f3, f4⟩ := hl'
  simp only [List.range, List.range.loop, List.map, f0, f3, f4]
  clear f0 f3 f4
  have c0 := hR.c0
  by_cases hlt : i < 4
  ·obtain ⟨rb, hb⟩ := hR.row_at hlt
   have hgl := rows_get (M := M) hlt
   have c1 := hR.at_ hb
   have hle := upto_len hok.out hlt
   have hsub : ∀ x ∈ entP M (3 - (i : Int)), x ∈ M := fun x hx => (mem_entP.1 hx).1
   have hrl : (rowP M (3 - (i : Int))).length = (entP M (3 - (i : Int))).length := by unfold rowP; rw [List.length_map]
   have ca := hR.ring_all hb hgl
   rw [hrl] at ca
   replace ca := Lib.hid ca
   have ce : Hid (∀ w' a1 c1 A, SlIs 3 1 (.slice a1 (entP M (3 - (i : Int))).length c1) (entP M (3 - (i : Int))).length (ints (rowP M (3 - (i : Int)))) A → RkAt B w0 w' rk q rbs (rowsM M) M (A ++ (S ++ F)) → Calls Tryz.prog 191 #[rptr rk, .slice a1 (entP M (3 - (i : Int))).length c1] w' fun r w'' => ∃ t, r = .returned (.slice (some ⟨t, 0, none⟩) (entP M (3 - (i : Int))).length (entP M (3 - (i : Int))).length) ∧
     ∃ a' c' W S', (Builtin.append_ #[46, 46] 0 #[.slice a (uptoE M i).length c, .slice (some ⟨t, 0, none⟩) (entP M (3 - (i : Int))).length (entP M (3 - (i : Int))).length]).run Tryz.prog w'' = .ok (.slice a' (uptoE M (i + 1)).length c') W ∧
      ∀ a9, Fr 27 [(0, rptr rk), (3, .slice a' (uptoE M (i + 1)).length c'), (4, .int .i64 ((i : Int) + 1))] a9 → ∃ m, m < g ∧ AllJ B w0 rk q rbs M F m a9 W) := Lib.hid fun w' a1 c1 A hA hR' => by
    refine (entries_any (E := entP M (3 - (i : Int))) hR' hA hsub (by omega)).mono ?_
    rintro r w'' ⟨t, rfl, h5⟩
    obtain ⟨a', c', W, S', q1, q2, q3⟩ := RkAt.app (Y := [(t, ensO (entP M (3 - (i : Int))))]) h5 hs (EnsIs.made t _ (by omega)) (by omega)
    rw [← upto_succ] at q1 q2
    exact ⟨t, rfl, a', c', W, S', q1, fun a9 hf => ⟨g - 1, by omega, i + 1, a', c', S', by omega, hf, q2, q3⟩⟩
   have i0 : (0 : Int) ≤ i := by omega
   have i1 : (i : Int) < 4 := by omega
   clear hR hs hb hgl hle hsub hrl hi
   generalize (uptoE M (i + 1)).length = n1 at *
   generalize (uptoE M i).length = n0 at *
   generalize (entP M (3 - (i : Int))).length = n2 at *
   go_wp2_with fail
   refine ca.out.mono ?_
   rintro r w1 ⟨a1, c1, A, rfl, hA, hR1⟩
   have ce1 := Lib.hid (ce.out _ _ _ _ hA hR1)
   clear ca ce hA hR1
   go_wp2_with fail
   refine ce1.out.mono ?_
   rintro r w2 ⟨t, rfl, a3, c3, W, S', hrun, fin⟩
   replace fin := Lib.hid fin
   clear ce1
   go_wp2_with (at_builtin; refine wpList_append_go rfl (.tmp 13) (.tmp 23) 46 46 rfl _ _ rfl rfl hrun ?_)
   refine wp_goto ?_
   exact ⟨rfl, fin.out _ ⟨rfl, rfl, by simp⟩⟩
  ·have hin : i = 4 := by omega
   subst hin
   rw [upto_all hok.out] at hs ⊢
   have fin : Hid (AllR B w0 rk M F (.returned (.slice a M.length c)) wr) := Lib.hid ⟨a, c, S, rfl, hs, hok.out, .inr ⟨q, rbs, hR⟩⟩
   clear hR hs hi
   simp only [Int.cast_ofNat_Int]
   go_wp2_with fail
   simp only [Exit.jump]
   go_ret
   exact fin.out
 ·intro HJ
  go_wp2_with fail
  refine wp_label ?_
  go_step
  go_step
  exact HJ 4 _ _ ⟨0, none, 0, [], rfl, ⟨rfl, rfl, by simp [upto_zero]⟩, by rw [upto_zero]; exact EnsIs.nil, h.out⟩
theorem all_none (h : St B w0 w ((rk, rack0) :: F)) : Calls Tryz.prog 129 #[rptr rk] w (AllR B w0 rk [] F) := by
 have c0 : w.cell? ⟨rk, 0, none⟩ = some (.slice none 0 0) := h.cell (b := rk) List.mem_cons_self rfl
 have fin : Hid (AllR B w0 rk [] F (.returned (.slice none 0 0)) w) := Lib.hid ⟨none, 0, [], rfl, EnsIs.nil, RkOk.nil, .inl ⟨rfl, h⟩⟩
 clear h
 go_enter Tryz.func129, Tryz.ntmps129
 go_wp2_with fail
 refine wp_scope_ghost 0 (fun g a' w' => Fr 27 [(0, rptr rk), (3, .slice none 0 0), (4, .int .i64 0)] a' ∧ w' = w) rfl ?_ ?_
 ·rintro g a' wr ⟨hfr, rfl⟩
  obtain ⟨fr, rfl, hl'⟩ := hfr.lit
  clear hfr
  simp only [List.mem_cons, List.not_mem_nil, or_false, forall_eq_or_imp, forall_eq] at hl'
  obtain ⟨f0, f3, f4⟩ := hl'
  simp only [List.range, List.range.loop, List.map, f0, f3, f4]
  clear f0 f3 f4
  go_wp2_with fail
  simp only [Exit.jump]
  go_ret
  exact fin.out
 ·intro HJ
  go_wp2_with fail
  refine wp_label ?_
  go_step
  go_step
  exact HJ 0 _ _ ⟨⟨rfl, rfl, by simp⟩, rfl⟩
theorem rk_all (h : RackIs B w0 w rk M F) : Calls Tryz.prog 129 #[rptr rk] w (AllR B w0 rk M F) := by
 obtain ⟨h1, ⟨rfl, h3⟩ | ⟨q, rbs, h2⟩⟩ := h
 ·exact all_none h3
 ·exact all_some h1 h2
end
end
section
open Go.ChangeMaps (setBlock)
def leftU (E : List Ent) (j : Nat) (now : Int) : List Ent := (E.take j).filter fun x => !goneE x now
def rowAt (E : List Ent) (j : Nat) (now : Int) : List Int := (E.drop j).map (·.id) ++ (leftU E j now).map (·.id)
section
variable {E : List Ent} {j : Nat} {x : Ent} {now : Int}
end
section
variable {B : Nat} {w0 w : World} {rk q rb i k : Nat} {rbs : List Nat} {R : List (List Int)} {H M L : List Ent} {F A S Y : List (Nat × Obj)} {e e0 : Ent} {E : List Ent} {l : List Int} {now : Int}
theorem RkAt.ring_shift {n : Int} (h : RkAt B w0 w rk q rbs R H F) (hb : rbs[i]? = some rb) (hl : R[i]? = some (n :: l)) : Calls Tryz.prog 253 #[rptr rb] w fun r w' => r = .returned (.tuple #[.int .i64 n, .bool true]) ∧ RkAt B w0 w' rk q rbs (R.set i l) H F := by
 obtain ⟨Z, hr, hback⟩ := h.ring hb hl
 refine (Go.Proofs.YtknjamfjonapiaaGreatDoor.ring_shift hr).mono ?_
 rintro r w' ⟨rfl, h'⟩
 exact ⟨rfl, hback _ _ _ h'⟩
theorem RkAt.ring_push (h : RkAt B w0 w rk q rbs R H F) (hb : rbs[i]? = some rb) (hl : R[i]? = some l) (hn : l.length ≤ 1000000) (n : Int) : Calls Tryz.prog 255 #[rptr rb, .int .i64 n] w fun r w' => r = .returned (.tuple #[]) ∧ RkAt B w0 w' rk q rbs (R.set i (l ++ [n])) H F := by
 obtain ⟨Z, hr, hback⟩ := h.ring hb hl
 refine (Go.Proofs.YtknjamfjonapiaaGreatDoor.ring_push hr (by omega) n).mono ?_
 rintro r w' ⟨rfl, h'⟩
 exact ⟨rfl, hback _ _ _ h'⟩
theorem RkAt.ring_len (h : RkAt B w0 w rk q rbs R H F) (hb : rbs[i]? = some rb) (hl : R[i]? = some l) : Calls Tryz.prog 252 #[rptr rb] w fun r w' => r = .returned (.int .i64 l.length) ∧ w = w' := by
 obtain ⟨Z, hr, -⟩ := h.ring hb hl
 exact Go.Proofs.YtknjamfjonapiaaGreatDoor.ring_len hr
theorem RkAt.ensPush {a : Option Addr} {c : Nat} (h : RkAt B w0 w rk q rbs R H (S ++ Y)) (hs : EnsIs (.slice a L.length c) L S) (e : Ent) (hl : L.length ≤ 100000) :
  ∃ a' c' W S', (Builtin.append_ #[46, 46] 0 #[.slice a L.length c, .slice (some ⟨w.heap.size, 0, none⟩) 1 1]).run Tryz.prog (w.alloc (enO e)) = .ok (.slice a' (L ++ [e]).length c') W ∧ EnsIs (.slice a' (L ++ [e]).length c') (L ++ [e]) S' ∧ RkAt B w0 W rk q rbs R H (S' ++ Y) := by
 obtain ⟨Z, z1, z2⟩ := h.beside
 have p1 : ∀ S : List (Nat × Obj), (Z ++ (S ++ Y)).Perm ((Z ++ Y) ++ S) := fun S => by
  classical
  exact List.perm_iff_count.2 fun a => by simp only [List.count_append]; omega
 obtain ⟨a', c', W, S', q1, q2, q3⟩ := ens_push hs (z1.perm (p1 _)) e hl
 exact ⟨a', c', W, S', q1, q2, z2 _ _ (q3.perm (p1 _).symm)⟩
theorem RkAt.del (h : RkAt B w0 w rk q rbs R H F) (n : Int) : ∃ (mb : Nat) (es : List (MapRow Int)) (clk : Nat), w.cell? ⟨rk, 1, none⟩ = some (.map (some mb)) ∧ w.heap[mb]? = some (.map (entsE encI es) clk) ∧ RkAt B w0 (setBlock w mb (.map (entsE encI (restE es n)) clk)) rk q rbs R (delM H n) F := by
 obtain ⟨mb, es, clk, c1, hg, ho, hback⟩ := h.map
 exact ⟨mb, es, clk, c1, hg, hback _ _ _ (ho.del n) (Nat.le_trans (List.length_filter_le _ _) h.few)⟩
end
end
section
open Go.ChangeMaps (setBlock)
section
variable {M : List Ent} {now : Int} {i : Nat}
end
section
variable {B : Nat} {w0 w : World} {rk q rb i k : Nat} {rbs : List Nat} {M : List Ent} {F : List (Nat × Obj)} {now : Int}
end
end
structure Opt where
 dead : List UInt8
 deadKey : List UInt8
 maxLen : Int
 ttl : Int
 prio : Int
 bits : Int
abbrev opV (o : Opt) : Value := .agg #[tx o.dead, tx o.deadKey, .int .i64 o.maxLen, .int .i64 o.ttl, .int .i64 o.prio, .int .i64 o.bits]
abbrev opO (o : Opt) : Obj := .cells #[tx o.dead, tx o.deadKey, .int .i64 o.maxLen, .int .i64 o.ttl, .int .i64 o.prio, .int .i64 o.bits] 34
def limitO (o : Opt) : Int := if 1 ≤ o.maxLen ∧ o.maxLen ≤ 60 then o.maxLen else 60
def shorter (t u : Int) : Int := if 0 < t then (if 0 < u ∧ u < t then u else t) else if 0 < u then u else 0
def forE (e : Ent) (o : Opt) (now : Int) : Ent :=
 { e with prio := max (min e.prio o.prio) 0, til := if 0 < shorter e.ttl o.ttl then IntKind.i64.wrap (now + shorter e.ttl o.ttl) else 0 }
def isO (o : Opt) : Bool := decide ((0 ≤ o.maxLen ∧ o.maxLen ≤ 60) ∧ (0 ≤ o.ttl ∧ o.ttl ≤ 10000) ∧ (0 ≤ o.prio ∧ o.prio ≤ 3) ∧ (0 ≤ o.bits ∧ o.bits ≤ 15) ∧ o.dead.length ≤ 12 ∧ o.deadKey.length ≤ 40)
def lastB (n : Int) : Int := bits .andNot .i64 n 8
def lastO (o : Opt) : Opt := { o with bits := lastB o.bits }
def sameO (a b : Opt) : Bool := decide (a.dead = b.dead ∧ a.deadKey = b.deadKey ∧ a.maxLen = b.maxLen ∧ a.ttl = b.ttl ∧ a.prio = b.prio ∧ lastB a.bits = lastB b.bits)
theorem limit_any (o : Opt) (w : World) : Calls Tryz.prog 361 #[opV o] w fun r w' => r = .returned (.int .i64 (limitO o)) ∧ Below w.heap.size w w' := by
 have hb := Lib.hid (new_below w (opO o))
 by_cases h1 : o.maxLen < 1
 ·have f : limitO o = 60 := by unfold limitO; rw [if_neg (by omega)]
  rw [f]
  clear f
  go_enter Tryz.func361, Tryz.ntmps361
  go_wp2_with fail
  go_ret
  exact ⟨rfl, hb.out⟩
 by_cases h2 : o.maxLen > 60
 ·have f : limitO o = 60 := by unfold limitO; rw [if_neg (by omega)]
  rw [f]
  clear f
  go_enter Tryz.func361, Tryz.ntmps361
  go_wp2_with fail
  go_ret
  exact ⟨rfl, hb.out⟩
 have f : limitO o = o.maxLen := by unfold limitO; rw [if_pos (by omega)]
 rw [f]
 clear f
 go_enter Tryz.func361, Tryz.ntmps361
 go_wp2_with fail
 go_ret
 exact ⟨rfl, hb.out⟩
end Go.Proofs.YtknjamfjonapiaaGreatDoor
