/- An entry put into a rack. -/
import Derived.Test.YtmmagapggmcceaaRkK
namespace Go.Proofs.Ytmmagapggmcceaa
open Go.RowKit
open Go.ChangeMaps (setBlock)
set_option linter.unusedVariables false
set_option linter.unusedSectionVars false
set_option linter.unusedSimpArgs false
set_option maxRecDepth 100000

theorem uEqMapE (w : World) (m : Option Nat) : (binOp .eql 55 (.map m) (.map none)).run Try.prog w = .ok (.bool m.isNone) w := by
  simp only [binOp]
  simp [run_equal_map_nil w 55 _ _ m uMapE]

def putOk (M : List Ent) (e : Ent) : Bool := decide (e.id ∉ M.map (·.id) ∧ 0 ≤ e.prio ∧ e.prio ≤ 3)
def putM (M : List Ent) (e : Ent) : List Ent := if putOk M e = true then insM e M else M
section
variable {B : Nat} {w0 w : World} {rk : Nat} {M : List Ent} {F : List (Nat × Obj)} {e : Ent}
/-- What is seen when one is to be put. -/
structure PutSee (rk : Nat) (e : Ent) (th : Bool) (y : Ent) (mv : Option Nat) (W : World) : Prop where
  c1 : W.cell? ⟨rk, 1, none⟩ = some (.map mv)
  look : (Instr.lookup 55 (.map mv) (.int .i64 e.id) true).run Try.prog W = .ok (.tuple #[enV y, .bool th]) W
theorem put_see (h : RackIs B w0 w rk M F) (e : Ent) {th : Bool} (hth : th = decide (e.id ∈ M.map (·.id))) : ∃ y mv, (mv = none → ∀ W, Below w.heap.size w W → M = [] ∧ St B w0 W ((rk, rack0) :: F)) ∧
    (∀ mb, mv = some mb → ∀ W, Below w.heap.size w W → ∃ q rbs, RkAt B w0 W rk q rbs (rowsM M) M F) ∧ ∀ W, Below w.heap.size w W → PutSee rk e th y mv W := by
  subst hth
  obtain ⟨h1, ⟨rfl, h3⟩ | ⟨q, rbs, h2⟩⟩ := h
  · have c1 : w.cell? ⟨rk, 1, none⟩ = some (.map none) := h3.cell (b := rk) List.mem_cons_self rfl
    refine ⟨z0E, none, fun _ W hb => ⟨rfl, h3.grow hb⟩, (fun mb e => by cases e), fun W hb => ⟨cellUp c1 hb, ?_⟩⟩
    exact run_lookE_nil (P := Try.prog) (c := true) keyI uMapE (zEnt W) (k := e.id) trivial
  · obtain ⟨mb, -, hl⟩ := h2.look
    by_cases hin : e.id ∈ M.map (·.id)
    · obtain ⟨y, hy, hid⟩ := List.mem_map.1 hin
      refine ⟨y, some mb, (fun e => by cases e), fun _ _ W hb => ⟨q, rbs, h2.grow hb⟩, fun W hb => ⟨(hl W hb).c1, ?_⟩⟩
      have := (hl W hb).hit y hy true
      rw [hid] at this
      rw [decide_eq_true hin]
      exact this
    · refine ⟨z0E, some mb, (fun e => by cases e), fun _ _ W hb => ⟨q, rbs, h2.grow hb⟩, fun W hb => ⟨(hl W hb).c1, ?_⟩⟩
      have := (hl W hb).miss _ hin true
      rw [decide_eq_false hin]
      exact this

set_option maxHeartbeats 2000000 in
theorem rk_put (h : RackIs B w0 w rk M F) (h1 : e.exch.length ≤ 140737488351232) (h2 : e.key.length ≤ 140737488351232) (hlen : M.length < 100000) :
    Calls Try.prog 20 #[rptr rk, enV e] w fun r w' => r = .returned (.bool (putOk M e)) ∧ RackIs B w0 w' rk (putM M e) F := by
  have ha := h.alloc (enO e)
  obtain ⟨th, hth⟩ : ∃ th, th = decide (e.id ∈ M.map (·.id)) := ⟨_, rfl⟩
  obtain ⟨y, mv, hnone, hsome, hsee⟩ := put_see ha e hth
  have heb : ∀ W, Below (w.alloc (enO e)).heap.size (w.alloc (enO e)) W → EnAt W w.heap.size e := fun W hb => by
    obtain ⟨S, hs⟩ := ha.st
    exact (hs.grow hb).enAt (List.mem_append_right _ List.mem_cons_self)
  have hs1 : Hid (∀ o, ((w.alloc (enO e)).drew.alloc o).cell? ⟨rk, 1, none⟩ = some (.map mv) ∧ ((w.alloc (enO e)).drew.alloc o).cell? ⟨w.heap.size, 0, none⟩ = some (.int .i64 e.id) ∧ (Instr.lookup 55 (.map mv) (.int .i64 e.id) true).run Try.prog ((w.alloc (enO e)).drew.alloc o) = .ok (.tuple #[enV y, .bool th]) ((w.alloc (enO e)).drew.alloc o)) := Lib.hid fun o => by
    have hb : Below (w.alloc (enO e)).heap.size (w.alloc (enO e)) ((w.alloc (enO e)).drew.alloc o) := bel (drew_b _) (new_below _ o)
    exact ⟨(hsee _ hb).c1, (heb _ hb).1, (hsee _ hb).look⟩
  obtain ⟨i1, i2, i3⟩ := (⟨(hsee _ (drew_b _)).c1, (heb _ (drew_b _)).1, (hsee _ (drew_b _)).look⟩ : (w.alloc (enO e)).drew.cell? ⟨rk, 1, none⟩ = some (.map mv) ∧ (w.alloc (enO e)).drew.cell? ⟨w.heap.size, 0, none⟩ = some (.int .i64 e.id) ∧ (Instr.lookup 55 (.map mv) (.int .i64 e.id) true).run Try.prog (w.alloc (enO e)).drew = .ok (.tuple #[enV y, .bool th]) (w.alloc (enO e)).drew)
  have hnew : Hid (∀ o, Below (w.alloc (enO e)).heap.size (w.alloc (enO e)) ((w.alloc (enO e)).alloc o).drew) := Lib.hid fun o => bel (new_below _ o) (drew_b _)
  go_enter Try.func20, Try.ntmps20
  go_upto_region 1 with fail
  go_cut [6] (fun v6 wy => v6 = .bool th ∧ Hid (Below (w.alloc (enO e)).heap.size (w.alloc (enO e)) wy))
  case first =>
    clear ha hnone hsome hsee heb hth h
    go_region_held3 (fun wr => wr.cell? ⟨rk, 1, none⟩ = some (.map mv) ∧ wr.cell? ⟨w.heap.size, 0, none⟩ = some (.int .i64 e.id) ∧ (Instr.lookup 55 (.map mv) (.int .i64 e.id) true).run Try.prog wr = .ok (.tuple #[enV y, .bool th]) wr) (first | exact hs1.out _ | go_keep) (fail)
    all_goals
      go_wp2_with fail
      go_meet
      case rel => exact ⟨rfl, Lib.hid (hnew.out _)⟩
  case rest =>
    obtain ⟨rfl, hb1⟩ := hcut
    have hR1 := (ha.grow hb1.out)
    obtain ⟨k0, k1, k2, k3, k4, k5, k6, k7, k8, k9⟩ := heb _ hb1.out
    have c1 := (hsee _ hb1.out).c1
    have same : ∀ w', RackIs B w0 w' rk M ((w.heap.size, enO e) :: F) → RackIs B w0 w' rk M F := fun w' h => h.sub (List.sublist_cons_self _ _)
    have hnoR := Lib.hid (same _ hR1)
    replace hnone := Lib.hid (fun h => hnone h wc hb1.out)
    replace hsome := Lib.hid (fun mb h => hsome mb h wc hb1.out)
    have hno : Hid (putOk M e = false → (Ending.returned (.bool false) = .returned (.bool (putOk M e))) ∧ RackIs B w0 wc rk (putM M e) F) := Lib.hid fun h => by
      unfold putM
      rw [h]
      exact ⟨rfl, hnoR.out⟩
    replace hth := Lib.hid hth
    replace hlen := Lib.hid hlen
    have hok := Lib.hid h.ok
    replace h1 := Lib.hid h1
    replace h2 := Lib.hid h2
    clear ha hsee heb hs1 i1 i2 i3 hnew hnoR same hb1 hR1 h
    generalize w.heap.size = eb at *
    cases th with
    | true =>
      have fin := Lib.hid (hno.out (by
        have := of_decide_eq_true hth.out.symm
        simp only [putOk, decide_eq_false_iff_not]
        exact fun h => h.1 this))
      clear hno hnone hsome
      go_wp2_with fail
      go_ret
      exact fin.out
    | false =>
      have cp := Lib.hid (isPrio_any e.prio wc)
      by_cases hp : 0 ≤ e.prio ∧ e.prio ≤ 3
      rotate_left
      · have fin := Lib.hid (hno.out (by
          simp only [putOk, decide_eq_false_iff_not]
          exact fun h => hp h.2))
        rw [decide_eq_false hp] at cp
        clear hno hnone hsome hp
        go_wp2_with fail
        refine cp.out.mono ?_
        rintro r w1 ⟨rfl, rfl⟩
        clear cp
        go_wp2_with fail
        go_ret
        exact fin.out
      have hin : e.id ∉ M.map (·.id) := of_decide_eq_false hth.out.symm
      have hpo : putOk M e = true := by
        simp only [putOk, decide_eq_true_eq]
        exact ⟨hin, hp⟩
      rw [decide_eq_true hp] at cp
      have hdone : Hid (∀ w', RackIs B w0 w' rk (insM e M) ((eb, enO e) :: F) → (Ending.returned (.bool true) = .returned (.bool (putOk M e))) ∧ RackIs B w0 w' rk (putM M e) F) := Lib.hid fun w' h => by
        unfold putM
        rw [hpo, if_pos rfl]
        exact ⟨rfl, h.sub (List.sublist_cons_self _ _)⟩
      replace hp := Lib.hid hp
      replace hin := Lib.hid hin
      clear hno hpo hth
      go_wp2_with fail
      refine cp.out.mono ?_
      rintro r w1 ⟨rfl, rfl⟩
      clear cp
      have heq := uEqMapE wc mv
      go_upto_if 29 with fail
      go_cut [] (fun wy => ∃ q rbs, Hid (RkAt B w0 wy rk q rbs (rowsM M) M ((eb, enO e) :: F)))
      case first =>
        cases mv with
        | some mb =>
          have fin := Lib.hid (hsome.out mb rfl)
          clear hnone hsome
          go_wp2_with fail
          go_meet
          case rel => exact ⟨_, _, Lib.hid fin.out.choose_spec.choose_spec⟩
        | none =>
          obtain ⟨rfl, hst⟩ := hnone.out rfl
          have cn := Lib.hid (newRows_any hst)
          have hmk := fun w => @run_makeMap Try.prog 55 w
          clear hnone hsome hst k0 k1 k2 k3 k4 k5 k6 k7 k8 k9
          go_wp2_with fail
          refine cn.out.mono ?_
          rintro r w2 ⟨q, rbs, G, rfl, hl, hW, hG, h2⟩
          have h3 := (h2.alloc (.map #[] 0)).perm (H' := (rk, rack0) :: (q, rowsO rbs) :: (w2.heap.size, .map (entsE encI []) 0) :: (ringsH rbs G ++ ((eb, enO e) :: F))) (by
            classical
            exact List.perm_iff_count.2 fun a => by
              simp only [List.count_append, List.count_cons]
              have : entsE encI [] = #[] := rfl
              rw [this]
              omega)
          have f0 := h3.soft (b := rk) List.mem_cons_self 0
          have f1 := h3.soft (b := rk) List.mem_cons_self 1
          have d0 := h3.cell (b := rk) (i := 0) List.mem_cons_self rfl
          have d1 := h3.cell (b := rk) (i := 1) List.mem_cons_self rfl
          have h4 := (h3.set0 0 (.slice (some ⟨q, 0, none⟩) 4 4)).set0 1 (.map (some w2.heap.size))
          have fin : Hid (RkAt B w0 (((w2.alloc (.map #[] 0)).setCell ⟨rk, 0, none⟩ (.slice (some ⟨q, 0, none⟩) 4 4)).setCell ⟨rk, 1, none⟩ (.map (some w2.heap.size))) rk q rbs (rowsM []) [] ((eb, enO e) :: F)) :=
            Lib.hid ⟨w2.heap.size, [], 0, 0, G, ⟨hl, hW, hG, HeldOf.nil, by omega, by simp⟩, h4⟩
          clear h2 h3 h4 hW hG cn hl heq c1
          go_wp2_with fail
          go_meet
          case rel => exact ⟨_, _, fin⟩
      case rest =>
        clear hnone hsome heq c1 k0 k1 k2 k3 k4 k5 k6 k7 k8 k9
        obtain ⟨q, rbs, hR⟩ := hcut
        obtain ⟨i, hi, hpi⟩ := row_no hp.out
        obtain ⟨rb, hb⟩ := hR.out.row_at hi
        have hro := hok.out
        have hnin : ∀ x ∈ M, x.id ≠ e.id := fun x hx e1 => hin.out (e1 ▸ List.mem_map_of_mem hx)
        have hgl := rows_get (M := M) hi
        rw [← hpi] at hgl
        have hrl := row_le M e.prio
        have hln := hlen.out
        have eAt : ∀ (R : List (List Int)) (H : List Ent) (W : World), RkAt B w0 W rk q rbs R H ((eb, enO e) :: F) → EnAt W eb e := fun R H W h => by
          obtain ⟨S, hs, -⟩ := h.beside
          exact hs.enAt (List.mem_append_right _ List.mem_cons_self)
        obtain ⟨k0, k1, k2, k3, k4, k5, k6, k7, k8, k9⟩ := eAt _ _ _ hR.out
        have cro := Lib.hid (rowOf_any (e := e) hR.out hi hpi hb)
        obtain ⟨N, hN⟩ : ∃ N, N = cntL (rowP M e.prio) e.id := ⟨_, rfl⟩
        have ca : Hid (∀ W, RkAt B w0 W rk q rbs (rowsM M) M ((eb, enO e) :: F) → Calls Try.prog 36 #[rptr rk, rptr rb, enV e] W fun r w' => r = .returned (.int .i64 N) ∧ RkAt B w0 w' rk q rbs (rowsM M) M ((eb, enO e) :: F) ∧ EnAt w' eb e) := Lib.hid fun W h => by
          rw [hN]
          refine (ahead_any (e := e) h hb hgl (row_up hro _) (fun k hk => row_mem hk) hp.out (by omega)).mono ?_
          rintro r w' ⟨rfl, hb⟩
          exact ⟨rfl, h.grow hb, eAt _ _ _ (h.grow hb)⟩
        have cl : Hid (∀ W, RkAt B w0 W rk q rbs (rowsM M) M ((eb, enO e) :: F) → Calls Try.prog 35 #[rptr rb, .int .i64 N, .int .i64 e.id] W fun r w' => r = .returned (.tuple #[]) ∧ RkAt B w0 w' rk q rbs (rowsM (insM e M)) M ((eb, enO e) :: F) ∧ EnAt w' eb e) := Lib.hid fun W h => by
          obtain ⟨Z, hr, hback⟩ := h.ring hb hgl
          rw [hN]
          refine (lay_any hr (cntL_le _ _) (by omega) e.id).mono ?_
          rintro r w' ⟨rfl, h'⟩
          have h2 := hback _ _ _ h'
          rw [show (rowP M e.prio).take (cntL (rowP M e.prio) e.id) ++ e.id :: (rowP M e.prio).drop (cntL (rowP M e.prio) e.id) = putRow (rowP M e.prio) e.id from rfl, rows_put hro hnin hi hpi] at h2
          exact ⟨rfl, h2, eAt _ _ _ h2⟩
        have eAtH := Lib.hid eAt
        have hfin : Hid (∀ W R, RkAt B w0 W rk q rbs R (e :: M) ((eb, enO e) :: F) → RkAt B w0 W rk q rbs R (insM e M) ((eb, enO e) :: F)) := Lib.hid fun W R h => h.reset (ins_perm e M).symm
        have hokI := Lib.hid (hro.ins hp.out hnin)
        replace hnin := Lib.hid hnin
        clear hgl hrl hln hro hb hpi hi hN eAt
        go_wp2_with fail
        refine cro.out.mono ?_
        rintro r w1 ⟨rfl, hbw⟩
        have hR1 := hR.out.grow hbw
        obtain ⟨j0, j1, j2, j3, j4, j5, j6, j7, j8, j9⟩ := eAtH.out _ _ _ hR1
        have hR2 := hR1.grow (drew_b _)
        have hS0 := Lib.hid (eAtH.out _ _ _ hR2)
        clear cro hbw hR k0 k1 k2 k3 k4 k5 k6 k7 k8 k9 hR1
        go_wp2_with fail
        go_region_held3 (fun x => x.cell? ⟨eb, 0, none⟩ = some (.int .i64 e.id) ∧ x.cell? ⟨eb, 1, none⟩ = some (.int .i64 e.body) ∧ x.cell? ⟨eb, 2, none⟩ = some (.int .i64 e.size) ∧ x.cell? ⟨eb, 3, none⟩ = some (tx e.exch) ∧ x.cell? ⟨eb, 4, none⟩ = some (tx e.key) ∧ x.cell? ⟨eb, 5, none⟩ = some (.int .i64 e.prio) ∧ x.cell? ⟨eb, 6, none⟩ = some (.int .i64 e.ttl) ∧ x.cell? ⟨eb, 7, none⟩ = some (.int .i64 e.til) ∧ x.cell? ⟨eb, 8, none⟩ = some (.bool e.again) ∧ x.cell? ⟨eb, 9, none⟩ = some (.int .i64 e.hops)) (first | exact kS | exact hS0.out) (first
          | (go_at_call 36; refine (ca.out _ (by assumption)).mono ?_; rintro r w'' ⟨rfl, hA, kS⟩)
          | (go_at_call 35; refine (cl.out _ (by assumption)).mono ?_; rintro r w'' ⟨rfl, hL, kS⟩))
        have hL2 := hL.grow (drew_b _)
        obtain ⟨j0, j1, j2, j3, j4, j5, j6, j7, j8, j9⟩ := eAtH.out _ _ _ hL2
        obtain ⟨mb, -, m1, hmu, -⟩ := hL2.put (e := e) hin.out (by have := hlen.out; omega)
        have co : Hid (Calls Try.prog 37 #[enV e] w''.drew fun r w' => r = .returned (enV e) ∧ (∃ W2, (Instr.mapUpdate 55 (.map (some mb)) (.int .i64 e.id) (enV e)).run Try.prog w' = .ok () W2 ∧ RkAt B w0 W2 rk q rbs (rowsM (insM e M)) (e :: M) ((eb, enO e) :: F) ∧ W2.cell? ⟨rk, 1, none⟩ = some (.map (some mb)) ∧ EnAt W2 eb e) ∧ w'.cell? ⟨rk, 1, none⟩ = some (.map (some mb)) ∧ EnAt w' eb e) := Lib.hid (by
          refine (eown_any e h1.out h2.out _).mono ?_
          rintro r w' ⟨rfl, hb⟩
          obtain ⟨mb', es', clk', c1', hg', ho', hback'⟩ := (hL2.grow hb).map
          have e1 := (cellUp m1 hb).symm.trans c1'
          simp only [Option.some.injEq, Value.map.injEq] at e1
          subst e1
          have hR9 := hback' _ _ _ (ho'.put (e := e) hin.out) (by rw [List.length_cons]; have := hlen.out; omega)
          refine ⟨rfl, ⟨_, run_mapE_new keyI uMapE hg' (k := e.id) trivial (fun _ _ => trivial) (enV e) (ho'.none hin.out), hR9, ?_, eAtH.out _ _ _ hR9⟩, c1', eAtH.out _ _ _ (hL2.grow hb)⟩
          have hne : rk ≠ mb := by
            rintro rfl
            obtain ⟨S, hs, -⟩ := (hL2.grow hb).beside
            unfold World.cell? at c1'
            rw [hg'] at c1'
            simp at c1'
          have : (setBlock w' mb (Obj.map (entsE encI (es' ++ [(e.id, enV e, clk')])) (clk' + 1))).heap[rk]? = w'.heap[rk]? := by
            simp only [setBlock]
            rw [Array.getElem?_setIfInBounds_ne (Ne.symm hne)]
          unfold World.cell?
          rw [this]
          exact c1')
        clear ca cl hR2 hS0 hA hL hL2 hmu
        go_wp2_with fail
        go_region_held3 (fun x => x.cell? ⟨rk, 1, none⟩ = some (.map (some mb)) ∧ x.cell? ⟨eb, 0, none⟩ = some (.int .i64 e.id) ∧ x.cell? ⟨eb, 1, none⟩ = some (.int .i64 e.body) ∧ x.cell? ⟨eb, 2, none⟩ = some (.int .i64 e.size) ∧ x.cell? ⟨eb, 3, none⟩ = some (tx e.exch) ∧ x.cell? ⟨eb, 4, none⟩ = some (tx e.key) ∧ x.cell? ⟨eb, 5, none⟩ = some (.int .i64 e.prio) ∧ x.cell? ⟨eb, 6, none⟩ = some (.int .i64 e.ttl) ∧ x.cell? ⟨eb, 7, none⟩ = some (.int .i64 e.til) ∧ x.cell? ⟨eb, 8, none⟩ = some (.bool e.again) ∧ x.cell? ⟨eb, 9, none⟩ = some (.int .i64 e.hops)) (first | exact kS2 | exact kS3 | exact ⟨m1, j0, j1, j2, j3, j4, j5, j6, j7, j8, j9⟩) ((go_at_call 37; refine co.out.mono ?_; rintro r w2 ⟨rfl, ⟨W2, hmu, hRk, kS3⟩, kS2⟩))
        clear co hmu kS2 m1 j0 j1 j2 j3 j4 j5 j6 j7 j8 j9
        have kS4 := kS3.1
        have hRd := hfin.out _ _ (hRk.grow (drew_b _))
        obtain ⟨m, hm, d2, hmost⟩ := hRd.most
        have f2 := hRk.soft 2
        have d2' : W2.cell? ⟨rk, 2, none⟩ = some (.int .i64 m) := d2
        obtain ⟨mb2, hlk, -⟩ := hRd.look
        have c1' : W2.cell? ⟨rk, 1, none⟩ = some (.map (some mb2)) := hlk.c1
        have e1 : mb2 = mb := by
          have := kS4.symm.trans c1'
          simp only [Option.some.injEq, Value.map.injEq] at this
          exact this.symm
        subst e1
        have gl := hlk.len
        rw [ins_len] at gl
        have hL : M.length + 1 ≤ 100000 := by have := hlen.out; omega
        have hfin2 : Hid (∀ n : Nat, n ≤ 100000 → (Ending.returned (.bool true) = .returned (.bool (putOk M e))) ∧ RackIs B w0 (W2.drew.setCell ⟨rk, 2, none⟩ (.int .i64 n)) rk (putM M e) F) := Lib.hid fun n hn => hdone.out _ ⟨hokI.out, .inr ⟨q, rbs, hmost n hn⟩⟩
        clear hRk hRd hmost hlk kS3 c1' kS hdone hfin hokI d2
        generalize M.length + 1 = L at *
        go_wp2_with fail
        by_cases hml : m < L
        · have hm1 : (m : Int) < L := by omega
          have fin := Lib.hid (hfin2.out L hL)
          clear hfin2
          go_still_tail 13, (by kernel_rfl)
          change wpList _ _ _ _ _ W2.drew
          go_wp2_with fail
          go_ret
          exact fin.out
        · have hm1 : ¬ (m : Int) < L := by omega
          have fin := Lib.hid (hfin2.out m hm)
          clear hfin2
          go_still_tail 13, (by kernel_rfl)
          change wpList _ _ _ _ _ W2.drew
          go_wp2_with fail
          go_ret
          exact fin.out
end
end Go.Proofs.Ytmmagapggmcceaa
