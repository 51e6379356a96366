/- RackPlays: one step, on both sides. -/
import Derived.Test.YtofkakcnipaheaaRkX
namespace Go.Proofs.Ytofkakcnipaheaa
open Go.RowKit
open Go.ChangeMaps (setBlock)
set_option linter.unusedVariables false
set_option linter.unusedSectionVars false
set_option linter.unusedSimpArgs false
set_option maxRecDepth 100000

theorem beq_entry (e : Ent) (w : World) : (binOp .eql 28 (enV e) (enV e)).run Try.prog w = .ok (.bool true) w := by
  go_simp
abbrev stO15 (what : Int) (e : Ent) : Obj := .cells #[.int .i64 what, .int .i64 e.id, .int .i64 e.body, .int .i64 e.size, tx e.exch, tx e.key, .int .i64 e.prio, .int .i64 e.ttl, .int .i64 e.til, .bool e.again, .int .i64 e.hops] 30
/-- The entry's cells in a step. -/
abbrev StCells (W : World) (b : Nat) (e : Ent) : Prop := W.cell? ⟨b, 1, none⟩ = some (.int .i64 e.id) ∧ W.cell? ⟨b, 2, none⟩ = some (.int .i64 e.body) ∧ W.cell? ⟨b, 3, none⟩ = some (.int .i64 e.size) ∧ W.cell? ⟨b, 4, none⟩ = some (tx e.exch) ∧ W.cell? ⟨b, 5, none⟩ = some (tx e.key) ∧ W.cell? ⟨b, 6, none⟩ = some (.int .i64 e.prio) ∧ W.cell? ⟨b, 7, none⟩ = some (.int .i64 e.ttl) ∧ W.cell? ⟨b, 8, none⟩ = some (.int .i64 e.til) ∧ W.cell? ⟨b, 9, none⟩ = some (.bool e.again) ∧ W.cell? ⟨b, 10, none⟩ = some (.int .i64 e.hops)
section
variable {B : Nat} {w0 w W : World} {rk k qb : Nat} {M N : List Ent} {Y : List (Nat × Obj)} {a : Option Addr} {c : Nat} {e : Ent} {what : Int}
theorem TwoK.cells (h : TwoK B w0 w rk M N a c Y) (hm : (qb, stO15 what e) ∈ Y) : StCells w qb e :=
  ⟨h.cell hm rfl, h.cell hm rfl, h.cell hm rfl, h.cell hm rfl, h.cell hm rfl, h.cell hm rfl, h.cell hm rfl, h.cell hm rfl, h.cell hm rfl, h.cell hm rfl⟩
/-- Both sides behind i steps. -/
def Pl15 (w : World) (rk i : Nat) (Y : List (Nat × Obj)) (v : Value) (W : World) : Prop := ∃ M a c, v = .slice a M.length c ∧ M.length ≤ i ∧ TwoK w.heap.size w W rk M M a c Y
end

section
variable {w : World}
set_option maxHeartbeats 8000000 in
theorem plays15_walk {a0 : Option Addr} {n cap : Nat} {G : List (Int × Ent)} (hG : Stp15 w a0 n G) :
    Calls Try.prog 3 #[.slice a0 n cap] w fun e w' => e = .returned (.bool true) ∧ Below w.heap.size w w' := by
  have c1 := Lib.hid (known15_true w)
  by_cases h80 : 80 < n
  · have h80' : (80 : Int) < n := by omega
    clear hG
    go_enter Try.func3, Try.ntmps3
    go_wp2_with fail
    refine c1.out.mono ?_
    rintro e w1 ⟨rfl, hb⟩
    replace hb := Lib.hid hb
    go_wp2_with fail
    go_ret
    exact ⟨rfl, hb.out⟩
  have h80' : (n : Int) ≤ 80 := by omega
  have hGl := hG.size
  replace hG := Lib.hid hG
  go_enter Try.func3, Try.ntmps3
  go_wp2_with fail
  refine c1.out.mono ?_
  rintro e w1 ⟨rfl, hb⟩
  have c2 := Lib.hid (rk_new ((St.start w).grow hb))
  clear c1 hb h80
  go_wp2_with fail
  refine c2.out.mono ?_
  rintro e w2 ⟨rfl, h⟩
  generalize w1.heap.size = rk at *
  have h0 : Hid (Pl15 w rk 0 [] (.slice none 0 0) w2) := Lib.hid ⟨[], none, 0, rfl, Nat.le_refl _, [], EnsIs.nil, h⟩
  clear c2 h
  go_wp2_with fail
  go_loopg [4, 5] n (fun g v4 v5 wr => ∃ i : Nat, v5 = .int .i64 i ∧ i + g = n ∧ Hid (Pl15 w rk i [] v4 wr))
  case atStart => exact ⟨0, rfl, by omega, h0⟩
  case round =>
    clear h0
    obtain ⟨i, rfl, hi, hP⟩ := hrel
    obtain ⟨M, a, c, rfl, hMl, hT⟩ := hP.out
    have hi0 : (0 : Int) ≤ i := by omega
    by_cases hlt : i < n
    rotate_left
    · have fin := Lib.hid hT.below
      clear hP hT hMl
      go_wp2_with fail
      go_ret
      exact ⟨rfl, fin.out⟩
    have hi1 : (i : Int) < n := by omega
    obtain ⟨s, hx⟩ : ∃ s, G[i]? = some s := ⟨_, List.getElem?_eq_getElem (by omega)⟩
    obtain ⟨hfit, ba, oa, rfl, k0, k1, k2, k3, k4, k5, k6, k7, k8, k9, k10⟩ := (hG.out.below hT.below).at_ i s hx
    obtain ⟨what, e⟩ := s
    simp only at hfit k0 k1 k2 k3 k4 k5 k6 k7 k8 k9 k10
    have h1 := hT.alloc (stO15 what e)
    have hM80 : M.length ≤ 80 := by omega
    clear hx hP hT
    go_upto_block 2 with fail
    clear k0 k1 k2 k3 k4 k5 k6 k7 k8 k9 k10
    generalize wr.heap.size = qb at *
    obtain ⟨W1, hW1⟩ : ∃ W1, W1 = wr.alloc (stO15 what e) := ⟨_, rfl⟩
    rw [← hW1] at h1 ⊢
    clear hW1
    obtain ⟨y1, y2, y3, y4, y5, y6, y7, y8, y9, y10⟩ := h1.cells (qb := qb) (what := what) (e := e) List.mem_cons_self
    have y0 : W1.cell? ⟨qb, 0, none⟩ = some (.int .i64 what) := h1.cell (k := qb) List.mem_cons_self rfl
    have hfitH := Lib.hid hfit
    have hok := Lib.hid h1.ok
    have hMI : (M.length : Int) ≤ 80 := by omega
    go_cut [4, 7] (fun v4 v7 wx => v7 = .bool true ∧ Hid (Pl15 w rk (i + 1) [(qb, stO15 what e)] v4 wx))
    case first =>
      by_cases hw1 : what ≤ 5
      · as_aux_lemma =>
          obtain ⟨ok, hok2⟩ : ∃ ok, ok = putOk M e := ⟨_, rfl⟩
          obtain ⟨M2, hM2⟩ : ∃ M2, M2 = putM M e := ⟨_, rfl⟩
          have hM2l : Hid (M2.length ≤ i + 1) := Lib.hid (by rw [hM2]; have := put_len M e; omega)
          have cA : Hid (Calls Try.prog 9 #[.slice a M.length c, enV e] W1 fun r w' => ∃ a' c', r = .returned (.tuple #[.slice a' M2.length c', .bool ok]) ∧ StCells w' qb e ∧ Calls Try.prog 10 #[rptr rk, enV e] w' fun r w'' => r = .returned (.bool ok) ∧ Pl15 w rk (i + 1) [(qb, stO15 what e)] (.slice a' M2.length c') w'') := Lib.hid (by
            rw [hok2, hM2]
            refine (two_rput h1 (by omega) e).mono ?_
            rintro r w' ⟨a', c', rfl, h2⟩
            refine ⟨a', c', rfl, h2.cells List.mem_cons_self, (two_put h2 (by omega) hfit).mono ?_⟩
            rintro r w'' ⟨rfl, h3⟩
            exact ⟨rfl, _, a', c', rfl, by rw [← hM2]; exact hM2l.out, h3⟩)
          clear h1 hM2 hok2 hfit
          go_wp2_with fail
          refine cA.out.mono ?_
          rintro r w3 ⟨a', c', rfl, ⟨z1, z2, z3, z4, z5, z6, z7, z8, z9, z10⟩, hput⟩
          replace hput := Lib.hid hput
          clear cA y0 y1 y2 y3 y4 y5 y6 y7 y8 y9 y10
          go_wp2_with fail
          refine hput.out.mono ?_
          rintro r w4 ⟨rfl, hP2⟩
          replace hP2 := Lib.hid hP2
          clear hput z1 z2 z3 z4 z5 z6 z7 z8 z9 z10
          go_wp2_with fail
          go_meet
          case rel => exact ⟨rfl, hP2⟩
      by_cases hw2 : what ≤ 7
      · by_cases hM0 : M = []
        · as_aux_lemma =>
            subst hM0
            have cB : Hid (Calls Try.prog 11 #[rptr rk] W1 fun r w' => r = .returned (.tuple #[enV z0E, .bool false]) ∧ ∃ a' c', (∀ W, (Instr.slice 26 (.slice a 0 c) (some (.int .i64 0)) none none).run Try.prog W = .ok (.slice a' 0 c') W) ∧ ∀ m, Pl15 w rk (i + 1) [(qb, stO15 what e)] (.slice a' 0 c') ((w'.alloc (enO z0E)).drewN m)) := Lib.hid (by
              obtain ⟨-, -, -, -⟩ := two_cut h1 (n := 0) (by simp)
              refine (two_take h1).mono ?_
              rintro r w' ⟨rfl, h2⟩
              obtain ⟨a', c', q1, q2⟩ := two_cut h2 (n := 0) (by simp)
              refine ⟨rfl, a', c', q1, fun m => ⟨[], a', c', rfl, Nat.zero_le _, ?_⟩⟩
              exact ((TwoK.alloc (show TwoK w.heap.size w w' rk [] [] a' c' _ from q2) (enO z0E)).grow (drewN_below _ m)).sub (List.sublist_cons_self _ _))
            clear h1 hfit hM80 hMl
            simp only [List.length_nil]
            go_wp2_with fail
            refine cB.out.mono ?_
            rintro r w3 ⟨rfl, a', c', hrun, hP2⟩
            replace hP2 := Lib.hid hP2
            clear cB y0 y1 y2 y3 y4 y5 y6 y7 y8 y9 y10
            go_wp2_with fail
            generalize w3.heap.size = tb at *
            generalize w3.alloc (enO z0E) = V at *
            go_quiet (fail)
            replace hP2 := Lib.hid (hP2.out nq)
            generalize V.drewN nq = V2 at *
            go_wp2_with fail
            go_meet
            case rel => exact ⟨rfl, hP2⟩
        · as_aux_lemma =>
            obtain ⟨e0, hx0⟩ : ∃ e0, M[0]? = some e0 := ⟨_, List.getElem?_eq_getElem (List.length_pos_iff.2 hM0)⟩
            have hlen1 : 1 ≤ M.length := List.length_pos_iff.2 hM0
            have hfv : firstV M = .tuple #[enV e0, .bool true] := by
              cases M with
              | nil => exact absurd rfl hM0
              | cons y M =>
                simp at hx0
                rw [hx0]
                rfl
            have htl : M.tail = M.drop 1 := by simp
            have cB : Hid (Calls Try.prog 11 #[rptr rk] W1 fun r w' => r = .returned (.tuple #[enV e0, .bool true]) ∧ ∃ a' n' c', (∀ W, (Instr.slice 26 (.slice a M.length c) (some (.int .i64 1)) none none).run Try.prog W = .ok (.slice a' n' c') W) ∧ (∀ m, Pl15 w rk (i + 1) [(qb, stO15 what e)] (.slice a' n' c') ((w'.alloc (enO e0)).drewN m)) ∧
                EnAt (w'.alloc (enO e0)) w'.heap.size e0 ∧ ∃ b o, a = some ⟨b, o, none⟩ ∧ EnRow (w'.alloc (enO e0)) b o e0) := Lib.hid (by
              refine (two_take h1).mono ?_
              rintro r w' ⟨rfl, h2⟩
              obtain ⟨a', c', q1, q2⟩ := two_cut h2 (n := 1) hlen1
              rw [hfv]
              have h3 := h2.alloc (enO e0)
              obtain ⟨b, o, ha, hr⟩ := h3.read 0 e0 hx0
              rw [Nat.zero_mul, Nat.add_zero] at hr
              refine ⟨rfl, a', _, c', q1, fun m => ⟨M.drop 1, a', c', rfl, by rw [List.length_drop]; omega, ?_⟩, h3.block List.mem_cons_self, b, o, ha, hr⟩
              rw [htl] at q2
              exact ((q2.alloc (enO e0)).grow (drewN_below _ m)).sub (List.sublist_cons_self _ _))
            have hl1 : (1 : Int) ≤ M.length := by omega
            have d1 : decide ((0 : Int) < M.length) = true := decide_eq_true (by omega)
            have d2 : decide (0 < M.length) = true := decide_eq_true (by omega)
            clear h1 hfit hM80 hMl hfv htl hx0 hM0 hlen1
            generalize M.length = ml at *
            go_wp2_with fail
            refine cB.out.mono ?_
            rintro r w3 ⟨rfl, a', n', c', hrun, hP2, ⟨x0, x1, x2, x3, x4, x5, x6, x7, x8, x9⟩, b, o, rfl, z0, z1, z2, z3, z4, z5, z6, z7, z8, z9⟩
            replace hP2 := Lib.hid hP2
            clear cB y0 y1 y2 y3 y4 y5 y6 y7 y8 y9 y10
            go_wp2_with fail
            generalize w3.heap.size = tb at *
            generalize w3.alloc (enO e0) = V at *
            go_quiet (fail)
            replace hP2 := Lib.hid (hP2.out nq)
            generalize V.drewN nq = V2 at *
            clear d1 d2
            go_wp2_with fail
            go_meet
            case rel => exact ⟨rfl, hP2⟩
      by_cases hw3 : what = 8
      · by_cases hin : e.id ∈ M.map (·.id)
        · as_aux_lemma =>
            obtain ⟨e0, he0, hid⟩ := List.mem_map.1 hin
            obtain ⟨j, hj⟩ := List.getElem?_of_mem he0
            have hjl := (List.getElem?_eq_some_iff.1 hj).1
            have hat : atM M e.id = j := atM_yes hok.out.ids hj hid
            have hdel := del_at hok.out hj
            have cC : Hid (Calls Try.prog 12 #[.slice a M.length c, .int .i64 e.id] W1 fun r w' => r = .returned (.int .i64 (j : Nat)) ∧ w'.cell? ⟨qb, 1, none⟩ = some (.int .i64 e.id) ∧ Calls Try.prog 13 #[rptr rk, .int .i64 e.id] w' fun r w'' => r = .returned (.tuple #[enV e0, .bool true]) ∧
                EnAt (w''.alloc (enO e0)) w''.heap.size e0 ∧ (∃ b o, a = some ⟨b, o, none⟩ ∧ EnRow (w''.alloc (enO e0)) b (o + j * 10) e0) ∧ ∀ m, Calls Try.prog 14 #[.slice a M.length c, .int .i64 (j : Nat)] ((w''.alloc (enO e0)).drewN m) fun r w3 => ∃ a' n' c', r = .returned (.slice a' n' c') ∧ Pl15 w rk (i + 1) [(qb, stO15 what e)] (.slice a' n' c') w3) := Lib.hid (by
              refine (two_at h1 (by omega) e.id).mono ?_
              rw [hat]
              rintro r w' ⟨rfl, h2⟩
              refine ⟨rfl, (h2.cells (e := e) List.mem_cons_self).1, ?_⟩
              rw [← hid]
              refine (two_drop_hit h2 he0).mono ?_
              rintro r w'' ⟨rfl, h3⟩
              have h4 := h3.alloc (enO e0)
              obtain ⟨b, o, ha, hr⟩ := h4.read j e0 hj
              refine ⟨rfl, h4.block List.mem_cons_self, ⟨b, o, ha, hr⟩, fun m => ?_⟩
              refine (two_without ((h4.grow (drewN_below _ m)).sub (List.sublist_cons_self _ _)) hjl (by omega)).mono ?_
              rintro r w3 ⟨a', c', rfl, h5⟩
              rw [hdel] at h5
              exact ⟨a', _, c', rfl, _, a', c', rfl, by rw [List.length_append, List.length_take, List.length_drop]; omega, h5⟩)
            have j0 : (0 : Int) ≤ j := by omega
            have j1 : (j : Int) < M.length := by omega
            have d1 : decide ((0 : Int) ≤ j) = true := decide_eq_true j0
            have hwB : (what == 8) = true := by simpa using hw3
            clear h1 hfit hM80 hMl hat hdel hj hjl he0 hin hid hw3
            generalize M.length = ml at *
            go_wp2_with fail
            refine cC.out.mono ?_
            rintro r w3 ⟨rfl, q1, hdrop⟩
            replace hdrop := Lib.hid hdrop
            clear cC y0 y1 y2 y3 y4 y5 y6 y7 y8 y9 y10
            go_wp2_with fail
            refine hdrop.out.mono ?_
            rintro r w4 ⟨rfl, ⟨x0, x1, x2, x3, x4, x5, x6, x7, x8, x9⟩, ⟨b, o, rfl, z0, z1, z2, z3, z4, z5, z6, z7, z8, z9⟩, hP2⟩
            replace hP2 := Lib.hid hP2
            clear hdrop q1
            go_wp2_with fail
            generalize w4.heap.size = tb at *
            generalize w4.alloc (enO e0) = V at *
            go_quiet (fail)
            replace hP2 := Lib.hid (hP2.out nq)
            clear x0 x1 x2 x3 x4 x5 x6 x7 x8 x9 z0 z1 z2 z3 z4 z5 z6 z7 z8 z9
            generalize V.drewN nq = V2 at *
            go_wp2_with fail
            refine hP2.out.mono ?_
            rintro r w5 ⟨a', n', c', rfl, hP3⟩
            replace hP3 := Lib.hid hP3
            clear hP2
            go_wp2_with fail
            go_meet
            case rel => exact ⟨rfl, hP3⟩
        · as_aux_lemma =>
            have hat : atM M e.id = -1 := atM_no hin
            have cC : Hid (Calls Try.prog 12 #[.slice a M.length c, .int .i64 e.id] W1 fun r w' => r = .returned (.int .i64 (-1)) ∧ w'.cell? ⟨qb, 1, none⟩ = some (.int .i64 e.id) ∧ Calls Try.prog 13 #[rptr rk, .int .i64 e.id] w' fun r w'' => r = .returned (.tuple #[enV z0E, .bool false]) ∧
                ∀ m, Pl15 w rk (i + 1) [(qb, stO15 what e)] (.slice a M.length c) ((w''.alloc (enO z0E)).drewN m)) := Lib.hid (by
              refine (two_at h1 (by omega) e.id).mono ?_
              rw [hat]
              rintro r w' ⟨rfl, h2⟩
              refine ⟨rfl, (h2.cells (e := e) List.mem_cons_self).1, ?_⟩
              refine (two_drop_miss h2 hin).mono ?_
              rintro r w'' ⟨rfl, h3⟩
              exact ⟨rfl, fun m => ⟨M, a, c, rfl, by omega, ((h3.alloc (enO z0E)).grow (drewN_below _ m)).sub (List.sublist_cons_self _ _)⟩⟩)
            have hwB : (what == 8) = true := by simpa using hw3
            clear h1 hfit hM80 hMl hat hin hw3
            generalize M.length = ml at *
            go_wp2_with fail
            refine cC.out.mono ?_
            rintro r w3 ⟨rfl, q1, hdrop⟩
            replace hdrop := Lib.hid hdrop
            clear cC y0 y1 y2 y3 y4 y5 y6 y7 y8 y9 y10
            go_wp2_with fail
            refine hdrop.out.mono ?_
            rintro r w4 ⟨rfl, hP2⟩
            replace hP2 := Lib.hid hP2
            clear hdrop q1
            go_wp2_with fail
            generalize w4.heap.size = tb at *
            generalize w4.alloc (enO z0E) = V at *
            go_quiet (fail)
            replace hP2 := Lib.hid (hP2.out nq)
            generalize V.drewN nq = V2 at *
            go_wp2_with fail
            go_meet
            case rel => exact ⟨rfl, hP2⟩
      · as_aux_lemma =>
          have cD : Hid (Calls Try.prog 15 #[.slice a M.length c, .int .i64 e.til] W1 fun r w' => ∃ a1 n1 c1 a2 n2 c2, r = .returned (.tuple #[.slice a1 n1 c1, .slice a2 n2 c2]) ∧ w'.cell? ⟨qb, 8, none⟩ = some (.int .i64 e.til) ∧ Calls Try.prog 17 #[rptr rk, .int .i64 e.til] w' fun r w'' => ∃ a3 c3, r = .returned (.slice a3 n1 c3) ∧
              Calls Try.prog 16 #[.slice a3 n1 c3, .slice a1 n1 c1] w'' fun r w3 => r = .returned (.bool true) ∧ Pl15 w rk (i + 1) [(qb, stO15 what e)] (.slice a2 n2 c2) w3) := Lib.hid (by
            have hlg := List.length_filter_le (fun x => goneE x e.til) M
            have hll := List.length_filter_le (fun x => !goneE x e.til) M
            refine (two_late h1 (by omega) e.til).mono ?_
            rintro r w' ⟨a1, c1, a2, c2, S1, rfl, h2, h3⟩
            refine ⟨a1, _, c1, a2, _, c2, rfl, (h3.cells (qb := qb) (what := what) (e := e) (by simp)).2.2.2.2.2.2.2.1, ?_⟩
            refine (two_gone h3 e.til).mono ?_
            rintro r w'' ⟨a3, c3, S3, rfl, h4, h5⟩
            refine ⟨a3, c3, rfl, ?_⟩
            have r3 := h5.reads (X := S1 ++ [(qb, stO15 what e)]) h4 List.perm_append_comm
            have r1 := h5.reads (X := S3 ++ [(qb, stO15 what e)]) h2 (by
              classical
              exact List.perm_iff_count.2 fun a => by simp only [List.count_append]; omega)
            refine (rsame_any r3 r1 (by omega)).mono ?_
            rintro r w3 ⟨rfl, m, rfl⟩
            exact ⟨rfl, _, a2, c2, rfl, by omega, (h5.grow (drewN_below _ m)).sub ((List.sublist_append_right _ _).trans (List.sublist_append_right _ _))⟩)
          have hwB : (what == 8) = false := by simpa using hw3
          clear h1 hfit hM80 hMl hw3
          generalize M.length = ml at *
          go_wp2_with fail
          refine cD.out.mono ?_
          rintro r w3 ⟨a1, n1, c1, a2, n2, c2, rfl, q8, hgone⟩
          replace hgone := Lib.hid hgone
          clear cD y0 y1 y2 y3 y4 y5 y6 y7 y8 y9 y10
          go_wp2_with fail
          refine hgone.out.mono ?_
          rintro r w4 ⟨a3, c3, rfl, hsame⟩
          replace hsame := Lib.hid hsame
          clear hgone q8
          go_wp2_with fail
          refine hsame.out.mono ?_
          rintro r w5 ⟨rfl, hP2⟩
          replace hP2 := Lib.hid hP2
          clear hsame
          go_wp2_with fail
          go_meet
          case rel => exact ⟨rfl, hP2⟩
    case rest =>
      obtain ⟨rfl, hP2⟩ := hcut
      clear h1 y0 y1 y2 y3 y4 y5 y6 y7 y8 y9 y10 hok hfit hfitH hM80 hMI hMl
      obtain ⟨M2, a2, c2, rfl, hM2, hT⟩ := hP2.out
      have hM2I : (M2.length : Int) ≤ 81 := by omega
      by_cases hM0 : M2 = []
      · as_aux_lemma =>
          subst hM0
          have cF : Hid (Calls Try.prog 18 #[rptr rk] wc fun r w1 => r = .returned (.tuple #[enV z0E, .bool false]) ∧ Hid (Calls Try.prog 19 #[rptr rk] (w1.alloc (enO z0E)) fun r w2 => r = .returned (.tuple #[enV z0E, .bool false]) ∧ Hid (Calls Try.prog 20 #[.slice a2 0 c2] (w2.alloc (enO z0E)) fun r w3 => r = .returned (.int .i64 (-1)) ∧
              Hid (Calls Try.prog 21 #[rptr rk] w3.drew fun r w4 => ∃ a3 c3, r = .returned (.slice a3 0 c3) ∧ Hid (Calls Try.prog 16 #[.slice a3 0 c3, .slice a2 0 c2] w4 fun r w5 => r = .returned (.bool true) ∧ Hid (Calls Try.prog 22 #[rptr rk] w5 fun r w6 => r = .returned (.int .i64 0) ∧ Pl15 w rk (i + 1) [] (.slice a2 0 c2) w6)))))) := Lib.hid (by
            refine (two_first hT).mono ?_
            rintro r w1 ⟨rfl, h2⟩
            refine ⟨rfl, Lib.hid ((two_worst (h2.alloc (enO z0E))).mono ?_)⟩
            rintro r w2 ⟨⟨x, b, rfl, hx⟩, h3⟩
            obtain ⟨rfl, rfl⟩ : x = z0E ∧ b = false := by
              rcases hx with ⟨-, h1, h2⟩ | ⟨h1, -⟩
              · exact ⟨h1, h2⟩
              · exact absurd h1.mem (by simp)
            refine ⟨rfl, Lib.hid ((two_rworst (h3.alloc (enO z0E)) (by simp)).mono ?_)⟩
            rintro r w3 ⟨hx, h4⟩
            have hr : r = .returned (.int .i64 (-1)) := by
              rcases hx with ⟨-, h⟩ | ⟨k, e, h, h1, -⟩
              · exact h
              · simp at h1
            refine ⟨hr, Lib.hid ((two_all (h4.grow (drew_b _))).mono ?_)⟩
            rintro r w4 ⟨a3, c3, S3, rfl, h5, h6⟩
            refine ⟨a3, c3, rfl, Lib.hid ((rsame_any (L := []) (ReadEs.nil _ _) (ReadEs.nil _ _) (by simp)).mono ?_)⟩
            rintro r w5 ⟨rfl, m, rfl⟩
            have h7 := h6.grow (drewN_below _ m)
            refine ⟨rfl, Lib.hid ((two_len h7).mono ?_)⟩
            rintro r w6 ⟨rfl, rfl⟩
            exact ⟨rfl, [], a2, c2, rfl, Nat.zero_le _, h7.sub (List.nil_sublist _)⟩)
          clear hT hP2 hM2
          simp only [List.length_nil]
          go_wp2_with fail
          refine cF.out.mono ?_
          rintro r w1 ⟨rfl, hwo⟩
          clear cF
          go_wp2_with fail
          refine hwo.out.mono ?_
          rintro r w2 ⟨rfl, hrw⟩
          clear hwo
          go_wp2_with fail
          refine hrw.out.mono ?_
          rintro r w3 ⟨rfl, hall⟩
          clear hrw
          go_wp2_with fail
          refine wp_region_held_drew (S := fun wr => True) (by kernel_rfl) trivial (fun hHeld => ?_)
          refine wpAnyH_take (i := 0) (oi := { dst := some 152, op := Op.move (Operand.tmp 7), type := 4, pos := "exact.go:66", after := #[], guard := none }) (v := ?_) rfl (by kernel_rfl) (by kernel_rfl) (by kernel_rfl) (fun _ _ _ h => h) (Or.inl ⟨by rfl, ?_⟩) hHeld ?_
          rotate_left 1
          · (intro w' hSw; clear hSw; go_simp; (try with_reducible rfl))
          try simp only [Act.put, List.setIfInBounds_toArray, List.set_cons_zero, List.set_cons_succ]
          refine wpAnyH_take (i := 1) (oi := { dst := some 153, op := Op.unOp UnOp.not 4 (Operand.tmp 152), type := 4, pos := "exact.go:66", after := #[{ on := 0, ground := Ground.data }], guard := none }) (v := ?_) rfl (by kernel_rfl) (by kernel_rfl) (by kernel_rfl) (fun _ _ _ h => h) (Or.inl ⟨by rfl, ?_⟩) hHeld ?_
          rotate_left 1
          · (intro w' hSw; clear hSw; go_simp; (try with_reducible rfl))
          try simp only [Act.put, List.setIfInBounds_toArray, List.set_cons_zero, List.set_cons_succ]
          refine wpAnyH_take (i := 2) (oi := { dst := some 154, op := Op.move (Operand.tmp 153), type := 4, pos := "exact.go:66", after := #[{ on := 1, ground := Ground.data }], guard := none }) (v := ?_) rfl (by kernel_rfl) (by kernel_rfl) (by kernel_rfl) (fun _ _ _ h => h) (Or.inl ⟨by rfl, ?_⟩) hHeld ?_
          rotate_left 1
          · (intro w' hSw; clear hSw; go_simp; (try with_reducible rfl))
          try simp only [Act.put, List.setIfInBounds_toArray, List.set_cons_zero, List.set_cons_succ]
          refine wpAnyH_take (i := 3) (oi := { dst := some 155, op := Op.move (Operand.tmp 18), type := 4, pos := "exact.go:66", after := #[{ on := 2, ground := Ground.guard }], guard := some (2, false) }) (v := ?_) rfl (by kernel_rfl) (by kernel_rfl) (by kernel_rfl) (fun _ _ _ h => h) (Or.inl ⟨by rfl, ?_⟩) hHeld ?_
          rotate_left 1
          · (intro w' hSw; clear hSw; go_simp; (try with_reducible rfl))
          try simp only [Act.put, List.setIfInBounds_toArray, List.set_cons_zero, List.set_cons_succ]
          refine wpAnyH_take (i := 4) (oi := { dst := some 156, op := Op.move (Operand.tmp 4), type := 26, pos := "exact.go:66", after := #[{ on := 2, ground := Ground.guard }], guard := some (2, false) }) (v := ?_) rfl (by kernel_rfl) (by kernel_rfl) (by kernel_rfl) (fun _ _ _ h => h) (Or.inl ⟨by rfl, ?_⟩) hHeld ?_
          rotate_left 1
          · (intro w' hSw; clear hSw; go_simp; (try with_reducible rfl))
          try simp only [Act.put, List.setIfInBounds_toArray, List.set_cons_zero, List.set_cons_succ]
          refine wpAnyH_take (i := 5) (oi := { dst := some 157, op := Op.call { callee := Callee.builtin Builtin.len, args := #[Operand.tmp 156], argTypes := #[26] }, type := 3, pos := "exact.go:66", after := #[{ on := 4, ground := Ground.data }, { on := 2, ground := Ground.guard }], guard := some (2, false) }) (v := ?_) rfl (by kernel_rfl) (by kernel_rfl) (by kernel_rfl) (fun _ _ _ h => h) (Or.inl ⟨by rfl, ?_⟩) hHeld ?_
          rotate_left 1
          · (intro w' hSw; clear hSw; go_simp; (try with_reducible rfl))
          try simp only [Act.put, List.setIfInBounds_toArray, List.set_cons_zero, List.set_cons_succ]
          refine wpAnyH_take (i := 6) (oi := { dst := some 158, op := Op.binOp BinOp.gtr 3 (Operand.tmp 157) (Operand.const (Value.int IntKind.i64 0)) 3, type := 4, pos := "exact.go:66", after := #[{ on := 5, ground := Ground.data }, { on := 2, ground := Ground.guard }], guard := some (2, false) }) (v := ?_) rfl (by kernel_rfl) (by kernel_rfl) (by kernel_rfl) (fun _ _ _ h => h) (Or.inl ⟨by rfl, ?_⟩) hHeld ?_
          rotate_left 1
          · (intro w' hSw; clear hSw; go_simp; (try with_reducible rfl))
          try simp only [Act.put, List.setIfInBounds_toArray, List.set_cons_zero, List.set_cons_succ]
          refine wpAnyH_take (i := 7) (oi := { dst := some 159, op := Op.binOp BinOp.neq 4 (Operand.tmp 155) (Operand.tmp 158) 4, type := 4, pos := "exact.go:66", after := #[{ on := 3, ground := Ground.data }, { on := 6, ground := Ground.data }, { on := 2, ground := Ground.guard }], guard := some (2, false) }) (v := ?_) rfl (by kernel_rfl) (by kernel_rfl) (by kernel_rfl) (fun _ _ _ h => h) (Or.inl ⟨by rfl, ?_⟩) hHeld ?_
          rotate_left 1
          · (intro w' hSw; clear hSw; go_simp; (try with_reducible rfl))
          try simp only [Act.put, List.setIfInBounds_toArray, List.set_cons_zero, List.set_cons_succ]
          refine wpAnyH_take (i := 8) (oi := { dst := some 160, op := Op.pick (Operand.tmp 154) (Operand.const (Value.bool true)) (Operand.tmp 159), type := 4, pos := "exact.go:66", after := #[{ on := 2, ground := Ground.data }, { on := 7, ground := Ground.data }], guard := none }) (v := ?_) rfl (by kernel_rfl) (by kernel_rfl) (by kernel_rfl) (fun _ _ _ h => h) (Or.inl ⟨by rfl, ?_⟩) hHeld ?_
          rotate_left 1
          · (intro w' hSw; clear hSw; go_simp; (try with_reducible rfl))
          try simp only [Act.put, List.setIfInBounds_toArray, List.set_cons_zero, List.set_cons_succ]
          refine wpAnyH_take (i := 9) (oi := { dst := some 161, op := Op.move (Operand.tmp 160), type := 4, pos := "exact.go:66", after := #[{ on := 8, ground := Ground.data }, { on := 2, ground := Ground.chain }], guard := none }) (v := ?_) rfl (by kernel_rfl) (by kernel_rfl) (by kernel_rfl) (fun _ _ _ h => h) (Or.inl ⟨by rfl, ?_⟩) hHeld ?_
          rotate_left 1
          · (intro w' hSw; clear hSw; go_simp; (try with_reducible rfl))
          try simp only [Act.put, List.setIfInBounds_toArray, List.set_cons_zero, List.set_cons_succ]
          refine wpAnyH_take (i := 10) (oi := { dst := some 162, op := Op.move (Operand.tmp 20), type := 4, pos := "exact.go:66", after := #[{ on := 9, ground := Ground.guard }], guard := some (9, false) }) (v := ?_) rfl (by kernel_rfl) (by kernel_rfl) (by kernel_rfl) (fun _ _ _ h => h) (Or.inl ⟨by rfl, ?_⟩) hHeld ?_
          rotate_left 1
          · (intro w' hSw; clear hSw; go_simp; (try with_reducible rfl))
          try simp only [Act.put, List.setIfInBounds_toArray, List.set_cons_zero, List.set_cons_succ]
          refine wpAnyH_take (i := 11) (oi := { dst := some 163, op := Op.move (Operand.tmp 18), type := 4, pos := "exact.go:66", after := #[{ on := 9, ground := Ground.guard }], guard := some (9, false) }) (v := ?_) rfl (by kernel_rfl) (by kernel_rfl) (by kernel_rfl) (fun _ _ _ h => h) (Or.inl ⟨by rfl, ?_⟩) hHeld ?_
          rotate_left 1
          · (intro w' hSw; clear hSw; go_simp; (try with_reducible rfl))
          try simp only [Act.put, List.setIfInBounds_toArray, List.set_cons_zero, List.set_cons_succ]
          refine wpAnyH_take (i := 12) (oi := { dst := some 164, op := Op.binOp BinOp.neq 4 (Operand.tmp 162) (Operand.tmp 163) 4, type := 4, pos := "exact.go:66", after := #[{ on := 10, ground := Ground.data }, { on := 11, ground := Ground.data }, { on := 9, ground := Ground.guard }], guard := some (9, false) }) (v := ?_) rfl (by kernel_rfl) (by kernel_rfl) (by kernel_rfl) (fun _ _ _ h => h) (Or.inl ⟨by rfl, ?_⟩) hHeld ?_
          rotate_left 1
          · (intro w' hSw; clear hSw; go_simp; (try with_reducible rfl))
          try simp only [Act.put, List.setIfInBounds_toArray, List.set_cons_zero, List.set_cons_succ]
          refine wpAnyH_take (i := 13) (oi := { dst := some 165, op := Op.pick (Operand.tmp 161) (Operand.const (Value.bool true)) (Operand.tmp 164), type := 4, pos := "exact.go:66", after := #[{ on := 9, ground := Ground.data }, { on := 12, ground := Ground.data }], guard := none }) (v := ?_) rfl (by kernel_rfl) (by kernel_rfl) (by kernel_rfl) (fun _ _ _ h => h) (Or.inl ⟨by rfl, ?_⟩) hHeld ?_
          rotate_left 1
          · (intro w' hSw; clear hSw; go_simp; (try with_reducible rfl))
          try simp only [Act.put, List.setIfInBounds_toArray, List.set_cons_zero, List.set_cons_succ]
          refine wpAnyH_take (i := 14) (oi := { dst := some 166, op := Op.move (Operand.tmp 165), type := 4, pos := "exact.go:66", after := #[{ on := 13, ground := Ground.data }, { on := 9, ground := Ground.chain }], guard := none }) (v := ?_) rfl (by kernel_rfl) (by kernel_rfl) (by kernel_rfl) (fun _ _ _ h => h) (Or.inl ⟨by rfl, ?_⟩) hHeld ?_
          rotate_left 1
          · (intro w' hSw; clear hSw; go_simp; (try with_reducible rfl))
          try simp only [Act.put, List.setIfInBounds_toArray, List.set_cons_zero, List.set_cons_succ]
          refine wpAnyH_take (i := 15) (oi := { dst := some 167, op := Op.move (Operand.tmp 18), type := 4, pos := "exact.go:66", after := #[{ on := 14, ground := Ground.guard }], guard := some (14, false) }) (v := ?_) rfl (by kernel_rfl) (by kernel_rfl) (by kernel_rfl) (fun _ _ _ h => h) (Or.inl ⟨by rfl, ?_⟩) hHeld ?_
          rotate_left 1
          · (intro w' hSw; clear hSw; go_simp; (try with_reducible rfl))
          try simp only [Act.put, List.setIfInBounds_toArray, List.set_cons_zero, List.set_cons_succ]
          refine wpAnyH_take (i := 16) (oi := { dst := some 168, op := Op.move (Operand.tmp 167), type := 4, pos := "exact.go:66", after := #[{ on := 15, ground := Ground.data }, { on := 14, ground := Ground.chain }, { on := 14, ground := Ground.guard }], guard := some (14, false) }) (v := ?_) rfl (by kernel_rfl) (by kernel_rfl) (by kernel_rfl) (fun _ _ _ h => h) (Or.inl ⟨by rfl, ?_⟩) hHeld ?_
          rotate_left 1
          · (intro w' hSw; clear hSw; go_simp; (try with_reducible rfl))
          try simp only [Act.put, List.setIfInBounds_toArray, List.set_cons_zero, List.set_cons_succ]
          refine wpAnyH_take (i := 17) (oi := { dst := some 169, op := Op.load 28 (Operand.tmp 17), type := 28, pos := "exact.go:66", after := #[{ on := 16, ground := Ground.guard }], guard := some (16, true) }) (v := undef) rfl (by kernel_rfl) (by kernel_rfl) (by kernel_rfl) (fun _ _ _ h => h) (Or.inr ⟨by rfl, rfl⟩) hHeld ?_
          try simp only [Act.put, List.setIfInBounds_toArray, List.set_cons_zero, List.set_cons_succ]
          refine wpAnyH_take (i := 18) (oi := { dst := some 170, op := Op.move (Operand.tmp 4), type := 26, pos := "exact.go:66", after := #[{ on := 16, ground := Ground.guard }], guard := some (16, true) }) (v := undef) rfl (by kernel_rfl) (by kernel_rfl) (by kernel_rfl) (fun _ _ _ h => h) (Or.inr ⟨by rfl, rfl⟩) hHeld ?_
          try simp only [Act.put, List.setIfInBounds_toArray, List.set_cons_zero, List.set_cons_succ]
          refine wpAnyH_take (i := 19) (oi := { dst := some 171, op := Op.indexAddr 26 (Operand.tmp 170) (Operand.const (Value.int IntKind.i64 0)), type := 0, pos := "exact.go:66", after := #[{ on := 18, ground := Ground.data }, { on := 16, ground := Ground.guard }], guard := some (16, true) }) (v := undef) rfl (by kernel_rfl) (by kernel_rfl) (by kernel_rfl) (fun _ _ _ h => h) (Or.inr ⟨by rfl, rfl⟩) hHeld ?_
          try simp only [Act.put, List.setIfInBounds_toArray, List.set_cons_zero, List.set_cons_succ]
          refine wpAnyH_take (i := 20) (oi := { dst := some 172, op := Op.load 28 (Operand.tmp 171), type := 28, pos := "exact.go:66", after := #[{ on := 19, ground := Ground.data }, { on := 16, ground := Ground.guard }], guard := some (16, true) }) (v := undef) rfl (by kernel_rfl) (by kernel_rfl) (by kernel_rfl) (fun _ _ _ h => h) (Or.inr ⟨by rfl, rfl⟩) hHeld ?_
          try simp only [Act.put, List.setIfInBounds_toArray, List.set_cons_zero, List.set_cons_succ]
          refine wpAnyH_take (i := 21) (oi := { dst := some 173, op := Op.binOp BinOp.neq 28 (Operand.tmp 169) (Operand.tmp 172) 28, type := 4, pos := "exact.go:66", after := #[{ on := 17, ground := Ground.data }, { on := 20, ground := Ground.data }, { on := 16, ground := Ground.guard }], guard := some (16, true) }) (v := undef) rfl (by kernel_rfl) (by kernel_rfl) (by kernel_rfl) (fun _ _ _ h => h) (Or.inr ⟨by rfl, rfl⟩) hHeld ?_
          try simp only [Act.put, List.setIfInBounds_toArray, List.set_cons_zero, List.set_cons_succ]
          refine wpAnyH_take (i := 22) (oi := { dst := some 174, op := Op.move (Operand.tmp 173), type := 4, pos := "exact.go:66", after := #[{ on := 21, ground := Ground.data }, { on := 16, ground := Ground.chain }, { on := 16, ground := Ground.guard }], guard := some (16, true) }) (v := undef) rfl (by kernel_rfl) (by kernel_rfl) (by kernel_rfl) (fun _ _ _ h => h) (Or.inr ⟨by rfl, rfl⟩) hHeld ?_
          try simp only [Act.put, List.setIfInBounds_toArray, List.set_cons_zero, List.set_cons_succ]
          refine wpAnyH_take (i := 23) (oi := { dst := some 175, op := Op.load 28 (Operand.tmp 19), type := 28, pos := "exact.go:66", after := #[{ on := 22, ground := Ground.guard }], guard := some (22, false) }) (v := undef) rfl (by kernel_rfl) (by kernel_rfl) (by kernel_rfl) (fun _ _ _ h => h) (Or.inr ⟨by rfl, rfl⟩) hHeld ?_
          try simp only [Act.put, List.setIfInBounds_toArray, List.set_cons_zero, List.set_cons_succ]
          refine wpAnyH_take (i := 24) (oi := { dst := some 176, op := Op.move (Operand.tmp 4), type := 26, pos := "exact.go:66", after := #[{ on := 22, ground := Ground.guard }], guard := some (22, false) }) (v := undef) rfl (by kernel_rfl) (by kernel_rfl) (by kernel_rfl) (fun _ _ _ h => h) (Or.inr ⟨by rfl, rfl⟩) hHeld ?_
          try simp only [Act.put, List.setIfInBounds_toArray, List.set_cons_zero, List.set_cons_succ]
          refine wpAnyH_take (i := 25) (oi := { dst := some 177, op := Op.move (Operand.tmp 21), type := 3, pos := "exact.go:66", after := #[{ on := 22, ground := Ground.guard }], guard := some (22, false) }) (v := undef) rfl (by kernel_rfl) (by kernel_rfl) (by kernel_rfl) (fun _ _ _ h => h) (Or.inr ⟨by rfl, rfl⟩) hHeld ?_
          try simp only [Act.put, List.setIfInBounds_toArray, List.set_cons_zero, List.set_cons_succ]
          refine wpAnyH_take (i := 26) (oi := { dst := some 178, op := Op.indexAddr 26 (Operand.tmp 176) (Operand.tmp 177), type := 0, pos := "exact.go:66", after := #[{ on := 24, ground := Ground.data }, { on := 25, ground := Ground.data }, { on := 22, ground := Ground.guard }], guard := some (22, false) }) (v := undef) rfl (by kernel_rfl) (by kernel_rfl) (by kernel_rfl) (fun _ _ _ h => h) (Or.inr ⟨by rfl, rfl⟩) hHeld ?_
          try simp only [Act.put, List.setIfInBounds_toArray, List.set_cons_zero, List.set_cons_succ]
          refine wpAnyH_take (i := 27) (oi := { dst := some 179, op := Op.load 28 (Operand.tmp 178), type := 28, pos := "exact.go:66", after := #[{ on := 26, ground := Ground.data }, { on := 22, ground := Ground.guard }], guard := some (22, false) }) (v := undef) rfl (by kernel_rfl) (by kernel_rfl) (by kernel_rfl) (fun _ _ _ h => h) (Or.inr ⟨by rfl, rfl⟩) hHeld ?_
          try simp only [Act.put, List.setIfInBounds_toArray, List.set_cons_zero, List.set_cons_succ]
          refine wpAnyH_take (i := 28) (oi := { dst := some 180, op := Op.binOp BinOp.neq 28 (Operand.tmp 175) (Operand.tmp 179) 28, type := 4, pos := "exact.go:66", after := #[{ on := 23, ground := Ground.data }, { on := 27, ground := Ground.data }, { on := 22, ground := Ground.guard }], guard := some (22, false) }) (v := undef) rfl (by kernel_rfl) (by kernel_rfl) (by kernel_rfl) (fun _ _ _ h => h) (Or.inr ⟨by rfl, rfl⟩) hHeld ?_
          try simp only [Act.put, List.setIfInBounds_toArray, List.set_cons_zero, List.set_cons_succ]
          refine wpAnyH_take (i := 29) (oi := { dst := some 181, op := Op.pick (Operand.tmp 174) (Operand.const (Value.bool true)) (Operand.tmp 180), type := 4, pos := "exact.go:66", after := #[{ on := 22, ground := Ground.data }, { on := 28, ground := Ground.data }, { on := 16, ground := Ground.guard }], guard := some (16, true) }) (v := undef) rfl (by kernel_rfl) (by kernel_rfl) (by kernel_rfl) (fun _ _ _ h => h) (Or.inr ⟨by rfl, rfl⟩) hHeld ?_
          try simp only [Act.put, List.setIfInBounds_toArray, List.set_cons_zero, List.set_cons_succ]
          refine wpAnyH_take (i := 30) (oi := { dst := some 182, op := Op.pick (Operand.tmp 168) (Operand.tmp 181) (Operand.const (Value.bool false)), type := 4, pos := "exact.go:66", after := #[{ on := 16, ground := Ground.data }, { on := 29, ground := Ground.data }, { on := 14, ground := Ground.guard }], guard := some (14, false) }) (v := ?_) rfl (by kernel_rfl) (by kernel_rfl) (by kernel_rfl) (fun _ _ _ h => h) (Or.inl ⟨by rfl, ?_⟩) hHeld ?_
          rotate_left 1
          · (intro w' hSw; clear hSw; go_simp; (try with_reducible rfl))
          try simp only [Act.put, List.setIfInBounds_toArray, List.set_cons_zero, List.set_cons_succ]
          refine wpAnyH_take (i := 31) (oi := { dst := some 183, op := Op.pick (Operand.tmp 166) (Operand.const (Value.bool true)) (Operand.tmp 182), type := 4, pos := "exact.go:66", after := #[{ on := 14, ground := Ground.data }, { on := 30, ground := Ground.data }], guard := none }) (v := ?_) rfl (by kernel_rfl) (by kernel_rfl) (by kernel_rfl) (fun _ _ _ h => h) (Or.inl ⟨by rfl, ?_⟩) hHeld ?_
          rotate_left 1
          · (intro w' hSw; clear hSw; go_simp; (try with_reducible rfl))
          try simp only [Act.put, List.setIfInBounds_toArray, List.set_cons_zero, List.set_cons_succ]
          refine wpAnyH_take (i := 32) (oi := { dst := some 184, op := Op.move (Operand.tmp 183), type := 4, pos := "exact.go:66", after := #[{ on := 31, ground := Ground.data }, { on := 22, ground := Ground.chain }], guard := none }) (v := ?_) rfl (by kernel_rfl) (by kernel_rfl) (by kernel_rfl) (fun _ _ _ h => h) (Or.inl ⟨by rfl, ?_⟩) hHeld ?_
          rotate_left 1
          · (intro w' hSw; clear hSw; go_simp; (try with_reducible rfl))
          try simp only [Act.put, List.setIfInBounds_toArray, List.set_cons_zero, List.set_cons_succ]
          refine wpAnyH_take (i := 33) (oi := { dst := some 185, op := Op.move (Operand.tmp 3), type := 24, pos := "exact.go:66", after := #[{ on := 32, ground := Ground.guard }], guard := some (32, false) }) (v := ?_) rfl (by kernel_rfl) (by kernel_rfl) (by kernel_rfl) (fun _ _ _ h => h) (Or.inl ⟨by rfl, ?_⟩) hHeld ?_
          rotate_left 1
          · (intro w' hSw; clear hSw; go_simp; (try with_reducible rfl))
          try simp only [Act.put, List.setIfInBounds_toArray, List.set_cons_zero, List.set_cons_succ]
          refine wpAnyH_take (i := 35) (oi := { dst := some 187, op := Op.move (Operand.tmp 4), type := 26, pos := "exact.go:66", after := #[{ on := 32, ground := Ground.guard }], guard := some (32, false) }) (v := ?_) rfl (by kernel_rfl) (by kernel_rfl) (by kernel_rfl) (fun _ _ _ h => h) (Or.inl ⟨by rfl, ?_⟩) hHeld ?_
          rotate_left 1
          · (intro w' hSw; clear hSw; go_simp; (try with_reducible rfl))
          try simp only [Act.put, List.setIfInBounds_toArray, List.set_cons_zero, List.set_cons_succ]
          refine wpAnyH_ready (rs := [34]) (by kernel_rfl) (by simp) (AllReadyH.cons (o := { dst := some 186, op := Op.call { callee := Callee.value (Operand.func 21), args := #[Operand.tmp 185], argTypes := #[24] }, type := 26, pos := "exact.go:66", after := #[{ on := 33, ground := Ground.data }, { on := 32, ground := Ground.chain }, { on := 32, ground := Ground.guard }], guard := some (32, false) }) rfl (fun K hK => ?_) AllReadyH.nil)
          go_simp
          refine hall.out.mono ?_
          rintro r w1 ⟨a3, c3, rfl, hsame⟩
          go_wp2_with fail
          refine hK.out _ _ trivial (fun hHeld => ?_)
          clear hK K
          try simp only [Act.put, List.setIfInBounds_toArray, List.set_cons_zero, List.set_cons_succ]
          refine wpAnyH_ready (rs := [36]) (by kernel_rfl) (by simp) (AllReadyH.cons (o := { dst := some 188, op := Op.call { callee := Callee.value (Operand.func 16), args := #[Operand.tmp 186, Operand.tmp 187], argTypes := #[26, 26] }, type := 4, pos := "exact.go:66", after := #[{ on := 34, ground := Ground.data }, { on := 35, ground := Ground.data }, { on := 34, ground := Ground.chain }, { on := 32, ground := Ground.guard }], guard := some (32, false) }) rfl (fun K hK => ?_) AllReadyH.nil)
          go_simp
          refine hsame.out.mono ?_
          rintro r w2 ⟨rfl, hlen⟩
          go_wp2_with fail
          refine hK.out _ _ trivial (fun hHeld => ?_)
          clear hK K
          try simp only [Act.put, List.setIfInBounds_toArray, List.set_cons_zero, List.set_cons_succ]
          refine wpAnyH_take (i := 37) (oi := { dst := some 189, op := Op.unOp UnOp.not 4 (Operand.tmp 188), type := 4, pos := "exact.go:66", after := #[{ on := 36, ground := Ground.data }, { on := 32, ground := Ground.guard }], guard := some (32, false) }) (v := ?_) rfl (by kernel_rfl) (by kernel_rfl) (by kernel_rfl) (fun _ _ _ h => h) (Or.inl ⟨by rfl, ?_⟩) hHeld ?_
          rotate_left 1
          · (intro w' hSw; clear hSw; go_simp; (try with_reducible rfl))
          try simp only [Act.put, List.setIfInBounds_toArray, List.set_cons_zero, List.set_cons_succ]
          refine wpAnyH_take (i := 38) (oi := { dst := some 190, op := Op.pick (Operand.tmp 184) (Operand.const (Value.bool true)) (Operand.tmp 189), type := 4, pos := "exact.go:66", after := #[{ on := 32, ground := Ground.data }, { on := 37, ground := Ground.data }], guard := none }) (v := ?_) rfl (by kernel_rfl) (by kernel_rfl) (by kernel_rfl) (fun _ _ _ h => h) (Or.inl ⟨by rfl, ?_⟩) hHeld ?_
          rotate_left 1
          · (intro w' hSw; clear hSw; go_simp; (try with_reducible rfl))
          try simp only [Act.put, List.setIfInBounds_toArray, List.set_cons_zero, List.set_cons_succ]
          refine wpAnyH_take (i := 39) (oi := { dst := some 191, op := Op.move (Operand.tmp 190), type := 4, pos := "exact.go:66", after := #[{ on := 38, ground := Ground.data }, { on := 36, ground := Ground.chain }], guard := none }) (v := ?_) rfl (by kernel_rfl) (by kernel_rfl) (by kernel_rfl) (fun _ _ _ h => h) (Or.inl ⟨by rfl, ?_⟩) hHeld ?_
          rotate_left 1
          · (intro w' hSw; clear hSw; go_simp; (try with_reducible rfl))
          try simp only [Act.put, List.setIfInBounds_toArray, List.set_cons_zero, List.set_cons_succ]
          refine wpAnyH_take (i := 40) (oi := { dst := some 192, op := Op.move (Operand.tmp 3), type := 24, pos := "exact.go:66", after := #[{ on := 39, ground := Ground.guard }], guard := some (39, false) }) (v := ?_) rfl (by kernel_rfl) (by kernel_rfl) (by kernel_rfl) (fun _ _ _ h => h) (Or.inl ⟨by rfl, ?_⟩) hHeld ?_
          rotate_left 1
          · (intro w' hSw; clear hSw; go_simp; (try with_reducible rfl))
          try simp only [Act.put, List.setIfInBounds_toArray, List.set_cons_zero, List.set_cons_succ]
          refine wpAnyH_take (i := 42) (oi := { dst := some 194, op := Op.move (Operand.tmp 4), type := 26, pos := "exact.go:66", after := #[{ on := 39, ground := Ground.guard }], guard := some (39, false) }) (v := ?_) rfl (by kernel_rfl) (by kernel_rfl) (by kernel_rfl) (fun _ _ _ h => h) (Or.inl ⟨by rfl, ?_⟩) hHeld ?_
          rotate_left 1
          · (intro w' hSw; clear hSw; go_simp; (try with_reducible rfl))
          try simp only [Act.put, List.setIfInBounds_toArray, List.set_cons_zero, List.set_cons_succ]
          refine wpAnyH_take (i := 43) (oi := { dst := some 195, op := Op.call { callee := Callee.builtin Builtin.len, args := #[Operand.tmp 194], argTypes := #[26] }, type := 3, pos := "exact.go:66", after := #[{ on := 42, ground := Ground.data }, { on := 39, ground := Ground.guard }], guard := some (39, false) }) (v := ?_) rfl (by kernel_rfl) (by kernel_rfl) (by kernel_rfl) (fun _ _ _ h => h) (Or.inl ⟨by rfl, ?_⟩) hHeld ?_
          rotate_left 1
          · (intro w' hSw; clear hSw; go_simp; (try with_reducible rfl))
          try simp only [Act.put, List.setIfInBounds_toArray, List.set_cons_zero, List.set_cons_succ]
          refine wpAnyH_ready (rs := [41]) (by kernel_rfl) (by simp) (AllReadyH.cons (o := { dst := some 193, op := Op.call { callee := Callee.value (Operand.func 22), args := #[Operand.tmp 192], argTypes := #[24] }, type := 3, pos := "exact.go:66", after := #[{ on := 40, ground := Ground.data }, { on := 39, ground := Ground.chain }, { on := 39, ground := Ground.guard }], guard := some (39, false) }) rfl (fun K hK => ?_) AllReadyH.nil)
          go_simp
          refine hlen.out.mono ?_
          rintro r w3 ⟨rfl, hP3⟩
          go_wp2_with fail
          refine hK.out _ _ trivial (fun hHeld => ?_)
          clear hK K
          try simp only [Act.put, List.setIfInBounds_toArray, List.set_cons_zero, List.set_cons_succ]
          refine wpAnyH_take (i := 44) (oi := { dst := some 196, op := Op.binOp BinOp.neq 3 (Operand.tmp 193) (Operand.tmp 195) 3, type := 4, pos := "exact.go:66", after := #[{ on := 41, ground := Ground.data }, { on := 43, ground := Ground.data }, { on := 39, ground := Ground.guard }], guard := some (39, false) }) (v := ?_) rfl (by kernel_rfl) (by kernel_rfl) (by kernel_rfl) (fun _ _ _ h => h) (Or.inl ⟨by rfl, ?_⟩) hHeld ?_
          rotate_left 1
          · (intro w' hSw; clear hSw; go_simp; (try with_reducible rfl))
          try simp only [Act.put, List.setIfInBounds_toArray, List.set_cons_zero, List.set_cons_succ]
          refine wpAnyH_take (i := 45) (oi := { dst := some 197, op := Op.pick (Operand.tmp 191) (Operand.const (Value.bool true)) (Operand.tmp 196), type := 4, pos := "exact.go:66", after := #[{ on := 39, ground := Ground.data }, { on := 44, ground := Ground.data }], guard := none }) (v := ?_) rfl (by kernel_rfl) (by kernel_rfl) (by kernel_rfl) (fun _ _ _ h => h) (Or.inl ⟨by rfl, ?_⟩) hHeld ?_
          rotate_left 1
          · (intro w' hSw; clear hSw; go_simp; (try with_reducible rfl))
          try simp only [Act.put, List.setIfInBounds_toArray, List.set_cons_zero, List.set_cons_succ]
          refine wpAnyH_done (by kernel_rfl) ?_ _
          clear hHeld
          replace hP3 := Lib.hid hP3
          go_wp2_with fail
          go_roundg (n - (i + 1))
          case measure => omega
          case rel => exact ⟨i + 1, by go_num, by omega, hP3⟩
      · as_aux_lemma =>
          obtain ⟨f, hx0⟩ : ∃ f, M2[0]? = some f := ⟨_, List.getElem?_eq_getElem (List.length_pos_iff.2 hM0)⟩
          have hlen1 : 1 ≤ M2.length := List.length_pos_iff.2 hM0
          have hfv : firstV M2 = .tuple #[enV f, .bool true] := by
            cases M2 with
            | nil => exact absurd rfl hM0
            | cons y M2 =>
              simp at hx0
              rw [hx0]
              rfl
          have hcells : Hid (∀ (W : World) (fb xb k : Nat) (x : Ent) (X : List (Nat × Obj)), TwoK w.heap.size w W rk M2 M2 a2 c2 (X ++ [(xb, enO x), (fb, enO f), (qb, stO15 what e)]) → M2[k]? = some x → ∃ b o, a2 = some ⟨b, o, none⟩ ∧ EnAt W fb f ∧ EnAt W xb x ∧ EnRow W b o f ∧ EnRow W b (o + k * 10) x) := Lib.hid fun W fb xb k x X h hk => by
            obtain ⟨b, o, ha, hr⟩ := h.read 0 f hx0
            obtain ⟨b', o', ha', hr'⟩ := h.read k x hk
            rw [ha] at ha'
            cases ha'
            rw [Nat.zero_mul, Nat.add_zero] at hr
            exact ⟨b, o, ha, h.block (by simp), h.block (by simp), hr, hr'⟩
          have cF : Hid (Calls Try.prog 18 #[rptr rk] wc fun r w1 => r = .returned (.tuple #[enV f, .bool true]) ∧ Hid (Calls Try.prog 19 #[rptr rk] (w1.alloc (enO f)) fun r w2 => ∃ (x : Ent) (k : Nat), r = .returned (.tuple #[enV x, .bool true]) ∧ k < M2.length ∧ M2[k]? = some x ∧ Hid (Calls Try.prog 20 #[.slice a2 M2.length c2] (w2.alloc (enO x)) fun r w3 => r = .returned (.int .i64 (k : Nat)) ∧
              TwoK w.heap.size w w3 rk M2 M2 a2 c2 ([] ++ [(w2.heap.size, enO x), (w1.heap.size, enO f), (qb, stO15 what e)])))) := Lib.hid (by
            refine (two_first hT).mono ?_
            rintro r w1 ⟨rfl, h2⟩
            refine ⟨by rw [hfv], Lib.hid ((two_worst (h2.alloc (enO f))).mono ?_)⟩
            rintro r w2 ⟨⟨x, b, rfl, hx⟩, h3⟩
            obtain ⟨hx1, rfl⟩ : IsWorst M2 x ∧ b = true := by
              rcases hx with ⟨h1, -⟩ | h1
              · exact absurd h1 hM0
              · exact h1
            obtain ⟨k, hk⟩ := List.getElem?_of_mem hx1.mem
            refine ⟨x, k, rfl, (List.getElem?_eq_some_iff.1 hk).1, hk, Lib.hid ((two_rworst (h3.alloc (enO x)) (by omega)).mono ?_)⟩
            rintro r w3 ⟨hx, h4⟩
            rcases hx with ⟨h1, -⟩ | ⟨k', e', rfl, h1, h2⟩
            · exact absurd h1 hM0
            · have he : e' = x := h2.eq hT.ok hx1
              subst he
              have : k' = k := (List.getElem?_inj (List.getElem?_eq_some_iff.1 h1).1 hT.ok.nodup).1 (by rw [h1, hk])
              subst this
              exact ⟨rfl, h4⟩)
          have hl1 : (1 : Int) ≤ M2.length := by omega
          have hl0 : (0 : Int) < M2.length := by omega
          have hl00 : 0 < M2.length := by omega
          have d1 : decide ((0 : Int) < M2.length) = true := decide_eq_true (by omega)
          have d2 : decide (0 < M2.length) = true := decide_eq_true (by omega)
          have hM2H := Lib.hid hM2
          have hM2d : Hid (M2.length ≤ 1000) := Lib.hid (by omega)
          clear hT hP2 hM2 hfv hx0 hM0 hlen1
          go_wp2_with fail
          refine cF.out.mono ?_
          rintro r w1 ⟨rfl, hwo⟩
          clear cF
          go_wp2_with fail
          refine hwo.out.mono ?_
          rintro r w2 ⟨x, k, rfl, hkl, hk, hrw⟩
          replace hk := Lib.hid hk
          clear hwo
          go_wp2_with fail
          refine hrw.out.mono ?_
          rintro r w3 ⟨rfl, hT3⟩
          obtain ⟨b, o, rfl, hf0, hx0, hr0, hr1⟩ := hcells.out w3.drew w1.heap.size w2.heap.size k x [] (hT3.grow (drew_b _)) hk.out
          have cAll : Hid (Calls Try.prog 21 #[rptr rk] w3.drew fun r w4 => ∃ a3 c3, r = .returned (.slice a3 M2.length c3) ∧ (EnAt w4 w1.heap.size f ∧ EnAt w4 w2.heap.size x ∧ EnRow w4 b o f ∧ EnRow w4 b (o + k * 10) x) ∧ Hid (Calls Try.prog 16 #[.slice a3 M2.length c3, .slice (some ⟨b, o, none⟩) M2.length c2] w4 fun r w5 => r = .returned (.bool true) ∧ (EnAt w5 w1.heap.size f ∧ EnAt w5 w2.heap.size x ∧ EnRow w5 b o f ∧ EnRow w5 b (o + k * 10) x) ∧
              Hid (Calls Try.prog 22 #[rptr rk] w5 fun r w6 => r = .returned (.int .i64 M2.length) ∧ w6 = w5 ∧ Pl15 w rk (i + 1) [] (.slice (some ⟨b, o, none⟩) M2.length c2) w5))) := Lib.hid (by
            have tell : ∀ (W : World) (X : List (Nat × Obj)), TwoK w.heap.size w W rk M2 M2 (some ⟨b, o, none⟩) c2 (X ++ [(w2.heap.size, enO x), (w1.heap.size, enO f), (qb, stO15 what e)]) → EnAt W w1.heap.size f ∧ EnAt W w2.heap.size x ∧ EnRow W b o f ∧ EnRow W b (o + k * 10) x := fun W X h => by
              obtain ⟨b', o', e9, q1, q2, q3, q4⟩ := hcells.out W w1.heap.size w2.heap.size k x X h hk.out
              cases e9
              exact ⟨q1, q2, q3, q4⟩
            refine (two_all (hT3.grow (drew_b _))).mono ?_
            rintro r w4 ⟨a3, c3, S3, rfl, h5, h6⟩
            refine ⟨a3, c3, rfl, tell _ _ h6, Lib.hid ((rsame_any (h6.reads h5 List.perm_append_comm) h6.read (by have := hM2d.out; omega)).mono ?_)⟩
            rintro r w5 ⟨rfl, m, rfl⟩
            have h7 := h6.grow (drewN_below _ m)
            refine ⟨rfl, tell _ _ h7, Lib.hid ((two_len h7).mono ?_)⟩
            rintro r w6 ⟨rfl, rfl⟩
            exact ⟨rfl, rfl, M2, _, c2, rfl, hM2H.out, h7.sub (List.nil_sublist _)⟩)
          have k0 : (0 : Int) ≤ k := by omega
          have k1 : (k : Int) < M2.length := by omega
          have hS0 := Lib.hid (And.intro hf0 (And.intro hx0 (And.intro hr0 hr1)))
          obtain ⟨f0, f1, f2, f3, f4, f5, f6, f7, f8, f9⟩ := hf0
          obtain ⟨x0, x1, x2, x3, x4, x5, x6, x7, x8, x9⟩ := hx0
          obtain ⟨r0, r1, r2, r3, r4, r5, r6, r7, r8, r9⟩ := hr0
          obtain ⟨s0, s1, s2, s3, s4, s5, s6, s7, s8, s9⟩ := hr1
          clear hrw hT3 hcells hk hM2H hM2d
          generalize w1.heap.size = fb at *
          generalize w2.heap.size = xb at *
          generalize M2.length = ml at *
          go_wp2_with fail
          go_region_held3 (fun X => (X.cell? ⟨fb, 0, none⟩ = some (.int .i64 f.id) ∧ X.cell? ⟨fb, 1, none⟩ = some (.int .i64 f.body) ∧ X.cell? ⟨fb, 2, none⟩ = some (.int .i64 f.size) ∧ X.cell? ⟨fb, 3, none⟩ = some (tx f.exch) ∧ X.cell? ⟨fb, 4, none⟩ = some (tx f.key) ∧ X.cell? ⟨fb, 5, none⟩ = some (.int .i64 f.prio) ∧ X.cell? ⟨fb, 6, none⟩ = some (.int .i64 f.ttl) ∧ X.cell? ⟨fb, 7, none⟩ = some (.int .i64 f.til) ∧ X.cell? ⟨fb, 8, none⟩ = some (.bool f.again) ∧ X.cell? ⟨fb, 9, none⟩ = some (.int .i64 f.hops)) ∧ (X.cell? ⟨xb, 0, none⟩ = some (.int .i64 x.id) ∧ X.cell? ⟨xb, 1, none⟩ = some (.int .i64 x.body) ∧ X.cell? ⟨xb, 2, none⟩ = some (.int .i64 x.size) ∧ X.cell? ⟨xb, 3, none⟩ = some (tx x.exch) ∧ X.cell? ⟨xb, 4, none⟩ = some (tx x.key) ∧ X.cell? ⟨xb, 5, none⟩ = some (.int .i64 x.prio) ∧ X.cell? ⟨xb, 6, none⟩ = some (.int .i64 x.ttl) ∧ X.cell? ⟨xb, 7, none⟩ = some (.int .i64 x.til) ∧ X.cell? ⟨xb, 8, none⟩ = some (.bool x.again) ∧ X.cell? ⟨xb, 9, none⟩ = some (.int .i64 x.hops)) ∧ (X.cell? ⟨b, o, none⟩ = some (.int .i64 f.id) ∧ X.cell? ⟨b, o + 1, none⟩ = some (.int .i64 f.body) ∧ X.cell? ⟨b, o + 2, none⟩ = some (.int .i64 f.size) ∧ X.cell? ⟨b, o + 3, none⟩ = some (tx f.exch) ∧ X.cell? ⟨b, o + 4, none⟩ = some (tx f.key) ∧ X.cell? ⟨b, o + 5, none⟩ = some (.int .i64 f.prio) ∧ X.cell? ⟨b, o + 6, none⟩ = some (.int .i64 f.ttl) ∧ X.cell? ⟨b, o + 7, none⟩ = some (.int .i64 f.til) ∧ X.cell? ⟨b, o + 8, none⟩ = some (.bool f.again) ∧ X.cell? ⟨b, o + 9, none⟩ = some (.int .i64 f.hops)) ∧ X.cell? ⟨b, o + k * 10, none⟩ = some (.int .i64 x.id) ∧ X.cell? ⟨b, o + k * 10 + 1, none⟩ = some (.int .i64 x.body) ∧ X.cell? ⟨b, o + k * 10 + 2, none⟩ = some (.int .i64 x.size) ∧ X.cell? ⟨b, o + k * 10 + 3, none⟩ = some (tx x.exch) ∧ X.cell? ⟨b, o + k * 10 + 4, none⟩ = some (tx x.key) ∧ X.cell? ⟨b, o + k * 10 + 5, none⟩ = some (.int .i64 x.prio) ∧ X.cell? ⟨b, o + k * 10 + 6, none⟩ = some (.int .i64 x.ttl) ∧ X.cell? ⟨b, o + k * 10 + 7, none⟩ = some (.int .i64 x.til) ∧ X.cell? ⟨b, o + k * 10 + 8, none⟩ = some (.bool x.again) ∧ X.cell? ⟨b, o + k * 10 + 9, none⟩ = some (.int .i64 x.hops)) (first | exact kS | exact hS0.out) (first
            | (go_at_call 21; refine cAll.out.mono ?_; rintro r w4 ⟨a3, c3, rfl, kS, hsame⟩)
            | (go_at_call 16; refine hsame.out.mono ?_; rintro r w5 ⟨rfl, kS, hlen⟩)
            | (go_at_call 22; refine hlen.out.mono ?_; rintro r w6 ⟨rfl, rfl, hP3⟩))
          replace hP3 := Lib.hid hP3
          clear kS hS0 f0 f1 f2 f3 f4 f5 f6 f7 f8 f9 x0 x1 x2 x3 x4 x5 x6 x7 x8 x9 r0 r1 r2 r3 r4 r5 r6 r7 r8 r9 s0 s1 s2 s3 s4 s5 s6 s7 s8 s9
          go_wp2_with fail
          go_roundg (n - (i + 1))
          case measure => omega
          case rel => exact ⟨i + 1, by go_num, by omega, hP3⟩
end
end Go.Proofs.Ytofkakcnipaheaa
