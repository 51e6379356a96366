/- SlipPlays: one step, on both sides. -/
import Derived.Test.YtdkchcbmhmlhnaaSpT
import Derived.Deep.DeepCutAuto
import Derived.Deep.CutBlock
import Derived.StillTailTactics
namespace Go.Proofs.Ytdkchcbmhmlhnaa
open Go.RowKit
set_option linter.unusedVariables false
set_option linter.unusedSectionVars false
set_option linter.unusedSimpArgs false
set_option maxRecDepth 100000

abbrev stO17 (what : Int) (x : Slp) : Obj := .cells #[.int .i64 what, .int .i64 x.tag, .int .i64 x.queue, tx x.cons, .int .i64 x.id, .int .i64 x.body, .int .i64 x.size, tx x.exch, tx x.key, .int .i64 x.prio, .int .i64 x.ttl, .int .i64 x.til, .bool x.again, .int .i64 x.hops] 35
/-- The slip's cells in a step. -/
abbrev StCells17 (W : World) (b : Nat) (x : Slp) : Prop := W.cell? ⟨b, 1, none⟩ = some (.int .i64 x.tag) ∧ W.cell? ⟨b, 2, none⟩ = some (.int .i64 x.queue) ∧ W.cell? ⟨b, 3, none⟩ = some (tx x.cons) ∧ W.cell? ⟨b, 4, none⟩ = some (.int .i64 x.id) ∧ W.cell? ⟨b, 5, none⟩ = some (.int .i64 x.body) ∧ W.cell? ⟨b, 6, none⟩ = some (.int .i64 x.size) ∧ W.cell? ⟨b, 7, none⟩ = some (tx x.exch) ∧ W.cell? ⟨b, 8, none⟩ = some (tx x.key) ∧ W.cell? ⟨b, 9, none⟩ = some (.int .i64 x.prio) ∧ W.cell? ⟨b, 10, none⟩ = some (.int .i64 x.ttl) ∧ W.cell? ⟨b, 11, none⟩ = some (.int .i64 x.til) ∧ W.cell? ⟨b, 12, none⟩ = some (.bool x.again) ∧ W.cell? ⟨b, 13, none⟩ = some (.int .i64 x.hops)
theorem addS_len (M : List Slp) (x : Slp) : (addS M x).length ≤ M.length + 1 := by
  unfold addS
  split
  · rw [ins_len]; omega
  · omega
section
variable {B : Nat} {w0 w W : World} {sb fb k qb : Nat} {M N : List Slp} {Y F : List (Nat × Obj)} {x : Slp} {what : Int}
theorem TwoS.cells (h : TwoS B w0 w sb fb M N Y) (hm : (qb, stO17 what x) ∈ Y) : StCells17 w qb x := ⟨h.cell hm rfl, h.cell hm rfl, h.cell hm rfl, h.cell hm rfl, h.cell hm rfl, h.cell hm rfl, h.cell hm rfl, h.cell hm rfl, h.cell hm rfl, h.cell hm rfl, h.cell hm rfl, h.cell hm rfl, h.cell hm rfl⟩
theorem SlipsIs.cellF {cs : Array Value} {T : TypeId} (h : SlipsIs B w0 w sb M F) (hm : (k, .cells cs T) ∈ F) {i : Nat} {v : Value} (hi : cs[i]? = some v) : w.cell? ⟨k, i, none⟩ = some v := by
  obtain ⟨S, h1, -⟩ := h.beside
  exact h1.cell (b := k) (List.mem_append_right _ hm) hi
/-- Both sides behind i steps. -/
def Pl17 (w : World) (sb fb i : Nat) (Y : List (Nat × Obj)) (W : World) : Prop := ∃ M, M.length ≤ i ∧ TwoS w.heap.size w W sb fb M M Y
end

section
variable {w : World}
set_option maxHeartbeats 8000000 in
theorem plays17_walk {a0 : Option Addr} {n cap : Nat} {q : List UInt8} {G : List (Int × Slp)} (hG : Stp17 w a0 n G) :
    Calls Try.prog 3 #[.slice a0 n cap, tx q] w fun e w' => e = .returned (.bool true) ∧ Below w.heap.size w w' := by
  have c1 := Lib.hid (known17_true w)
  by_cases h80 : 80 < n
  · have h80' : (80 : Int) < n := by omega
    clear hG
    go_enter Try.func3, Try.ntmps3
    go_wp2_with fail
    refine c1.out.mono ?_
    rintro e w1 ⟨rfl, hb⟩
    replace hb := Lib.hid hb
    go_wp2_with fail
    go_ret
    exact ⟨rfl, hb.out⟩
  have h80' : (n : Int) ≤ 80 := by omega
  have hGl := hG.size
  replace hG := Lib.hid hG
  go_enter Try.func3, Try.ntmps3
  go_wp2_with fail
  refine c1.out.mono ?_
  rintro e w1 ⟨rfl, hb⟩
  have c2 := Lib.hid (sl_new ((St.start w).grow hb))
  clear c1 hb h80
  go_wp2_with fail
  refine c2.out.mono ?_
  rintro e w2 ⟨rfl, h⟩
  generalize w1.heap.size = sb at *
  have h0 : Hid (Pl17 w sb w2.heap.size 0 [] (w2.alloc (refO (.slice none 0 0)))) := Lib.hid ⟨[], Nat.le_refl _, TwoS.start (h.alloc (refO (.slice none 0 0)))⟩
  clear c2 h
  go_wp2_with fail
  generalize w2.heap.size = fb at *
  go_loopg [7] n (fun g v7 wr => ∃ i : Nat, v7 = .int .i64 i ∧ i + g = n ∧ Hid (Pl17 w sb fb i [] wr))
  case atStart => exact ⟨0, rfl, by omega, h0⟩
  case round =>
    clear h0
    obtain ⟨i, rfl, hi, hP⟩ := hrel
    obtain ⟨M, hMl, hT⟩ := hP.out
    have hi0 : (0 : Int) ≤ i := by omega
    by_cases hlt : i < n
    rotate_left
    · have fin := Lib.hid hT.below
      clear hP hT hMl
      go_wp2_with fail
      go_ret
      exact ⟨rfl, fin.out⟩
    have hi1 : (i : Int) < n := by omega
    obtain ⟨s, hx⟩ : ∃ s, G[i]? = some s := ⟨_, List.getElem?_eq_getElem (by omega)⟩
    obtain ⟨hfit, ba, oa, rfl, k0, k1, k2, k3, k4, k5, k6, k7, k8, k9, k10, k11, k12, k13⟩ := (hG.out.below hT.below).at_ i s hx
    obtain ⟨what, x⟩ := s
    simp only at hfit k0 k1 k2 k3 k4 k5 k6 k7 k8 k9 k10 k11 k12 k13
    have h1 := hT.alloc (stO17 what x)
    have hM80 : M.length ≤ 80 := by omega
    clear hx hP hT
    go_upto_block 2 with fail
    clear k0 k1 k2 k3 k4 k5 k6 k7 k8 k9 k10 k11 k12 k13
    generalize wr.heap.size = qb at *
    obtain ⟨W1, hW1⟩ : ∃ W1, W1 = wr.alloc (stO17 what x) := ⟨_, rfl⟩
    rw [← hW1] at h1 ⊢
    clear hW1
    obtain ⟨y1, y2, y3, y4, y5, y6, y7, y8, y9, y10, y11, y12, y13⟩ := h1.cells (qb := qb) (what := what) (x := x) List.mem_cons_self
    have y0 : W1.cell? ⟨qb, 0, none⟩ = some (.int .i64 what) := h1.cell (k := qb) List.mem_cons_self rfl
    have hok := Lib.hid h1.ok
    go_cut [9] (fun v9 wx => v9 = .bool true ∧ Hid (Pl17 w sb fb (i + 1) [(qb, stO17 what x)] wx))
    case first =>
      by_cases hw1 : what ≤ 4
      · as_aux_lemma =>
          obtain ⟨ok, hok2⟩ : ∃ ok, ok = addOkS M x := ⟨_, rfl⟩
          have h2 : TwoS w.heap.size w W1.drew sb fb M M [(qb, stO17 what x)] := h1.grow (drew_b _)
          have hs0 := Lib.hid (h2.cells (qb := qb) (what := what) (x := x) List.mem_cons_self)
          have cA : Hid (∀ W, TwoS w.heap.size w W sb fb M M [(qb, stO17 what x)] → Calls Try.prog 8 #[gptr sb, slV x] W fun r w' => r = .returned (.bool ok) ∧ TwoS w.heap.size w w' sb fb (addS M x) M [(qb, stO17 what x)] ∧ StCells17 w' qb x) := Lib.hid fun W h => by
            refine (two_add h hfit).mono ?_
            rintro r w' ⟨rfl, h3⟩
            exact ⟨by rw [hok2], h3, h3.cells (what := what) List.mem_cons_self⟩
          have cB : Hid (∀ W, TwoS w.heap.size w W sb fb (addS M x) M [(qb, stO17 what x)] → Calls Try.prog 9 #[gptr fb, slV x] W fun r w' => r = .returned (.bool ok) ∧ Pl17 w sb fb (i + 1) [(qb, stO17 what x)] w' ∧ StCells17 w' qb x) := Lib.hid fun W h => by
            refine (two_radd h (by omega) x).mono ?_
            rintro r w' ⟨rfl, h3⟩
            exact ⟨by rw [hok2], ⟨addS M x, by have := addS_len M x; omega, h3⟩, h3.cells (what := what) List.mem_cons_self⟩
          clear h1 hok2 hfit hok
          go_wp2_with fail
          go_region_held3 (fun W => W.cell? ⟨qb, 1, none⟩ = some (.int .i64 x.tag) ∧ W.cell? ⟨qb, 2, none⟩ = some (.int .i64 x.queue) ∧ W.cell? ⟨qb, 3, none⟩ = some (tx x.cons) ∧ W.cell? ⟨qb, 4, none⟩ = some (.int .i64 x.id) ∧ W.cell? ⟨qb, 5, none⟩ = some (.int .i64 x.body) ∧ W.cell? ⟨qb, 6, none⟩ = some (.int .i64 x.size) ∧ W.cell? ⟨qb, 7, none⟩ = some (tx x.exch) ∧ W.cell? ⟨qb, 8, none⟩ = some (tx x.key) ∧ W.cell? ⟨qb, 9, none⟩ = some (.int .i64 x.prio) ∧ W.cell? ⟨qb, 10, none⟩ = some (.int .i64 x.ttl) ∧ W.cell? ⟨qb, 11, none⟩ = some (.int .i64 x.til) ∧ W.cell? ⟨qb, 12, none⟩ = some (.bool x.again) ∧ W.cell? ⟨qb, 13, none⟩ = some (.int .i64 x.hops)) (first | exact kS | exact hs0.out) (first
            | (go_at_call 8; refine (cA.out _ (by assumption)).mono ?_; rintro r w4 ⟨rfl, hA, kS⟩)
            | (go_at_call 9; refine (cB.out _ (by assumption)).mono ?_; rintro r w4 ⟨rfl, hP2, kS⟩))
          replace hP2 := Lib.hid hP2
          clear hA kS cA cB hs0 h2 y1 y2 y3 y4 y5 y6 y7 y8 y9 y10 y11 y12 y13
          go_wp2_with fail
          go_meet
          case rel => exact ⟨by simp, hP2⟩
      by_cases hw2 : what ≤ 6
      · by_cases hin : x.tag ∈ tagsL M
        · as_aux_lemma =>
            obtain ⟨y, hy, hid⟩ := List.mem_map.1 hin
            have cC : Hid (Calls Try.prog 10 #[gptr sb, .int .i64 x.tag] W1 fun r w' => r = .returned (.tuple #[slV y, .bool true]) ∧ (w'.alloc (slO y)).cell? ⟨qb, 1, none⟩ = some (.int .i64 x.tag) ∧ Hid (Calls Try.prog 11 #[gptr fb, .int .i64 x.tag] (w'.alloc (slO y)) fun r w'' => r = .returned (.tuple #[slV y, .bool true]) ∧
                SlAt (w''.alloc (slO y)) w'.heap.size y ∧ SlAt (w''.alloc (slO y)) w''.heap.size y ∧ Pl17 w sb fb (i + 1) [(qb, stO17 what x)] (w''.alloc (slO y)))) := Lib.hid (by
              rw [← hid]
              refine (two_take_yes h1 hy).mono ?_
              rintro r w' ⟨rfl, h3⟩
              have h4 := h3.alloc (slO y)
              refine ⟨rfl, ?_, Lib.hid ((two_rtake_yes h4 (by omega) hok.out hy).mono ?_)⟩
              · rw [hid]
                exact h4.cell (k := qb) (List.mem_cons_of_mem _ List.mem_cons_self) rfl
              · rintro r w'' ⟨rfl, h5⟩
                have h6 := h5.alloc (slO y)
                refine ⟨rfl, h6.slip (b := w'.heap.size) (x := y) (by simp), h6.slip (b := w''.heap.size) (x := y) List.mem_cons_self, dropS M y.tag, ?_, h6.sub ((List.sublist_cons_self _ _).trans (List.sublist_cons_self _ _))⟩
                have := drop_len hok.out hy
                omega)
            clear h1 hfit hM80 hMl hok hy hid hin
            go_wp2_with fail
            refine cC.out.mono ?_
            rintro r w3 ⟨rfl, q1, hR⟩
            clear cC y1 y2 y3 y4 y5 y6 y7 y8 y9 y10 y11 y12 y13 y0
            go_wp2_with fail
            refine hR.out.mono ?_
            rintro r w4 ⟨rfl, ⟨x0, x1, x2, x3, x4, x5, x6, x7, x8, x9, x10, x11, x12⟩, ⟨z0, z1, z2, z3, z4, z5, z6, z7, z8, z9, z10, z11, z12⟩, hP2⟩
            replace hP2 := Lib.hid hP2
            clear hR q1
            go_wp2_with fail
            go_meet
            case rel => exact ⟨rfl, hP2⟩
        · as_aux_lemma =>
            have cC : Hid (Calls Try.prog 10 #[gptr sb, .int .i64 x.tag] W1 fun r w' => r = .returned (.tuple #[slV z0L, .bool false]) ∧ (w'.alloc (slO z0L)).cell? ⟨qb, 1, none⟩ = some (.int .i64 x.tag) ∧ Hid (Calls Try.prog 11 #[gptr fb, .int .i64 x.tag] (w'.alloc (slO z0L)) fun r w'' => r = .returned (.tuple #[slV z0L, .bool false]) ∧
                SlAt (w''.alloc (slO z0L)) w'.heap.size z0L ∧ SlAt (w''.alloc (slO z0L)) w''.heap.size z0L ∧ Pl17 w sb fb (i + 1) [(qb, stO17 what x)] (w''.alloc (slO z0L)))) := Lib.hid (by
              refine (two_take_no h1 hin).mono ?_
              rintro r w' ⟨rfl, h3⟩
              have h4 := h3.alloc (slO z0L)
              refine ⟨rfl, h4.cell (k := qb) (List.mem_cons_of_mem _ List.mem_cons_self) rfl, Lib.hid ((two_rtake_no h4 (by omega) hin).mono ?_)⟩
              rintro r w'' ⟨rfl, h5⟩
              have h6 := h5.alloc (slO z0L)
              exact ⟨rfl, h6.slip (b := w'.heap.size) (x := z0L) (by simp), h6.slip (b := w''.heap.size) (x := z0L) List.mem_cons_self, M, by omega, h6.sub ((List.sublist_cons_self _ _).trans (List.sublist_cons_self _ _))⟩)
            clear h1 hfit hM80 hMl hok hin
            go_wp2_with fail
            refine cC.out.mono ?_
            rintro r w3 ⟨rfl, q1, hR⟩
            clear cC y1 y2 y3 y4 y5 y6 y7 y8 y9 y10 y11 y12 y13 y0
            go_wp2_with fail
            refine hR.out.mono ?_
            rintro r w4 ⟨rfl, ⟨x0, x1, x2, x3, x4, x5, x6, x7, x8, x9, x10, x11, x12⟩, ⟨z0, z1, z2, z3, z4, z5, z6, z7, z8, z9, z10, z11, z12⟩, hP2⟩
            replace hP2 := Lib.hid hP2
            clear hR q1
            go_wp2_with fail
            go_meet
            case rel => exact ⟨rfl, hP2⟩
      · as_aux_lemma =>
          have h2 : TwoS w.heap.size w W1.drew sb fb M M [(qb, stO17 what x)] := h1.grow (drew_b _)
          have hs0 : Hid (W1.drew.cell? ⟨qb, 1, none⟩ = some (.int .i64 x.tag)) := Lib.hid y1
          have cU : Hid (Calls Try.prog 13 #[gptr sb, .int .i64 x.tag] W1.drew fun r w' => ∃ a1 n1 c1, r = .returned (.slice a1 n1 c1) ∧ w'.cell? ⟨qb, 1, none⟩ = some (.int .i64 x.tag) ∧ Hid (Calls Try.prog 14 #[gptr fb, .int .i64 x.tag] w' fun r w'' => ∃ a2 c2, r = .returned (.slice a2 n1 c2) ∧ w''.cell? ⟨qb, 1, none⟩ = some (.int .i64 x.tag) ∧
              Hid (Calls Try.prog 12 #[.slice a1 n1 c1, .slice a2 n1 c2] w'' fun r w3 => r = .returned (.bool true) ∧ w3.cell? ⟨qb, 1, none⟩ = some (.int .i64 x.tag) ∧ Pl17 w sb fb (i + 1) [(qb, stO17 what x)] w3))) := Lib.hid (by
            refine (two_upto h2 x.tag).mono ?_
            rintro r w' ⟨a1, c1, S1, rfl, q1, h3⟩
            refine ⟨a1, _, c1, rfl, h3.cell (k := qb) (List.mem_append_right _ List.mem_cons_self) rfl, Lib.hid ((two_rupto h3 (by omega) hok.out x.tag).mono ?_)⟩
            rintro r w'' ⟨a2, c2, S2, rfl, q2, h4⟩
            refine ⟨a2, c2, rfl, h4.cell (k := qb) (List.mem_append_right _ (List.mem_append_right _ List.mem_cons_self)) rfl, Lib.hid ?_⟩
            have hle : (uptoS M (maxT x.tag)).length ≤ M.length := List.length_filter_le _ _
            have hle2 : (overS M (maxT x.tag)).length ≤ M.length := List.length_filter_le _ _
            refine (rs_same (h4.reads (X := S2 ++ [(qb, stO17 what x)]) q1 ?_) (h4.reads (X := S1 ++ [(qb, stO17 what x)]) q2 ?_) (by omega)).mono ?_
            · classical
              exact List.perm_iff_count.2 fun a => by simp only [List.count_append]; omega
            · classical
              exact List.perm_iff_count.2 fun a => by simp only [List.count_append]; omega
            · rintro r w3 ⟨rfl, m, rfl⟩
              have h5 := h4.grow (drewN_below _ m)
              exact ⟨rfl, h5.cell (k := qb) (List.mem_append_right _ (List.mem_append_right _ List.mem_cons_self)) rfl, _, by omega, h5.sub ((List.sublist_append_right _ _).trans (List.sublist_append_right _ _))⟩)
          clear h1 hfit hM80 hMl hok h2 y2 y3 y4 y5 y6 y7 y8 y9 y10 y11 y12 y13
          go_wp2_with fail
          go_region_held3 (fun W => W.cell? ⟨qb, 1, none⟩ = some (.int .i64 x.tag)) (first | exact kS | exact hs0.out) (first
            | (go_at_call 13; refine cU.out.mono ?_; rintro r w4 ⟨a1, n1, c1, rfl, kS, hU2⟩)
            | (go_at_call 14; refine hU2.out.mono ?_; rintro r w5 ⟨a2, c2, rfl, kS, hU3⟩)
            | (go_at_call 12; refine hU3.out.mono ?_; rintro r w6 ⟨rfl, kS, hP2⟩))
          replace hP2 := Lib.hid hP2
          clear kS cU hs0 y0 y1
          go_wp2_with fail
          go_meet
          case rel => exact ⟨rfl, hP2⟩
    case rest =>
      obtain ⟨rfl, hP2⟩ := hcut
      clear h1 y0 y1 y2 y3 y4 y5 y6 y7 y8 y9 y10 y11 y12 y13 hok hfit hM80 hMl
      obtain ⟨M2, hM2, hT⟩ := hP2.out
      as_aux_lemma =>
        obtain ⟨a, c, S, hS, hC⟩ := hT
        obtain ⟨ml, hml⟩ : ∃ ml, ml = M2.length := ⟨_, rfl⟩
        obtain ⟨F, hF⟩ : ∃ F, F = (fb, refO (.slice a M2.length c)) :: (S ++ [(qb, stO17 what x)]) := ⟨_, rfl⟩
        rw [← hF] at hC
        have hkS : Hid (∀ W, SlipsIs w.heap.size w W sb M2 F → W.cell? ⟨fb, 0, none⟩ = some (.slice a ml c) ∧ W.cell? ⟨qb, 1, none⟩ = some (.int .i64 x.tag)) := Lib.hid fun W h => by
          rw [hF] at h
          rw [hml]
          exact ⟨h.cellF (k := fb) List.mem_cons_self rfl, h.cellF (k := qb) (List.mem_cons_of_mem _ (List.mem_append_right _ List.mem_cons_self)) rfl⟩
        have hrd : Hid (∀ W, SlipsIs w.heap.size w W sb M2 F → RdS W fb M2 a c) := Lib.hid fun W h => by
          refine ⟨by rw [← hml]; exact (hkS.out W h).1, ?_⟩
          rw [hF] at h
          exact h.reads (X := (fb, refO (.slice a M2.length c)) :: [(qb, stO17 what x)]) hS (by
            classical
            exact List.perm_iff_count.2 fun a => by simp only [List.count_append, List.count_cons]; omega)
        have hfin : Hid (∀ W, SlipsIs w.heap.size w W sb M2 F → Pl17 w sb fb (i + 1) [] W) := Lib.hid fun W h => by
          rw [hF] at h
          exact ⟨M2, hM2, a, c, S, hS, h.sub (((List.Sublist.refl S).append (List.nil_sublist _)).cons_cons _)⟩
        have hm81 : ml ≤ 81 := by omega
        have hC1 : SlipsIs w.heap.size w wc.drew sb M2 F := hC.grow (drew_b _)
        have hs0 := Lib.hid (hkS.out _ hC1)
        obtain ⟨u, hu⟩ : ∃ u, u = ofS M2 q := ⟨_, rfl⟩
        obtain ⟨hb2, hhb⟩ : ∃ b, b = hasS M2 x.tag := ⟨_, rfl⟩
        have cAll : Hid (Calls Try.prog 15 #[gptr sb] wc.drew fun r w4 => ∃ a3 c3, r = .returned (.slice a3 ml c3) ∧ (w4.cell? ⟨fb, 0, none⟩ = some (.slice a ml c) ∧ w4.cell? ⟨qb, 1, none⟩ = some (.int .i64 x.tag)) ∧ Hid (Calls Try.prog 12 #[.slice a3 ml c3, .slice a ml c] w4 fun r w5 => r = .returned (.bool true) ∧ SlipsIs w.heap.size w w5 sb M2 F ∧
            (w5.cell? ⟨fb, 0, none⟩ = some (.slice a ml c) ∧ w5.cell? ⟨qb, 1, none⟩ = some (.int .i64 x.tag)))) := Lib.hid (by
          refine (sl_all hC1).mono ?_
          rintro r w4 ⟨a3, c3, S3, rfl, h3, h4⟩
          have h5 := h4.sub (List.sublist_append_right S3 F)
          refine ⟨a3, c3, by rw [hml], hkS.out _ h5, Lib.hid ?_⟩
          rw [hml]
          refine (rs_same (h4.reads (X := F) h3 List.perm_append_comm) (hrd.out _ h5).rd (by omega)).mono ?_
          rintro r w5 ⟨rfl, m, rfl⟩
          have h6 := h5.grow (drewN_below _ m)
          rw [← hml]
          exact ⟨rfl, h6, hkS.out _ h6⟩)
        have cLen : Hid (∀ W, SlipsIs w.heap.size w W sb M2 F → Calls Try.prog 16 #[gptr sb] W fun r w' => r = .returned (.int .i64 ml) ∧ SlipsIs w.heap.size w w' sb M2 F ∧ (w'.cell? ⟨fb, 0, none⟩ = some (.slice a ml c) ∧ w'.cell? ⟨qb, 1, none⟩ = some (.int .i64 x.tag))) := Lib.hid fun W h => by
          refine (sl_len h).mono ?_
          rintro r w' ⟨rfl, rfl⟩
          exact ⟨by rw [hml], h, hkS.out _ h⟩
        have cOf : Hid (∀ W, SlipsIs w.heap.size w W sb M2 F → Calls Try.prog 17 #[gptr sb, tx q] W fun r w' => r = .returned (.int .i64 u) ∧ SlipsIs w.heap.size w w' sb M2 F ∧ (w'.cell? ⟨fb, 0, none⟩ = some (.slice a ml c) ∧ w'.cell? ⟨qb, 1, none⟩ = some (.int .i64 x.tag))) := Lib.hid fun W h => by
          refine (sl_of h q).mono ?_
          rintro r w' ⟨rfl, rfl⟩
          exact ⟨by rw [hu], h, hkS.out _ h⟩
        have cROf : Hid (∀ W, SlipsIs w.heap.size w W sb M2 F → Calls Try.prog 18 #[gptr fb, tx q] W fun r w' => r = .returned (.int .i64 u) ∧ SlipsIs w.heap.size w w' sb M2 F ∧ (w'.cell? ⟨fb, 0, none⟩ = some (.slice a ml c) ∧ w'.cell? ⟨qb, 1, none⟩ = some (.int .i64 x.tag))) := Lib.hid fun W h => by
          refine (rs_of (hrd.out _ h) (by omega) q).mono ?_
          rintro r w' ⟨rfl, rfl⟩
          exact ⟨by rw [hu], h, hkS.out _ h⟩
        have cHas : Hid (∀ W, SlipsIs w.heap.size w W sb M2 F → Calls Try.prog 19 #[gptr sb, .int .i64 x.tag] W fun r w' => r = .returned (.bool hb2) ∧ SlipsIs w.heap.size w w' sb M2 F ∧ (w'.cell? ⟨fb, 0, none⟩ = some (.slice a ml c) ∧ w'.cell? ⟨qb, 1, none⟩ = some (.int .i64 x.tag))) := Lib.hid fun W h => by
          refine (sl_has h x.tag).mono ?_
          rintro r w' ⟨rfl, h3⟩
          exact ⟨by rw [hhb], h3, hkS.out _ h3⟩
        have cRHas : Hid (∀ W, SlipsIs w.heap.size w W sb M2 F → Calls Try.prog 20 #[gptr fb, .int .i64 x.tag] W fun r w' => r = .returned (.bool hb2) ∧ Pl17 w sb fb (i + 1) [] w' ∧ (w'.cell? ⟨fb, 0, none⟩ = some (.slice a ml c) ∧ w'.cell? ⟨qb, 1, none⟩ = some (.int .i64 x.tag))) := Lib.hid fun W h => by
          refine (rs_has (hrd.out _ h) (by omega) x.tag).mono ?_
          rintro r w' ⟨rfl, rfl⟩
          exact ⟨by rw [hhb], hfin.out _ h, hkS.out _ h⟩
        clear hP2 hM2 hS hC hF hkS hrd hfin hu hhb hml hC1
        go_wp2_with fail
        go_region_held3 (fun W => W.cell? ⟨fb, 0, none⟩ = some (.slice a ml c) ∧ W.cell? ⟨qb, 1, none⟩ = some (.int .i64 x.tag)) (first | exact kS | exact hs0.out) (first
          | (go_at_call 15; refine cAll.out.mono ?_; rintro r w4 ⟨a3, c3, rfl, kS, hsame⟩)
          | (go_at_call 12; refine hsame.out.mono ?_; rintro r w5 ⟨rfl, hQ, kS⟩)
          | (go_at_call 16; refine (cLen.out _ (by assumption)).mono ?_; rintro r w6 ⟨rfl, hQ, kS⟩)
          | (go_at_call 17; refine (cOf.out _ (by assumption)).mono ?_; rintro r w6 ⟨rfl, hQ, kS⟩)
          | (go_at_call 18; refine (cROf.out _ (by assumption)).mono ?_; rintro r w6 ⟨rfl, hQ, kS⟩)
          | (go_at_call 19; refine (cHas.out _ (by assumption)).mono ?_; rintro r w6 ⟨rfl, hQ, kS⟩)
          | (go_at_call 20; refine (cRHas.out _ (by assumption)).mono ?_; rintro r w6 ⟨rfl, hP3, kS⟩))
        replace hP3 := Lib.hid hP3
        clear kS hs0 cAll cLen cOf cROf cHas cRHas hQ
        go_wp2_with fail
        go_roundg (n - (i + 1))
        case measure => omega
        case rel => exact ⟨i + 1, by go_num, by omega, hP3⟩
end
end Go.Proofs.Ytdkchcbmhmlhnaa
