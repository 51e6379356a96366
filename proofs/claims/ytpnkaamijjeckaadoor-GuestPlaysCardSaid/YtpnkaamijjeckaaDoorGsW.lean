/- GuestPlays: one step, on both sides. -/
import Derived.Test.YtpnkaamijjeckaaDoorGsV
import Derived.Test.YtpnkaamijjeckaaDoorGsL
namespace Go.Proofs.YtpnkaamijjeckaaDoor
open Go.RowKit
set_option linter.unusedVariables false
set_option linter.unusedSectionVars false
set_option linter.unusedSimpArgs false
set_option maxRecDepth 100000

abbrev stO18 (what : Int) (x : Gst) (v : Value) : Obj := .cells #[.int .i64 what, .int .i64 x.conn, .int .i64 x.chan, tx x.tag, .int .i64 x.most, .bool x.noack, .bool x.sole, v] 34
/-- The guest's cells in a step. -/
abbrev StCells18 (W : World) (b : Nat) (x : Gst) : Prop := W.cell? ⟨b, 1, none⟩ = some (.int .i64 x.conn) ∧ W.cell? ⟨b, 2, none⟩ = some (.int .i64 x.chan) ∧ W.cell? ⟨b, 3, none⟩ = some (tx x.tag) ∧ W.cell? ⟨b, 4, none⟩ = some (.int .i64 x.most) ∧ W.cell? ⟨b, 5, none⟩ = some (.bool x.noack) ∧ W.cell? ⟨b, 6, none⟩ = some (.bool x.sole)
section
variable {B : Nat} {w0 w W : World} {gb fb k qb T T2 : Nat} {M N : List Gst} {Y F : List (Nat × Obj)} {x : Gst} {what : Int} {v : Value}
theorem TwoG.cells (h : TwoG B w0 w gb fb M T N T2 Y) (hm : (qb, stO18 what x v) ∈ Y) : StCells18 w qb x := ⟨h.cell hm rfl, h.cell hm rfl, h.cell hm rfl, h.cell hm rfl, h.cell hm rfl, h.cell hm rfl⟩
/-- Both sides behind i steps. -/
def Pl18 (w : World) (gb fb i : Nat) (Y : List (Nat × Obj)) (W : World) : Prop := ∃ M T, M.length ≤ i ∧ TwoG w.heap.size w W gb fb M T M T Y
end

section
variable {w : World}
set_option maxHeartbeats 8000000 in
theorem plays18_walk {a0 : Option Addr} {n cap : Nat} {G : List StG} (hG : Stp18 w a0 n G) (hT : Tab w.heap.size w) :
    Calls Tryd.prog 3 #[.slice a0 n cap] w fun e w' => e = .returned (.bool true) ∧ Below w.heap.size w w' := by
  have c1 := Lib.hid (known18_true w hT)
  by_cases h80 : 80 < n
  · have h80' : (80 : Int) < n := by omega
    clear hG hT
    go_enter Tryd.func3, Tryd.ntmps3
    go_wp2_with fail
    refine c1.out.mono ?_
    rintro e w1 ⟨rfl, hb⟩
    replace hb := Lib.hid hb
    go_wp2_with fail
    go_ret
    exact ⟨rfl, hb.out⟩
  have h80' : (n : Int) ≤ 80 := by omega
  have hGl := hG.size
  replace hG := Lib.hid hG
  go_enter Tryd.func3, Tryd.ntmps3
  go_wp2_with fail
  refine c1.out.mono ?_
  rintro e w1 ⟨rfl, hb⟩
  have c2 := Lib.hid (gu_new hT ((St.start w).grow hb))
  clear c1 hb h80 hT
  go_wp2_with fail
  refine c2.out.mono ?_
  rintro e w2 ⟨gb, rfl, h⟩
  have h0 : Hid (Pl18 w gb w2.heap.size 0 [] (w2.alloc (rgO (.slice none 0 0) 0))) := Lib.hid ⟨[], 0, Nat.le_refl _, TwoG.start (h.alloc (rgO (.slice none 0 0) 0))⟩
  clear c2 h
  go_wp2_with fail
  generalize w2.heap.size = fb at *
  go_loopg [5] n (fun g v5 wr => ∃ i : Nat, v5 = .int .i64 i ∧ i + g = n ∧ Hid (Pl18 w gb fb i [] wr))
  case atStart => exact ⟨0, rfl, by omega, h0⟩
  case round =>
    clear h0
    obtain ⟨i, rfl, hi, hP⟩ := hrel
    obtain ⟨M, T, hMl, hT⟩ := hP.out
    have hi0 : (0 : Int) ≤ i := by omega
    by_cases hlt : i < n
    rotate_left
    · have fin := Lib.hid hT.below
      clear hP hT hMl
      go_wp2_with fail
      go_ret
      exact ⟨rfl, fin.out⟩
    have hi1 : (i : Int) < n := by omega
    obtain ⟨s, hx⟩ : ∃ s, G[i]? = some s := ⟨_, List.getElem?_eq_getElem (by omega)⟩
    obtain ⟨⟨hfit, hsp⟩, ba, oa, rfl, k0, ⟨k1, k2, k3, k4, k5, k6⟩, k7⟩ := (hG.out.below hT.below).at_ i s hx
    have hspw := (hG.out.at_ i s hx).1.2
    obtain ⟨what, x, sa, sl, sc, sp⟩ := s
    simp only at hfit k0 k1 k2 k3 k4 k5 k6 k7 hspw
    have h1 := hT.alloc (stO18 what x (.slice sa sl sc))
    have hM80 : M.length ≤ 80 := by omega
    have hsp1 : Hid (∀ W, Below w.heap.size w W → SpAt W sa sl sp) := Lib.hid fun W hb => hspw.below hb
    clear hx hP hT hsp hspw
    go_upto_block 2 with fail
    clear k0 k1 k2 k3 k4 k5 k6 k7
    generalize wr.heap.size = qb at *
    obtain ⟨W1, hW1⟩ : ∃ W1, W1 = wr.alloc (stO18 what x (.slice sa sl sc)) := ⟨_, rfl⟩
    rw [← hW1] at h1 ⊢
    clear hW1
    obtain ⟨y1, y2, y3, y4, y5, y6⟩ := h1.cells (qb := qb) (what := what) (x := x) (v := .slice sa sl sc) List.mem_cons_self
    have y0 : W1.cell? ⟨qb, 0, none⟩ = some (.int .i64 what) := h1.cell (k := qb) List.mem_cons_self rfl
    have y7 : W1.cell? ⟨qb, 7, none⟩ = some (.slice sa sl sc) := h1.cell (k := qb) List.mem_cons_self rfl
    have hok := Lib.hid h1.ok
    go_cut [7] (fun v7 wx => v7 = .bool true ∧ Hid (Pl18 w gb fb (i + 1) [(qb, stO18 what x (.slice sa sl sc))] wx))
    case first =>
      by_cases hw1 : what ≤ 3
      · as_aux_lemma =>
          obtain ⟨ok, hok2⟩ : ∃ ok, ok = addOkG M x := ⟨_, rfl⟩
          have h2 : TwoG w.heap.size w W1.drew gb fb M T M T [(qb, stO18 what x (.slice sa sl sc))] := h1.grow (drew_b _)
          have hs0 := Lib.hid (h2.cells (qb := qb) (what := what) (x := x) (v := .slice sa sl sc) List.mem_cons_self)
          have cA : Hid (∀ W, TwoG w.heap.size w W gb fb M T M T [(qb, stO18 what x (.slice sa sl sc))] → Calls Tryd.prog 9 #[gup gb, gsV x] W fun r w' => r = .returned (.bool ok) ∧ TwoG w.heap.size w w' gb fb (addG M x) T M T [(qb, stO18 what x (.slice sa sl sc))] ∧ StCells18 w' qb x) := Lib.hid fun W h => by
            refine (two_add h hfit (by omega)).mono ?_
            rintro r w' ⟨rfl, h3⟩
            exact ⟨by rw [hok2], h3, h3.cells (what := what) (v := .slice sa sl sc) List.mem_cons_self⟩
          have cB : Hid (∀ W, TwoG w.heap.size w W gb fb (addG M x) T M T [(qb, stO18 what x (.slice sa sl sc))] → Calls Tryd.prog 10 #[gup fb, gsV x] W fun r w' => r = .returned (.bool ok) ∧ Pl18 w gb fb (i + 1) [(qb, stO18 what x (.slice sa sl sc))] w' ∧ StCells18 w' qb x) := Lib.hid fun W h => by
            refine (two_radd h (by omega) x).mono ?_
            rintro r w' ⟨rfl, h3⟩
            exact ⟨by rw [hok2], ⟨addG M x, T, by have := addG_len M x; omega, h3⟩, h3.cells (what := what) (v := .slice sa sl sc) List.mem_cons_self⟩
          clear h1 hok2 hfit hok hsp1
          go_wp2_with fail
          go_region_held3 (fun W => W.cell? ⟨qb, 1, none⟩ = some (.int .i64 x.conn) ∧ W.cell? ⟨qb, 2, none⟩ = some (.int .i64 x.chan) ∧ W.cell? ⟨qb, 3, none⟩ = some (tx x.tag) ∧ W.cell? ⟨qb, 4, none⟩ = some (.int .i64 x.most) ∧ W.cell? ⟨qb, 5, none⟩ = some (.bool x.noack) ∧ W.cell? ⟨qb, 6, none⟩ = some (.bool x.sole)) (first | exact kS | exact hs0.out) (first
            | (go_at_call 9; refine (cA.out _ (by assumption)).mono ?_; rintro r w4 ⟨rfl, hA, kS⟩)
            | (go_at_call 10; refine (cB.out _ (by assumption)).mono ?_; rintro r w4 ⟨rfl, hP2, kS⟩))
          replace hP2 := Lib.hid hP2
          clear hA kS cA cB hs0 h2 y1 y2 y3 y4 y5 y6 y7
          go_wp2_with fail
          go_meet
          case rel => exact ⟨by simp, hP2⟩
      by_cases hw2 : what = 4
      · as_aux_lemma =>
          have hw2B : (what == 4) = true := by rw [beq_iff_eq]; exact hw2
          obtain ⟨ok, hok2⟩ : ∃ ok, ok = (idxG M x.conn x.chan x.tag).isSome := ⟨_, rfl⟩
          have hTl : T ≤ 80 := by rcases hok.out with h | h <;> omega
          have h2 : TwoG w.heap.size w W1.drew gb fb M T M T [(qb, stO18 what x (.slice sa sl sc))] := h1.grow (drew_b _)
          have hs0 : Hid (W1.drew.cell? ⟨qb, 1, none⟩ = some (.int .i64 x.conn) ∧ W1.drew.cell? ⟨qb, 2, none⟩ = some (.int .i64 x.chan) ∧ W1.drew.cell? ⟨qb, 3, none⟩ = some (tx x.tag)) := Lib.hid ⟨y1, y2, y3⟩
          have cA : Hid (∀ W, TwoG w.heap.size w W gb fb M T M T [(qb, stO18 what x (.slice sa sl sc))] → Calls Tryd.prog 11 #[gup gb, .int .i64 x.conn, .int .i64 x.chan, tx x.tag] W fun r w' => r = .returned (.bool ok) ∧ TwoG w.heap.size w w' gb fb (dropM M x.conn x.chan x.tag) (dropT M T x.conn x.chan x.tag) M T [(qb, stO18 what x (.slice sa sl sc))] ∧ (w'.cell? ⟨qb, 1, none⟩ = some (.int .i64 x.conn) ∧ w'.cell? ⟨qb, 2, none⟩ = some (.int .i64 x.chan) ∧ w'.cell? ⟨qb, 3, none⟩ = some (tx x.tag))) := Lib.hid fun W h => by
            refine (two_drop h x.conn x.chan x.tag).mono ?_
            rintro r w' ⟨rfl, h3⟩
            obtain ⟨j1, j2, j3, -⟩ := h3.cells (what := what) (v := .slice sa sl sc) List.mem_cons_self
            exact ⟨by rw [hok2], h3, j1, j2, j3⟩
          have cB : Hid (∀ W, TwoG w.heap.size w W gb fb (dropM M x.conn x.chan x.tag) (dropT M T x.conn x.chan x.tag) M T [(qb, stO18 what x (.slice sa sl sc))] → Calls Tryd.prog 12 #[gup fb, .int .i64 x.conn, .int .i64 x.chan, tx x.tag] W fun r w' => r = .returned (.bool ok) ∧ Pl18 w gb fb (i + 1) [(qb, stO18 what x (.slice sa sl sc))] w' ∧ (w'.cell? ⟨qb, 1, none⟩ = some (.int .i64 x.conn) ∧ w'.cell? ⟨qb, 2, none⟩ = some (.int .i64 x.chan) ∧ w'.cell? ⟨qb, 3, none⟩ = some (tx x.tag))) := Lib.hid fun W h => by
            refine (two_rdrop h (by omega) (by omega) x.conn x.chan x.tag).mono ?_
            rintro r w' ⟨rfl, h3⟩
            obtain ⟨j1, j2, j3, -⟩ := h3.cells (what := what) (v := .slice sa sl sc) List.mem_cons_self
            exact ⟨by rw [hok2], ⟨_, _, by have := dropM_len M x.conn x.chan x.tag; omega, h3⟩, j1, j2, j3⟩
          clear h1 hok2 hfit hok hsp1 hTl hw2
          go_wp2_with fail
          go_region_held3 (fun W => W.cell? ⟨qb, 1, none⟩ = some (.int .i64 x.conn) ∧ W.cell? ⟨qb, 2, none⟩ = some (.int .i64 x.chan) ∧ W.cell? ⟨qb, 3, none⟩ = some (tx x.tag)) (first | exact kS | exact hs0.out) (first
            | (go_at_call 11; refine (cA.out _ (by assumption)).mono ?_; rintro r w4 ⟨rfl, hA, kS⟩)
            | (go_at_call 12; refine (cB.out _ (by assumption)).mono ?_; rintro r w4 ⟨rfl, hP2, kS⟩))
          replace hP2 := Lib.hid hP2
          clear hA kS cA cB hs0 h2 y1 y2 y3 y4 y5 y6 y7
          go_wp2_with fail
          go_meet
          case rel => exact ⟨by simp, hP2⟩
      · as_aux_lemma =>
          have hw2B : (what == 4) = false := by rw [beq_eq_false_iff_ne]; exact hw2
          obtain ⟨r0, hr0⟩ : ∃ r0, r0 = pickG M.length T (sparG M.length sl sp) := ⟨_, rfl⟩
          obtain ⟨z, okz, hz⟩ : ∃ z okz, pickV M r0 = .tuple #[gsV z, .bool okz] := by
            cases r0 with
            | none => exact ⟨z0G, false, rfl⟩
            | some k => exact ⟨_, true, rfl⟩
          have cC : Hid (Calls Tryd.prog 13 #[gup gb, .slice sa sl sc] W1 fun r w' => r = .returned (.tuple #[gsV z, .bool okz]) ∧ (w'.alloc (gsO z)).cell? ⟨qb, 7, none⟩ = some (.slice sa sl sc) ∧ Hid (Calls Tryd.prog 14 #[gup fb, .slice sa sl sc] (w'.alloc (gsO z)) fun r w'' => r = .returned (.tuple #[gsV z, .bool okz]) ∧
              GsAt (w''.alloc (gsO z)) w'.heap.size z ∧ GsAt (w''.alloc (gsO z)) w''.heap.size z ∧ Pl18 w gb fb (i + 1) [(qb, stO18 what x (.slice sa sl sc))] (w''.alloc (gsO z)))) := Lib.hid (by
            have hq := two_pick (sc := sc) h1 (hsp1.out _ h1.below)
            rw [← hr0, hz] at hq
            refine hq.mono ?_
            rintro r w' ⟨rfl, h3⟩
            have h4 := h3.alloc (gsO z)
            have hq2 := two_rpick (sc := sc) h4 (by omega) hok.out (hsp1.out _ h4.below)
            rw [← hr0, hz] at hq2
            refine ⟨rfl, h4.cell (k := qb) (List.mem_cons_of_mem _ List.mem_cons_self) rfl, Lib.hid (hq2.mono ?_)⟩
            rintro r w'' ⟨rfl, h5⟩
            have h6 := h5.alloc (gsO z)
            refine ⟨rfl, h6.guest (b := w'.heap.size) (x := z) (by simp), h6.guest (b := w''.heap.size) (x := z) List.mem_cons_self, M, pickT M.length T (sparG M.length sl sp), by omega, h6.sub ((List.sublist_cons_self _ _).trans (List.sublist_cons_self _ _))⟩)
          have he := beq_guest z
          clear h1 hfit hM80 hMl hok hz hr0 hsp1 hw2
          go_wp2_with fail
          refine cC.out.mono ?_
          rintro r w3 ⟨rfl, q1, hR⟩
          clear cC y1 y2 y3 y4 y5 y6 y7 y0
          go_wp2_with fail
          refine hR.out.mono ?_
          rintro r w4 ⟨rfl, ⟨x0, x1, x2, x3, x4, x5⟩, ⟨z0, z1, z2, z3, z4, z5⟩, hP2⟩
          replace hP2 := Lib.hid hP2
          clear hR q1
          go_wp2_with fail
          go_meet
          case rel => exact ⟨rfl, hP2⟩
    case rest =>
      obtain ⟨rfl, hP2⟩ := hcut
      clear h1 y0 y1 y2 y3 y4 y5 y6 y7 hok hfit hM80 hMl hsp1
      obtain ⟨M2, T2, hM2, hT⟩ := hP2.out
      as_aux_lemma =>
        obtain ⟨a, c, S, hS, hC⟩ := hT
        obtain ⟨ml, hml⟩ : ∃ ml, ml = M2.length := ⟨_, rfl⟩
        obtain ⟨F, hF⟩ : ∃ F, F = (fb, rgO (.slice a M2.length c) T2) :: (S ++ [(qb, stO18 what x (.slice sa sl sc))]) := ⟨_, rfl⟩
        rw [← hF] at hC
        have hkS : Hid (∀ W, GuIs w.heap.size w W gb M2 T2 F → W.cell? ⟨fb, 0, none⟩ = some (.slice a ml c)) := Lib.hid fun W h => by
          rw [hF] at h
          rw [hml]
          exact h.cellF (k := fb) List.mem_cons_self rfl
        have hrd : Hid (∀ W, GuIs w.heap.size w W gb M2 T2 F → RdG W fb M2 a c) := Lib.hid fun W h => by
          refine ⟨by rw [← hml]; exact hkS.out W h, ?_⟩
          rw [hF] at h
          exact h.reads (X := (fb, rgO (.slice a M2.length c) T2) :: [(qb, stO18 what x (.slice sa sl sc))]) hS (by
            classical
            exact List.perm_iff_count.2 fun a => by simp only [List.count_append, List.count_cons]; omega)
        have hfin : Hid (∀ W, GuIs w.heap.size w W gb M2 T2 F → Pl18 w gb fb (i + 1) [] W) := Lib.hid fun W h => by
          rw [hF] at h
          exact ⟨M2, T2, hM2, a, c, S, hS, h.sub (((List.Sublist.refl S).append (List.nil_sublist _)).cons_cons _)⟩
        have hm81 : ml ≤ 81 := by omega
        have hC1 : GuIs w.heap.size w wc.drew gb M2 T2 F := hC.grow (drew_b _)
        have hs0 := Lib.hid (hkS.out _ hC1)
        obtain ⟨u, hu⟩ : ∃ u, u = soleG M2 := ⟨_, rfl⟩
        have cAll : Hid (Calls Tryd.prog 16 #[gup gb] wc.drew fun r w4 => ∃ a3 c3, r = .returned (.slice a3 ml c3) ∧ w4.cell? ⟨fb, 0, none⟩ = some (.slice a ml c) ∧ Hid (Calls Tryd.prog 15 #[.slice a3 ml c3, .slice a ml c] w4 fun r w5 => r = .returned (.bool true) ∧ GuIs w.heap.size w w5 gb M2 T2 F ∧
            w5.cell? ⟨fb, 0, none⟩ = some (.slice a ml c))) := Lib.hid (by
          refine (gu_all hC1).mono ?_
          rintro r w4 ⟨a3, c3, S3, rfl, h3, h4⟩
          have h5 := h4.sub (List.sublist_append_right S3 F)
          refine ⟨a3, c3, by rw [hml], hkS.out _ h5, Lib.hid ?_⟩
          rw [hml]
          refine (rsame_g (h4.reads (X := F) h3 List.perm_append_comm) (hrd.out _ h5).rd (by omega)).mono ?_
          rintro r w5 ⟨rfl, m, rfl⟩
          have h6 := h5.grow (drewN_below _ m)
          rw [← hml]
          exact ⟨rfl, h6, hkS.out _ h6⟩)
        have cLen : Hid (∀ W, GuIs w.heap.size w W gb M2 T2 F → Calls Tryd.prog 17 #[gup gb] W fun r w' => r = .returned (.int .i64 ml) ∧ GuIs w.heap.size w w' gb M2 T2 F ∧ w'.cell? ⟨fb, 0, none⟩ = some (.slice a ml c)) := Lib.hid fun W h => by
          refine (gu_len h).mono ?_
          rintro r w' ⟨rfl, h3⟩
          exact ⟨by rw [hml], h3, hkS.out _ h3⟩
        have cSole : Hid (∀ W, GuIs w.heap.size w W gb M2 T2 F → Calls Tryd.prog 18 #[gup gb] W fun r w' => r = .returned (.bool u) ∧ GuIs w.heap.size w w' gb M2 T2 F ∧ w'.cell? ⟨fb, 0, none⟩ = some (.slice a ml c)) := Lib.hid fun W h => by
          refine (gu_sole h hu.symm).mono ?_
          rintro r w' ⟨rfl, h3⟩
          exact ⟨rfl, h3, hkS.out _ h3⟩
        have cRSole : Hid (∀ W, GuIs w.heap.size w W gb M2 T2 F → Calls Tryd.prog 19 #[gup fb] W fun r w' => r = .returned (.bool u) ∧ Pl18 w gb fb (i + 1) [] w' ∧ w'.cell? ⟨fb, 0, none⟩ = some (.slice a ml c)) := Lib.hid fun W h => by
          refine (rsole_g (hrd.out _ h) (by omega)).mono ?_
          rintro r w' ⟨rfl, rfl⟩
          exact ⟨by rw [hu], hfin.out _ h, hkS.out _ h⟩
        clear hP2 hM2 hS hC hF hkS hrd hfin hu hml hC1
        go_wp2_with fail
        go_region_held3 (fun W => W.cell? ⟨fb, 0, none⟩ = some (.slice a ml c)) (first | exact kS | exact hs0.out) (first
          | (go_at_call 16; refine cAll.out.mono ?_; rintro r w4 ⟨a3, c3, rfl, kS, hsame⟩)
          | (go_at_call 15; refine hsame.out.mono ?_; rintro r w5 ⟨rfl, hQ, kS⟩)
          | (go_at_call 17; refine (cLen.out _ (by assumption)).mono ?_; rintro r w6 ⟨rfl, hQ, kS⟩)
          | (go_at_call 18; refine (cSole.out _ (by assumption)).mono ?_; rintro r w6 ⟨rfl, hQ, kS⟩)
          | (go_at_call 19; refine (cRSole.out _ (by assumption)).mono ?_; rintro r w6 ⟨rfl, hP3, kS⟩))
        replace hP3 := Lib.hid hP3
        clear kS hs0 cAll cLen cSole cRSole hQ
        go_wp2_with fail
        go_roundg (n - (i + 1))
        case measure => omega
        case rel => exact ⟨i + 1, by go_num, by omega, hP3⟩
end
end Go.Proofs.YtpnkaamijjeckaaDoor
