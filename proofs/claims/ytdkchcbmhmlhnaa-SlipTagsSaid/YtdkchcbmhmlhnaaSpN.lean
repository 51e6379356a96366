/- SlipTags, walked. -/
import Derived.Test.YtdkchcbmhmlhnaaSpL
import Derived.Deep.DeepCutAuto
import Derived.Deep.CutBlock
namespace Go.Proofs.Ytdkchcbmhmlhnaa
open Go.RowKit
set_option linter.unusedVariables false
set_option linter.unusedSectionVars false
set_option linter.unusedSimpArgs false
set_option maxRecDepth 100000

def upF (t : Nat) : Nat → Bool := fun j => decide (1 ≤ j ∧ j < t)
theorem upF_one : upF 1 = fun _ => false := by
  funext j
  simp only [upF, decide_eq_false_iff_not]
  omega
theorem upF_zero (t : Nat) : upF t 0 = false := by simp [upF]
theorem upF_next {t : Nat} (h : 1 ≤ t) : updB (upF t) t true = upF (t + 1) := by
  funext j
  unfold updB upF
  split
  · rename_i e
    symm
    rw [decide_eq_true_iff]
    omega
  · simp only [decide_eq_decide]
    omega
theorem row_step {p : Nat → Bool} {i j : Nat} (e : ¬ i = j) : (p i && decide (j ≤ i)) = (p i && decide (j + 1 ≤ i)) := by
  congr 1
  rw [decide_eq_decide]
  omega
theorem slT_none (k : Nat) : slT (tgL (fun _ => false) k) = [] := by simp [slT, tgL]

set_option maxHeartbeats 4000000 in
theorem tags17_walk {w : World} {a : Option Addr} {n cap t0 m : Nat} {zs : List Int} (hz : IntsAt .u8 w a n zs) (ht : t0 < 256) (hm : t0 % 60 = m) :
    Calls Try.prog 4 #[.int .u8 t0, .slice a n cap] w fun e w' => e = .returned (.bool true) ∧ Below w.heap.size w w' := by
  have c1 := Lib.hid (known17_true w)
  have hlen := hz.size
  have m60 : m < 60 := by omega
  have hmi : (t0 : Int) % 60 = m := by omega
  have hmt : (t0 : Int).tmod 60 = m := by rw [Int.tmod_eq_emod_of_nonneg (by omega)]; exact hmi
  have m0 : (0 : Int) ≤ m := by omega
  have m9 : (m : Int) < 60 := by omega
  have t00 : (0 : Int) ≤ t0 := by omega
  have t01 : (t0 : Int) < 256 := by omega
  obtain ⟨k, hk⟩ : ∃ k : Nat, k = m + 1 := ⟨_, rfl⟩
  have hki : ((m : Int) + 1) = k := by omega
  replace hmi := Lib.hid hmi
  replace hz := Lib.hid hz
  replace hm := Lib.hid hm
  replace hk := Lib.hid hk
  replace hki := Lib.hid hki
  go_enter Try.func4, Try.ntmps4
  go_wp2_with fail
  refine c1.out.mono ?_
  rintro e w1 ⟨rfl, hb⟩
  by_cases hn : (n : Int) > 40
  · replace hb := Lib.hid hb
    go_wp2_with fail
    go_ret
    exact ⟨rfl, hb.out⟩
  have hn5 : (n : Int) ≤ 40 := by omega
  have c2 := Lib.hid (sl_new ((St.start w).grow hb))
  clear c1 hb hn
  go_wp2_with fail
  refine c2.out.mono ?_
  rintro e w2 ⟨rfl, h⟩
  generalize w1.heap.size = sb at *
  have k1 : 1 ≤ k := by have := hk.out; omega
  have k60 : k ≤ 60 := by have := hk.out; omega
  have h0 := h.alloc (rowT k fun _ => false)
  rw [← slT_none k, ← upF_one] at h0
  replace h0 := Lib.hid h0
  have hmk := mk_bools17 w2 k (by omega)
  rw [← upF_one] at hmk
  clear c2 h
  go_upto_region 7 with fail
  rw [hki.out]
  generalize w2.heap.size = ib at *
  have k0 : (1 : Int) ≤ k := by omega
  have k9 : (k : Int) ≤ 60 := by omega
  clear hmi hm hki hk hmt m0 m9 m60 t00 t01
  go_wp2_with fail
  go_loopg [8] (k + 1) (fun g v8 wr => ∃ t : Nat, v8 = .int .i64 t ∧ (1 ≤ t ∧ t ≤ k + 1) ∧ t + g = k + 2 ∧ Hid (SlipsIs w.heap.size w wr sb (slT (tgL (upF t) k)) [(ib, rowT k (upF t))]))
  case atStart => exact ⟨1, rfl, ⟨by omega, by omega⟩, by omega, h0⟩
  case round =>
    clear h0 hmk
    obtain ⟨t, rfl, ⟨ht1, ht2⟩, htg, h⟩ := hrel
    have t0 : (1 : Int) ≤ t := by omega
    by_cases htk : t ≤ k
    · have t1 : (t : Int) ≤ k := by omega
      have hup : upF t t = false := by simp [upF]
      have ca := Lib.hid (add_lo (t := t) (q := t) (c := []) (ok := true) (N := slT (tgL (upF (t + 1)) k)) (add_slT_ok (upF_zero t) hup ht1 htk (by omega)) (by rw [add_slT (upF_zero t) hup ht1 htk (by omega), upF_next ht1]) (by simp) h.out)
      clear h hup
      go_wp2_with fail
      refine ca.out.mono ?_
      rintro r w5 ⟨rfl, h5⟩
      have e1 := h5.rowAt (j := t) List.mem_cons_self htk
      have e2 := h5.rowSoft (f := upF t) (k := k) List.mem_cons_self t
      have h6 := h5.rowSet t true
      rw [upF_next ht1] at h6
      replace h6 := Lib.hid h6
      clear ca h5
      go_wp2_with fail
      go_roundg (k + 1 - t)
      case measure => omega
      case rel => exact ⟨t + 1, by go_num, ⟨by omega, by omega⟩, by omega, h6⟩
    · have hp0 : Hid (upF t 0 = false) := Lib.hid (upF_zero t)
      have hts : t = k + 1 := by omega
      generalize upF t = p at *
      clear htk htg ht1 ht2 t0
      subst hts
      go_wp2_with fail
      go_loopg [9] n (fun g v9 wr => ∃ (i : Nat) (p : Nat → Bool), v9 = .int .i64 i ∧ i + g = n ∧ Hid (p 0 = false) ∧ Hid (SlipsIs w.heap.size w wr sb (slT (tgL p k)) [(ib, rowT k p)]))
      case atStart => exact ⟨0, p, rfl, by omega, hp0, h⟩
      case round =>
        clear h hp0
        obtain ⟨i, p, rfl, hi, hp0, h⟩ := hrel
        have i0 : (0 : Int) ≤ i := by omega
        by_cases hlt : i < n
        · have i1 : (i : Int) < n := by omega
          have hx : zs[i]? = some zs[i] := List.getElem?_eq_getElem (by omega)
          generalize zs[i]'(by omega) = z at hx
          obtain ⟨ba, oa, rfl, cz⟩ := (hz.out.below h.out.below).at_ i z hx
          obtain ⟨z0, z1⟩ := bounds_u8 (hz.out.wf z (List.mem_of_getElem? hx))
          obtain ⟨z, rfl⟩ := Int.eq_ofNat_of_zero_le z0
          obtain ⟨q, hq⟩ : ∃ q, q = z % k := ⟨_, rfl⟩
          have hqk : q < k := by rw [hq]; exact Nat.mod_lt _ (by omega)
          have hq1 : (z : Int) % k = q := by rw [hq]; simp
          have hnz : ¬ (k : Int) = 0 := by omega
          replace hq1 := Lib.hid hq1
          replace hq := Lib.hid hq
          clear hx
          go_upto_region 18 with fail
          obtain ⟨t, htq⟩ : ∃ t, t = q + 1 := ⟨_, rfl⟩
          have hw : wrap64 ((q : Int) + 1) = t := by rw [IntWalk.wrap64_in _ (by omega)]; omega
          simp only [hq1.out, hw]
          have ht1 : 1 ≤ t := by omega
          have htk : t ≤ k := by omega
          have t1 : (1 : Int) ≤ t := by omega
          have t2 : (t : Int) ≤ k := by omega
          have tne : ¬ (t : Int) = 0 := by omega
          clear hw hq1 hq hnz hqk htq
          have hdrop := Lib.hid (drop_slT (t := t) hp0.out (by omega : k ≤ 1000000))
          by_cases he : z % 2 = 0
          · have hz2 : (z : Int).tmod 2 = 0 := by rw [Int.tmod_eq_emod_of_nonneg (by omega)]; omega
            have hp0' : Hid (updB p t false 0 = false) := Lib.hid (by unfold updB; split <;> first | rfl | exact hp0.out)
            by_cases hpt : p t = true
            · have cp := Lib.hid (take_lo (t := t) (q := t) (c := []) (has_slT.2 ⟨htk, hpt⟩) hdrop.out h.out)
              have hfin : Hid (∀ w5, SlipsIs w.heap.size w w5 sb (slT (tgL (updB p t false) k)) [(ib, rowT k p)] → SlAt (w5.alloc (slO (lO t t []))) w5.heap.size (lO t t []) ∧ (w5.alloc (slO (lO t t []))).cell? ⟨ib, t, none⟩ = some (.bool true) ∧ (w5.alloc (slO (lO t t []))).frozen? ⟨ib, t, none⟩ = false ∧
                  SlipsIs w.heap.size w ((w5.alloc (slO (lO t t []))).setCell ⟨ib, t, none⟩ (.bool false)) sb (slT (tgL (updB p t false) k)) [(ib, rowT k (updB p t false))]) := Lib.hid fun w5 h5 => by
                have h6 := h5.alloc (slO (lO t t []))
                have m1 : (ib, rowT k p) ∈ (w5.heap.size, slO (lO t t [])) :: [(ib, rowT k p)] := by simp
                have r1 := h6.rowAt m1 htk
                rw [hpt] at r1
                exact ⟨(h6.slip List.mem_cons_self).1, r1, h6.rowSoft m1 t, ((h6.permF (List.Perm.swap _ _ _)).rowSet t false).sub ((List.sublist_cons_self _ _).cons_cons _ |>.trans (List.Sublist.refl _))⟩
              clear h hdrop he hp0 htk
              go_wp2_with fail
              refine cp.out.mono ?_
              rintro r w5 ⟨rfl, h5⟩
              obtain ⟨⟨x0, x1, -⟩, r1, r2, h6⟩ := hfin.out _ h5
              replace h6 := Lib.hid h6
              clear cp hfin h5
              go_wp2_with fail
              go_roundg (n - (i + 1))
              case measure => omega
              case rel => exact ⟨i + 1, _, by go_num, by omega, hp0', h6⟩
            · have hpt2 : p t = false := by simpa using hpt
              have hsame : Hid (slT (tgL (updB p t false) k) = slT (tgL p k)) := Lib.hid (by
                rw [slT_congr fun j hj => ?_]
                unfold updB
                split
                · rename_i e
                  rw [e, hpt2]
                · rfl)
              have ct := Lib.hid (sl_take_no (t := t) h.out (fun hm => by
                rw [tags_slT] at hm
                exact hpt (mem_tgN.1 hm).2))
              have hfin : Hid (∀ w5, SlipsIs w.heap.size w w5 sb (slT (tgL p k)) [(ib, rowT k p)] → SlAt (w5.alloc (slO z0L)) w5.heap.size z0L ∧ (w5.alloc (slO z0L)).cell? ⟨ib, t, none⟩ = some (.bool false) ∧ (w5.alloc (slO z0L)).frozen? ⟨ib, t, none⟩ = false ∧
                  SlipsIs w.heap.size w ((w5.alloc (slO z0L)).setCell ⟨ib, t, none⟩ (.bool false)) sb (slT (tgL (updB p t false) k)) [(ib, rowT k (updB p t false))]) := Lib.hid fun w5 h5 => by
                have h6 := h5.alloc (slO z0L)
                have m1 : (ib, rowT k p) ∈ (w5.heap.size, slO z0L) :: [(ib, rowT k p)] := by simp
                have r1 := h6.rowAt m1 htk
                rw [hpt2] at r1
                rw [hsame.out]
                exact ⟨(h6.slip List.mem_cons_self).1, r1, h6.rowSoft m1 t, ((h6.permF (List.Perm.swap _ _ _)).rowSet t false).sub ((List.sublist_cons_self _ _).cons_cons _ |>.trans (List.Sublist.refl _))⟩
              clear h hdrop he hp0 htk hpt hpt2 hsame
              go_wp2_with fail
              refine ct.out.mono ?_
              rintro r w5 ⟨rfl, h5⟩
              obtain ⟨⟨x0, x1, -⟩, r1, r2, h6⟩ := hfin.out _ h5
              replace h6 := Lib.hid h6
              clear ct hfin h5
              go_wp2_with fail
              go_roundg (n - (i + 1))
              case measure => omega
              case rel => exact ⟨i + 1, _, by go_num, by omega, hp0', h6⟩
          · have hz2 : (z : Int).tmod 2 = 1 := by rw [Int.tmod_eq_emod_of_nonneg (by omega)]; omega
            obtain ⟨W, hW⟩ : ∃ W, W = slT (tgL (fun j => p j && decide (j ≤ t)) k) := ⟨_, rfl⟩
            obtain ⟨N, hN⟩ : ∃ N, N = slT (tgL (fun j => p j && decide (t + 1 ≤ j)) k) := ⟨_, rfl⟩
            have cu := Lib.hid (sl_upto h.out t (m := t) (by rw [maxT, if_neg tne]) (W := W) (N := N) (by rw [hW, upto_slT hp0.out (by omega)]) (by rw [hN, over_slT hp0.out (by omega)]))
            obtain ⟨L, hL⟩ : ∃ L, L = W.length := ⟨_, rfl⟩
            obtain ⟨f, hf⟩ : ∃ f : Nat → Bool, f = fun j => p j && decide (j ≤ t) := ⟨_, rfl⟩
            have hLc : Hid (L = cntT f (t + 1)) := Lib.hid (by
              rw [hL, hW, slT_len, ← hf]
              exact (cntT_tail f (by omega) fun n h1 h2 => by rw [hf]; simp; omega).symm)
            have hat : Hid (∀ j, j ≤ t → p j = true → W[cntT f j]? = some (lO j j [])) := Lib.hid fun j h1 h2 => by
              rw [hW, ← hf]
              exact slT_at (by rw [hf]; simp [h1, h2]) (by omega)
            have hfj : Hid (∀ j, j ≤ t → f j = p j) := Lib.hid fun j h1 => by rw [hf]; simp [h1]
            have hf0 : Hid (f 0 = false) := Lib.hid (by rw [hf]; simp [hp0.out])
            have hL60 : (L : Int) ≤ 61 := by
              have := cntT_le f (t + 1)
              rw [← hLc.out] at this
              omega
            have hrow1 : Hid (rowT k p = rowT k fun j => p j && decide (1 ≤ j)) := Lib.hid (rowT_congr fun j hj => by
              cases j with
              | zero => simp [hp0.out]
              | succ j => simp)
            replace hN := Lib.hid hN
            clear h hdrop he hp0 hW hf tne
            go_wp2_with fail
            refine cu.out.mono ?_
            rintro r w5 ⟨aw, cw, S, rfl, hs, h5⟩
            rw [← hL]
            rw [hrow1.out] at h5
            replace h5 := Lib.hid h5
            rw [← hL] at hs
            replace hs := Lib.hid hs
            replace hL := Lib.hid hL
            clear cu hrow1
            go_wp2_with fail
            go_loopg [14, 15] (t + 1) (fun g v14 v15 wr => ∃ j : Nat, v14 = .int .i64 (cntT f j) ∧ v15 = .int .i64 j ∧ (1 ≤ j ∧ j ≤ t + 1) ∧ j + g = t + 2 ∧ Hid (SlipsIs w.heap.size w wr sb N (S ++ [(ib, rowT k fun i => p i && decide (j ≤ i))])))
            case atStart => exact ⟨1, by rw [cntT_succ, hf0.out]; rfl, rfl, ⟨by omega, by omega⟩, by omega, h5⟩
            case round =>
              clear h5
              obtain ⟨j, rfl, rfl, ⟨hj1, hj2⟩, hjg, h⟩ := hrel
              have j1 : (1 : Int) ≤ j := by omega
              by_cases hjt : j ≤ t
              · have j2 : (j : Int) ≤ t := by omega
                have jk : (j : Int) ≤ k := by omega
                have m1 : (ib, rowT k fun i => p i && decide (j ≤ i)) ∈ S ++ [(ib, rowT k fun i => p i && decide (j ≤ i))] := List.mem_append_right _ List.mem_cons_self
                have r1 := h.out.rowAt m1 (j := j) (by omega)
                have r2 := h.out.rowSoft m1 j
                by_cases hpj : p j = true
                · rw [show (p j && decide (j ≤ j)) = true by simp [hpj]] at r1
                  have hsucc : cntT f (j + 1) = cntT f j + 1 := by rw [cntT_succ, hfj.out j hjt, hpj]; rfl
                  have hw1 := hat.out j hjt hpj
                  have hml : cntT f j < L := by rw [hL.out]; exact (List.getElem?_eq_some_iff.1 hw1).1
                  obtain ⟨bw, ow, rfl, x0, -⟩ := (h.out.reads (X := [(ib, rowT k fun i => p i && decide (j ≤ i))]) (L := W) (a := aw) (c := cw) (by have := hs.out; rw [hL.out] at this; exact this) List.perm_append_comm) _ _ hw1
                  have x0 : wr.cell? ⟨bw, ow + cntT f j * 13, none⟩ = some (.int .i64 j) := x0
                  have h6 : SlipsIs w.heap.size w (wr.setCell ⟨ib, j, none⟩ (.bool false)) sb N (S ++ [(ib, rowT k fun i => p i && decide (j + 1 ≤ i))]) := by
                    have h7 := ((h.out.permF (List.perm_append_singleton _ _)).rowSet j false).permF (List.perm_append_singleton _ _).symm
                    rw [rowT_congr (g := fun i => p i && decide (j + 1 ≤ i)) (fun i hi => ?_)] at h7
                    · exact h7
                    · unfold updB
                      split
                      · rename_i e
                        rw [e, show decide (j + 1 ≤ j) = false by simp, Bool.and_false]
                      · rename_i e
                        exact row_step e
                  replace h6 := Lib.hid h6
                  replace hsucc := Lib.hid hsucc
                  have hml1 : ((cntT f j : Nat) : Int) < L := by omega
                  clear h m1 hw1 hpj
                  generalize cntT f j = m at *
                  go_wp2_with fail
                  go_roundg (t + 1 - j)
                  case measure => omega
                  case rel => exact ⟨j + 1, by rw [hsucc.out]; go_num, by go_num, ⟨by omega, by omega⟩, by omega, h6⟩
                · have hpj2 : p j = false := by simpa using hpj
                  rw [show (p j && decide (j ≤ j)) = false by simp [hpj2]] at r1
                  have hsucc : cntT f (j + 1) = cntT f j := by rw [cntT_succ, hfj.out j hjt, hpj2]; rfl
                  have h6 : SlipsIs w.heap.size w wr sb N (S ++ [(ib, rowT k fun i => p i && decide (j + 1 ≤ i))]) := by
                    have h7 := h.out
                    rw [rowT_congr (g := fun i => p i && decide (j + 1 ≤ i)) (fun i hi => ?_)] at h7
                    · exact h7
                    · by_cases e : i = j
                      · rw [e, hpj2]
                        rfl
                      · exact row_step e
                  replace h6 := Lib.hid h6
                  replace hsucc := Lib.hid hsucc
                  clear h m1 hpj hpj2
                  generalize cntT f j = m at *
                  go_wp2_with fail
                  go_roundg (t + 1 - j)
                  case measure => omega
                  case rel => exact ⟨j + 1, by rw [hsucc.out], by go_num, ⟨by omega, by omega⟩, by omega, h6⟩
              · have hjt1 : j = t + 1 := by omega
                subst hjt1
                rw [← hLc.out]
                have h6 : Hid (SlipsIs w.heap.size w wr sb (slT (tgL (fun j => p j && decide (t + 1 ≤ j)) k)) [(ib, rowT k fun i => p i && decide (t + 1 ≤ i))]) := Lib.hid (by
                  rw [← hN.out]
                  exact h.out.sub (List.sublist_append_right _ _))
                have hp9 : Hid ((fun j => p j && decide (t + 1 ≤ j)) 0 = false) := Lib.hid (by simp)
                clear h hjt hj1 hj2 hat hfj hf0 hLc hs hL hN
                go_wp2_with fail
                go_roundg (n - (i + 1))
                case measure => omega
                case rel => exact ⟨i + 1, _, by go_num, by omega, hp9, h6⟩
        · have fin := Lib.hid h.out.below
          clear h hp0
          have hin : i = n := by omega
          subst hin
          go_wp2_with fail
          go_ret
          exact ⟨rfl, fin.out⟩
theorem tags17_row {a0 : Option Addr} {n cap : Nat} {t : Int} {w : World} (r0 : Read Try.prog w 5 [.int .u8 t]) (r1 : Read Try.prog w 46 [.slice a0 n cap]) :
    Calls Try.prog 4 #[.int .u8 t, .slice a0 n cap] w fun e w' => e = .returned (.bool true) ∧ Below w.heap.size w w' := by
  have u8 : Try.prog.underlying 5 = some (.int .u8) := by kernel_rfl
  obtain ⟨rd, hr⟩ := r1.slice (by kernel_rfl : Try.prog.underlying 46 = some (.slice 5)) (by decide +kernel)
  obtain ⟨zs, hz⟩ := IntsAt.rows u8 (by kernel_rfl) hr
  obtain ⟨y, hy, wf⟩ := r0.int u8
  simp only [List.cons.injEq, Value.int.injEq, true_and, and_true] at hy
  subst hy
  obtain ⟨h1, h2⟩ := bounds_u8 wf
  obtain ⟨t, rfl⟩ := Int.eq_ofNat_of_zero_le h1
  exact tags17_walk hz (by omega) rfl
end Go.Proofs.Ytdkchcbmhmlhnaa
