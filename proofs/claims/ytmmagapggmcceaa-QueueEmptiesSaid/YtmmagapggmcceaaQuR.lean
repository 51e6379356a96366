/- The statement of layer 16 about a queue that is emptied. -/
import Derived.Test.YtmmagapggmcceaaQuQ
namespace Go.Proofs.Ytmmagapggmcceaa
open Go.RowKit
open Go.ChangeMaps (setBlock)
set_option linter.unusedVariables false
set_option linter.unusedSectionVars false
set_option linter.unusedSimpArgs false
set_option maxRecDepth 100000

set_option maxHeartbeats 2000000 in
theorem empties_walk {w : World} {a : Option Addr} {n cap tt t now : Nat} {zs : List Int} (hz : IntsAt .u8 w a n zs) (htt : tt < 256) (ht : tt % 10 = t) (hnow : now < 256) :
    Calls Try.prog 6 #[.slice a n cap, .int .u8 tt, .int .u8 now] w fun e w' => e = .returned (.bool true) ∧ Below w.heap.size w w' := by
  have c1 := Lib.hid (known16_true w)
  have hlen := hz.size
  have t10 : t < 10 := by omega
  have hti : (tt : Int) % 10 = t := by omega
  have htm : (tt : Int).tmod 10 = t := by rw [Int.tmod_eq_emod_of_nonneg (by omega)]; exact hti
  have ht0 : (0 : Int) ≤ t := by omega
  have ht9 : (t : Int) < 10 := by omega
  have hn0 : (0 : Int) ≤ now := by omega
  have hn255 : (now : Int) < 256 := by omega
  have htt0 : (0 : Int) ≤ tt := by omega
  have htt1 : (tt : Int) < 256 := by omega
  replace hti := Lib.hid hti
  replace hz := Lib.hid hz
  replace ht := Lib.hid ht
  go_enter Try.func6, Try.ntmps6
  go_wp2_with fail
  refine c1.out.mono ?_
  rintro e w1 ⟨rfl, hb⟩
  by_cases hn : (n : Int) > 40
  · replace hb := Lib.hid hb
    go_wp2_with fail
    go_ret
    exact ⟨rfl, hb.out⟩
  have hn5 : (n : Int) ≤ 40 := by omega
  have c2 := Lib.hid (new_to (m := 0) (t := t) (p := 3) (b := 0) ((St.start w).grow hb))
  clear c1 hb hn
  go_wp2_with fail
  refine c2.out.mono ?_
  rintro e w2 ⟨qb, rfl, h⟩
  replace h := Lib.hid h
  clear c2
  obtain ⟨Z, hZ⟩ : ∃ Z : Nat → Int, Z = fun k => zs.getD k 0 := ⟨_, rfl⟩
  have hZz : Hid (∀ k z, zs[k]? = some z → Z k = z) := Lib.hid fun k z hk => by rw [hZ]; simp [hk]
  clear hZ
  go_wp2_with fail
  go_loopg [8] n (fun g v8 wr => ∃ (i : Nat) (M : List Ent), v8 = .int .i64 i ∧ i + g = n ∧ Hid (AllU Z t i M) ∧ Hid (QuIs w.heap.size w wr qb (oO 0 t 3 0) M []))
  case atStart => exact ⟨0, [], rfl, by omega, Lib.hid AllU.nil, h⟩
  case round =>
    clear h
    obtain ⟨i, M, rfl, hi, hM, h⟩ := hrel
    have hi0 : (0 : Int) ≤ i := by omega
    by_cases hlt : i < n
    · have hi1 : (i : Int) < n := by omega
      have hx : zs[i]? = some zs[i] := List.getElem?_eq_getElem (by omega)
      generalize zs[i]'(by omega) = z at hx
      have hzw := (hz.out.below h.out.below)
      obtain ⟨ba, oa, rfl, cz⟩ := hzw.at_ i z hx
      obtain ⟨z0, z1⟩ := bounds_u8 (hz.out.wf z (List.mem_of_getElem? hx))
      have cp := Lib.hid (put_u h.out hM.out (hZz.out i z hx) (by omega) t10 (by omega))
      clear hx hzw hM h
      go_wp2_with fail
      refine cp.out.mono ?_
      rintro r w3 ⟨a3, c3, M2, rfl, hM2, h2⟩
      replace hM2 := Lib.hid hM2
      replace h2 := Lib.hid h2
      clear cp cz
      go_wp2_with fail
      go_roundg (n - (i + 1))
      case measure => omega
      case rel => exact ⟨i + 1, M2, by go_num, by omega, hM2, h2⟩
    · have hin : i = n := by omega
      subst hin
      have hMl := hM.out.len
      obtain ⟨G, hG⟩ : ∃ G, (M.filter fun x => goneE x now) = G := ⟨_, rfl⟩
      obtain ⟨L, hL⟩ : ∃ L, (M.filter fun x => !goneE x now) = L := ⟨_, rfl⟩
      have hboth := filter_both (fun x => goneE x now) M
      rw [hG, hL, hMl] at hboth
      have hg : Hid (∀ (k : Nat) (e : Ent), G[k]? = some e → 0 < t ∧ ∃ j, j < i ∧ e.id = (j : Int) + 1 ∧ e.til = (j : Int) + t ∧ (j : Int) + t ≤ now) := Lib.hid fun k e he => hM.out.gone (by rw [hG]; exact he)
      have hl : Hid (∀ (k : Nat) (e : Ent), L[k]? = some e → ∃ j, j < i ∧ e.id = (j : Int) + 1 ∧ e.prio = min 3 (Z j) ∧ (0 < t → (now : Int) < e.til)) := Lib.hid fun k e he => hM.out.left (by rw [hL]; exact he)
      have ca := qu_all h.out
      have cg : Hid (∀ W S, QuIs w.heap.size w W qb (oO 0 t 3 0) M S → Calls Try.prog 14 #[rptr qb, .int .i64 now] W (QAllR w.heap.size w qb (oO 0 t 3 0) M S G L)) := Lib.hid fun W S h => by
        have := qu_gone h now
        rw [hG, hL] at this
        exact this
      have cp : Hid (∀ W S, QuIs w.heap.size w W qb (oO 0 t 3 0) L S → Calls Try.prog 15 #[rptr qb] W (QAllR w.heap.size w qb (oO 0 t 3 0) L S L [])) := Lib.hid fun W S h => qu_purge h (by omega)
      unfold QAllR at ca
      rw [hMl] at ca
      replace ca := Lib.hid ca
      obtain ⟨gn, hgn⟩ : ∃ gn, G.length = gn := ⟨_, rfl⟩
      obtain ⟨ln, hln⟩ : ∃ ln, L.length = ln := ⟨_, rfl⟩
      rw [hgn, hln] at hboth
      have hbi : (gn : Int) + ln = i := by omega
      have gn0 : (0 : Int) ≤ gn := by omega
      have ln0 : (0 : Int) ≤ ln := by omega
      clear h hM hMl hG hL hboth
      go_wp2_with fail
      refine ca.out.mono ?_
      rintro r w3 ⟨a3, c3, S3, rfl, hs3, h3⟩
      have cg1 := Lib.hid (cg.out _ _ h3)
      clear ca cg hs3 h3
      go_wp2_with fail
      refine cg1.out.mono ?_
      rintro r w4 ⟨a4, c4, S4, rfl, hs4, h4⟩
      have cp1 := Lib.hid (cp.out _ _ h4)
      replace hs4 := Lib.hid hs4
      rw [hgn]
      clear cg1 cp h4
      go_wp2_with fail
      refine cp1.out.mono ?_
      rintro r w5 ⟨a5, c5, S5, rfl, hs5, h5⟩
      have cl := Lib.hid (qu_len h5)
      replace hs5 := Lib.hid hs5
      rw [hln]
      clear cp1 h5
      go_wp2_with fail
      refine cl.out.mono ?_
      rintro r w6 ⟨rfl, h6⟩
      have cq := Lib.hid (qu_purge h6 (by simp))
      clear cl h6
      simp only [List.length_nil, Int.cast_ofNat_Int]
      go_wp2_with fail
      refine cq.out.mono ?_
      rintro r w7 ⟨a7, c7, S7, rfl, -, h7⟩
      have cr := Lib.hid (qu_gone h7 1000)
      clear cq h7
      simp only [List.length_nil]
      go_wp2_with fail
      refine cr.out.mono ?_
      rintro r w8 ⟨a8, c8, S8, rfl, -, h8⟩
      clear cr
      simp only [List.filter_nil, List.length_nil] at h8 ⊢
      obtain ⟨FF, hFF⟩ : ∃ FF, S8 ++ (S7 ++ (S5 ++ (S4 ++ (S3 ++ [])))) = FF := ⟨_, rfl⟩
      have p4 : FF.Perm ((S8 ++ (S7 ++ (S5 ++ S3))) ++ S4) := by
        classical
        rw [← hFF]
        exact List.perm_iff_count.2 fun a => by simp only [List.count_append, List.count_nil]; omega
      have p5 : FF.Perm ((S8 ++ (S7 ++ (S4 ++ S3))) ++ S5) := by
        classical
        rw [← hFF]
        exact List.perm_iff_count.2 fun a => by simp only [List.count_append, List.count_nil]; omega
      rw [hFF] at h8
      have rg : Hid (∀ W, QuIs w.heap.size w W qb (oO 0 t 3 0) [] FF → ReadEs W a4 G) := Lib.hid fun W h => h.reads hs4.out p4
      have rl : Hid (∀ W, QuIs w.heap.size w W qb (oO 0 t 3 0) [] FF → ReadEs W a5 L) := Lib.hid fun W h => h.reads hs5.out p5
      replace h8 := Lib.hid h8
      clear hs4 hs5 p4 p5 hFF
      go_wp2_with fail
      go_loopg [14] gn (fun g v14 wt => ∃ k : Nat, v14 = .int .i64 k ∧ k + g = gn ∧ Hid (QuIs w.heap.size w wt qb (oO 0 t 3 0) [] FF))
      case atStart => exact ⟨0, rfl, by omega, h8⟩
      case round =>
        clear h8
        obtain ⟨k, rfl, hk, h⟩ := hrel
        have k0 : (0 : Int) ≤ k := by omega
        by_cases hlk : k < gn
        · have k1 : (k : Int) < gn := by omega
          have hx : G[k]? = some G[k] := List.getElem?_eq_getElem (by omega)
          generalize G[k]'(by omega) = e at hx
          obtain ⟨htp, j, hj, hid, htil, hnw⟩ := hg.out k e hx
          obtain ⟨ba, oa, rfl, d0, -, -, -, -, -, -, d7, -⟩ := rg.out _ h.out k e hx
          rw [hid] at d0
          rw [htil] at d7
          obtain ⟨d, hd⟩ : ∃ d, d = (j : Int) + 1 := ⟨_, rfl⟩
          obtain ⟨u, hu⟩ : ∃ u, u = (j : Int) + t := ⟨_, rfl⟩
          rw [← hd] at d0
          rw [← hu] at d7
          have dd1 : 1 ≤ d := by omega
          have dd2 : d ≤ 40 := by omega
          have uu1 : u ≤ now := by omega
          have uu0 : 0 ≤ u := by omega
          have hdu : d - 1 + (t : Int) = u := by omega
          have htB : ((t : Int) == 0) = false := by rw [beq_eq_false_iff_ne]; omega
          have hdr : Hid (∀ m, QuIs w.heap.size w (wr.drewN m) qb (oO 0 t 3 0) [] FF) := Lib.hid fun m => h.out.grow (drewN_below _ m)
          clear hx hid htil hnw h hd hu hj htp
          go_wp2_with fail
          have hC : ¬ (now : Int) < u := by omega
          go_quiet (fail)
          go_wp2_with fail
          go_roundg (gn - (k + 1))
          case measure => omega
          case rel => exact ⟨k + 1, by go_num, by omega, Lib.hid (hdr.out _)⟩
        · clear hg rg hk
          replace h := h
          go_wp2_with fail
          go_loopg [15] ln (fun g v15 wt => ∃ k : Nat, v15 = .int .i64 k ∧ k + g = ln ∧ Hid (QuIs w.heap.size w wt qb (oO 0 t 3 0) [] FF))
          case atStart => exact ⟨0, rfl, by omega, h⟩
          case round =>
            clear h
            obtain ⟨k, rfl, hk, h⟩ := hrel
            have k0 : (0 : Int) ≤ k := by omega
            by_cases hlk : k < ln
            · have k1 : (k : Int) < ln := by omega
              have hx : L[k]? = some L[k] := List.getElem?_eq_getElem (by omega)
              generalize L[k]'(by omega) = e at hx
              obtain ⟨j, hj, hid, hpr, hlt2⟩ := hl.out k e hx
              obtain ⟨ba, oa, rfl, d0, -, -, -, -, d5, -, d7, -⟩ := rl.out _ h.out k e hx
              rw [hid] at d0
              have hy : zs[j]? = some zs[j] := List.getElem?_eq_getElem (by omega)
              generalize zs[j]'(by omega) = z at hy
              rw [hpr, hZz.out j z hy] at d5
              obtain ⟨z0, z1⟩ := bounds_u8 (hz.out.wf z (List.mem_of_getElem? hy))
              obtain ⟨bz, oz, rfl, cz⟩ := (hz.out.below h.out.below).at_ j z hy
              obtain ⟨d, hd⟩ : ∃ d, d = (j : Int) + 1 := ⟨_, rfl⟩
              obtain ⟨u, hu⟩ : ∃ u, u = e.til := ⟨_, rfl⟩
              rw [← hd] at d0
              rw [← hu] at d7 hlt2
              have dd1 : 1 ≤ d := by omega
              have dd2 : d ≤ 40 := by omega
              have dj : d - 1 = (j : Int) := by omega
              have j0 : (0 : Int) ≤ j := by omega
              have j1 : (j : Int) < i := by omega
              have hwj : IntKind.i64.wrap (j : Int) = j := by rw [IntKind.wrap_i64]; omega
              have hdr : Hid (∀ m, QuIs w.heap.size w (wr.drewN m) qb (oO 0 t 3 0) [] FF) := Lib.hid fun m => h.out.grow (drewN_below _ m)
              have hut : (0 < (t : Int) → (now : Int) < u) := fun h => hlt2 (by omega)
              replace hut := Lib.hid hut
              clear hx hid hpr h hd hu hj hlt2 hy
              obtain ⟨mz, hmz⟩ : ∃ mz, mz = min 3 z := ⟨_, rfl⟩
              rw [← hmz] at d5
              have hmi : (if z < 3 then z else 3) = mz := by
                rw [hmz]
                split <;> omega
              have hwz : IntKind.i64.wrap z = z := by rw [IntKind.wrap_i64]; omega
              clear hmz
              by_cases htp : 0 < (t : Int)
              · have huu := hut.out htp
                clear hut
                go_wp2_with fail
                have hC : ¬ u ≤ (now : Int) := by omega
                have hD : 0 < t := by omega
                go_quiet (fail)
                go_wp2_with fail
                go_roundg (ln - (k + 1))
                case measure => omega
                case rel => exact ⟨k + 1, by go_num, by omega, Lib.hid (hdr.out _)⟩
              · clear hut
                go_wp2_with fail
                have hC : ¬ 0 < t := by omega
                go_quiet (fail)
                go_wp2_with fail
                go_roundg (ln - (k + 1))
                case measure => omega
                case rel => exact ⟨k + 1, by go_num, by omega, Lib.hid (hdr.out _)⟩
            · have cv := Lib.hid (put_v h.out t10)
              clear h hk hl rl
              go_wp2_with fail
              refine cv.out.mono ?_
              rintro r w10 ⟨a10, c10, M10, rfl, hM10, h10⟩
              have cl := Lib.hid (len_op h10 hM10)
              clear cv h10 hM10
              go_wp2_with fail
              refine cl.out.mono ?_
              rintro r w11 ⟨rfl, h11, -⟩
              have fin := Lib.hid h11.below
              clear cl h11
              go_wp2_with fail
              go_ret
              exact ⟨rfl, fin.out⟩
end Go.Proofs.Ytmmagapggmcceaa
