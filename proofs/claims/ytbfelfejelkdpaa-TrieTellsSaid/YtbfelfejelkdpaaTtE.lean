/- TrieTells, walked. -/
import Derived.Test.YtbfelfejelkdpaaTtD
import Derived.Deep.RegionHeld3
import Derived.Deep.DeepCutAuto
import Derived.Deep.CutBlock
namespace Go.Proofs.Ytbfelfejelkdpaa
open Go.RowKit
set_option linter.unusedVariables false
set_option linter.unusedSectionVars false
set_option linter.unusedSimpArgs false
set_option maxRecDepth 100000

set_option maxHeartbeats 16000000 in
theorem tells12_walk {la ka : Option Addr} {n nk cl ck : Nat} {G : List (Bool × Tp)} {K : List (List UInt8)} {w : World} (hl : Stp12 w la n G) (hkeys : TextsAt w ka nk K) :
    Calls Try.prog 3 #[.slice la n cl, .slice ka nk ck] w fun e w' => e = .returned (.bool true) ∧ Below w.heap.size w w' := by
  have hk1 := Lib.hid (known12_true w)
  have hsz := hl.size
  have hkz := hkeys.size
  replace hl := Lib.hid hl
  replace hkeys := Lib.hid hkeys
  by_cases hn : n ≤ 40
  · have hn' : (n : Int) ≤ 40 := by omega
    by_cases hnk : nk ≤ 12
    · have hnk' : (nk : Int) ≤ 12 := by omega
      go_enter Try.func3, Try.ntmps3
      go_wp2_with fail
      refine hk1.out.mono ?_
      rintro e w1 ⟨rfl, hb⟩
      have c2 : Hid (Calls Try.prog 7 #[] w1 fun e w' => ∃ tb, e = .returned (np tb) ∧ TrIs w.heap.size w w' tb [] [] 1) := Lib.hid (new_any ⟨hb, hb.size, by simp, by simp⟩)
      clear hk1 hb
      go_wp2_with fail
      refine c2.out.mono ?_
      rintro e w2 ⟨tb, rfl, h0⟩
      replace h0 := Lib.hid h0
      clear c2
      go_wp2_with fail
      go_loopg [6, 7] n (fun g v6 v7 wr => ∃ (i : Nat) (L : List Tp) (am : Option Addr) (cm : Nat) (S : List (Nat × Obj)), v6 = .slice am L.length cm ∧ v7 = .int .i64 i ∧ i + g = n ∧ Hid (Kept12 L i) ∧ Hid (TpsIs (.slice am L.length cm) L S ∧ TrIs w.heap.size w wr tb (L.map wd) S (42 * i + 1)))
      case atStart => exact ⟨0, [], none, 0, [], rfl, rfl, by omega, Lib.hid Kept12.start, Lib.hid ⟨SlIs.nil, h0.out⟩⟩
      case round =>
        clear h0
        obtain ⟨i, L, am, cm, S, rfl, rfl, hi, hD, hT⟩ := hrel
        have hi0 : (0 : Int) ≤ i := by omega
        by_cases hlt : i < n
        · have hi1 : (i : Int) < n := by omega
          have hx : G[i]? = some G[i] := List.getElem?_eq_getElem (by omega)
          generalize G[i] = s at hx
          obtain ⟨d, p, z⟩ := s
          obtain ⟨⟨hp, -, -⟩, ba, oa, rfl, k0, k1, k2⟩ := (hl.out.below hT.out.2.below).at_ i _ hx
          simp only at k0 k1 k2 hp
          have hX := hT.out.2.alloc (stO12 d p z)
          obtain ⟨m0, m1, m2⟩ := x12 hX
          have hs := Lib.hid hT.out.1
          generalize hxb : wr.heap.size = xb at *
          replace hX := Lib.hid hX
          have hL40 : L.length ≤ 40 := by have := hD.out.2.1; omega
          have hLI : (L.length : Int) ≤ 40 := by omega
          clear hT hx hp
          go_upto_if 36 with fail
          generalize wr.alloc (Obj.cells #[.bool d, tx p, .int .i64 z] 28) = wp at *
          replace hxb := Lib.hid hxb
          clear k0 k1 k2
          by_cases hp40 : p.length ≤ 40
          · have hpI : ¬ (40 : Int) < p.length := by omega
            go_wp2_with fail
            go_loopg [9, 10] L.length (fun g v9 v10 wk => ∃ (k : Nat) (A : Int), v9 = .int .i64 A ∧ v10 = .int .i64 k ∧ k + g = L.length ∧ Hid (AtP L (p, z) k A) ∧ Hid (TrIs w.heap.size w wk tb (L.map wd) ((xb, stO12 d p z) :: S) (42 * i + 1)))
            case atStart => exact ⟨0, -1, rfl, rfl, by omega, Lib.hid AtP.start, hX⟩
            case round =>
              clear hX m0 m1 m2
              obtain ⟨k, A, rfl, rfl, hk, hA, hX⟩ := hrel
              have hk0 : (0 : Int) ≤ k := by omega
              obtain ⟨m0, m1, m2⟩ := x12 hX.out
              by_cases hkl : k < L.length
              · have hk1 : (k : Int) < L.length := by omega
                have hy : L[k]? = some L[k] := List.getElem?_eq_getElem hkl
                generalize L[k] = y at hy
                obtain ⟨q, u⟩ := y
                obtain ⟨bm, om, rfl, r0, r1, r2⟩ := tps_rows hX.out hs.out k _ hy
                simp only at r0 r1 r2
                have hX2 := Lib.hid (fun m => hX.out.grow (drewN_below _ m))
                by_cases h1 : q = p
                · by_cases h2 : u = z
                  · subst h1 h2
                    have hA2 : Hid (AtP L (q, u) (k + 1) (k : Int)) := Lib.hid (AtP.hit hy)
                    clear hX hy hA r0
                    go_wp2_with fail
                    go_quiet (fail)
                    go_wp2_with fail
                    go_roundg (L.length - (k + 1))
                    case measure => omega
                    case rel => exact ⟨k + 1, k, rfl, by go_num, by omega, hA2, Lib.hid (hX2.out _)⟩
                  · have h3 : (u == z) = false := by rw [beq_eq_false_iff_ne]; exact h2
                    have hA2 := Lib.hid (hA.out.miss hy (fun e => h2 (by rw [Prod.mk.injEq] at e; exact e.2)))
                    subst h1
                    clear hX hy hA r0 h2
                    go_wp2_with fail
                    go_quiet (fail)
                    go_wp2_with fail
                    go_roundg (L.length - (k + 1))
                    case measure => omega
                    case rel => exact ⟨k + 1, A, rfl, by go_num, by omega, hA2, Lib.hid (hX2.out _)⟩
                · have h3 : (q == p) = false := by rw [beq_eq_false_iff_ne]; exact h1
                  have hA2 := Lib.hid (hA.out.miss hy (fun e => h1 (by rw [Prod.mk.injEq] at e; exact e.1)))
                  clear hX hy hA r0 h1
                  go_wp2_with fail
                  go_quiet (fail)
                  go_wp2_with fail
                  go_roundg (L.length - (k + 1))
                  case measure => omega
                  case rel => exact ⟨k + 1, A, rfl, by go_num, by omega, hA2, Lib.hid (hX2.out _)⟩
              · obtain rfl : k = L.length := by omega
                have hlast := hA.out.last
                have hc : 42 * i + 1 ≤ 10000 := by omega
                clear hA
                cases d with
                | true =>
                  rcases hlast with ⟨rfl, hno⟩ | ⟨j, rfl, hj, hyes⟩
                  · have cd := Lib.hid (drop_no hX.out hno (by omega) hc hL40)
                    have hD2 := Lib.hid hD.out.same
                    clear hX hD hno
                    go_wp2_with fail
                    refine cd.out.mono ?_
                    rintro e w5 ⟨rfl, h5⟩
                    have cl := Lib.hid (tlen_is h5)
                    have fin := Lib.hid ((h5.sub (List.sublist_cons_self _ _)).mono (show 42 * i + 1 ≤ 42 * (i + 1) + 1 by omega))
                    clear cd h5
                    go_wp2_with fail
                    refine cl.out.mono ?_
                    rintro e w6 ⟨rfl, rfl⟩
                    clear cl
                    go_wp2_with fail
                    go_roundg (n - (i + 1))
                    case measure => omega
                    case rel => exact ⟨i + 1, L, am, cm, S, rfl, by go_num, by omega, hD2, Lib.hid ⟨hs.out, fin.out⟩⟩
                  · have cd := Lib.hid (drop_yes hX.out hD.out.1 hyes (by omega) hc hL40)
                    have hD2 := Lib.hid (hD.out.cut hyes)
                    obtain ⟨a1, c1, a2, n2, c2, q1, q2, ap⟩ := cut12 (B := w.heap.size) (w0 := w) (tb := tb) (xb := xb) (d := true) (p := p) (z := z) (c := 42 * i + 1) (M := (L.take j ++ L.drop (j + 1)).map wd) hs.out hj hL40
                    replace ap := Lib.hid ap
                    have hj0 : (0 : Int) ≤ j := by omega
                    have hj1 : (j : Int) < L.length := by omega
                    have hwj : IntKind.i64.wrap ((j : Int) + 1) = j + 1 := IntWalk.i64_in _ (by omega)
                    generalize L.take j ++ L.drop (j + 1) = L' at *
                    clear hX hD hyes
                    go_wp2_with fail
                    refine cd.out.mono ?_
                    rintro e w5 ⟨rfl, h5⟩
                    obtain ⟨a3, c3, W1, run1, a4, c4, W2, S', run2, hs', hT'⟩ := ap.out w5.drew h5.drew
                    have cl := Lib.hid (tlen_is hT')
                    have fin := Lib.hid (And.intro hs' (hT'.mono (show 42 * i + 1 ≤ 42 * (i + 1) + 1 by omega)))
                    clear cd h5 ap hs hs' hT'
                    go_wp2_with fail
                    go_region_law (first
                      | (refine step_app (.const (.slice none 0 0)) (.tmp 77) 22 run1 rfl rfl (by simp [Act.eval, Act.put]) (by simp [Act.eval, Act.put]) ?_)
                      | (refine step_app (.tmp 78) (.tmp 82) 22 run2 rfl rfl (by simp [Act.eval, Act.put]) (by simp [Act.eval, Act.put]) ?_))
                    all_goals
                      clear run1 run2 q1 q2
                      go_wp2_with fail
                      refine cl.out.mono ?_
                      rintro e w6 ⟨rfl, rfl⟩
                      go_wp2_with fail
                      go_roundg (n - (i + 1))
                      case measure => omega
                      case rel => exact ⟨i + 1, L', a4, c4, S', rfl, by go_num, by omega, hD2, fin⟩
                | false =>
                  rcases hlast with ⟨rfl, hno⟩ | ⟨j, rfl, hj, hyes⟩
                  · have cd := Lib.hid (add_new hX.out hno (by omega) hc hL40)
                    have hD2 := Lib.hid (hD.out.push hno hp40)
                    clear hX hD hno
                    go_wp2_with fail
                    refine cd.out.mono ?_
                    rintro e w5 ⟨rfl, h5⟩
                    obtain ⟨a4, c4, W2, S', run1, hs', hT'⟩ := push12 hs.out hL40 h5
                    obtain ⟨m0, m1, m2⟩ := x12 h5
                    have cl := Lib.hid (tlen_is hT')
                    have fin := Lib.hid (And.intro hs' (hT'.mono (show 42 * i + 1 + 42 ≤ 42 * (i + 1) + 1 by omega)))
                    clear cd h5 hs hs' hT'
                    generalize L ++ [(p, z)] = L' at *
                    go_wp2_with (at_builtin; refine wpList_append_go rfl (.tmp 92) (.tmp 94) 22 22 rfl _ _ rfl rfl run1 ?_)
                    go_wp2_with fail
                    refine cl.out.mono ?_
                    rintro e w6 ⟨rfl, rfl⟩
                    go_wp2_with fail
                    go_roundg (n - (i + 1))
                    case measure => omega
                    case rel => exact ⟨i + 1, L', a4, c4, S', rfl, by go_num, by omega, hD2, fin⟩
                  · have cd := Lib.hid (add_old hX.out hyes (by omega) hc hL40)
                    have hD2 := Lib.hid hD.out.same
                    have hj0 : ¬ (j : Int) < 0 := by omega
                    clear hX hD hyes
                    go_wp2_with fail
                    refine cd.out.mono ?_
                    rintro e w5 ⟨rfl, h5⟩
                    have cl := Lib.hid (tlen_is h5)
                    have fin := Lib.hid ((h5.sub (List.sublist_cons_self _ _)).mono (show 42 * i + 1 + 42 ≤ 42 * (i + 1) + 1 by omega))
                    clear cd h5
                    go_wp2_with fail
                    refine cl.out.mono ?_
                    rintro e w6 ⟨rfl, rfl⟩
                    clear cl
                    go_wp2_with fail
                    go_roundg (n - (i + 1))
                    case measure => omega
                    case rel => exact ⟨i + 1, L, am, cm, S, rfl, by go_num, by omega, hD2, Lib.hid ⟨hs.out, fin.out⟩⟩
          · have hpI : (40 : Int) < p.length := by omega
            have fin := Lib.hid hX.out.below
            clear hX hs
            go_wp2_with fail
            go_ret
            exact ⟨rfl, fin.out⟩
        · obtain rfl : i = n := by omega
          have hL40 : L.length ≤ 40 := by have := hD.out.2.1; omega
          have hs := Lib.hid hT.out.1
          have hT0 := Lib.hid hT.out.2
          have hc : 42 * i + 1 ≤ 10000 := by omega
          generalize 42 * i + 1 = c at *
          clear hT hl
          go_wp2_with fail
          go_loopg [11] nk (fun g v11 wr => ∃ j : Nat, v11 = .int .i64 j ∧ j + g = nk ∧ Hid (TrIs w.heap.size w wr tb (L.map wd) S c))
          case atStart => exact ⟨0, rfl, by omega, hT0⟩
          case round =>
            clear hT0
            obtain ⟨j, rfl, hj, hT⟩ := hrel
            have hj0 : (0 : Int) ≤ j := by omega
            by_cases hjl : j < nk
            · have hj1 : (j : Int) < nk := by omega
              have hx : K[j]? = some K[j] := List.getElem?_eq_getElem (by omega)
              generalize K[j] = key at hx
              obtain ⟨hkl, kb, ko, rfl, y0⟩ := (hkeys.out.below hT.out.below).at_ j _ hx
              by_cases hk40 : key.length ≤ 40
              · have hkI : ¬ (40 : Int) < key.length := by omega
                obtain ⟨-, kb', ko', e, y1⟩ := hkeys.out.at_ j _ hx
                simp only [Option.some.injEq, Addr.mk.injEq, and_true] at e
                obtain ⟨rfl, rfl⟩ := e
                obtain ⟨R, cm', cd', cs'⟩ := answers12 (w0 := w) (tb := tb) (c := c) (cc := cm) (kb := kb) (ko := ko + j) hs.out hL40 (fun s h => hD.out.2.2 s h) hk40 hc y1
                replace cm' := Lib.hid cm'
                replace cd' := Lib.hid cd'
                replace cs' := Lib.hid cs'
                have hT0 : TrIs w.heap.size w wr.drew tb (L.map wd) S c := hT.out.drew
                have hs0 : Hid (wr.drew.cell? ⟨kb, ko + j, none⟩ = some (tx key)) := Lib.hid y0
                clear hT hkl hx hD y1
                go_wp2_with fail
                go_region_held3 (fun x => x.cell? ⟨kb, ko + j, none⟩ = some (tx key)) (first | exact kS | exact hs0.out) (first
                  | (go_at_call 12; refine (cm'.out _ (by assumption)).mono ?_; rintro e w'' ⟨v1, rfl, hT2, hv1, kS⟩)
                  | (go_at_call 13; refine (cd'.out _ _ (by assumption) (by assumption)).mono ?_; rintro e w'' ⟨v2, rfl, hT3, hv2, hv3, hR2, kS⟩)
                  | (go_at_call 11; refine (cs'.out _ _ _ (by assumption) hv2 hv3 hR2).mono ?_; rintro e w'' ⟨rfl, hT4, kS⟩))
                have fin := Lib.hid hT4
                clear cm' cd' cs' hs
                go_wp2_with fail
                go_roundg (nk - (j + 1))
                case measure => omega
                case rel => exact ⟨j + 1, by go_num, by omega, fin⟩
              · have hkI : (40 : Int) < key.length := by omega
                have fin := Lib.hid hT.out.below
                clear hT hs hD
                go_wp2_with fail
                go_ret
                exact ⟨rfl, fin.out⟩
            · have fin := Lib.hid hT.out.below
              clear hT hs hD
              go_wp2_with fail
              go_ret
              exact ⟨rfl, fin.out⟩
    · have hnk' : (12 : Int) < nk := by omega
      go_enter Try.func3, Try.ntmps3
      go_wp2_with fail
      refine hk1.out.mono ?_
      rintro e w1 ⟨rfl, hb⟩
      replace hb := Lib.hid hb
      clear hk1
      go_wp2_with fail
      go_ret
      exact ⟨rfl, hb.out⟩
  · have hn' : (40 : Int) < n := by omega
    go_enter Try.func3, Try.ntmps3
    go_wp2_with fail
    refine hk1.out.mono ?_
    rintro e w1 ⟨rfl, hb⟩
    replace hb := Lib.hid hb
    clear hk1
    go_wp2_with fail
    go_ret
    exact ⟨rfl, hb.out⟩
theorem tells12_row {a0 a1 : Option Addr} {n0 c0 n1 c1 : Nat} {w : World} (r0 : Read Try.prog w 22 [.slice a0 n0 c0]) (r1 : Read Try.prog w 23 [.slice a1 n1 c1]) :
    Calls Try.prog 3 #[.slice a0 n0 c0, .slice a1 n1 c1] w fun e w' => e = .returned (.bool true) ∧ Below w.heap.size w w' := by
  obtain ⟨rd, hr⟩ := r0.slice (by kernel_rfl : Try.prog.underlying 22 = some (.slice 28)) (by decide +kernel)
  obtain ⟨rd2, hr2⟩ := r1.slice (by kernel_rfl : Try.prog.underlying 23 = some (.slice 9)) (by decide +kernel)
  obtain ⟨G, hG⟩ := Stp12.of hr
  obtain ⟨K, hK⟩ := TextsAt.of hr2
  exact tells12_walk hG hK
end Go.Proofs.Ytbfelfejelkdpaa
