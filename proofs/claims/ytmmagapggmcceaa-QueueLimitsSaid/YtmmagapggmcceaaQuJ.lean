/- The statement of layer 16 about limits: where the worst one goes. -/
import Derived.Test.YtmmagapggmcceaaQuI
namespace Go.Proofs.Ytmmagapggmcceaa
open Go.RowKit
open Go.ChangeMaps (setBlock)
set_option linter.unusedVariables false
set_option linter.unusedSectionVars false
set_option linter.unusedSimpArgs false
set_option maxRecDepth 100000

set_option maxHeartbeats 8000000 in
theorem limits_false {w : World} {a : Option Addr} {n cap mo L lim : Nat} {zs : List Int} (hz : IntsAt .u8 w a n zs) (hmo : mo < 256) (hL : mo % 61 = L) (hlim : L = 0 ∧ lim = 60 ∨ 0 < L ∧ lim = L) :
    Calls Try.prog 3 #[.int .u8 mo, .slice a n cap, .bool false] w fun e w' => e = .returned (.bool true) ∧ Below w.heap.size w w' := by
  have c1 := Lib.hid (known16_true w)
  have hlen := hz.size
  have hL61 : L < 61 := by omega
  have hLi : (mo : Int) % 61 = L := by omega
  have hm0 : (0 : Int) ≤ mo := by omega
  replace hLi := Lib.hid hLi
  replace hz := Lib.hid hz
  go_enter Try.func3, Try.ntmps3
  go_wp2_with fail
  refine c1.out.mono ?_
  rintro e w1 ⟨rfl, hb⟩
  by_cases hn : (n : Int) > 90
  · replace hb := Lib.hid hb
    go_wp2_with fail
    go_ret
    exact ⟨rfl, hb.out⟩
  have hn5 : (n : Int) ≤ 90 := by omega
  obtain ⟨o, ho⟩ : ∃ o, o = oO L 0 3 0 := ⟨_, rfl⟩
  have ho1 : Hid (o.prio = 3 ∧ o.ttl = 0) := Lib.hid (by subst ho; exact ⟨rfl, rfl⟩)
  have ho2 : Hid (limitO o = lim) := Lib.hid (by
    subst ho
    unfold limitO
    rcases hlim with ⟨rfl, rfl⟩ | ⟨h, rfl⟩
    · rw [if_neg (by show ¬ (1 ≤ ((0 : Nat) : Int) ∧ ((0 : Nat) : Int) ≤ 60); omega)]
      rfl
    · rw [if_pos (by show 1 ≤ ((lim : Nat) : Int) ∧ ((lim : Nat) : Int) ≤ 60; omega)])
  have ho3 : Hid (rejO o = false) := Lib.hid (by subst ho; show (!(bits .and .i64 0 4 == 0)) = false; decide)
  have c2 : Hid (∀ W, Below w1.heap.size w1 W → Calls Try.prog 8 #[oOV L 0 3 0] W fun r w' => ∃ qb, r = .returned (rptr qb) ∧ QuIs w.heap.size w w' qb o [] []) := Lib.hid fun W hW => by
    subst ho
    exact new_to (((St.start w).grow hb).grow hW)
  have hbn : Hid (∀ x, Below w1.heap.size w1 (w1.alloc x)) := Lib.hid fun x => new_below _ _
  have hmod : (mo : Int).tmod 61 = L := by rw [Int.tmod_eq_emod_of_nonneg hm0]; exact hLi.out
  have hll : lim ≤ 60 := by omega
  have hl1 : 1 ≤ lim := by omega
  obtain ⟨P, hP⟩ : ∃ P : Nat → Int, P = fun k => zs.getD k 0 % 4 := ⟨_, rfl⟩
  have hP4 : Hid (∀ k, 0 ≤ P k ∧ P k ≤ 3) := Lib.hid fun k => by
    subst hP
    show 0 ≤ zs.getD k 0 % 4 ∧ zs.getD k 0 % 4 ≤ 3
    omega
  have hPz : Hid (∀ k z, zs[k]? = some z → z % 4 = P k) := Lib.hid fun k z hk => by rw [hP]; simp [hk]
  have hlim2 : Hid (0 < L → lim = L) := Lib.hid (by omega)
  have hlim3 : Hid (¬ 0 < L → lim = 60) := Lib.hid (by omega)
  clear c1 hb hn ho hP hlim
  go_wp2_with fail
  all_goals
    refine (c2.out _ (by first | exact hbn.out _ | exact Below.refl _ _)).mono ?_
    rintro r w2 ⟨qb, rfl, h⟩
    replace h := Lib.hid h
    go_wp2_with fail
    first
      | rw [show (L : Int) = (lim : Int) by have := hlim2.out (by omega); omega]
      | rw [show (60 : Int) = (lim : Int) by have := hlim3.out (by omega); omega]
    clear c2 hbn hlim2 hlim3
    go_loopg [10, 11, 12] n (fun g v10 v11 v12 wr => ∃ (i d m : Nat) (M : List Ent), v10 = .int .i64 i ∧ v11 = .int .i64 d ∧ v12 = .int .i64 i ∧ i + g = n ∧ min lim i = m ∧ d + m = i ∧ Hid (LimX lim i M) ∧ Hid (QuIs w.heap.size w wr qb o M []))
    case atStart => exact ⟨0, 0, 0, [], rfl, rfl, rfl, by omega, by omega, by omega, Lib.hid LimX.nil, h⟩
    case round =>
      clear h
      obtain ⟨i, d, m, M, rfl, rfl, rfl, hi, hm, hd, hM, h⟩ := hrel
      have hi0 : (0 : Int) ≤ i := by omega
      by_cases hlt : i < n
      · have hi1 : (i : Int) < n := by omega
        have hx : zs[i]? = some zs[i] := List.getElem?_eq_getElem (by omega)
        generalize zs[i]'(by omega) = z at hx
        have hzw := (hz.out.below h.out.below)
        obtain ⟨ba, oa, rfl, cz⟩ := hzw.at_ i z hx
        obtain ⟨z0, z1⟩ := bounds_u8 (hz.out.wf z (List.mem_of_getElem? hx))
        have hp := hPz.out i z hx
        have hp4 := hP4.out i
        rw [← hp] at hp4
        have hzt : z.tmod 4 = z % 4 := by rw [Int.tmod_eq_emod_of_nonneg (by omega)]
        obtain ⟨p, hpk⟩ : ∃ p, z % 4 = p := ⟨_, rfl⟩
        rw [hpk] at hp4 hzt
        obtain ⟨p0, p1⟩ := hp4
        clear hx hzw hp
        by_cases hil : i < lim
        · have cp := Lib.hid (lim_room h.out hM.out ⟨p0, p1⟩ ho1.out ho2.out hil hll)
          have hil1 : (i : Int) < lim := by omega
          have hil2 : (i : Int) + 1 ≤ lim := by omega
          obtain rfl : m = i := by omega
          obtain rfl : d = 0 := by omega
          clear h hM
          go_wp2_with fail
          refine cp.out.mono ?_
          rintro r w3 ⟨a3, c3, M2, rfl, hM2, h⟩
          have h2 := h
          replace hM2 := Lib.hid hM2
          have cl := Lib.hid (fun W (h : QuIs w.heap.size w W qb o M2 []) => lim_len h hM2.out (m := m + 1) (by omega))
          have c3 := Lib.hid (cl.out _ h2)
          clear cp h h2
          go_wp2_with fail
          refine c3.out.mono ?_
          rintro r w4 ⟨rfl, h3⟩
          have c4 := Lib.hid (cl.out _ h3)
          clear c3 cl h3
          go_wp2_with fail
          refine c4.out.mono ?_
          rintro r w5 ⟨rfl, h3⟩
          replace h3 := Lib.hid h3
          clear c4
          go_wp2_with fail
          go_roundg (n - (m + 1))
          case measure => omega
          case rel => exact ⟨m + 1, 0, m + 1, M2, by go_num, by go_num, by go_num, by omega, by omega, by omega, hM2, h3⟩
        · have cp := Lib.hid (lim_full h.out hM.out ⟨p0, p1⟩ ho1.out ho2.out (by omega) hll ho3.out)
          have hil1 : (lim : Int) ≤ i := by omega
          obtain rfl : m = lim := by omega
          have hd2 : (d : Int) + m = i := by omega
          have d0 : (0 : Int) ≤ d := by omega
          clear h hM
          go_wp2_with fail
          refine cp.out.mono ?_
          rintro r w3 ⟨a3, c3, M2, rfl, hM2, h⟩
          have h2 := h
          replace hM2 := Lib.hid hM2
          have cl := Lib.hid (fun W (h : QuIs w.heap.size w W qb o M2 []) => lim_len h hM2.out (m := m) (by omega))
          have c3 := Lib.hid (cl.out _ h2)
          clear cp h h2
          go_wp2_with fail
          refine c3.out.mono ?_
          rintro r w4 ⟨rfl, h3⟩
          have c4 := Lib.hid (cl.out _ h3)
          clear c3 cl h3
          go_wp2_with fail
          refine c4.out.mono ?_
          rintro r w5 ⟨rfl, h3⟩
          replace h3 := Lib.hid h3
          clear c4
          go_wp2_with fail
          go_roundg (n - (i + 1))
          case measure => omega
          case rel => exact ⟨i + 1, d + 1, m, M2, by go_num, by go_num, by go_num, by omega, by omega, by omega, hM2, h3⟩
      · have hin : i = n := by omega
        subst hin
        have cl := Lib.hid (lim_len h.out hM.out hm)
        by_cases hmn : lim ≤ i
        · obtain rfl : m = lim := by omega
          have hmi : (m : Int) ≤ i := by omega
          clear h hM
          go_wp2_with fail
          refine cl.out.mono ?_
          rintro r w3 ⟨rfl, h3⟩
          have fin := Lib.hid h3.below
          clear cl h3
          go_wp2_with fail
          go_ret
          exact ⟨rfl, fin.out⟩
        · obtain rfl : m = i := by omega
          have hmi : (m : Int) < lim := by omega
          clear h hM
          go_wp2_with fail
          refine cl.out.mono ?_
          rintro r w3 ⟨rfl, h3⟩
          have fin := Lib.hid h3.below
          clear cl h3
          go_wp2_with fail
          go_ret
          exact ⟨rfl, fin.out⟩
end Go.Proofs.Ytmmagapggmcceaa
