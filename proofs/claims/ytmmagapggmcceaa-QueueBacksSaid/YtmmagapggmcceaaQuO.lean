/- The statement of layer 16 about what comes back: where what comes is refused. -/
import Derived.Test.YtmmagapggmcceaaQuM
namespace Go.Proofs.Ytmmagapggmcceaa
open Go.RowKit
open Go.ChangeMaps (setBlock)
set_option linter.unusedVariables false
set_option linter.unusedSectionVars false
set_option linter.unusedSimpArgs false
set_option maxRecDepth 100000

set_option maxHeartbeats 1000000 in
theorem backs_true {w : World} {mo k : Nat} (hmo : mo < 256) (hk : mo % 20 = k) :
    Calls Try.prog 5 #[.int .u8 mo, .bool true] w fun e w' => e = .returned (.bool true) ∧ Below w.heap.size w w' := by
  have c1 := Lib.hid (known16_true w)
  have hk20 : k < 20 := by omega
  have hki : (mo : Int) % 20 = k := by omega
  have hm0 : (0 : Int) ≤ mo := by omega
  have hm1 : (mo : Int) < 256 := by omega
  have hmod : (mo : Int).tmod 20 = k := by rw [Int.tmod_eq_emod_of_nonneg hm0]; exact hki
  replace hki := Lib.hid hki
  obtain ⟨o, ho⟩ : ∃ o, o = oO 2 0 0 4 := ⟨_, rfl⟩
  have ho1 : Hid (o.prio = 0 ∧ o.ttl = 0) := Lib.hid (by subst ho; exact ⟨rfl, rfl⟩)
  have ho2 : Hid (limitO o = 2) := Lib.hid (by subst ho; show (if 1 ≤ (2 : Int) ∧ (2 : Int) ≤ 60 then (2 : Int) else 60) = 2; decide)
  have ho3 : Hid (rejO o = true) := Lib.hid (by subst ho; show (!(bits .and .i64 4 4 == 0)) = true; decide)
  go_enter Try.func5, Try.ntmps5
  go_wp2_with fail
  refine c1.out.mono ?_
  rintro e w1 ⟨rfl, hb⟩
  have c2 : Hid (∀ W, Below w1.heap.size w1 W → Calls Try.prog 8 #[oOV 2 0 0 4] W fun r w' => ∃ qb, r = .returned (rptr qb) ∧ QuIs w.heap.size w w' qb o [] []) := Lib.hid fun W hW => by
    subst ho
    exact new_to (((St.start w).grow hb).grow hW)
  have hbn : Hid (∀ x, Below w1.heap.size w1 (w1.alloc x)) := Lib.hid fun x => new_below _ _
  clear c1 hb ho
  go_wp2_with fail
  refine (c2.out _ (hbn.out _)).mono ?_
  rintro r w2 ⟨qb, rfl, h⟩
  replace h := Lib.hid h
  clear c2 hbn
  have k0 : (0 : Int) ≤ k := by omega
  have k20 : (k : Int) < 20 := by omega
  go_wp2_with fail
  go_loopg [8, 9] (k + 1) (fun g v8 v9 wr => ∃ (j : Nat) (v : Int) (a : Option Addr) (c : Nat) (S : List (Nat × Obj)), v8 = .slice a j c ∧ v9 = .int .i64 v ∧ v = (j : Int) + 1 ∧ j + g = k + 1 ∧ Hid (EnsIs (.slice a (ensB j).length c) (ensB j) S) ∧ Hid (QuIs w.heap.size w wr qb o [] S))
  case atStart => exact ⟨0, 1, none, 0, [], rfl, rfl, by omega, by omega, Lib.hid EnsIs.nil, h⟩
  case round =>
    clear h
    obtain ⟨j, v, a, c, S, rfl, rfl, hv, hj, hs, h⟩ := hrel
    by_cases hlt : j < k + 1
    · have hv0 : (1 : Int) ≤ v := by omega
      have hv1 : v ≤ (k : Int) + 1 := by omega
      have cp := b_put (j := j) h.out ho1.out ho2.out
      rw [← hv] at cp
      replace cp := Lib.hid cp
      replace hv := Lib.hid hv
      have ct : Hid (∀ W, QuIs w.heap.size w W qb o [bE j] S → Calls Try.prog 11 #[rptr qb] W fun r w' => r = .returned (.tuple #[oV v 0 0, .bool true]) ∧ ((w'.alloc (.cells #[.int .i64 v, .int .i64 0, .int .i64 0, tx [], tx [], .int .i64 0, .int .i64 0, .int .i64 0, .bool false, .int .i64 0] 32)).cell? ⟨w'.heap.size, 0, none⟩ = some (.int .i64 v) ∧ (w'.alloc (.cells #[.int .i64 v, .int .i64 0, .int .i64 0, tx [], tx [], .int .i64 0, .int .i64 0, .int .i64 0, .bool false, .int .i64 0] 32)).cell? ⟨w'.heap.size, 1, none⟩ = some (.int .i64 0) ∧ (w'.alloc (.cells #[.int .i64 v, .int .i64 0, .int .i64 0, tx [], tx [], .int .i64 0, .int .i64 0, .int .i64 0, .bool false, .int .i64 0] 32)).cell? ⟨w'.heap.size, 2, none⟩ = some (.int .i64 0) ∧ (w'.alloc (.cells #[.int .i64 v, .int .i64 0, .int .i64 0, tx [], tx [], .int .i64 0, .int .i64 0, .int .i64 0, .bool false, .int .i64 0] 32)).cell? ⟨w'.heap.size, 3, none⟩ = some (tx []) ∧ (w'.alloc (.cells #[.int .i64 v, .int .i64 0, .int .i64 0, tx [], tx [], .int .i64 0, .int .i64 0, .int .i64 0, .bool false, .int .i64 0] 32)).cell? ⟨w'.heap.size, 4, none⟩ = some (tx []) ∧ (w'.alloc (.cells #[.int .i64 v, .int .i64 0, .int .i64 0, tx [], tx [], .int .i64 0, .int .i64 0, .int .i64 0, .bool false, .int .i64 0] 32)).cell? ⟨w'.heap.size, 5, none⟩ = some (.int .i64 0) ∧ (w'.alloc (.cells #[.int .i64 v, .int .i64 0, .int .i64 0, tx [], tx [], .int .i64 0, .int .i64 0, .int .i64 0, .bool false, .int .i64 0] 32)).cell? ⟨w'.heap.size, 6, none⟩ = some (.int .i64 0) ∧ (w'.alloc (.cells #[.int .i64 v, .int .i64 0, .int .i64 0, tx [], tx [], .int .i64 0, .int .i64 0, .int .i64 0, .bool false, .int .i64 0] 32)).cell? ⟨w'.heap.size, 7, none⟩ = some (.int .i64 0) ∧ (w'.alloc (.cells #[.int .i64 v, .int .i64 0, .int .i64 0, tx [], tx [], .int .i64 0, .int .i64 0, .int .i64 0, .bool false, .int .i64 0] 32)).cell? ⟨w'.heap.size, 8, none⟩ = some (.bool false) ∧ (w'.alloc (.cells #[.int .i64 v, .int .i64 0, .int .i64 0, tx [], tx [], .int .i64 0, .int .i64 0, .int .i64 0, .bool false, .int .i64 0] 32)).cell? ⟨w'.heap.size, 9, none⟩ = some (.int .i64 0)) ∧ ∃ a' c' W9 S', (Builtin.append_ #[28, 28] 0 #[.slice a j c, .slice (some ⟨w'.heap.size + 1, 0, none⟩) 1 1]).run Try.prog ((w'.alloc (.cells #[.int .i64 v, .int .i64 0, .int .i64 0, tx [], tx [], .int .i64 0, .int .i64 0, .int .i64 0, .bool false, .int .i64 0] 32)).alloc (.cells #[.int .i64 v, .int .i64 0, .int .i64 0, tx [], tx [], .int .i64 0, .int .i64 0, .int .i64 0, .bool false, .int .i64 0] 32)) = .ok (.slice a' (j + 1) c') W9 ∧ Hid (EnsIs (.slice a' (ensB (j + 1)).length c') (ensB (j + 1)) S') ∧ Hid (QuIs w.heap.size w W9 qb o [] S')) := Lib.hid fun W hW => by
        refine (b_take hW).mono ?_
        have hv := hv.out
        have he : bE j = oE v 0 0 := by rw [hv]
        rw [he]
        rintro r w' ⟨rfl, h'⟩
        refine ⟨by rw [hv], (h'.at_block (k := w'.heap.size) (e := oE v 0 0) List.mem_cons_self).1, ?_⟩
        obtain ⟨a', c', W9, S', q1, q2, q3⟩ := (h'.permF (F' := S ++ [(w'.heap.size, enO (oE v 0 0))]) (List.perm_append_comm (l₁ := [_]))).ensPush hs.out (oE v 0 0) (by rw [ensB_len]; omega)
        rw [← he, ← ensB_succ] at q2
        rw [World.size_alloc, List.length_append, ensB_len] at q1
        refine ⟨a', c', W9, S', q1, Lib.hid ?_, Lib.hid (q3.sub (List.sublist_append_left _ _))⟩
        have e1 : (ensB j ++ [bE j]).length = (ensB (j + 1)).length := by rw [ensB_succ]
        rw [← e1]
        rw [← ensB_succ] at *
        exact q2
      clear h hs
      go_wp2_with fail
      refine cp.out.mono ?_
      rintro r w3 ⟨⟨y, rfl⟩, h3⟩
      have ct1 := Lib.hid (ct.out _ h3)
      clear cp ct h3
      go_wp2_with fail
      refine ct1.out.mono ?_
      rintro r w4 ⟨rfl, ⟨x0, x1, x2, x3, x4, x5, x6, x7, x8, x9⟩, a', c', W9, S', hrun, hs2, h2⟩
      clear ct1
      go_wp2_with (at_builtin; refine wpList_append_go rfl (.tmp 55) (.tmp 57) 28 28 rfl _ _ rfl rfl hrun ?_)
      clear hrun x0 x1 x2 x3 x4 x5 x6 x7 x8 x9
      go_roundg (k + 1 - (j + 1))
      case measure => omega
      case rel => exact ⟨j + 1, v + 1, a', c', S', rfl, by go_num, by have := hv.out; omega, by omega, hs2, h2⟩
    · have hjk : j = k + 1 := by omega
      subst hjk
      have hv2 : ¬ v ≤ (k : Int) + 1 := by omega
      have h2 : Hid (QuIs w.heap.size w wr qb o (backB (k + 1) (k + 1)) S) := Lib.hid (by rw [backB_end]; exact h.out)
      have hread : Hid (∀ W M, QuIs w.heap.size w W qb o M S → ∀ m, m < k + 1 → ∀ q : Int, q = (m : Int) + 1 → ∃ ba oa, a = some ⟨ba, oa, none⟩ ∧ W.cell? ⟨ba, oa + m * 10, none⟩ = some (.int .i64 q) ∧ W.cell? ⟨ba, oa + m * 10 + 1, none⟩ = some (.int .i64 0) ∧ W.cell? ⟨ba, oa + m * 10 + 2, none⟩ = some (.int .i64 0) ∧ W.cell? ⟨ba, oa + m * 10 + 3, none⟩ = some (tx []) ∧ W.cell? ⟨ba, oa + m * 10 + 4, none⟩ = some (tx []) ∧ W.cell? ⟨ba, oa + m * 10 + 5, none⟩ = some (.int .i64 0) ∧ W.cell? ⟨ba, oa + m * 10 + 6, none⟩ = some (.int .i64 0) ∧ W.cell? ⟨ba, oa + m * 10 + 7, none⟩ = some (.int .i64 0) ∧ W.cell? ⟨ba, oa + m * 10 + 8, none⟩ = some (.bool false) ∧ W.cell? ⟨ba, oa + m * 10 + 9, none⟩ = some (.int .i64 0)) := Lib.hid fun W M h m hm q hq => by
        subst hq
        have hs' := hs.out
        obtain ⟨ba, oa, e, h1⟩ := h.reads (X := []) (a := a) (c := c) hs' (List.Perm.refl _) m _ (ensB_at hm)
        exact ⟨ba, oa, e, h1⟩
      clear h hs hv hj hlt
      go_wp2_with fail
      go_loopg [12] (k + 1) (fun g v12 wr => ∃ (m : Nat) (v : Int), v12 = .int .i64 v ∧ v + 1 = m ∧ m = g ∧ m ≤ k + 1 ∧ Hid (QuIs w.heap.size w wr qb o (backB (k + 1) m) S))
      case atStart => exact ⟨k + 1, k, by go_num, by omega, rfl, Nat.le_refl _, h2⟩
      case round =>
        clear h2
        obtain ⟨m1, v, rfl, hv, hg, hmk, h⟩ := hrel
        obtain rfl | ⟨m, rfl⟩ : m1 = 0 ∨ ∃ m, m1 = m + 1 := by cases m1 with | zero => exact .inl rfl | succ m => exact .inr ⟨m, rfl⟩
        · obtain rfl : v = -1 := by omega
          have ca : Hid (Calls Try.prog 13 #[rptr qb] wr fun r w' => ∃ ba oa c3 S3, r = .returned (.slice (some ⟨ba, oa, none⟩) (k + 1) c3) ∧ (∀ i, i < k + 1 → w'.cell? ⟨ba, oa + i * 10, none⟩ = some (.int .i64 ((i : Int) + 1)) ∧ w'.cell? ⟨ba, oa + i * 10 + 8, none⟩ = some (.bool true)) ∧ Hid (QuIs w.heap.size w w' qb o (backB (k + 1) 0) (S3 ++ S))) := Lib.hid (by
            refine (qu_all h.out).mono ?_
            rintro r w' ⟨a3, c3, S3, rfl, hs3, h3⟩
            have rd := h3.reads (X := S) hs3 List.perm_append_comm
            obtain ⟨ba, oa, rfl, -⟩ := rd 0 _ (backB_at (by omega))
            refine ⟨ba, oa, c3, S3, by rw [backB_len, Nat.sub_zero], fun i hi => ?_, Lib.hid h3⟩
            obtain ⟨b1, o1, e1, r0, r1, r2, r3, r4, r5, r6, r7, r8, r9⟩ := rd i _ (backB_at hi)
            cases e1
            exact ⟨r0, r8⟩)
          clear h hread hmk hg hv
          go_wp2_with fail
          refine ca.out.mono ?_
          rintro r w3 ⟨ba, oa, c3, S3, rfl, hcell, h3⟩
          replace hcell := Lib.hid hcell
          clear ca
          go_wp2_with fail
          go_loopg [14] (k + 1) (fun g v14 wt => ∃ i : Nat, v14 = .int .i64 i ∧ i + g = k + 1 ∧ wt = w3)
          case atStart => exact ⟨0, rfl, by omega, rfl⟩
          case round =>
            obtain ⟨i, rfl, hi, rfl⟩ := hrel
            have i0 : (0 : Int) ≤ i := by omega
            by_cases hlt : i < k + 1
            · have i1 : (i : Int) < (k : Int) + 1 := by omega
              have i2 : (i : Int) < ((k + 1 : Nat) : Int) := by omega
              have i20 : (i : Int) < 20 := by omega
              obtain ⟨x0, x8⟩ := hcell.out i hlt
              clear hcell
              go_wp2_with fail
              go_roundg (k + 1 - (i + 1))
              case measure => omega
              case rel => exact ⟨i + 1, by go_num, by omega, rfl⟩
            · have hik : i = k + 1 := by omega
              subst hik
              rcases (by omega : k = 0 ∨ 1 ≤ k) with rfl | hk1
              · have cl := Lib.hid (b_last1 h3.out ho1.out ho2.out)
                clear hcell h3 hki
                go_wp2_with fail
                refine cl.out.mono ?_
                rintro r w5 ⟨⟨a5, c5, rfl⟩, hb⟩
                replace hb := Lib.hid hb
                clear cl
                go_wp2_with fail
                go_ret
                exact ⟨rfl, hb.out⟩
              · have cl := Lib.hid (b_last2 h3.out ⟨hk1, hk20⟩ ho1.out ho2.out ho3.out)
                have hk2 : (1 : Int) ≤ k := by omega
                clear hcell h3 hki
                go_wp2_with fail
                refine cl.out.mono ?_
                rintro r w5 ⟨⟨a5, c5, rfl⟩, hb⟩
                replace hb := Lib.hid hb
                clear cl
                go_wp2_with fail
                go_ret
                exact ⟨(show Ending.returned (.bool (!decide ((k : Int) + 1 < 2))) = _ by rw [decide_eq_false (show ¬ ((k : Int) + 1 < 2) by omega)]; rfl), hb.out⟩
        · obtain rfl : v = (m : Int) := by omega
          have m0 : (0 : Int) ≤ m := by omega
          have m1 : (m : Int) < ((k + 1 : Nat) : Int) := by omega
          have m2 : (m : Int) < (k : Int) + 1 := by omega
          have m20 : (m : Int) < 20 := by omega
          have hmk2 : m < k + 1 := by omega
          obtain ⟨q, hq⟩ : ∃ q, q = (m : Int) + 1 := ⟨_, rfl⟩
          have cb : Hid (Calls Try.prog 12 #[rptr qb, oV q 0 0] wr fun r w' => r = .returned (.bool true) ∧ Hid (QuIs w.heap.size w w' qb o (backB (k + 1) m) S)) := Lib.hid (by
            rw [hq]
            refine (b_back h.out hmk2 (by omega)).mono ?_
            rintro r w' ⟨rfl, h'⟩
            exact ⟨rfl, Lib.hid h'⟩)
          have cg : Hid (∀ W, QuIs w.heap.size w W qb o (backB (k + 1) m) S → Calls Try.prog 12 #[rptr qb, oV q 0 0] W fun r w' => r = .returned (.bool false) ∧ Hid (QuIs w.heap.size w w' qb o (backB (k + 1) m) S)) := Lib.hid fun W hW => by
            rw [hq]
            refine (b_again hW hmk2 (by omega)).mono ?_
            rintro r w' ⟨rfl, h'⟩
            exact ⟨rfl, Lib.hid h'⟩
          obtain ⟨ba, oa, rfl, x0, x1, x2, x3, x4, x5, x6, x7, x8, x9⟩ := hread.out _ _ h.out m hmk2 q hq
          replace hq := Lib.hid hq
          clear h hv
          go_wp2_with fail
          refine cb.out.mono ?_
          rintro r w3 ⟨rfl, h3⟩
          obtain ⟨ba', oa', e', x0, x1, x2, x3, x4, x5, x6, x7, x8, x9⟩ := hread.out _ _ h3.out m hmk2 q hq.out
          cases e'
          have cg1 := Lib.hid (cg.out _ h3.out)
          clear cb cg h3
          go_wp2_with fail
          refine cg1.out.mono ?_
          rintro r w4 ⟨rfl, h4⟩
          clear cg1 x0 x1 x2 x3 x4 x5 x6 x7 x8 x9
          go_wp2_with fail
          go_roundg m
          case measure => omega
          case rel => exact ⟨m, (m : Int) - 1, by go_num, by omega, rfl, by omega, h4⟩
end Go.Proofs.Ytmmagapggmcceaa
