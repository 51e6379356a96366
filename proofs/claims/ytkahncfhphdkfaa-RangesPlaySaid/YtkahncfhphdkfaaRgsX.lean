/- The statement of layer 3 about every row of steps: the walk. -/
import Derived.Test.YtkahncfhphdkfaaRgsV
import Derived.Deep.RegionHeld3
namespace Go.Proofs.Ytkahncfhphdkfaa
open Go.RowKit
set_option linter.unusedVariables false

theorem wpAnyH_mono {P : Program} {md : Region.Mode} {ops : Array Oper} {Q : Exit → Act → World → Prop} {S1 S2 : World → Prop} (h : ∀ w, S2 w → S1 w) :
    ∀ (fuel : Nat) (listed : Array Bool) (a : Act) (w : World), wpAnyH P md ops Q S2 fuel listed a w → wpAnyH P md ops Q S1 fuel listed a w
  | 0, _, _, _, H => H
  | fuel + 1, _, _, _, H => ⟨H.1, fun i hi => wpOp_mono (fun a' w' h' => ⟨h _ h'.1, wpAnyH_mono h fuel _ a' w' h'.2⟩) (H.2 i hi)⟩

theorem uptoL_len (l : List Row) (n : Int) : (uptoL l n).length ≤ 1000 := by simp [uptoL]; omega

set_option maxRecDepth 100000 in
set_option maxHeartbeats 8000000 in
theorem plays3_walk (a : Option Addr) (len cap : Nat) (rd : Nat → List Value) (n : Int) (w : World) (hl : RowsAt Try.prog w 31 a len rd) :
    Calls Try.prog 3 #[.slice a len cap, .int .i64 n] w fun e w' => e = .returned (.bool true) ∧ Below w.heap.size w w' := by
  have hk := Lib.hid (known3_true w)
  by_cases hlong : (60 : Int) < len
  · clear hl
    go_enter Try.func3, Try.ntmps3
    go_wp2_with fail
    refine hk.out.mono ?_
    rintro e w1 ⟨rfl, hb⟩
    replace hb := Lib.hid hb
    go_wp2_with fail
    go_ret
    exact ⟨rfl, hb.out⟩
  · have hlen : len ≤ 60 := by omega
    clear hlong
    have hlong : decide ((60 : Int) < len) = false := by simp; omega
    replace hl := Lib.hid hl
    go_enter Try.func3, Try.ntmps3
    go_wp2_with fail
    refine hk.out.mono ?_
    rintro e w1 ⟨rfl, hb⟩
    have c1 := Lib.hid (rgs_new (St.start w1))
    replace hb := Lib.hid hb
    clear hk
    go_wp2_with fail
    refine c1.out.mono ?_
    rintro e w2 ⟨rfl, h2⟩
    have h3 : RgsIs w1.heap.size w1 (w2.alloc (.cells #[.slice none 0 0] 29)) w1.heap.size [] ((w2.heap.size, .cells #[.slice none 0 0] 29) :: []) := h2.alloc _
    replace h3 := Lib.hid h3
    clear c1 h2
    have hcell : Hid (∀ w', Below w1.heap.size w1 w' → ∀ i, i < len → ∃ b off s, a = some ⟨b, off, none⟩ ∧ w'.cell? ⟨b, off + i * 3, none⟩ = some (.bool (GStep.cut s)) ∧ w'.cell? ⟨b, off + i * 3 + 1, none⟩ = some (.int .i64 s.lo) ∧ w'.cell? ⟨b, off + i * 3 + 2, none⟩ = some (.int .i64 s.hi)) := fun w' hw i hi => by
      obtain ⟨b, off, e, hc⟩ := hl.out.cell (hb.out.trans (hw.mono hb.out.size)) hi
      obtain ⟨s, hs⟩ := gstep_shape (hl.out.at_ i hi).1
      rw [hs] at hc
      exact ⟨b, off, s, e, hc 0 _ rfl, hc 1 _ rfl, hc 2 _ rfl⟩
    go_wp2_with fail
    generalize hfb : w2.heap.size = fb at *
    generalize w2.alloc (Obj.cells #[.slice none 0 0] 29) = w3 at *
    clear hfb
    go_loopg [7] len (fun g i wr => ∃ (j : Nat) (v : Value) (L : List Row) (S : List (Nat × Obj)), i = .int .i64 j ∧ j + g = len ∧ SlIs 40 2 v L.length (rowsV L) S ∧ RgsIs w1.heap.size w1 wr w1.heap.size L ((fb, .cells #[v] 29) :: S))
    case atStart => exact ⟨0, .slice none 0 0, [], [], rfl, by omega, SlIs.nil, h3.out⟩
    case round =>
      obtain ⟨j, v, L, S, rfl, hj, hs, hr⟩ := hrel
      clear h3
      by_cases hlt : j < len
      · obtain ⟨b, off, s, ea, k0, k1, k2⟩ := hcell.out _ hr.below j hlt
        subst ea
        obtain ⟨cut, lo, hi⟩ := s
        simp only at k0 k1 k2
        have hlt' : (j : Int) < len := by omega
        have hcan := hr.canon
        have hp : Pair3 w1.heap.size w1 (wr.alloc (.cells #[.bool cut, .int .i64 lo, .int .i64 hi] 31)) w1.heap.size fb wr.heap.size (.cells #[.bool cut, .int .i64 lo, .int .i64 hi] 31) v L S [] := by
          unfold Pair3
          rw [List.append_nil]
          exact hr.alloc _
        have m0 : (wr.alloc (.cells #[.bool cut, .int .i64 lo, .int .i64 hi] 31)).cell? ⟨wr.heap.size, 0, none⟩ = some (.bool cut) := by simp
        have m1 : (wr.alloc (.cells #[.bool cut, .int .i64 lo, .int .i64 hi] 31)).cell? ⟨wr.heap.size, 1, none⟩ = some (.int .i64 lo) := by simp
        have m2 : (wr.alloc (.cells #[.bool cut, .int .i64 lo, .int .i64 hi] 31)).cell? ⟨wr.heap.size, 2, none⟩ = some (.int .i64 hi) := by simp
        generalize hsb : wr.heap.size = sb at *
        have ccut := Lib.hid (rgs_cut hp.rgs lo hi)
        have cadd := Lib.hid (rgs_add hp.rgs lo hi)
        replace hcan := Lib.hid hcan
        replace hs := Lib.hid hs
        clear hr hp
        go_upto_if 31 with fail
        generalize wr.alloc (Obj.cells #[.bool cut, .int .i64 lo, .int .i64 hi] 31) = wp at *
        replace hsb := Lib.hid hsb
        clear k0 k1 k2
        go_cut [9] (fun v9 wx => ∃ (L1 : List Row) (d : Int), v9 = .int .i64 d ∧ Hid (turnTo (!cut) lo hi L = L1 ∧ max (cnt L1 - cnt L) (cnt L - cnt L1) = d) ∧ Canon L1 ∧ Pair3 w1.heap.size w1 wx w1.heap.size fb sb (.cells #[.bool cut, .int .i64 lo, .int .i64 hi] 31) v L1 S [])
        case first =>
          cases cut
          · clear ccut
            go_wp2_with fail
            refine cadd.out.mono ?_
            rintro e w4 ⟨L1, rfl, hm, h4⟩
            have hg := gstep_turn hcan.out h4.1 false lo hi (fun k => by rw [hm]; simp)
            simp only [Bool.false_eq_true, if_false] at hg
            replace hg := Lib.hid hg
            replace h4 := Lib.hid h4
            clear hm cadd
            go_wp2_with fail
            go_meet
            case rel => exact ⟨L1, _, rfl, hg, h4.out.1, h4.out⟩
          · clear cadd
            go_wp2_with fail
            refine ccut.out.mono ?_
            rintro e w4 ⟨L1, rfl, hm, h4⟩
            have hg := gstep_turn hcan.out h4.1 true lo hi (fun k => by rw [hm]; simp)
            simp only [if_true] at hg
            replace hg := Lib.hid hg
            replace h4 := Lib.hid h4
            clear hm ccut
            go_wp2_with fail
            go_meet
            case rel => exact ⟨L1, _, rfl, hg, h4.out.1, h4.out⟩
        case rest =>
          obtain ⟨L1, d, rfl, hT, hc1, hP⟩ := hcut
          have hP1 := hP.drewN 1
          have m0 := hP1.step (i := 0) (u := .bool cut) rfl
          have m1 := hP1.step (i := 1) (u := .int .i64 lo) rfl
          have m2 := hP1.step (i := 2) (u := .int .i64 hi) rfl
          have ct := pair_turn hP1 hs.out hcan.out (!cut) lo hi
          rw [hT.out.1, hT.out.2] at ct
          replace ct := Lib.hid ct
          have cl := rgs_least hP.rgs
          have hLn := hc1.len_half
          replace hc1 := Lib.hid hc1
          clear hP hP1 hs hcan hT ccut cadd
          by_cases h0 : L1.length = 0
          · as_aux_lemma =>
              have hlv : leastV L1 = .tuple #[.int .i64 0, .bool false] := by rw [List.eq_nil_of_length_eq_zero h0]; rfl
              rw [hlv] at cl
              have hz : decide (0 < L1.length) = false := decide_eq_false (by omega)
              have hz2 : decide ((0 : Int) < L1.length) = false := decide_eq_false (by omega)
              replace h0 := Lib.hid h0
              clear hlv
              replace cl := Lib.hid cl
              go_wp2_with fail
              refine cl.out.mono ?_
              rintro e w5 ⟨rfl, rfl⟩
              clear cl
              go_wp2_with fail
              refine wp_region_held_drew (S := fun w' => w'.cell? ⟨sb, 0, none⟩ = some (.bool cut) ∧ w'.cell? ⟨sb, 1, none⟩ = some (.int .i64 lo) ∧ w'.cell? ⟨sb, 2, none⟩ = some (.int .i64 hi)) (by kernel_rfl) ⟨m0, m1, m2⟩ (fun hHeld => ?_)
              clear m0 m1 m2
              refine wpAnyH_take (i := 0) (oi := { dst := some 49, op := Op.move (Operand.tmp 9), type := 3, pos := "exact.go:46", after := #[], guard := none }) (v := ?_) rfl (by kernel_rfl) (by kernel_rfl) (by kernel_rfl) (fun _ _ _ h => h) (Or.inl ⟨by rfl, ?_⟩) hHeld ?_
              rotate_left 1
              · (intro w' hSw; clear hSw; go_simp; (try with_reducible rfl))
              try simp only [Act.put, List.setIfInBounds_toArray, List.set_cons_zero, List.set_cons_succ]
              refine wpAnyH_take (i := 1) (oi := { dst := some 50, op := Op.move (Operand.tmp 6), type := 26, pos := "exact.go:46", after := #[], guard := none }) (v := ?_) rfl (by kernel_rfl) (by kernel_rfl) (by kernel_rfl) (fun _ _ _ h => h) (Or.inl ⟨by rfl, ?_⟩) hHeld ?_
              rotate_left 1
              · (intro w' hSw; clear hSw; go_simp; (try with_reducible rfl))
              try simp only [Act.put, List.setIfInBounds_toArray, List.set_cons_zero, List.set_cons_succ]
              refine wpAnyH_take (i := 2) (oi := { dst := some 51, op := Op.fieldAddr 31 (Operand.tmp 8) 1, type := 0, pos := "exact.go:46", after := #[], guard := none }) (v := ?_) rfl (by kernel_rfl) (by kernel_rfl) (by kernel_rfl) (fun _ _ _ h => h) (Or.inl ⟨by rfl, ?_⟩) hHeld ?_
              rotate_left 1
              · (intro w' hSw; clear hSw; go_simp; (try with_reducible rfl))
              try simp only [Act.put, List.setIfInBounds_toArray, List.set_cons_zero, List.set_cons_succ]
              refine wpAnyH_take (i := 3) (oi := { dst := some 52, op := Op.load 3 (Operand.tmp 51), type := 3, pos := "exact.go:46", after := #[{ on := 2, ground := Ground.data }], guard := none }) (v := ?_) rfl (by kernel_rfl) (by kernel_rfl) (by kernel_rfl) (fun _ _ _ h => h) (Or.inl ⟨by rfl, ?_⟩) hHeld ?_
              rotate_left 1
              · (intro w' hSw; obtain ⟨s0, s1, s2⟩ := hSw; go_simp; (try with_reducible rfl))
              try simp only [Act.put, List.setIfInBounds_toArray, List.set_cons_zero, List.set_cons_succ]
              refine wpAnyH_take (i := 4) (oi := { dst := some 53, op := Op.fieldAddr 31 (Operand.tmp 8) 2, type := 0, pos := "exact.go:46", after := #[], guard := none }) (v := ?_) rfl (by kernel_rfl) (by kernel_rfl) (by kernel_rfl) (fun _ _ _ h => h) (Or.inl ⟨by rfl, ?_⟩) hHeld ?_
              rotate_left 1
              · (intro w' hSw; clear hSw; go_simp; (try with_reducible rfl))
              try simp only [Act.put, List.setIfInBounds_toArray, List.set_cons_zero, List.set_cons_succ]
              refine wpAnyH_take (i := 5) (oi := { dst := some 54, op := Op.load 3 (Operand.tmp 53), type := 3, pos := "exact.go:46", after := #[{ on := 4, ground := Ground.data }], guard := none }) (v := ?_) rfl (by kernel_rfl) (by kernel_rfl) (by kernel_rfl) (fun _ _ _ h => h) (Or.inl ⟨by rfl, ?_⟩) hHeld ?_
              rotate_left 1
              · (intro w' hSw; obtain ⟨s0, s1, s2⟩ := hSw; go_simp; (try with_reducible rfl))
              try simp only [Act.put, List.setIfInBounds_toArray, List.set_cons_zero, List.set_cons_succ]
              refine wpAnyH_take (i := 6) (oi := { dst := some 55, op := Op.fieldAddr 31 (Operand.tmp 8) 0, type := 0, pos := "exact.go:46", after := #[], guard := none }) (v := ?_) rfl (by kernel_rfl) (by kernel_rfl) (by kernel_rfl) (fun _ _ _ h => h) (Or.inl ⟨by rfl, ?_⟩) hHeld ?_
              rotate_left 1
              · (intro w' hSw; clear hSw; go_simp; (try with_reducible rfl))
              try simp only [Act.put, List.setIfInBounds_toArray, List.set_cons_zero, List.set_cons_succ]
              refine wpAnyH_take (i := 7) (oi := { dst := some 56, op := Op.load 4 (Operand.tmp 55), type := 4, pos := "exact.go:46", after := #[{ on := 6, ground := Ground.data }], guard := none }) (v := ?_) rfl (by kernel_rfl) (by kernel_rfl) (by kernel_rfl) (fun _ _ _ h => h) (Or.inl ⟨by rfl, ?_⟩) hHeld ?_
              rotate_left 1
              · (intro w' hSw; obtain ⟨s0, s1, s2⟩ := hSw; go_simp; (try with_reducible rfl))
              try simp only [Act.put, List.setIfInBounds_toArray, List.set_cons_zero, List.set_cons_succ]
              refine wpAnyH_take (i := 8) (oi := { dst := some 57, op := Op.unOp UnOp.not 4 (Operand.tmp 56), type := 4, pos := "exact.go:46", after := #[{ on := 7, ground := Ground.data }], guard := none }) (v := ?_) rfl (by kernel_rfl) (by kernel_rfl) (by kernel_rfl) (fun _ _ _ h => h) (Or.inl ⟨by rfl, ?_⟩) hHeld ?_
              rotate_left 1
              · (intro w' hSw; clear hSw; go_simp; (try with_reducible rfl))
              try simp only [Act.put, List.setIfInBounds_toArray, List.set_cons_zero, List.set_cons_succ]
              refine wpAnyH_ready (rs := [9]) (by kernel_rfl) (by simp) (AllReadyH.cons (o := { dst := some 58, op := Op.call { callee := Callee.value (Operand.func 12), args := #[Operand.tmp 50, Operand.tmp 52, Operand.tmp 54, Operand.tmp 57], argTypes := #[26, 3, 3, 4] }, type := 3, pos := "exact.go:46", after := #[{ on := 1, ground := Ground.data }, { on := 3, ground := Ground.data }, { on := 5, ground := Ground.data }, { on := 8, ground := Ground.data }], guard := none }) rfl (fun K hK => ?_) AllReadyH.nil)
              go_simp
              refine ct.out.mono ?_
              rintro e w6 ⟨rfl, a6, cap6, S6, hs6, h6⟩
              clear ct hHeld
              go_wp2_with fail
              refine hK.out _ _ ⟨h6.step rfl, h6.step rfl, h6.step rfl⟩ (fun hHeld => ?_)
              clear hK K
              try simp only [Act.put, List.setIfInBounds_toArray, List.set_cons_zero, List.set_cons_succ]
              refine wpAnyH_mono (S2 := fun w' => ∃ Y, Pair3 w1.heap.size w1 w' w1.heap.size fb sb (.cells #[.bool cut, .int .i64 lo, .int .i64 hi] 31) (.slice a6 L1.length cap6) L1 S6 Y) (fun w' ⟨Y, h⟩ => ⟨h.step rfl, h.step rfl, h.step rfl⟩) _ _ _ _ ?_
              replace hHeld : ∃ Y, Pair3 w1.heap.size w1 w6 w1.heap.size fb sb (.cells #[.bool cut, .int .i64 lo, .int .i64 hi] 31) (.slice a6 L1.length cap6) L1 S6 Y := ⟨_, h6⟩
              have ca := Lib.hid (rgs_all h6.rgs)
              have hs6' := Lib.hid hs6
              clear h6 hs6
              refine wpAnyH_take (i := 10) (oi := { dst := some 59, op := Op.binOp BinOp.neq 3 (Operand.tmp 49) (Operand.tmp 58) 3, type := 4, pos := "exact.go:46", after := #[{ on := 0, ground := Ground.data }, { on := 9, ground := Ground.data }], guard := none }) (v := ?_) rfl (by kernel_rfl) (by kernel_rfl) (by kernel_rfl) (fun _ _ _ h => h) (Or.inl ⟨by rfl, ?_⟩) hHeld ?_
              rotate_left 1
              · (intro w' hSw; clear hSw; go_simp; (try with_reducible rfl))
              try simp only [Act.put, List.setIfInBounds_toArray, List.set_cons_zero, List.set_cons_succ]
              refine wpAnyH_take (i := 11) (oi := { dst := some 60, op := Op.move (Operand.tmp 59), type := 4, pos := "exact.go:46", after := #[{ on := 10, ground := Ground.data }, { on := 9, ground := Ground.chain }], guard := none }) (v := ?_) rfl (by kernel_rfl) (by kernel_rfl) (by kernel_rfl) (fun _ _ _ h => h) (Or.inl ⟨by rfl, ?_⟩) hHeld ?_
              rotate_left 1
              · (intro w' hSw; clear hSw; go_simp; (try with_reducible rfl))
              try simp only [Act.put, List.setIfInBounds_toArray, List.set_cons_zero, List.set_cons_succ]
              refine wpAnyH_take (i := 12) (oi := { dst := some 61, op := Op.move (Operand.tmp 5), type := 24, pos := "exact.go:46", after := #[{ on := 11, ground := Ground.guard }], guard := some (11, false) }) (v := ?_) rfl (by kernel_rfl) (by kernel_rfl) (by kernel_rfl) (fun _ _ _ h => h) (Or.inl ⟨by rfl, ?_⟩) hHeld ?_
              rotate_left 1
              · (intro w' hSw; clear hSw; go_simp; (try with_reducible rfl))
              try simp only [Act.put, List.setIfInBounds_toArray, List.set_cons_zero, List.set_cons_succ]
              refine wpAnyH_take (i := 14) (oi := { dst := some 63, op := Op.move (Operand.tmp 6), type := 26, pos := "exact.go:46", after := #[{ on := 11, ground := Ground.guard }], guard := some (11, false) }) (v := ?_) rfl (by kernel_rfl) (by kernel_rfl) (by kernel_rfl) (fun _ _ _ h => h) (Or.inl ⟨by rfl, ?_⟩) hHeld ?_
              rotate_left 1
              · (intro w' hSw; clear hSw; go_simp; (try with_reducible rfl))
              try simp only [Act.put, List.setIfInBounds_toArray, List.set_cons_zero, List.set_cons_succ]
              refine wpAnyH_take (i := 15) (oi := { dst := some 64, op := Op.nilCheck (Operand.tmp 63), type := 0, pos := "exact.go:46", after := #[{ on := 14, ground := Ground.data }, { on := 11, ground := Ground.guard }], guard := some (11, false) }) (v := ?_) rfl (by kernel_rfl) (by kernel_rfl) (by kernel_rfl) (fun _ _ _ h => h) (Or.inl ⟨by rfl, ?_⟩) hHeld ?_
              rotate_left 1
              · (intro w' hSw; clear hSw; go_simp; (try with_reducible rfl))
              try simp only [Act.put, List.setIfInBounds_toArray, List.set_cons_zero, List.set_cons_succ]
              refine wpAnyH_take (i := 16) (oi := { dst := some 65, op := Op.fieldAddr 29 (Operand.tmp 64) 0, type := 0, pos := "exact.go:46", after := #[{ on := 15, ground := Ground.data }, { on := 11, ground := Ground.guard }], guard := some (11, false) }) (v := ?_) rfl (by kernel_rfl) (by kernel_rfl) (by kernel_rfl) (fun _ _ _ h => h) (Or.inl ⟨by rfl, ?_⟩) hHeld ?_
              rotate_left 1
              · (intro w' hSw; clear hSw; go_simp; (try with_reducible rfl))
              try simp only [Act.put, List.setIfInBounds_toArray, List.set_cons_zero, List.set_cons_succ]
              refine wpAnyH_take (i := 17) (oi := { dst := some 66, op := Op.load 27 (Operand.tmp 65), type := 27, pos := "exact.go:46", after := #[{ on := 16, ground := Ground.data }, { on := 11, ground := Ground.guard }], guard := some (11, false) }) (v := ?_) rfl (by kernel_rfl) (by kernel_rfl) (by kernel_rfl) (fun _ _ _ h => h) (Or.inl ⟨by rfl, ?_⟩) hHeld ?_
              rotate_left 1
              · (intro w' hSw; obtain ⟨Y, hp⟩ := hSw; have s0 := hp.c0; go_simp; (try with_reducible rfl))
              try simp only [Act.put, List.setIfInBounds_toArray, List.set_cons_zero, List.set_cons_succ]
              refine wpAnyH_ready (rs := [13]) (by kernel_rfl) (by simp) (AllReadyH.cons (o := { dst := some 62, op := Op.call { callee := Callee.value (Operand.func 14), args := #[Operand.tmp 61], argTypes := #[24] }, type := 27, pos := "exact.go:46", after := #[{ on := 12, ground := Ground.data }, { on := 11, ground := Ground.chain }, { on := 11, ground := Ground.guard }], guard := some (11, false) }) rfl (fun K hK => ?_) AllReadyH.nil)
              go_simp
              refine ca.out.mono ?_
              rintro e w7 ⟨v7, S7, rfl, hs7, h7⟩
              have h7' : Pair3 w1.heap.size w1 w7 w1.heap.size fb sb (.cells #[.bool cut, .int .i64 lo, .int .i64 hi] 31) (.slice a6 L1.length cap6) L1 S6 (S7 ++ []) := by
                have := Pair3.of h7
                simpa using this
              have cs := Lib.hid (sameRows_true (h7'.rows hs7) (h7'.read hs6'.out) (by omega))
              obtain ⟨a7, cap7, rfl, -, -, -⟩ := hs7.form
              have h8 := Lib.hid (fun q => h7'.drop.drewN q)
              replace h7' := Lib.hid h7'
              clear ca h7 hs7 hHeld
              go_wp2_with fail
              refine hK.out _ _ ⟨_, h7'.out⟩ (fun hHeld => ?_)
              clear hK K
              try simp only [Act.put, List.setIfInBounds_toArray, List.set_cons_zero, List.set_cons_succ]
              clear h7'
              refine wpAnyH_ready (rs := [18]) (by kernel_rfl) (by simp) (AllReadyH.cons (o := { dst := some 67, op := Op.call { callee := Callee.value (Operand.func 13), args := #[Operand.tmp 62, Operand.tmp 66], argTypes := #[27, 27] }, type := 4, pos := "exact.go:46", after := #[{ on := 13, ground := Ground.data }, { on := 17, ground := Ground.data }, { on := 13, ground := Ground.chain }, { on := 11, ground := Ground.guard }], guard := some (11, false) }) rfl (fun K hK => ?_) AllReadyH.nil)
              go_simp
              refine cs.out.mono ?_
              rintro e w8 ⟨rfl, q8, rfl⟩
              have h8' := h8.out q8
              have cc := Lib.hid (rgs_count h8'.rgs)
              have cd := Lib.hid (refCount_any h8'.c0 (h8'.read hs6'.out) hc1.out.fits (by omega))
              replace h8' := Lib.hid h8'
              clear cs h8 hHeld
              generalize w7.drewN q8 = w8 at *
              go_wp2_with fail
              refine hK.out _ _ ⟨_, h8'.out⟩ (fun hHeld => ?_)
              clear hK K
              try simp only [Act.put, List.setIfInBounds_toArray, List.set_cons_zero, List.set_cons_succ]
              refine wpAnyH_take (i := 19) (oi := { dst := some 68, op := Op.unOp UnOp.not 4 (Operand.tmp 67), type := 4, pos := "exact.go:46", after := #[{ on := 18, ground := Ground.data }, { on := 11, ground := Ground.guard }], guard := some (11, false) }) (v := ?_) rfl (by kernel_rfl) (by kernel_rfl) (by kernel_rfl) (fun _ _ _ h => h) (Or.inl ⟨by rfl, ?_⟩) hHeld ?_
              rotate_left 1
              · (intro w' hSw; clear hSw; go_simp; (try with_reducible rfl))
              try simp only [Act.put, List.setIfInBounds_toArray, List.set_cons_zero, List.set_cons_succ]
              refine wpAnyH_take (i := 20) (oi := { dst := some 69, op := Op.pick (Operand.tmp 60) (Operand.const (Value.bool true)) (Operand.tmp 68), type := 4, pos := "exact.go:46", after := #[{ on := 11, ground := Ground.data }, { on := 19, ground := Ground.data }], guard := none }) (v := ?_) rfl (by kernel_rfl) (by kernel_rfl) (by kernel_rfl) (fun _ _ _ h => h) (Or.inl ⟨by rfl, ?_⟩) hHeld ?_
              rotate_left 1
              · (intro w' hSw; clear hSw; go_simp; (try with_reducible rfl))
              try simp only [Act.put, List.setIfInBounds_toArray, List.set_cons_zero, List.set_cons_succ]
              refine wpAnyH_take (i := 21) (oi := { dst := some 70, op := Op.move (Operand.tmp 69), type := 4, pos := "exact.go:46", after := #[{ on := 20, ground := Ground.data }, { on := 18, ground := Ground.chain }], guard := none }) (v := ?_) rfl (by kernel_rfl) (by kernel_rfl) (by kernel_rfl) (fun _ _ _ h => h) (Or.inl ⟨by rfl, ?_⟩) hHeld ?_
              rotate_left 1
              · (intro w' hSw; clear hSw; go_simp; (try with_reducible rfl))
              try simp only [Act.put, List.setIfInBounds_toArray, List.set_cons_zero, List.set_cons_succ]
              refine wpAnyH_take (i := 22) (oi := { dst := some 71, op := Op.move (Operand.tmp 5), type := 24, pos := "exact.go:46", after := #[{ on := 21, ground := Ground.guard }], guard := some (21, false) }) (v := ?_) rfl (by kernel_rfl) (by kernel_rfl) (by kernel_rfl) (fun _ _ _ h => h) (Or.inl ⟨by rfl, ?_⟩) hHeld ?_
              rotate_left 1
              · (intro w' hSw; clear hSw; go_simp; (try with_reducible rfl))
              try simp only [Act.put, List.setIfInBounds_toArray, List.set_cons_zero, List.set_cons_succ]
              refine wpAnyH_take (i := 24) (oi := { dst := some 73, op := Op.move (Operand.tmp 6), type := 26, pos := "exact.go:46", after := #[{ on := 21, ground := Ground.guard }], guard := some (21, false) }) (v := ?_) rfl (by kernel_rfl) (by kernel_rfl) (by kernel_rfl) (fun _ _ _ h => h) (Or.inl ⟨by rfl, ?_⟩) hHeld ?_
              rotate_left 1
              · (intro w' hSw; clear hSw; go_simp; (try with_reducible rfl))
              try simp only [Act.put, List.setIfInBounds_toArray, List.set_cons_zero, List.set_cons_succ]
              refine wpAnyH_ready (rs := [23]) (by kernel_rfl) (by simp) (AllReadyH.cons (o := { dst := some 72, op := Op.call { callee := Callee.value (Operand.func 15), args := #[Operand.tmp 71], argTypes := #[24] }, type := 3, pos := "exact.go:46", after := #[{ on := 22, ground := Ground.data }, { on := 21, ground := Ground.chain }, { on := 21, ground := Ground.guard }], guard := some (21, false) }) rfl (fun K hK => ?_) AllReadyH.nil)
              go_simp
              refine cc.out.mono ?_
              rintro e w9 ⟨rfl, rfl⟩
              clear cc hHeld
              go_wp2_with fail
              refine hK.out _ _ ⟨_, h8'.out⟩ (fun hHeld => ?_)
              clear hK K
              try simp only [Act.put, List.setIfInBounds_toArray, List.set_cons_zero, List.set_cons_succ]
              refine wpAnyH_ready (rs := [25]) (by kernel_rfl) (by simp) (AllReadyH.cons (o := { dst := some 74, op := Op.call { callee := Callee.value (Operand.func 16), args := #[Operand.tmp 73], argTypes := #[26] }, type := 3, pos := "exact.go:46", after := #[{ on := 24, ground := Ground.data }, { on := 23, ground := Ground.chain }, { on := 21, ground := Ground.guard }], guard := some (21, false) }) rfl (fun K hK => ?_) AllReadyH.nil)
              go_simp
              refine cd.out.mono ?_
              rintro e w9 ⟨rfl, q9, rfl⟩
              have h9 := h8'.out.drewN q9
              have ch := Lib.hid (rgs_has h9.rgs n)
              replace h9 := Lib.hid h9
              clear cd h8' hHeld
              generalize w8.drewN q9 = w9 at *
              go_wp2_with fail
              refine hK.out _ _ ⟨_, h9.out⟩ (fun hHeld => ?_)
              clear hK K
              try simp only [Act.put, List.setIfInBounds_toArray, List.set_cons_zero, List.set_cons_succ]
              clear h9
              refine wpAnyH_take (i := 26) (oi := { dst := some 75, op := Op.binOp BinOp.neq 3 (Operand.tmp 72) (Operand.tmp 74) 3, type := 4, pos := "exact.go:46", after := #[{ on := 23, ground := Ground.data }, { on := 25, ground := Ground.data }, { on := 21, ground := Ground.guard }], guard := some (21, false) }) (v := ?_) rfl (by kernel_rfl) (by kernel_rfl) (by kernel_rfl) (fun _ _ _ h => h) (Or.inl ⟨by rfl, ?_⟩) hHeld ?_
              rotate_left 1
              · (intro w' hSw; clear hSw; go_simp; (try with_reducible rfl))
              try simp only [Act.put, List.setIfInBounds_toArray, List.set_cons_zero, List.set_cons_succ]
              refine wpAnyH_take (i := 27) (oi := { dst := some 76, op := Op.pick (Operand.tmp 70) (Operand.const (Value.bool true)) (Operand.tmp 75), type := 4, pos := "exact.go:46", after := #[{ on := 21, ground := Ground.data }, { on := 26, ground := Ground.data }], guard := none }) (v := ?_) rfl (by kernel_rfl) (by kernel_rfl) (by kernel_rfl) (fun _ _ _ h => h) (Or.inl ⟨by rfl, ?_⟩) hHeld ?_
              rotate_left 1
              · (intro w' hSw; clear hSw; go_simp; (try with_reducible rfl))
              try simp only [Act.put, List.setIfInBounds_toArray, List.set_cons_zero, List.set_cons_succ]
              refine wpAnyH_take (i := 28) (oi := { dst := some 77, op := Op.move (Operand.tmp 76), type := 4, pos := "exact.go:46", after := #[{ on := 27, ground := Ground.data }, { on := 25, ground := Ground.chain }], guard := none }) (v := ?_) rfl (by kernel_rfl) (by kernel_rfl) (by kernel_rfl) (fun _ _ _ h => h) (Or.inl ⟨by rfl, ?_⟩) hHeld ?_
              rotate_left 1
              · (intro w' hSw; clear hSw; go_simp; (try with_reducible rfl))
              try simp only [Act.put, List.setIfInBounds_toArray, List.set_cons_zero, List.set_cons_succ]
              refine wpAnyH_take (i := 29) (oi := { dst := some 78, op := Op.move (Operand.tmp 5), type := 24, pos := "exact.go:46", after := #[{ on := 28, ground := Ground.guard }], guard := some (28, false) }) (v := ?_) rfl (by kernel_rfl) (by kernel_rfl) (by kernel_rfl) (fun _ _ _ h => h) (Or.inl ⟨by rfl, ?_⟩) hHeld ?_
              rotate_left 1
              · (intro w' hSw; clear hSw; go_simp; (try with_reducible rfl))
              try simp only [Act.put, List.setIfInBounds_toArray, List.set_cons_zero, List.set_cons_succ]
              refine wpAnyH_take (i := 30) (oi := { dst := some 79, op := Op.move (Operand.tmp 1), type := 3, pos := "exact.go:46", after := #[{ on := 28, ground := Ground.guard }], guard := some (28, false) }) (v := ?_) rfl (by kernel_rfl) (by kernel_rfl) (by kernel_rfl) (fun _ _ _ h => h) (Or.inl ⟨by rfl, ?_⟩) hHeld ?_
              rotate_left 1
              · (intro w' hSw; clear hSw; go_simp; (try with_reducible rfl))
              try simp only [Act.put, List.setIfInBounds_toArray, List.set_cons_zero, List.set_cons_succ]
              refine wpAnyH_take (i := 32) (oi := { dst := some 81, op := Op.move (Operand.tmp 6), type := 26, pos := "exact.go:46", after := #[{ on := 28, ground := Ground.guard }], guard := some (28, false) }) (v := ?_) rfl (by kernel_rfl) (by kernel_rfl) (by kernel_rfl) (fun _ _ _ h => h) (Or.inl ⟨by rfl, ?_⟩) hHeld ?_
              rotate_left 1
              · (intro w' hSw; clear hSw; go_simp; (try with_reducible rfl))
              try simp only [Act.put, List.setIfInBounds_toArray, List.set_cons_zero, List.set_cons_succ]
              refine wpAnyH_take (i := 33) (oi := { dst := some 82, op := Op.move (Operand.tmp 1), type := 3, pos := "exact.go:46", after := #[{ on := 28, ground := Ground.guard }], guard := some (28, false) }) (v := ?_) rfl (by kernel_rfl) (by kernel_rfl) (by kernel_rfl) (fun _ _ _ h => h) (Or.inl ⟨by rfl, ?_⟩) hHeld ?_
              rotate_left 1
              · (intro w' hSw; clear hSw; go_simp; (try with_reducible rfl))
              try simp only [Act.put, List.setIfInBounds_toArray, List.set_cons_zero, List.set_cons_succ]
              refine wpAnyH_ready (rs := [31]) (by kernel_rfl) (by simp) (AllReadyH.cons (o := { dst := some 80, op := Op.call { callee := Callee.value (Operand.func 17), args := #[Operand.tmp 78, Operand.tmp 79], argTypes := #[24, 3] }, type := 4, pos := "exact.go:46", after := #[{ on := 29, ground := Ground.data }, { on := 30, ground := Ground.data }, { on := 28, ground := Ground.chain }, { on := 28, ground := Ground.guard }], guard := some (28, false) }) rfl (fun K hK => ?_) AllReadyH.nil)
              go_simp
              refine ch.out.mono ?_
              rintro e w10 ⟨rfl, h10⟩
              have h10' : Pair3 w1.heap.size w1 w10 w1.heap.size fb sb (.cells #[.bool cut, .int .i64 lo, .int .i64 hi] 31) (.slice a6 L1.length cap6) L1 S6 [] := h10
              have ci := Lib.hid (refHas_any h10'.c0 (h10'.read hs6'.out) (by omega) n)
              have cu := Lib.hid (rgs_upto h10'.rgs n)
              replace h10' := Lib.hid h10'
              clear ch h10 hHeld
              go_wp2_with fail
              refine hK.out _ _ ⟨_, h10'.out⟩ (fun hHeld => ?_)
              clear hK K
              try simp only [Act.put, List.setIfInBounds_toArray, List.set_cons_zero, List.set_cons_succ]
              refine wpAnyH_ready (rs := [34]) (by kernel_rfl) (by simp) (AllReadyH.cons (o := { dst := some 83, op := Op.call { callee := Callee.value (Operand.func 18), args := #[Operand.tmp 81, Operand.tmp 82], argTypes := #[26, 3] }, type := 4, pos := "exact.go:46", after := #[{ on := 32, ground := Ground.data }, { on := 33, ground := Ground.data }, { on := 31, ground := Ground.chain }, { on := 28, ground := Ground.guard }], guard := some (28, false) }) rfl (fun K hK => ?_) AllReadyH.nil)
              go_simp
              refine ci.out.mono ?_
              rintro e w11 ⟨rfl, rfl⟩
              clear ci hHeld
              go_wp2_with fail
              refine hK.out _ _ ⟨_, h10'.out⟩ (fun hHeld => ?_)
              clear hK K
              try simp only [Act.put, List.setIfInBounds_toArray, List.set_cons_zero, List.set_cons_succ]
              clear h10'
              refine wpAnyH_take (i := 35) (oi := { dst := some 84, op := Op.binOp BinOp.neq 4 (Operand.tmp 80) (Operand.tmp 83) 4, type := 4, pos := "exact.go:46", after := #[{ on := 31, ground := Ground.data }, { on := 34, ground := Ground.data }, { on := 28, ground := Ground.guard }], guard := some (28, false) }) (v := ?_) rfl (by kernel_rfl) (by kernel_rfl) (by kernel_rfl) (fun _ _ _ h => h) (Or.inl ⟨by rfl, ?_⟩) hHeld ?_
              rotate_left 1
              · (intro w' hSw; clear hSw; go_simp; (try with_reducible rfl))
              try simp only [Act.put, List.setIfInBounds_toArray, List.set_cons_zero, List.set_cons_succ]
              refine wpAnyH_take (i := 36) (oi := { dst := some 85, op := Op.pick (Operand.tmp 77) (Operand.const (Value.bool true)) (Operand.tmp 84), type := 4, pos := "exact.go:46", after := #[{ on := 28, ground := Ground.data }, { on := 35, ground := Ground.data }], guard := none }) (v := ?_) rfl (by kernel_rfl) (by kernel_rfl) (by kernel_rfl) (fun _ _ _ h => h) (Or.inl ⟨by rfl, ?_⟩) hHeld ?_
              rotate_left 1
              · (intro w' hSw; clear hSw; go_simp; (try with_reducible rfl))
              try simp only [Act.put, List.setIfInBounds_toArray, List.set_cons_zero, List.set_cons_succ]
              refine wpAnyH_take (i := 37) (oi := { dst := some 86, op := Op.move (Operand.tmp 85), type := 4, pos := "exact.go:46", after := #[{ on := 36, ground := Ground.data }, { on := 34, ground := Ground.chain }], guard := none }) (v := ?_) rfl (by kernel_rfl) (by kernel_rfl) (by kernel_rfl) (fun _ _ _ h => h) (Or.inl ⟨by rfl, ?_⟩) hHeld ?_
              rotate_left 1
              · (intro w' hSw; clear hSw; go_simp; (try with_reducible rfl))
              try simp only [Act.put, List.setIfInBounds_toArray, List.set_cons_zero, List.set_cons_succ]
              refine wpAnyH_take (i := 38) (oi := { dst := some 87, op := Op.move (Operand.tmp 11), type := 4, pos := "exact.go:46", after := #[{ on := 37, ground := Ground.guard }], guard := some (37, false) }) (v := ?_) rfl (by kernel_rfl) (by kernel_rfl) (by kernel_rfl) (fun _ _ _ h => h) (Or.inl ⟨by rfl, ?_⟩) hHeld ?_
              rotate_left 1
              · (intro w' hSw; clear hSw; go_simp; (try with_reducible rfl))
              try simp only [Act.put, List.setIfInBounds_toArray, List.set_cons_zero, List.set_cons_succ]
              refine wpAnyH_take (i := 39) (oi := { dst := some 88, op := Op.move (Operand.tmp 6), type := 26, pos := "exact.go:46", after := #[{ on := 37, ground := Ground.guard }], guard := some (37, false) }) (v := ?_) rfl (by kernel_rfl) (by kernel_rfl) (by kernel_rfl) (fun _ _ _ h => h) (Or.inl ⟨by rfl, ?_⟩) hHeld ?_
              rotate_left 1
              · (intro w' hSw; clear hSw; go_simp; (try with_reducible rfl))
              try simp only [Act.put, List.setIfInBounds_toArray, List.set_cons_zero, List.set_cons_succ]
              refine wpAnyH_take (i := 40) (oi := { dst := some 89, op := Op.nilCheck (Operand.tmp 88), type := 0, pos := "exact.go:46", after := #[{ on := 39, ground := Ground.data }, { on := 37, ground := Ground.guard }], guard := some (37, false) }) (v := ?_) rfl (by kernel_rfl) (by kernel_rfl) (by kernel_rfl) (fun _ _ _ h => h) (Or.inl ⟨by rfl, ?_⟩) hHeld ?_
              rotate_left 1
              · (intro w' hSw; clear hSw; go_simp; (try with_reducible rfl))
              try simp only [Act.put, List.setIfInBounds_toArray, List.set_cons_zero, List.set_cons_succ]
              refine wpAnyH_take (i := 41) (oi := { dst := some 90, op := Op.fieldAddr 29 (Operand.tmp 89) 0, type := 0, pos := "exact.go:46", after := #[{ on := 40, ground := Ground.data }, { on := 37, ground := Ground.guard }], guard := some (37, false) }) (v := ?_) rfl (by kernel_rfl) (by kernel_rfl) (by kernel_rfl) (fun _ _ _ h => h) (Or.inl ⟨by rfl, ?_⟩) hHeld ?_
              rotate_left 1
              · (intro w' hSw; clear hSw; go_simp; (try with_reducible rfl))
              try simp only [Act.put, List.setIfInBounds_toArray, List.set_cons_zero, List.set_cons_succ]
              refine wpAnyH_take (i := 42) (oi := { dst := some 91, op := Op.load 27 (Operand.tmp 90), type := 27, pos := "exact.go:46", after := #[{ on := 41, ground := Ground.data }, { on := 37, ground := Ground.guard }], guard := some (37, false) }) (v := ?_) rfl (by kernel_rfl) (by kernel_rfl) (by kernel_rfl) (fun _ _ _ h => h) (Or.inl ⟨by rfl, ?_⟩) hHeld ?_
              rotate_left 1
              · (intro w' hSw; obtain ⟨Y, hp⟩ := hSw; have s0 := hp.c0; go_simp; (try with_reducible rfl))
              try simp only [Act.put, List.setIfInBounds_toArray, List.set_cons_zero, List.set_cons_succ]
              refine wpAnyH_take (i := 43) (oi := { dst := some 92, op := Op.call { callee := Callee.builtin Builtin.len, args := #[Operand.tmp 91], argTypes := #[27] }, type := 3, pos := "exact.go:46", after := #[{ on := 42, ground := Ground.data }, { on := 37, ground := Ground.guard }], guard := some (37, false) }) (v := ?_) rfl (by kernel_rfl) (by kernel_rfl) (by kernel_rfl) (fun _ _ _ h => h) (Or.inl ⟨by rfl, ?_⟩) hHeld ?_
              rotate_left 1
              · (intro w' hSw; clear hSw; go_simp; (try with_reducible rfl))
              try simp only [Act.put, List.setIfInBounds_toArray, List.set_cons_zero, List.set_cons_succ]
              refine wpAnyH_take (i := 44) (oi := { dst := some 93, op := Op.binOp BinOp.gtr 3 (Operand.tmp 92) (Operand.const (Value.int IntKind.i64 0)) 3, type := 4, pos := "exact.go:46", after := #[{ on := 43, ground := Ground.data }, { on := 37, ground := Ground.guard }], guard := some (37, false) }) (v := ?_) rfl (by kernel_rfl) (by kernel_rfl) (by kernel_rfl) (fun _ _ _ h => h) (Or.inl ⟨by rfl, ?_⟩) hHeld ?_
              rotate_left 1
              · (intro w' hSw; clear hSw; go_simp; (try with_reducible rfl))
              try simp only [Act.put, List.setIfInBounds_toArray, List.set_cons_zero, List.set_cons_succ]
              refine wpAnyH_take (i := 45) (oi := { dst := some 94, op := Op.binOp BinOp.neq 4 (Operand.tmp 87) (Operand.tmp 93) 4, type := 4, pos := "exact.go:46", after := #[{ on := 38, ground := Ground.data }, { on := 44, ground := Ground.data }, { on := 37, ground := Ground.guard }], guard := some (37, false) }) (v := ?_) rfl (by kernel_rfl) (by kernel_rfl) (by kernel_rfl) (fun _ _ _ h => h) (Or.inl ⟨by rfl, ?_⟩) hHeld ?_
              rotate_left 1
              · (intro w' hSw; clear hSw; go_simp; (try with_reducible rfl))
              try simp only [Act.put, List.setIfInBounds_toArray, List.set_cons_zero, List.set_cons_succ]
              refine wpAnyH_take (i := 46) (oi := { dst := some 95, op := Op.pick (Operand.tmp 86) (Operand.const (Value.bool true)) (Operand.tmp 94), type := 4, pos := "exact.go:46", after := #[{ on := 37, ground := Ground.data }, { on := 45, ground := Ground.data }], guard := none }) (v := ?_) rfl (by kernel_rfl) (by kernel_rfl) (by kernel_rfl) (fun _ _ _ h => h) (Or.inl ⟨by rfl, ?_⟩) hHeld ?_
              rotate_left 1
              · (intro w' hSw; clear hSw; go_simp; (try with_reducible rfl))
              try simp only [Act.put, List.setIfInBounds_toArray, List.set_cons_zero, List.set_cons_succ]
              refine wpAnyH_take (i := 47) (oi := { dst := some 96, op := Op.move (Operand.tmp 95), type := 4, pos := "exact.go:46", after := #[{ on := 46, ground := Ground.data }, { on := 37, ground := Ground.chain }], guard := none }) (v := ?_) rfl (by kernel_rfl) (by kernel_rfl) (by kernel_rfl) (fun _ _ _ h => h) (Or.inl ⟨by rfl, ?_⟩) hHeld ?_
              rotate_left 1
              · (intro w' hSw; clear hSw; go_simp; (try with_reducible rfl))
              try simp only [Act.put, List.setIfInBounds_toArray, List.set_cons_zero, List.set_cons_succ]
              refine wpAnyH_take (i := 48) (oi := { dst := some 97, op := Op.move (Operand.tmp 11), type := 4, pos := "exact.go:46", after := #[{ on := 47, ground := Ground.guard }], guard := some (47, false) }) (v := ?_) rfl (by kernel_rfl) (by kernel_rfl) (by kernel_rfl) (fun _ _ _ h => h) (Or.inl ⟨by rfl, ?_⟩) hHeld ?_
              rotate_left 1
              · (intro w' hSw; clear hSw; go_simp; (try with_reducible rfl))
              try simp only [Act.put, List.setIfInBounds_toArray, List.set_cons_zero, List.set_cons_succ]
              refine wpAnyH_take (i := 49) (oi := { dst := some 98, op := Op.move (Operand.tmp 97), type := 4, pos := "exact.go:46", after := #[{ on := 48, ground := Ground.data }, { on := 47, ground := Ground.chain }, { on := 47, ground := Ground.guard }], guard := some (47, false) }) (v := ?_) rfl (by kernel_rfl) (by kernel_rfl) (by kernel_rfl) (fun _ _ _ h => h) (Or.inl ⟨by rfl, ?_⟩) hHeld ?_
              rotate_left 1
              · (intro w' hSw; clear hSw; go_simp; (try with_reducible rfl))
              try simp only [Act.put, List.setIfInBounds_toArray, List.set_cons_zero, List.set_cons_succ]
              refine wpAnyH_take (i := 50) (oi := { dst := some 99, op := Op.move (Operand.tmp 10), type := 3, pos := "exact.go:46", after := #[{ on := 49, ground := Ground.guard }], guard := some (49, true) }) (v := undef) rfl (by kernel_rfl) (by kernel_rfl) (by kernel_rfl) (fun _ _ _ h => h) (Or.inr ⟨by rfl, rfl⟩) hHeld ?_
              try simp only [Act.put, List.setIfInBounds_toArray, List.set_cons_zero, List.set_cons_succ]
              refine wpAnyH_take (i := 51) (oi := { dst := some 100, op := Op.move (Operand.tmp 6), type := 26, pos := "exact.go:46", after := #[{ on := 49, ground := Ground.guard }], guard := some (49, true) }) (v := undef) rfl (by kernel_rfl) (by kernel_rfl) (by kernel_rfl) (fun _ _ _ h => h) (Or.inr ⟨by rfl, rfl⟩) hHeld ?_
              try simp only [Act.put, List.setIfInBounds_toArray, List.set_cons_zero, List.set_cons_succ]
              refine wpAnyH_take (i := 52) (oi := { dst := some 101, op := Op.nilCheck (Operand.tmp 100), type := 0, pos := "exact.go:46", after := #[{ on := 51, ground := Ground.data }, { on := 49, ground := Ground.guard }], guard := some (49, true) }) (v := undef) rfl (by kernel_rfl) (by kernel_rfl) (by kernel_rfl) (fun _ _ _ h => h) (Or.inr ⟨by rfl, rfl⟩) hHeld ?_
              try simp only [Act.put, List.setIfInBounds_toArray, List.set_cons_zero, List.set_cons_succ]
              refine wpAnyH_take (i := 53) (oi := { dst := some 102, op := Op.fieldAddr 29 (Operand.tmp 101) 0, type := 0, pos := "exact.go:46", after := #[{ on := 52, ground := Ground.data }, { on := 49, ground := Ground.guard }], guard := some (49, true) }) (v := undef) rfl (by kernel_rfl) (by kernel_rfl) (by kernel_rfl) (fun _ _ _ h => h) (Or.inr ⟨by rfl, rfl⟩) hHeld ?_
              try simp only [Act.put, List.setIfInBounds_toArray, List.set_cons_zero, List.set_cons_succ]
              refine wpAnyH_take (i := 54) (oi := { dst := some 103, op := Op.load 27 (Operand.tmp 102), type := 27, pos := "exact.go:46", after := #[{ on := 53, ground := Ground.data }, { on := 49, ground := Ground.guard }], guard := some (49, true) }) (v := undef) rfl (by kernel_rfl) (by kernel_rfl) (by kernel_rfl) (fun _ _ _ h => h) (Or.inr ⟨by rfl, rfl⟩) hHeld ?_
              try simp only [Act.put, List.setIfInBounds_toArray, List.set_cons_zero, List.set_cons_succ]
              refine wpAnyH_take (i := 55) (oi := { dst := some 104, op := Op.indexAddr 27 (Operand.tmp 103) (Operand.const (Value.int IntKind.i64 0)), type := 0, pos := "exact.go:46", after := #[{ on := 54, ground := Ground.data }, { on := 49, ground := Ground.guard }], guard := some (49, true) }) (v := undef) rfl (by kernel_rfl) (by kernel_rfl) (by kernel_rfl) (fun _ _ _ h => h) (Or.inr ⟨by rfl, rfl⟩) hHeld ?_
              try simp only [Act.put, List.setIfInBounds_toArray, List.set_cons_zero, List.set_cons_succ]
              refine wpAnyH_take (i := 56) (oi := { dst := some 105, op := Op.indexAddr 40 (Operand.tmp 104) (Operand.const (Value.int IntKind.i64 0)), type := 0, pos := "exact.go:46", after := #[{ on := 55, ground := Ground.data }, { on := 49, ground := Ground.guard }], guard := some (49, true) }) (v := undef) rfl (by kernel_rfl) (by kernel_rfl) (by kernel_rfl) (fun _ _ _ h => h) (Or.inr ⟨by rfl, rfl⟩) hHeld ?_
              try simp only [Act.put, List.setIfInBounds_toArray, List.set_cons_zero, List.set_cons_succ]
              refine wpAnyH_take (i := 57) (oi := { dst := some 106, op := Op.load 3 (Operand.tmp 105), type := 3, pos := "exact.go:46", after := #[{ on := 56, ground := Ground.data }, { on := 49, ground := Ground.guard }], guard := some (49, true) }) (v := undef) rfl (by kernel_rfl) (by kernel_rfl) (by kernel_rfl) (fun _ _ _ h => h) (Or.inr ⟨by rfl, rfl⟩) hHeld ?_
              try simp only [Act.put, List.setIfInBounds_toArray, List.set_cons_zero, List.set_cons_succ]
              refine wpAnyH_take (i := 58) (oi := { dst := some 107, op := Op.binOp BinOp.neq 3 (Operand.tmp 99) (Operand.tmp 106) 3, type := 4, pos := "exact.go:46", after := #[{ on := 50, ground := Ground.data }, { on := 57, ground := Ground.data }, { on := 49, ground := Ground.guard }], guard := some (49, true) }) (v := undef) rfl (by kernel_rfl) (by kernel_rfl) (by kernel_rfl) (fun _ _ _ h => h) (Or.inr ⟨by rfl, rfl⟩) hHeld ?_
              try simp only [Act.put, List.setIfInBounds_toArray, List.set_cons_zero, List.set_cons_succ]
              refine wpAnyH_take (i := 59) (oi := { dst := some 108, op := Op.pick (Operand.tmp 98) (Operand.tmp 107) (Operand.const (Value.bool false)), type := 4, pos := "exact.go:46", after := #[{ on := 49, ground := Ground.data }, { on := 58, ground := Ground.data }, { on := 47, ground := Ground.guard }], guard := some (47, false) }) (v := ?_) rfl (by kernel_rfl) (by kernel_rfl) (by kernel_rfl) (fun _ _ _ h => h) (Or.inl ⟨by rfl, ?_⟩) hHeld ?_
              rotate_left 1
              · (intro w' hSw; clear hSw; go_simp; (try with_reducible rfl))
              try simp only [Act.put, List.setIfInBounds_toArray, List.set_cons_zero, List.set_cons_succ]
              refine wpAnyH_take (i := 60) (oi := { dst := some 109, op := Op.pick (Operand.tmp 96) (Operand.const (Value.bool true)) (Operand.tmp 108), type := 4, pos := "exact.go:46", after := #[{ on := 47, ground := Ground.data }, { on := 59, ground := Ground.data }], guard := none }) (v := ?_) rfl (by kernel_rfl) (by kernel_rfl) (by kernel_rfl) (fun _ _ _ h => h) (Or.inl ⟨by rfl, ?_⟩) hHeld ?_
              rotate_left 1
              · (intro w' hSw; clear hSw; go_simp; (try with_reducible rfl))
              try simp only [Act.put, List.setIfInBounds_toArray, List.set_cons_zero, List.set_cons_succ]
              refine wpAnyH_take (i := 61) (oi := { dst := some 110, op := Op.move (Operand.tmp 109), type := 4, pos := "exact.go:46", after := #[{ on := 60, ground := Ground.data }, { on := 49, ground := Ground.chain }], guard := none }) (v := ?_) rfl (by kernel_rfl) (by kernel_rfl) (by kernel_rfl) (fun _ _ _ h => h) (Or.inl ⟨by rfl, ?_⟩) hHeld ?_
              rotate_left 1
              · (intro w' hSw; clear hSw; go_simp; (try with_reducible rfl))
              try simp only [Act.put, List.setIfInBounds_toArray, List.set_cons_zero, List.set_cons_succ]
              refine wpAnyH_take (i := 62) (oi := { dst := some 111, op := Op.move (Operand.tmp 5), type := 24, pos := "exact.go:46", after := #[{ on := 61, ground := Ground.guard }], guard := some (61, false) }) (v := ?_) rfl (by kernel_rfl) (by kernel_rfl) (by kernel_rfl) (fun _ _ _ h => h) (Or.inl ⟨by rfl, ?_⟩) hHeld ?_
              rotate_left 1
              · (intro w' hSw; clear hSw; go_simp; (try with_reducible rfl))
              try simp only [Act.put, List.setIfInBounds_toArray, List.set_cons_zero, List.set_cons_succ]
              refine wpAnyH_take (i := 63) (oi := { dst := some 112, op := Op.move (Operand.tmp 1), type := 3, pos := "exact.go:46", after := #[{ on := 61, ground := Ground.guard }], guard := some (61, false) }) (v := ?_) rfl (by kernel_rfl) (by kernel_rfl) (by kernel_rfl) (fun _ _ _ h => h) (Or.inl ⟨by rfl, ?_⟩) hHeld ?_
              rotate_left 1
              · (intro w' hSw; clear hSw; go_simp; (try with_reducible rfl))
              try simp only [Act.put, List.setIfInBounds_toArray, List.set_cons_zero, List.set_cons_succ]
              refine wpAnyH_take (i := 65) (oi := { dst := some 114, op := Op.move (Operand.tmp 6), type := 26, pos := "exact.go:46", after := #[{ on := 61, ground := Ground.guard }], guard := some (61, false) }) (v := ?_) rfl (by kernel_rfl) (by kernel_rfl) (by kernel_rfl) (fun _ _ _ h => h) (Or.inl ⟨by rfl, ?_⟩) hHeld ?_
              rotate_left 1
              · (intro w' hSw; clear hSw; go_simp; (try with_reducible rfl))
              try simp only [Act.put, List.setIfInBounds_toArray, List.set_cons_zero, List.set_cons_succ]
              refine wpAnyH_take (i := 66) (oi := { dst := some 115, op := Op.move (Operand.tmp 1), type := 3, pos := "exact.go:46", after := #[{ on := 61, ground := Ground.guard }], guard := some (61, false) }) (v := ?_) rfl (by kernel_rfl) (by kernel_rfl) (by kernel_rfl) (fun _ _ _ h => h) (Or.inl ⟨by rfl, ?_⟩) hHeld ?_
              rotate_left 1
              · (intro w' hSw; clear hSw; go_simp; (try with_reducible rfl))
              try simp only [Act.put, List.setIfInBounds_toArray, List.set_cons_zero, List.set_cons_succ]
              refine wpAnyH_ready (rs := [64]) (by kernel_rfl) (by simp) (AllReadyH.cons (o := { dst := some 113, op := Op.call { callee := Callee.value (Operand.func 20), args := #[Operand.tmp 111, Operand.tmp 112], argTypes := #[24, 3] }, type := 42, pos := "exact.go:46", after := #[{ on := 62, ground := Ground.data }, { on := 63, ground := Ground.data }, { on := 61, ground := Ground.chain }, { on := 61, ground := Ground.guard }], guard := some (61, false) }) rfl (fun K hK => ?_) AllReadyH.nil)
              go_simp
              refine cu.out.mono ?_
              rintro e w12 ⟨v12, S12, rfl, hs12, h12⟩
              have h12' := Pair3.of h12
              have cv := Lib.hid (pair_upto h12' hs6'.out hc1.out n)
              obtain ⟨a12, cap12, rfl, -, -, -⟩ := hs12.form
              replace hs12 := Lib.hid hs12
              replace h12' := Lib.hid h12'
              clear cu h12 hHeld
              go_wp2_with fail
              refine hK.out _ _ ⟨_, h12'.out⟩ (fun hHeld => ?_)
              clear hK K
              try simp only [Act.put, List.setIfInBounds_toArray, List.set_cons_zero, List.set_cons_succ]
              clear h12'
              refine wpAnyH_ready (rs := [67]) (by kernel_rfl) (by simp) (AllReadyH.cons (o := { dst := some 116, op := Op.call { callee := Callee.value (Operand.func 21), args := #[Operand.tmp 114, Operand.tmp 115], argTypes := #[26, 3] }, type := 42, pos := "exact.go:46", after := #[{ on := 65, ground := Ground.data }, { on := 66, ground := Ground.data }, { on := 64, ground := Ground.chain }, { on := 61, ground := Ground.guard }], guard := some (61, false) }) rfl (fun K hK => ?_) AllReadyH.nil)
              go_simp
              refine cv.out.mono ?_
              rintro e w13 ⟨v13, S13, rfl, hs13, h13⟩
              have r1 := (h13.perm (Y' := S12 ++ S13) (by simpa using List.perm_append_comm)).ints hs12.out
              have r2 := h13.ints hs13
              obtain ⟨a13, cap13, rfl, -, -, -⟩ := hs13.form
              have cw := Lib.hid (sameInts_true r1 r2 (by have := uptoL_len L1 n; omega))
              have h14 := Lib.hid (fun q => h13.drop.drewN q)
              replace h13 := Lib.hid h13
              clear cv hs13 hs12 r1 r2 hHeld
              generalize (uptoL L1 n).length = nu at *
              go_wp2_with fail
              refine hK.out _ _ ⟨_, h13.out⟩ (fun hHeld => ?_)
              clear hK K
              try simp only [Act.put, List.setIfInBounds_toArray, List.set_cons_zero, List.set_cons_succ]
              clear h13
              refine wpAnyH_ready (rs := [68]) (by kernel_rfl) (by simp) (AllReadyH.cons (o := { dst := some 117, op := Op.call { callee := Callee.value (Operand.func 19), args := #[Operand.tmp 113, Operand.tmp 116], argTypes := #[42, 42] }, type := 4, pos := "exact.go:46", after := #[{ on := 64, ground := Ground.data }, { on := 67, ground := Ground.data }, { on := 67, ground := Ground.chain }, { on := 61, ground := Ground.guard }], guard := some (61, false) }) rfl (fun K hK => ?_) AllReadyH.nil)
              go_simp
              refine cw.out.mono ?_
              rintro e w15 ⟨rfl, q15, rfl⟩
              have h14' := Lib.hid (h14.out q15)
              clear cw h14 hHeld
              go_wp2_with fail
              refine hK.out _ _ ⟨_, h14'.out⟩ (fun hHeld => ?_)
              clear hK K
              try simp only [Act.put, List.setIfInBounds_toArray, List.set_cons_zero, List.set_cons_succ]
              refine wpAnyH_take (i := 69) (oi := { dst := some 118, op := Op.unOp UnOp.not 4 (Operand.tmp 117), type := 4, pos := "exact.go:46", after := #[{ on := 68, ground := Ground.data }, { on := 61, ground := Ground.guard }], guard := some (61, false) }) (v := ?_) rfl (by kernel_rfl) (by kernel_rfl) (by kernel_rfl) (fun _ _ _ h => h) (Or.inl ⟨by rfl, ?_⟩) hHeld ?_
              rotate_left 1
              · (intro w' hSw; clear hSw; go_simp; (try with_reducible rfl))
              try simp only [Act.put, List.setIfInBounds_toArray, List.set_cons_zero, List.set_cons_succ]
              refine wpAnyH_take (i := 70) (oi := { dst := some 119, op := Op.pick (Operand.tmp 110) (Operand.const (Value.bool true)) (Operand.tmp 118), type := 4, pos := "exact.go:46", after := #[{ on := 61, ground := Ground.data }, { on := 69, ground := Ground.data }], guard := none }) (v := ?_) rfl (by kernel_rfl) (by kernel_rfl) (by kernel_rfl) (fun _ _ _ h => h) (Or.inl ⟨by rfl, ?_⟩) hHeld ?_
              rotate_left 1
              · (intro w' hSw; clear hSw; go_simp; (try with_reducible rfl))
              try simp only [Act.put, List.setIfInBounds_toArray, List.set_cons_zero, List.set_cons_succ]
              refine wpAnyH_done (by kernel_rfl) ?_ _
              have h15 : RgsIs w1.heap.size w1 (w13.drewN q15) w1.heap.size L1 ((fb, .cells #[.slice a6 L1.length cap6] 29) :: S6) := by
                have := RgsIs.sub h14'.out (List.sublist_cons_self _ _)
                rw [List.append_nil] at this
                exact this
              replace h15 := Lib.hid h15
              clear h14' hHeld
              go_wp2_with fail
              go_roundg (len - (j + 1))
              case measure => omega
              case rel => exact ⟨j + 1, _, L1, S6, by go_num, by omega, hs6'.out, h15.out⟩
          · as_aux_lemma =>
              obtain ⟨x, hfirst⟩ : ∃ x, L1[0]? = some x := ⟨_, List.getElem?_eq_getElem (by omega)⟩
              have hlv : leastV L1 = .tuple #[.int .i64 x.1, .bool true] := by
                cases L1 with
                | nil => simp at hfirst
                | cons y t => simp at hfirst; subst hfirst; rfl
              rw [hlv] at cl
              obtain ⟨x1, x2⟩ := x
              simp only at cl
              have hz : 0 < L1.length := by omega
              have hz1 : (0 : Int) < L1.length := by omega
              replace hfirst := Lib.hid hfirst
              clear hlv h0
              replace cl := Lib.hid cl
              go_wp2_with fail
              refine cl.out.mono ?_
              rintro e w5 ⟨rfl, rfl⟩
              clear cl
              go_wp2_with fail
              refine wp_region_held_drew (S := fun w' => w'.cell? ⟨sb, 0, none⟩ = some (.bool cut) ∧ w'.cell? ⟨sb, 1, none⟩ = some (.int .i64 lo) ∧ w'.cell? ⟨sb, 2, none⟩ = some (.int .i64 hi)) (by kernel_rfl) ⟨m0, m1, m2⟩ (fun hHeld => ?_)
              clear m0 m1 m2
              refine wpAnyH_take (i := 0) (oi := { dst := some 49, op := Op.move (Operand.tmp 9), type := 3, pos := "exact.go:46", after := #[], guard := none }) (v := ?_) rfl (by kernel_rfl) (by kernel_rfl) (by kernel_rfl) (fun _ _ _ h => h) (Or.inl ⟨by rfl, ?_⟩) hHeld ?_
              rotate_left 1
              · (intro w' hSw; clear hSw; go_simp; (try with_reducible rfl))
              try simp only [Act.put, List.setIfInBounds_toArray, List.set_cons_zero, List.set_cons_succ]
              refine wpAnyH_take (i := 1) (oi := { dst := some 50, op := Op.move (Operand.tmp 6), type := 26, pos := "exact.go:46", after := #[], guard := none }) (v := ?_) rfl (by kernel_rfl) (by kernel_rfl) (by kernel_rfl) (fun _ _ _ h => h) (Or.inl ⟨by rfl, ?_⟩) hHeld ?_
              rotate_left 1
              · (intro w' hSw; clear hSw; go_simp; (try with_reducible rfl))
              try simp only [Act.put, List.setIfInBounds_toArray, List.set_cons_zero, List.set_cons_succ]
              refine wpAnyH_take (i := 2) (oi := { dst := some 51, op := Op.fieldAddr 31 (Operand.tmp 8) 1, type := 0, pos := "exact.go:46", after := #[], guard := none }) (v := ?_) rfl (by kernel_rfl) (by kernel_rfl) (by kernel_rfl) (fun _ _ _ h => h) (Or.inl ⟨by rfl, ?_⟩) hHeld ?_
              rotate_left 1
              · (intro w' hSw; clear hSw; go_simp; (try with_reducible rfl))
              try simp only [Act.put, List.setIfInBounds_toArray, List.set_cons_zero, List.set_cons_succ]
              refine wpAnyH_take (i := 3) (oi := { dst := some 52, op := Op.load 3 (Operand.tmp 51), type := 3, pos := "exact.go:46", after := #[{ on := 2, ground := Ground.data }], guard := none }) (v := ?_) rfl (by kernel_rfl) (by kernel_rfl) (by kernel_rfl) (fun _ _ _ h => h) (Or.inl ⟨by rfl, ?_⟩) hHeld ?_
              rotate_left 1
              · (intro w' hSw; obtain ⟨s0, s1, s2⟩ := hSw; go_simp; (try with_reducible rfl))
              try simp only [Act.put, List.setIfInBounds_toArray, List.set_cons_zero, List.set_cons_succ]
              refine wpAnyH_take (i := 4) (oi := { dst := some 53, op := Op.fieldAddr 31 (Operand.tmp 8) 2, type := 0, pos := "exact.go:46", after := #[], guard := none }) (v := ?_) rfl (by kernel_rfl) (by kernel_rfl) (by kernel_rfl) (fun _ _ _ h => h) (Or.inl ⟨by rfl, ?_⟩) hHeld ?_
              rotate_left 1
              · (intro w' hSw; clear hSw; go_simp; (try with_reducible rfl))
              try simp only [Act.put, List.setIfInBounds_toArray, List.set_cons_zero, List.set_cons_succ]
              refine wpAnyH_take (i := 5) (oi := { dst := some 54, op := Op.load 3 (Operand.tmp 53), type := 3, pos := "exact.go:46", after := #[{ on := 4, ground := Ground.data }], guard := none }) (v := ?_) rfl (by kernel_rfl) (by kernel_rfl) (by kernel_rfl) (fun _ _ _ h => h) (Or.inl ⟨by rfl, ?_⟩) hHeld ?_
              rotate_left 1
              · (intro w' hSw; obtain ⟨s0, s1, s2⟩ := hSw; go_simp; (try with_reducible rfl))
              try simp only [Act.put, List.setIfInBounds_toArray, List.set_cons_zero, List.set_cons_succ]
              refine wpAnyH_take (i := 6) (oi := { dst := some 55, op := Op.fieldAddr 31 (Operand.tmp 8) 0, type := 0, pos := "exact.go:46", after := #[], guard := none }) (v := ?_) rfl (by kernel_rfl) (by kernel_rfl) (by kernel_rfl) (fun _ _ _ h => h) (Or.inl ⟨by rfl, ?_⟩) hHeld ?_
              rotate_left 1
              · (intro w' hSw; clear hSw; go_simp; (try with_reducible rfl))
              try simp only [Act.put, List.setIfInBounds_toArray, List.set_cons_zero, List.set_cons_succ]
              refine wpAnyH_take (i := 7) (oi := { dst := some 56, op := Op.load 4 (Operand.tmp 55), type := 4, pos := "exact.go:46", after := #[{ on := 6, ground := Ground.data }], guard := none }) (v := ?_) rfl (by kernel_rfl) (by kernel_rfl) (by kernel_rfl) (fun _ _ _ h => h) (Or.inl ⟨by rfl, ?_⟩) hHeld ?_
              rotate_left 1
              · (intro w' hSw; obtain ⟨s0, s1, s2⟩ := hSw; go_simp; (try with_reducible rfl))
              try simp only [Act.put, List.setIfInBounds_toArray, List.set_cons_zero, List.set_cons_succ]
              refine wpAnyH_take (i := 8) (oi := { dst := some 57, op := Op.unOp UnOp.not 4 (Operand.tmp 56), type := 4, pos := "exact.go:46", after := #[{ on := 7, ground := Ground.data }], guard := none }) (v := ?_) rfl (by kernel_rfl) (by kernel_rfl) (by kernel_rfl) (fun _ _ _ h => h) (Or.inl ⟨by rfl, ?_⟩) hHeld ?_
              rotate_left 1
              · (intro w' hSw; clear hSw; go_simp; (try with_reducible rfl))
              try simp only [Act.put, List.setIfInBounds_toArray, List.set_cons_zero, List.set_cons_succ]
              refine wpAnyH_ready (rs := [9]) (by kernel_rfl) (by simp) (AllReadyH.cons (o := { dst := some 58, op := Op.call { callee := Callee.value (Operand.func 12), args := #[Operand.tmp 50, Operand.tmp 52, Operand.tmp 54, Operand.tmp 57], argTypes := #[26, 3, 3, 4] }, type := 3, pos := "exact.go:46", after := #[{ on := 1, ground := Ground.data }, { on := 3, ground := Ground.data }, { on := 5, ground := Ground.data }, { on := 8, ground := Ground.data }], guard := none }) rfl (fun K hK => ?_) AllReadyH.nil)
              go_simp
              refine ct.out.mono ?_
              rintro e w6 ⟨rfl, a6, cap6, S6, hs6, h6⟩
              clear ct hHeld
              go_wp2_with fail
              refine hK.out _ _ ⟨h6.step rfl, h6.step rfl, h6.step rfl⟩ (fun hHeld => ?_)
              clear hK K
              try simp only [Act.put, List.setIfInBounds_toArray, List.set_cons_zero, List.set_cons_succ]
              obtain ⟨a', cap', e, hrd⟩ := h6.read hs6
              cases e
              obtain ⟨b6, off6, rfl, -, -⟩ := hrd 0 _ hfirst.out
              clear hrd
              have hrow : Hid (∀ w' Y, Pair3 w1.heap.size w1 w' w1.heap.size fb sb (.cells #[.bool cut, .int .i64 lo, .int .i64 hi] 31) (.slice (some ⟨b6, off6, none⟩) L1.length cap6) L1 S6 Y → w'.cell? ⟨b6, off6, none⟩ = some (.int .i64 x1)) := Lib.hid (fun w' Y hp => by
                obtain ⟨a', cap', e, hrd⟩ := hp.read hs6
                cases e
                obtain ⟨b', off', e, f1, -⟩ := hrd 0 _ hfirst.out
                cases e
                rw [Nat.zero_mul, Nat.add_zero] at f1
                exact f1)
              refine wpAnyH_mono (S2 := fun w' => ∃ Y, Pair3 w1.heap.size w1 w' w1.heap.size fb sb (.cells #[.bool cut, .int .i64 lo, .int .i64 hi] 31) (.slice (some ⟨b6, off6, none⟩) L1.length cap6) L1 S6 Y) (fun w' ⟨Y, h⟩ => ⟨h.step rfl, h.step rfl, h.step rfl⟩) _ _ _ _ ?_
              replace hHeld : ∃ Y, Pair3 w1.heap.size w1 w6 w1.heap.size fb sb (.cells #[.bool cut, .int .i64 lo, .int .i64 hi] 31) (.slice (some ⟨b6, off6, none⟩) L1.length cap6) L1 S6 Y := ⟨_, h6⟩
              have ca := Lib.hid (rgs_all h6.rgs)
              have hs6' := Lib.hid hs6
              clear h6 hs6
              refine wpAnyH_take (i := 10) (oi := { dst := some 59, op := Op.binOp BinOp.neq 3 (Operand.tmp 49) (Operand.tmp 58) 3, type := 4, pos := "exact.go:46", after := #[{ on := 0, ground := Ground.data }, { on := 9, ground := Ground.data }], guard := none }) (v := ?_) rfl (by kernel_rfl) (by kernel_rfl) (by kernel_rfl) (fun _ _ _ h => h) (Or.inl ⟨by rfl, ?_⟩) hHeld ?_
              rotate_left 1
              · (intro w' hSw; clear hSw; go_simp; (try with_reducible rfl))
              try simp only [Act.put, List.setIfInBounds_toArray, List.set_cons_zero, List.set_cons_succ]
              refine wpAnyH_take (i := 11) (oi := { dst := some 60, op := Op.move (Operand.tmp 59), type := 4, pos := "exact.go:46", after := #[{ on := 10, ground := Ground.data }, { on := 9, ground := Ground.chain }], guard := none }) (v := ?_) rfl (by kernel_rfl) (by kernel_rfl) (by kernel_rfl) (fun _ _ _ h => h) (Or.inl ⟨by rfl, ?_⟩) hHeld ?_
              rotate_left 1
              · (intro w' hSw; clear hSw; go_simp; (try with_reducible rfl))
              try simp only [Act.put, List.setIfInBounds_toArray, List.set_cons_zero, List.set_cons_succ]
              refine wpAnyH_take (i := 12) (oi := { dst := some 61, op := Op.move (Operand.tmp 5), type := 24, pos := "exact.go:46", after := #[{ on := 11, ground := Ground.guard }], guard := some (11, false) }) (v := ?_) rfl (by kernel_rfl) (by kernel_rfl) (by kernel_rfl) (fun _ _ _ h => h) (Or.inl ⟨by rfl, ?_⟩) hHeld ?_
              rotate_left 1
              · (intro w' hSw; clear hSw; go_simp; (try with_reducible rfl))
              try simp only [Act.put, List.setIfInBounds_toArray, List.set_cons_zero, List.set_cons_succ]
              refine wpAnyH_take (i := 14) (oi := { dst := some 63, op := Op.move (Operand.tmp 6), type := 26, pos := "exact.go:46", after := #[{ on := 11, ground := Ground.guard }], guard := some (11, false) }) (v := ?_) rfl (by kernel_rfl) (by kernel_rfl) (by kernel_rfl) (fun _ _ _ h => h) (Or.inl ⟨by rfl, ?_⟩) hHeld ?_
              rotate_left 1
              · (intro w' hSw; clear hSw; go_simp; (try with_reducible rfl))
              try simp only [Act.put, List.setIfInBounds_toArray, List.set_cons_zero, List.set_cons_succ]
              refine wpAnyH_take (i := 15) (oi := { dst := some 64, op := Op.nilCheck (Operand.tmp 63), type := 0, pos := "exact.go:46", after := #[{ on := 14, ground := Ground.data }, { on := 11, ground := Ground.guard }], guard := some (11, false) }) (v := ?_) rfl (by kernel_rfl) (by kernel_rfl) (by kernel_rfl) (fun _ _ _ h => h) (Or.inl ⟨by rfl, ?_⟩) hHeld ?_
              rotate_left 1
              · (intro w' hSw; clear hSw; go_simp; (try with_reducible rfl))
              try simp only [Act.put, List.setIfInBounds_toArray, List.set_cons_zero, List.set_cons_succ]
              refine wpAnyH_take (i := 16) (oi := { dst := some 65, op := Op.fieldAddr 29 (Operand.tmp 64) 0, type := 0, pos := "exact.go:46", after := #[{ on := 15, ground := Ground.data }, { on := 11, ground := Ground.guard }], guard := some (11, false) }) (v := ?_) rfl (by kernel_rfl) (by kernel_rfl) (by kernel_rfl) (fun _ _ _ h => h) (Or.inl ⟨by rfl, ?_⟩) hHeld ?_
              rotate_left 1
              · (intro w' hSw; clear hSw; go_simp; (try with_reducible rfl))
              try simp only [Act.put, List.setIfInBounds_toArray, List.set_cons_zero, List.set_cons_succ]
              refine wpAnyH_take (i := 17) (oi := { dst := some 66, op := Op.load 27 (Operand.tmp 65), type := 27, pos := "exact.go:46", after := #[{ on := 16, ground := Ground.data }, { on := 11, ground := Ground.guard }], guard := some (11, false) }) (v := ?_) rfl (by kernel_rfl) (by kernel_rfl) (by kernel_rfl) (fun _ _ _ h => h) (Or.inl ⟨by rfl, ?_⟩) hHeld ?_
              rotate_left 1
              · (intro w' hSw; obtain ⟨Y, hp⟩ := hSw; have s0 := hp.c0; have s1 := hrow.out _ _ hp; go_simp; (try with_reducible rfl))
              try simp only [Act.put, List.setIfInBounds_toArray, List.set_cons_zero, List.set_cons_succ]
              refine wpAnyH_ready (rs := [13]) (by kernel_rfl) (by simp) (AllReadyH.cons (o := { dst := some 62, op := Op.call { callee := Callee.value (Operand.func 14), args := #[Operand.tmp 61], argTypes := #[24] }, type := 27, pos := "exact.go:46", after := #[{ on := 12, ground := Ground.data }, { on := 11, ground := Ground.chain }, { on := 11, ground := Ground.guard }], guard := some (11, false) }) rfl (fun K hK => ?_) AllReadyH.nil)
              go_simp
              refine ca.out.mono ?_
              rintro e w7 ⟨v7, S7, rfl, hs7, h7⟩
              have h7' : Pair3 w1.heap.size w1 w7 w1.heap.size fb sb (.cells #[.bool cut, .int .i64 lo, .int .i64 hi] 31) (.slice (some ⟨b6, off6, none⟩) L1.length cap6) L1 S6 (S7 ++ []) := by
                have := Pair3.of h7
                simpa using this
              have cs := Lib.hid (sameRows_true (h7'.rows hs7) (h7'.read hs6'.out) (by omega))
              obtain ⟨a7, cap7, rfl, -, -, -⟩ := hs7.form
              have h8 := Lib.hid (fun q => h7'.drop.drewN q)
              replace h7' := Lib.hid h7'
              clear ca h7 hs7 hHeld
              go_wp2_with fail
              refine hK.out _ _ ⟨_, h7'.out⟩ (fun hHeld => ?_)
              clear hK K
              try simp only [Act.put, List.setIfInBounds_toArray, List.set_cons_zero, List.set_cons_succ]
              clear h7'
              refine wpAnyH_ready (rs := [18]) (by kernel_rfl) (by simp) (AllReadyH.cons (o := { dst := some 67, op := Op.call { callee := Callee.value (Operand.func 13), args := #[Operand.tmp 62, Operand.tmp 66], argTypes := #[27, 27] }, type := 4, pos := "exact.go:46", after := #[{ on := 13, ground := Ground.data }, { on := 17, ground := Ground.data }, { on := 13, ground := Ground.chain }, { on := 11, ground := Ground.guard }], guard := some (11, false) }) rfl (fun K hK => ?_) AllReadyH.nil)
              go_simp
              refine cs.out.mono ?_
              rintro e w8 ⟨rfl, q8, rfl⟩
              have h8' := h8.out q8
              have cc := Lib.hid (rgs_count h8'.rgs)
              have cd := Lib.hid (refCount_any h8'.c0 (h8'.read hs6'.out) hc1.out.fits (by omega))
              replace h8' := Lib.hid h8'
              clear cs h8 hHeld
              generalize w7.drewN q8 = w8 at *
              go_wp2_with fail
              refine hK.out _ _ ⟨_, h8'.out⟩ (fun hHeld => ?_)
              clear hK K
              try simp only [Act.put, List.setIfInBounds_toArray, List.set_cons_zero, List.set_cons_succ]
              refine wpAnyH_take (i := 19) (oi := { dst := some 68, op := Op.unOp UnOp.not 4 (Operand.tmp 67), type := 4, pos := "exact.go:46", after := #[{ on := 18, ground := Ground.data }, { on := 11, ground := Ground.guard }], guard := some (11, false) }) (v := ?_) rfl (by kernel_rfl) (by kernel_rfl) (by kernel_rfl) (fun _ _ _ h => h) (Or.inl ⟨by rfl, ?_⟩) hHeld ?_
              rotate_left 1
              · (intro w' hSw; clear hSw; go_simp; (try with_reducible rfl))
              try simp only [Act.put, List.setIfInBounds_toArray, List.set_cons_zero, List.set_cons_succ]
              refine wpAnyH_take (i := 20) (oi := { dst := some 69, op := Op.pick (Operand.tmp 60) (Operand.const (Value.bool true)) (Operand.tmp 68), type := 4, pos := "exact.go:46", after := #[{ on := 11, ground := Ground.data }, { on := 19, ground := Ground.data }], guard := none }) (v := ?_) rfl (by kernel_rfl) (by kernel_rfl) (by kernel_rfl) (fun _ _ _ h => h) (Or.inl ⟨by rfl, ?_⟩) hHeld ?_
              rotate_left 1
              · (intro w' hSw; clear hSw; go_simp; (try with_reducible rfl))
              try simp only [Act.put, List.setIfInBounds_toArray, List.set_cons_zero, List.set_cons_succ]
              refine wpAnyH_take (i := 21) (oi := { dst := some 70, op := Op.move (Operand.tmp 69), type := 4, pos := "exact.go:46", after := #[{ on := 20, ground := Ground.data }, { on := 18, ground := Ground.chain }], guard := none }) (v := ?_) rfl (by kernel_rfl) (by kernel_rfl) (by kernel_rfl) (fun _ _ _ h => h) (Or.inl ⟨by rfl, ?_⟩) hHeld ?_
              rotate_left 1
              · (intro w' hSw; clear hSw; go_simp; (try with_reducible rfl))
              try simp only [Act.put, List.setIfInBounds_toArray, List.set_cons_zero, List.set_cons_succ]
              refine wpAnyH_take (i := 22) (oi := { dst := some 71, op := Op.move (Operand.tmp 5), type := 24, pos := "exact.go:46", after := #[{ on := 21, ground := Ground.guard }], guard := some (21, false) }) (v := ?_) rfl (by kernel_rfl) (by kernel_rfl) (by kernel_rfl) (fun _ _ _ h => h) (Or.inl ⟨by rfl, ?_⟩) hHeld ?_
              rotate_left 1
              · (intro w' hSw; clear hSw; go_simp; (try with_reducible rfl))
              try simp only [Act.put, List.setIfInBounds_toArray, List.set_cons_zero, List.set_cons_succ]
              refine wpAnyH_take (i := 24) (oi := { dst := some 73, op := Op.move (Operand.tmp 6), type := 26, pos := "exact.go:46", after := #[{ on := 21, ground := Ground.guard }], guard := some (21, false) }) (v := ?_) rfl (by kernel_rfl) (by kernel_rfl) (by kernel_rfl) (fun _ _ _ h => h) (Or.inl ⟨by rfl, ?_⟩) hHeld ?_
              rotate_left 1
              · (intro w' hSw; clear hSw; go_simp; (try with_reducible rfl))
              try simp only [Act.put, List.setIfInBounds_toArray, List.set_cons_zero, List.set_cons_succ]
              refine wpAnyH_ready (rs := [23]) (by kernel_rfl) (by simp) (AllReadyH.cons (o := { dst := some 72, op := Op.call { callee := Callee.value (Operand.func 15), args := #[Operand.tmp 71], argTypes := #[24] }, type := 3, pos := "exact.go:46", after := #[{ on := 22, ground := Ground.data }, { on := 21, ground := Ground.chain }, { on := 21, ground := Ground.guard }], guard := some (21, false) }) rfl (fun K hK => ?_) AllReadyH.nil)
              go_simp
              refine cc.out.mono ?_
              rintro e w9 ⟨rfl, rfl⟩
              clear cc hHeld
              go_wp2_with fail
              refine hK.out _ _ ⟨_, h8'.out⟩ (fun hHeld => ?_)
              clear hK K
              try simp only [Act.put, List.setIfInBounds_toArray, List.set_cons_zero, List.set_cons_succ]
              refine wpAnyH_ready (rs := [25]) (by kernel_rfl) (by simp) (AllReadyH.cons (o := { dst := some 74, op := Op.call { callee := Callee.value (Operand.func 16), args := #[Operand.tmp 73], argTypes := #[26] }, type := 3, pos := "exact.go:46", after := #[{ on := 24, ground := Ground.data }, { on := 23, ground := Ground.chain }, { on := 21, ground := Ground.guard }], guard := some (21, false) }) rfl (fun K hK => ?_) AllReadyH.nil)
              go_simp
              refine cd.out.mono ?_
              rintro e w9 ⟨rfl, q9, rfl⟩
              have h9 := h8'.out.drewN q9
              have ch := Lib.hid (rgs_has h9.rgs n)
              replace h9 := Lib.hid h9
              clear cd h8' hHeld
              generalize w8.drewN q9 = w9 at *
              go_wp2_with fail
              refine hK.out _ _ ⟨_, h9.out⟩ (fun hHeld => ?_)
              clear hK K
              try simp only [Act.put, List.setIfInBounds_toArray, List.set_cons_zero, List.set_cons_succ]
              clear h9
              refine wpAnyH_take (i := 26) (oi := { dst := some 75, op := Op.binOp BinOp.neq 3 (Operand.tmp 72) (Operand.tmp 74) 3, type := 4, pos := "exact.go:46", after := #[{ on := 23, ground := Ground.data }, { on := 25, ground := Ground.data }, { on := 21, ground := Ground.guard }], guard := some (21, false) }) (v := ?_) rfl (by kernel_rfl) (by kernel_rfl) (by kernel_rfl) (fun _ _ _ h => h) (Or.inl ⟨by rfl, ?_⟩) hHeld ?_
              rotate_left 1
              · (intro w' hSw; clear hSw; go_simp; (try with_reducible rfl))
              try simp only [Act.put, List.setIfInBounds_toArray, List.set_cons_zero, List.set_cons_succ]
              refine wpAnyH_take (i := 27) (oi := { dst := some 76, op := Op.pick (Operand.tmp 70) (Operand.const (Value.bool true)) (Operand.tmp 75), type := 4, pos := "exact.go:46", after := #[{ on := 21, ground := Ground.data }, { on := 26, ground := Ground.data }], guard := none }) (v := ?_) rfl (by kernel_rfl) (by kernel_rfl) (by kernel_rfl) (fun _ _ _ h => h) (Or.inl ⟨by rfl, ?_⟩) hHeld ?_
              rotate_left 1
              · (intro w' hSw; clear hSw; go_simp; (try with_reducible rfl))
              try simp only [Act.put, List.setIfInBounds_toArray, List.set_cons_zero, List.set_cons_succ]
              refine wpAnyH_take (i := 28) (oi := { dst := some 77, op := Op.move (Operand.tmp 76), type := 4, pos := "exact.go:46", after := #[{ on := 27, ground := Ground.data }, { on := 25, ground := Ground.chain }], guard := none }) (v := ?_) rfl (by kernel_rfl) (by kernel_rfl) (by kernel_rfl) (fun _ _ _ h => h) (Or.inl ⟨by rfl, ?_⟩) hHeld ?_
              rotate_left 1
              · (intro w' hSw; clear hSw; go_simp; (try with_reducible rfl))
              try simp only [Act.put, List.setIfInBounds_toArray, List.set_cons_zero, List.set_cons_succ]
              refine wpAnyH_take (i := 29) (oi := { dst := some 78, op := Op.move (Operand.tmp 5), type := 24, pos := "exact.go:46", after := #[{ on := 28, ground := Ground.guard }], guard := some (28, false) }) (v := ?_) rfl (by kernel_rfl) (by kernel_rfl) (by kernel_rfl) (fun _ _ _ h => h) (Or.inl ⟨by rfl, ?_⟩) hHeld ?_
              rotate_left 1
              · (intro w' hSw; clear hSw; go_simp; (try with_reducible rfl))
              try simp only [Act.put, List.setIfInBounds_toArray, List.set_cons_zero, List.set_cons_succ]
              refine wpAnyH_take (i := 30) (oi := { dst := some 79, op := Op.move (Operand.tmp 1), type := 3, pos := "exact.go:46", after := #[{ on := 28, ground := Ground.guard }], guard := some (28, false) }) (v := ?_) rfl (by kernel_rfl) (by kernel_rfl) (by kernel_rfl) (fun _ _ _ h => h) (Or.inl ⟨by rfl, ?_⟩) hHeld ?_
              rotate_left 1
              · (intro w' hSw; clear hSw; go_simp; (try with_reducible rfl))
              try simp only [Act.put, List.setIfInBounds_toArray, List.set_cons_zero, List.set_cons_succ]
              refine wpAnyH_take (i := 32) (oi := { dst := some 81, op := Op.move (Operand.tmp 6), type := 26, pos := "exact.go:46", after := #[{ on := 28, ground := Ground.guard }], guard := some (28, false) }) (v := ?_) rfl (by kernel_rfl) (by kernel_rfl) (by kernel_rfl) (fun _ _ _ h => h) (Or.inl ⟨by rfl, ?_⟩) hHeld ?_
              rotate_left 1
              · (intro w' hSw; clear hSw; go_simp; (try with_reducible rfl))
              try simp only [Act.put, List.setIfInBounds_toArray, List.set_cons_zero, List.set_cons_succ]
              refine wpAnyH_take (i := 33) (oi := { dst := some 82, op := Op.move (Operand.tmp 1), type := 3, pos := "exact.go:46", after := #[{ on := 28, ground := Ground.guard }], guard := some (28, false) }) (v := ?_) rfl (by kernel_rfl) (by kernel_rfl) (by kernel_rfl) (fun _ _ _ h => h) (Or.inl ⟨by rfl, ?_⟩) hHeld ?_
              rotate_left 1
              · (intro w' hSw; clear hSw; go_simp; (try with_reducible rfl))
              try simp only [Act.put, List.setIfInBounds_toArray, List.set_cons_zero, List.set_cons_succ]
              refine wpAnyH_ready (rs := [31]) (by kernel_rfl) (by simp) (AllReadyH.cons (o := { dst := some 80, op := Op.call { callee := Callee.value (Operand.func 17), args := #[Operand.tmp 78, Operand.tmp 79], argTypes := #[24, 3] }, type := 4, pos := "exact.go:46", after := #[{ on := 29, ground := Ground.data }, { on := 30, ground := Ground.data }, { on := 28, ground := Ground.chain }, { on := 28, ground := Ground.guard }], guard := some (28, false) }) rfl (fun K hK => ?_) AllReadyH.nil)
              go_simp
              refine ch.out.mono ?_
              rintro e w10 ⟨rfl, h10⟩
              have h10' : Pair3 w1.heap.size w1 w10 w1.heap.size fb sb (.cells #[.bool cut, .int .i64 lo, .int .i64 hi] 31) (.slice (some ⟨b6, off6, none⟩) L1.length cap6) L1 S6 [] := h10
              have ci := Lib.hid (refHas_any h10'.c0 (h10'.read hs6'.out) (by omega) n)
              have cu := Lib.hid (rgs_upto h10'.rgs n)
              replace h10' := Lib.hid h10'
              clear ch h10 hHeld
              go_wp2_with fail
              refine hK.out _ _ ⟨_, h10'.out⟩ (fun hHeld => ?_)
              clear hK K
              try simp only [Act.put, List.setIfInBounds_toArray, List.set_cons_zero, List.set_cons_succ]
              refine wpAnyH_ready (rs := [34]) (by kernel_rfl) (by simp) (AllReadyH.cons (o := { dst := some 83, op := Op.call { callee := Callee.value (Operand.func 18), args := #[Operand.tmp 81, Operand.tmp 82], argTypes := #[26, 3] }, type := 4, pos := "exact.go:46", after := #[{ on := 32, ground := Ground.data }, { on := 33, ground := Ground.data }, { on := 31, ground := Ground.chain }, { on := 28, ground := Ground.guard }], guard := some (28, false) }) rfl (fun K hK => ?_) AllReadyH.nil)
              go_simp
              refine ci.out.mono ?_
              rintro e w11 ⟨rfl, rfl⟩
              clear ci hHeld
              go_wp2_with fail
              refine hK.out _ _ ⟨_, h10'.out⟩ (fun hHeld => ?_)
              clear hK K
              try simp only [Act.put, List.setIfInBounds_toArray, List.set_cons_zero, List.set_cons_succ]
              clear h10'
              refine wpAnyH_take (i := 35) (oi := { dst := some 84, op := Op.binOp BinOp.neq 4 (Operand.tmp 80) (Operand.tmp 83) 4, type := 4, pos := "exact.go:46", after := #[{ on := 31, ground := Ground.data }, { on := 34, ground := Ground.data }, { on := 28, ground := Ground.guard }], guard := some (28, false) }) (v := ?_) rfl (by kernel_rfl) (by kernel_rfl) (by kernel_rfl) (fun _ _ _ h => h) (Or.inl ⟨by rfl, ?_⟩) hHeld ?_
              rotate_left 1
              · (intro w' hSw; clear hSw; go_simp; (try with_reducible rfl))
              try simp only [Act.put, List.setIfInBounds_toArray, List.set_cons_zero, List.set_cons_succ]
              refine wpAnyH_take (i := 36) (oi := { dst := some 85, op := Op.pick (Operand.tmp 77) (Operand.const (Value.bool true)) (Operand.tmp 84), type := 4, pos := "exact.go:46", after := #[{ on := 28, ground := Ground.data }, { on := 35, ground := Ground.data }], guard := none }) (v := ?_) rfl (by kernel_rfl) (by kernel_rfl) (by kernel_rfl) (fun _ _ _ h => h) (Or.inl ⟨by rfl, ?_⟩) hHeld ?_
              rotate_left 1
              · (intro w' hSw; clear hSw; go_simp; (try with_reducible rfl))
              try simp only [Act.put, List.setIfInBounds_toArray, List.set_cons_zero, List.set_cons_succ]
              refine wpAnyH_take (i := 37) (oi := { dst := some 86, op := Op.move (Operand.tmp 85), type := 4, pos := "exact.go:46", after := #[{ on := 36, ground := Ground.data }, { on := 34, ground := Ground.chain }], guard := none }) (v := ?_) rfl (by kernel_rfl) (by kernel_rfl) (by kernel_rfl) (fun _ _ _ h => h) (Or.inl ⟨by rfl, ?_⟩) hHeld ?_
              rotate_left 1
              · (intro w' hSw; clear hSw; go_simp; (try with_reducible rfl))
              try simp only [Act.put, List.setIfInBounds_toArray, List.set_cons_zero, List.set_cons_succ]
              refine wpAnyH_take (i := 38) (oi := { dst := some 87, op := Op.move (Operand.tmp 11), type := 4, pos := "exact.go:46", after := #[{ on := 37, ground := Ground.guard }], guard := some (37, false) }) (v := ?_) rfl (by kernel_rfl) (by kernel_rfl) (by kernel_rfl) (fun _ _ _ h => h) (Or.inl ⟨by rfl, ?_⟩) hHeld ?_
              rotate_left 1
              · (intro w' hSw; clear hSw; go_simp; (try with_reducible rfl))
              try simp only [Act.put, List.setIfInBounds_toArray, List.set_cons_zero, List.set_cons_succ]
              refine wpAnyH_take (i := 39) (oi := { dst := some 88, op := Op.move (Operand.tmp 6), type := 26, pos := "exact.go:46", after := #[{ on := 37, ground := Ground.guard }], guard := some (37, false) }) (v := ?_) rfl (by kernel_rfl) (by kernel_rfl) (by kernel_rfl) (fun _ _ _ h => h) (Or.inl ⟨by rfl, ?_⟩) hHeld ?_
              rotate_left 1
              · (intro w' hSw; clear hSw; go_simp; (try with_reducible rfl))
              try simp only [Act.put, List.setIfInBounds_toArray, List.set_cons_zero, List.set_cons_succ]
              refine wpAnyH_take (i := 40) (oi := { dst := some 89, op := Op.nilCheck (Operand.tmp 88), type := 0, pos := "exact.go:46", after := #[{ on := 39, ground := Ground.data }, { on := 37, ground := Ground.guard }], guard := some (37, false) }) (v := ?_) rfl (by kernel_rfl) (by kernel_rfl) (by kernel_rfl) (fun _ _ _ h => h) (Or.inl ⟨by rfl, ?_⟩) hHeld ?_
              rotate_left 1
              · (intro w' hSw; clear hSw; go_simp; (try with_reducible rfl))
              try simp only [Act.put, List.setIfInBounds_toArray, List.set_cons_zero, List.set_cons_succ]
              refine wpAnyH_take (i := 41) (oi := { dst := some 90, op := Op.fieldAddr 29 (Operand.tmp 89) 0, type := 0, pos := "exact.go:46", after := #[{ on := 40, ground := Ground.data }, { on := 37, ground := Ground.guard }], guard := some (37, false) }) (v := ?_) rfl (by kernel_rfl) (by kernel_rfl) (by kernel_rfl) (fun _ _ _ h => h) (Or.inl ⟨by rfl, ?_⟩) hHeld ?_
              rotate_left 1
              · (intro w' hSw; clear hSw; go_simp; (try with_reducible rfl))
              try simp only [Act.put, List.setIfInBounds_toArray, List.set_cons_zero, List.set_cons_succ]
              refine wpAnyH_take (i := 42) (oi := { dst := some 91, op := Op.load 27 (Operand.tmp 90), type := 27, pos := "exact.go:46", after := #[{ on := 41, ground := Ground.data }, { on := 37, ground := Ground.guard }], guard := some (37, false) }) (v := ?_) rfl (by kernel_rfl) (by kernel_rfl) (by kernel_rfl) (fun _ _ _ h => h) (Or.inl ⟨by rfl, ?_⟩) hHeld ?_
              rotate_left 1
              · (intro w' hSw; obtain ⟨Y, hp⟩ := hSw; have s0 := hp.c0; have s1 := hrow.out _ _ hp; go_simp; (try with_reducible rfl))
              try simp only [Act.put, List.setIfInBounds_toArray, List.set_cons_zero, List.set_cons_succ]
              refine wpAnyH_take (i := 43) (oi := { dst := some 92, op := Op.call { callee := Callee.builtin Builtin.len, args := #[Operand.tmp 91], argTypes := #[27] }, type := 3, pos := "exact.go:46", after := #[{ on := 42, ground := Ground.data }, { on := 37, ground := Ground.guard }], guard := some (37, false) }) (v := ?_) rfl (by kernel_rfl) (by kernel_rfl) (by kernel_rfl) (fun _ _ _ h => h) (Or.inl ⟨by rfl, ?_⟩) hHeld ?_
              rotate_left 1
              · (intro w' hSw; clear hSw; go_simp; (try with_reducible rfl))
              try simp only [Act.put, List.setIfInBounds_toArray, List.set_cons_zero, List.set_cons_succ]
              refine wpAnyH_take (i := 44) (oi := { dst := some 93, op := Op.binOp BinOp.gtr 3 (Operand.tmp 92) (Operand.const (Value.int IntKind.i64 0)) 3, type := 4, pos := "exact.go:46", after := #[{ on := 43, ground := Ground.data }, { on := 37, ground := Ground.guard }], guard := some (37, false) }) (v := ?_) rfl (by kernel_rfl) (by kernel_rfl) (by kernel_rfl) (fun _ _ _ h => h) (Or.inl ⟨by rfl, ?_⟩) hHeld ?_
              rotate_left 1
              · (intro w' hSw; clear hSw; go_simp; (try with_reducible rfl))
              try simp only [Act.put, List.setIfInBounds_toArray, List.set_cons_zero, List.set_cons_succ]
              refine wpAnyH_take (i := 45) (oi := { dst := some 94, op := Op.binOp BinOp.neq 4 (Operand.tmp 87) (Operand.tmp 93) 4, type := 4, pos := "exact.go:46", after := #[{ on := 38, ground := Ground.data }, { on := 44, ground := Ground.data }, { on := 37, ground := Ground.guard }], guard := some (37, false) }) (v := ?_) rfl (by kernel_rfl) (by kernel_rfl) (by kernel_rfl) (fun _ _ _ h => h) (Or.inl ⟨by rfl, ?_⟩) hHeld ?_
              rotate_left 1
              · (intro w' hSw; clear hSw; go_simp; (try with_reducible rfl))
              try simp only [Act.put, List.setIfInBounds_toArray, List.set_cons_zero, List.set_cons_succ]
              refine wpAnyH_take (i := 46) (oi := { dst := some 95, op := Op.pick (Operand.tmp 86) (Operand.const (Value.bool true)) (Operand.tmp 94), type := 4, pos := "exact.go:46", after := #[{ on := 37, ground := Ground.data }, { on := 45, ground := Ground.data }], guard := none }) (v := ?_) rfl (by kernel_rfl) (by kernel_rfl) (by kernel_rfl) (fun _ _ _ h => h) (Or.inl ⟨by rfl, ?_⟩) hHeld ?_
              rotate_left 1
              · (intro w' hSw; clear hSw; go_simp; (try with_reducible rfl))
              try simp only [Act.put, List.setIfInBounds_toArray, List.set_cons_zero, List.set_cons_succ]
              refine wpAnyH_take (i := 47) (oi := { dst := some 96, op := Op.move (Operand.tmp 95), type := 4, pos := "exact.go:46", after := #[{ on := 46, ground := Ground.data }, { on := 37, ground := Ground.chain }], guard := none }) (v := ?_) rfl (by kernel_rfl) (by kernel_rfl) (by kernel_rfl) (fun _ _ _ h => h) (Or.inl ⟨by rfl, ?_⟩) hHeld ?_
              rotate_left 1
              · (intro w' hSw; clear hSw; go_simp; (try with_reducible rfl))
              try simp only [Act.put, List.setIfInBounds_toArray, List.set_cons_zero, List.set_cons_succ]
              refine wpAnyH_take (i := 48) (oi := { dst := some 97, op := Op.move (Operand.tmp 11), type := 4, pos := "exact.go:46", after := #[{ on := 47, ground := Ground.guard }], guard := some (47, false) }) (v := ?_) rfl (by kernel_rfl) (by kernel_rfl) (by kernel_rfl) (fun _ _ _ h => h) (Or.inl ⟨by rfl, ?_⟩) hHeld ?_
              rotate_left 1
              · (intro w' hSw; clear hSw; go_simp; (try with_reducible rfl))
              try simp only [Act.put, List.setIfInBounds_toArray, List.set_cons_zero, List.set_cons_succ]
              refine wpAnyH_take (i := 49) (oi := { dst := some 98, op := Op.move (Operand.tmp 97), type := 4, pos := "exact.go:46", after := #[{ on := 48, ground := Ground.data }, { on := 47, ground := Ground.chain }, { on := 47, ground := Ground.guard }], guard := some (47, false) }) (v := ?_) rfl (by kernel_rfl) (by kernel_rfl) (by kernel_rfl) (fun _ _ _ h => h) (Or.inl ⟨by rfl, ?_⟩) hHeld ?_
              rotate_left 1
              · (intro w' hSw; clear hSw; go_simp; (try with_reducible rfl))
              try simp only [Act.put, List.setIfInBounds_toArray, List.set_cons_zero, List.set_cons_succ]
              refine wpAnyH_take (i := 50) (oi := { dst := some 99, op := Op.move (Operand.tmp 10), type := 3, pos := "exact.go:46", after := #[{ on := 49, ground := Ground.guard }], guard := some (49, true) }) (v := ?_) rfl (by kernel_rfl) (by kernel_rfl) (by kernel_rfl) (fun _ _ _ h => h) (Or.inl ⟨by rfl, ?_⟩) hHeld ?_
              rotate_left 1
              · (intro w' hSw; clear hSw; go_simp; (try with_reducible rfl))
              try simp only [Act.put, List.setIfInBounds_toArray, List.set_cons_zero, List.set_cons_succ]
              refine wpAnyH_take (i := 51) (oi := { dst := some 100, op := Op.move (Operand.tmp 6), type := 26, pos := "exact.go:46", after := #[{ on := 49, ground := Ground.guard }], guard := some (49, true) }) (v := ?_) rfl (by kernel_rfl) (by kernel_rfl) (by kernel_rfl) (fun _ _ _ h => h) (Or.inl ⟨by rfl, ?_⟩) hHeld ?_
              rotate_left 1
              · (intro w' hSw; clear hSw; go_simp; (try with_reducible rfl))
              try simp only [Act.put, List.setIfInBounds_toArray, List.set_cons_zero, List.set_cons_succ]
              refine wpAnyH_take (i := 52) (oi := { dst := some 101, op := Op.nilCheck (Operand.tmp 100), type := 0, pos := "exact.go:46", after := #[{ on := 51, ground := Ground.data }, { on := 49, ground := Ground.guard }], guard := some (49, true) }) (v := ?_) rfl (by kernel_rfl) (by kernel_rfl) (by kernel_rfl) (fun _ _ _ h => h) (Or.inl ⟨by rfl, ?_⟩) hHeld ?_
              rotate_left 1
              · (intro w' hSw; clear hSw; go_simp; (try with_reducible rfl))
              try simp only [Act.put, List.setIfInBounds_toArray, List.set_cons_zero, List.set_cons_succ]
              refine wpAnyH_take (i := 53) (oi := { dst := some 102, op := Op.fieldAddr 29 (Operand.tmp 101) 0, type := 0, pos := "exact.go:46", after := #[{ on := 52, ground := Ground.data }, { on := 49, ground := Ground.guard }], guard := some (49, true) }) (v := ?_) rfl (by kernel_rfl) (by kernel_rfl) (by kernel_rfl) (fun _ _ _ h => h) (Or.inl ⟨by rfl, ?_⟩) hHeld ?_
              rotate_left 1
              · (intro w' hSw; clear hSw; go_simp; (try with_reducible rfl))
              try simp only [Act.put, List.setIfInBounds_toArray, List.set_cons_zero, List.set_cons_succ]
              refine wpAnyH_take (i := 54) (oi := { dst := some 103, op := Op.load 27 (Operand.tmp 102), type := 27, pos := "exact.go:46", after := #[{ on := 53, ground := Ground.data }, { on := 49, ground := Ground.guard }], guard := some (49, true) }) (v := ?_) rfl (by kernel_rfl) (by kernel_rfl) (by kernel_rfl) (fun _ _ _ h => h) (Or.inl ⟨by rfl, ?_⟩) hHeld ?_
              rotate_left 1
              · (intro w' hSw; obtain ⟨Y, hp⟩ := hSw; have s0 := hp.c0; have s1 := hrow.out _ _ hp; go_simp; (try with_reducible rfl))
              try simp only [Act.put, List.setIfInBounds_toArray, List.set_cons_zero, List.set_cons_succ]
              refine wpAnyH_take (i := 55) (oi := { dst := some 104, op := Op.indexAddr 27 (Operand.tmp 103) (Operand.const (Value.int IntKind.i64 0)), type := 0, pos := "exact.go:46", after := #[{ on := 54, ground := Ground.data }, { on := 49, ground := Ground.guard }], guard := some (49, true) }) (v := ?_) rfl (by kernel_rfl) (by kernel_rfl) (by kernel_rfl) (fun _ _ _ h => h) (Or.inl ⟨by rfl, ?_⟩) hHeld ?_
              rotate_left 1
              · (intro w' hSw; clear hSw; go_simp; (try with_reducible rfl))
              try simp only [Act.put, List.setIfInBounds_toArray, List.set_cons_zero, List.set_cons_succ]
              refine wpAnyH_take (i := 56) (oi := { dst := some 105, op := Op.indexAddr 40 (Operand.tmp 104) (Operand.const (Value.int IntKind.i64 0)), type := 0, pos := "exact.go:46", after := #[{ on := 55, ground := Ground.data }, { on := 49, ground := Ground.guard }], guard := some (49, true) }) (v := ?_) rfl (by kernel_rfl) (by kernel_rfl) (by kernel_rfl) (fun _ _ _ h => h) (Or.inl ⟨by rfl, ?_⟩) hHeld ?_
              rotate_left 1
              · (intro w' hSw; clear hSw; go_simp; (try with_reducible rfl))
              try simp only [Act.put, List.setIfInBounds_toArray, List.set_cons_zero, List.set_cons_succ]
              refine wpAnyH_take (i := 57) (oi := { dst := some 106, op := Op.load 3 (Operand.tmp 105), type := 3, pos := "exact.go:46", after := #[{ on := 56, ground := Ground.data }, { on := 49, ground := Ground.guard }], guard := some (49, true) }) (v := ?_) rfl (by kernel_rfl) (by kernel_rfl) (by kernel_rfl) (fun _ _ _ h => h) (Or.inl ⟨by rfl, ?_⟩) hHeld ?_
              rotate_left 1
              · (intro w' hSw; obtain ⟨Y, hp⟩ := hSw; have s0 := hp.c0; have s1 := hrow.out _ _ hp; go_simp; (try with_reducible rfl))
              try simp only [Act.put, List.setIfInBounds_toArray, List.set_cons_zero, List.set_cons_succ]
              refine wpAnyH_take (i := 58) (oi := { dst := some 107, op := Op.binOp BinOp.neq 3 (Operand.tmp 99) (Operand.tmp 106) 3, type := 4, pos := "exact.go:46", after := #[{ on := 50, ground := Ground.data }, { on := 57, ground := Ground.data }, { on := 49, ground := Ground.guard }], guard := some (49, true) }) (v := ?_) rfl (by kernel_rfl) (by kernel_rfl) (by kernel_rfl) (fun _ _ _ h => h) (Or.inl ⟨by rfl, ?_⟩) hHeld ?_
              rotate_left 1
              · (intro w' hSw; clear hSw; go_simp; (try with_reducible rfl))
              try simp only [Act.put, List.setIfInBounds_toArray, List.set_cons_zero, List.set_cons_succ]
              refine wpAnyH_take (i := 59) (oi := { dst := some 108, op := Op.pick (Operand.tmp 98) (Operand.tmp 107) (Operand.const (Value.bool false)), type := 4, pos := "exact.go:46", after := #[{ on := 49, ground := Ground.data }, { on := 58, ground := Ground.data }, { on := 47, ground := Ground.guard }], guard := some (47, false) }) (v := ?_) rfl (by kernel_rfl) (by kernel_rfl) (by kernel_rfl) (fun _ _ _ h => h) (Or.inl ⟨by rfl, ?_⟩) hHeld ?_
              rotate_left 1
              · (intro w' hSw; clear hSw; go_simp; (try with_reducible rfl))
              try simp only [Act.put, List.setIfInBounds_toArray, List.set_cons_zero, List.set_cons_succ]
              refine wpAnyH_take (i := 60) (oi := { dst := some 109, op := Op.pick (Operand.tmp 96) (Operand.const (Value.bool true)) (Operand.tmp 108), type := 4, pos := "exact.go:46", after := #[{ on := 47, ground := Ground.data }, { on := 59, ground := Ground.data }], guard := none }) (v := ?_) rfl (by kernel_rfl) (by kernel_rfl) (by kernel_rfl) (fun _ _ _ h => h) (Or.inl ⟨by rfl, ?_⟩) hHeld ?_
              rotate_left 1
              · (intro w' hSw; clear hSw; go_simp; (try with_reducible rfl))
              try simp only [Act.put, List.setIfInBounds_toArray, List.set_cons_zero, List.set_cons_succ]
              refine wpAnyH_take (i := 61) (oi := { dst := some 110, op := Op.move (Operand.tmp 109), type := 4, pos := "exact.go:46", after := #[{ on := 60, ground := Ground.data }, { on := 49, ground := Ground.chain }], guard := none }) (v := ?_) rfl (by kernel_rfl) (by kernel_rfl) (by kernel_rfl) (fun _ _ _ h => h) (Or.inl ⟨by rfl, ?_⟩) hHeld ?_
              rotate_left 1
              · (intro w' hSw; clear hSw; go_simp; (try with_reducible rfl))
              try simp only [Act.put, List.setIfInBounds_toArray, List.set_cons_zero, List.set_cons_succ]
              refine wpAnyH_take (i := 62) (oi := { dst := some 111, op := Op.move (Operand.tmp 5), type := 24, pos := "exact.go:46", after := #[{ on := 61, ground := Ground.guard }], guard := some (61, false) }) (v := ?_) rfl (by kernel_rfl) (by kernel_rfl) (by kernel_rfl) (fun _ _ _ h => h) (Or.inl ⟨by rfl, ?_⟩) hHeld ?_
              rotate_left 1
              · (intro w' hSw; clear hSw; go_simp; (try with_reducible rfl))
              try simp only [Act.put, List.setIfInBounds_toArray, List.set_cons_zero, List.set_cons_succ]
              refine wpAnyH_take (i := 63) (oi := { dst := some 112, op := Op.move (Operand.tmp 1), type := 3, pos := "exact.go:46", after := #[{ on := 61, ground := Ground.guard }], guard := some (61, false) }) (v := ?_) rfl (by kernel_rfl) (by kernel_rfl) (by kernel_rfl) (fun _ _ _ h => h) (Or.inl ⟨by rfl, ?_⟩) hHeld ?_
              rotate_left 1
              · (intro w' hSw; clear hSw; go_simp; (try with_reducible rfl))
              try simp only [Act.put, List.setIfInBounds_toArray, List.set_cons_zero, List.set_cons_succ]
              refine wpAnyH_take (i := 65) (oi := { dst := some 114, op := Op.move (Operand.tmp 6), type := 26, pos := "exact.go:46", after := #[{ on := 61, ground := Ground.guard }], guard := some (61, false) }) (v := ?_) rfl (by kernel_rfl) (by kernel_rfl) (by kernel_rfl) (fun _ _ _ h => h) (Or.inl ⟨by rfl, ?_⟩) hHeld ?_
              rotate_left 1
              · (intro w' hSw; clear hSw; go_simp; (try with_reducible rfl))
              try simp only [Act.put, List.setIfInBounds_toArray, List.set_cons_zero, List.set_cons_succ]
              refine wpAnyH_take (i := 66) (oi := { dst := some 115, op := Op.move (Operand.tmp 1), type := 3, pos := "exact.go:46", after := #[{ on := 61, ground := Ground.guard }], guard := some (61, false) }) (v := ?_) rfl (by kernel_rfl) (by kernel_rfl) (by kernel_rfl) (fun _ _ _ h => h) (Or.inl ⟨by rfl, ?_⟩) hHeld ?_
              rotate_left 1
              · (intro w' hSw; clear hSw; go_simp; (try with_reducible rfl))
              try simp only [Act.put, List.setIfInBounds_toArray, List.set_cons_zero, List.set_cons_succ]
              refine wpAnyH_ready (rs := [64]) (by kernel_rfl) (by simp) (AllReadyH.cons (o := { dst := some 113, op := Op.call { callee := Callee.value (Operand.func 20), args := #[Operand.tmp 111, Operand.tmp 112], argTypes := #[24, 3] }, type := 42, pos := "exact.go:46", after := #[{ on := 62, ground := Ground.data }, { on := 63, ground := Ground.data }, { on := 61, ground := Ground.chain }, { on := 61, ground := Ground.guard }], guard := some (61, false) }) rfl (fun K hK => ?_) AllReadyH.nil)
              go_simp
              refine cu.out.mono ?_
              rintro e w12 ⟨v12, S12, rfl, hs12, h12⟩
              have h12' := Pair3.of h12
              have cv := Lib.hid (pair_upto h12' hs6'.out hc1.out n)
              obtain ⟨a12, cap12, rfl, -, -, -⟩ := hs12.form
              replace hs12 := Lib.hid hs12
              replace h12' := Lib.hid h12'
              clear cu h12 hHeld
              go_wp2_with fail
              refine hK.out _ _ ⟨_, h12'.out⟩ (fun hHeld => ?_)
              clear hK K
              try simp only [Act.put, List.setIfInBounds_toArray, List.set_cons_zero, List.set_cons_succ]
              clear h12'
              refine wpAnyH_ready (rs := [67]) (by kernel_rfl) (by simp) (AllReadyH.cons (o := { dst := some 116, op := Op.call { callee := Callee.value (Operand.func 21), args := #[Operand.tmp 114, Operand.tmp 115], argTypes := #[26, 3] }, type := 42, pos := "exact.go:46", after := #[{ on := 65, ground := Ground.data }, { on := 66, ground := Ground.data }, { on := 64, ground := Ground.chain }, { on := 61, ground := Ground.guard }], guard := some (61, false) }) rfl (fun K hK => ?_) AllReadyH.nil)
              go_simp
              refine cv.out.mono ?_
              rintro e w13 ⟨v13, S13, rfl, hs13, h13⟩
              have r1 := (h13.perm (Y' := S12 ++ S13) (by simpa using List.perm_append_comm)).ints hs12.out
              have r2 := h13.ints hs13
              obtain ⟨a13, cap13, rfl, -, -, -⟩ := hs13.form
              have cw := Lib.hid (sameInts_true r1 r2 (by have := uptoL_len L1 n; omega))
              have h14 := Lib.hid (fun q => h13.drop.drewN q)
              replace h13 := Lib.hid h13
              clear cv hs13 hs12 r1 r2 hHeld
              generalize (uptoL L1 n).length = nu at *
              go_wp2_with fail
              refine hK.out _ _ ⟨_, h13.out⟩ (fun hHeld => ?_)
              clear hK K
              try simp only [Act.put, List.setIfInBounds_toArray, List.set_cons_zero, List.set_cons_succ]
              clear h13
              refine wpAnyH_ready (rs := [68]) (by kernel_rfl) (by simp) (AllReadyH.cons (o := { dst := some 117, op := Op.call { callee := Callee.value (Operand.func 19), args := #[Operand.tmp 113, Operand.tmp 116], argTypes := #[42, 42] }, type := 4, pos := "exact.go:46", after := #[{ on := 64, ground := Ground.data }, { on := 67, ground := Ground.data }, { on := 67, ground := Ground.chain }, { on := 61, ground := Ground.guard }], guard := some (61, false) }) rfl (fun K hK => ?_) AllReadyH.nil)
              go_simp
              refine cw.out.mono ?_
              rintro e w15 ⟨rfl, q15, rfl⟩
              have h14' := Lib.hid (h14.out q15)
              clear cw h14 hHeld
              go_wp2_with fail
              refine hK.out _ _ ⟨_, h14'.out⟩ (fun hHeld => ?_)
              clear hK K
              try simp only [Act.put, List.setIfInBounds_toArray, List.set_cons_zero, List.set_cons_succ]
              refine wpAnyH_take (i := 69) (oi := { dst := some 118, op := Op.unOp UnOp.not 4 (Operand.tmp 117), type := 4, pos := "exact.go:46", after := #[{ on := 68, ground := Ground.data }, { on := 61, ground := Ground.guard }], guard := some (61, false) }) (v := ?_) rfl (by kernel_rfl) (by kernel_rfl) (by kernel_rfl) (fun _ _ _ h => h) (Or.inl ⟨by rfl, ?_⟩) hHeld ?_
              rotate_left 1
              · (intro w' hSw; clear hSw; go_simp; (try with_reducible rfl))
              try simp only [Act.put, List.setIfInBounds_toArray, List.set_cons_zero, List.set_cons_succ]
              refine wpAnyH_take (i := 70) (oi := { dst := some 119, op := Op.pick (Operand.tmp 110) (Operand.const (Value.bool true)) (Operand.tmp 118), type := 4, pos := "exact.go:46", after := #[{ on := 61, ground := Ground.data }, { on := 69, ground := Ground.data }], guard := none }) (v := ?_) rfl (by kernel_rfl) (by kernel_rfl) (by kernel_rfl) (fun _ _ _ h => h) (Or.inl ⟨by rfl, ?_⟩) hHeld ?_
              rotate_left 1
              · (intro w' hSw; clear hSw; go_simp; (try with_reducible rfl))
              try simp only [Act.put, List.setIfInBounds_toArray, List.set_cons_zero, List.set_cons_succ]
              refine wpAnyH_done (by kernel_rfl) ?_ _
              have h15 : RgsIs w1.heap.size w1 (w13.drewN q15) w1.heap.size L1 ((fb, .cells #[.slice (some ⟨b6, off6, none⟩) L1.length cap6] 29) :: S6) := by
                have := RgsIs.sub h14'.out (List.sublist_cons_self _ _)
                rw [List.append_nil] at this
                exact this
              replace h15 := Lib.hid h15
              clear h14' hHeld
              go_wp2_with fail
              go_roundg (len - (j + 1))
              case measure => omega
              case rel => exact ⟨j + 1, _, L1, S6, by go_num, by omega, hs6'.out, h15.out⟩
      · have hbl := Lib.hid hr.below
        clear hr hs
        go_wp2_with fail
        go_ret
        exact ⟨rfl, hb.out.trans (hbl.out.mono hb.out.size)⟩
end Go.Proofs.Ytkahncfhphdkfaa
