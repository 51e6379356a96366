/- Is by the document's own; Same, by the program and by the document's own. -/
import Derived.Test.YtipinglchpmgaaaDoorMdD
namespace Go.Proofs.YtipinglchpmgaaaDoor
open Go.RowKit
set_option linter.unusedVariables false

set_option maxHeartbeats 2000000 in
theorem ris_any {m : Meth} {v : Value} {w : World} (h : RdM w v m) : Calls Tryd.prog 15 #[v] w fun e w' => e = .returned (.bool (isM m)) ∧ Below w.heap.size w w' := by
  obtain ⟨s, n, rfl, ⟨a, cap, rfl, hl, hm, hx⟩, ⟨a2, cap2, rfl, hl2, hm2, hx2⟩⟩ := h
  obtain ⟨k, S, N, x⟩ := m
  simp only at *
  have hb := Lib.hid (new_below w (mO k (.slice a S.length cap) (.slice a2 N.length cap2) x))
  have hR : Hid (isM ⟨k, S, N, x⟩ = (isKd k && ((S.length == shT k) && ((N.length == shN k) && ((shB k || x == 0) && (okT S && (okN N && okB x))))))) := Lib.hid rfl
  generalize isM ⟨k, S, N, x⟩ = r at *
  have c1 := Lib.hid (rshape_any k)
  have hx' : Hid (∀ (i : Nat) y, S[i]? = some y → y.length ≤ maxLen ∧ ∃ b off, a = some ⟨b, off, none⟩ ∧ (w.alloc (mO k (.slice a S.length cap) (.slice a2 N.length cap2) x)).cell? ⟨b, off + i, none⟩ = some (tx y)) := Lib.hid fun i y hi => by
    obtain ⟨h1, b, off, e, hc⟩ := hx i y hi
    exact ⟨h1, b, off, e, (hb.out.cell (p := ⟨b, off + i, none⟩) (World.block_lt_of_cell? w _ hc)).trans hc⟩
  have hx2' : Hid (∀ (i : Nat) y, N[i]? = some y → ∃ b off, a2 = some ⟨b, off, none⟩ ∧ (w.alloc (mO k (.slice a S.length cap) (.slice a2 N.length cap2) x)).cell? ⟨b, off + i, none⟩ = some (.int .i64 y)) := Lib.hid fun i y hi => by
    obtain ⟨b, off, e, hc⟩ := hx2 i y hi
    exact ⟨b, off, e, (hb.out.cell (p := ⟨b, off + i, none⟩) (World.block_lt_of_cell? w _ hc)).trans hc⟩
  clear hx hx2
  have hSm : S.length ≤ maxLen := by omega
  have hNm : N.length ≤ maxLen := by omega
  simp only [maxLen] at hSm hNm
  generalize shT k = T at *
  generalize shN k = M at *
  generalize shB k = D at *
  generalize isKd k = K at *
  cases K with
  | false =>
    rw [Bool.false_and] at hR
    go_enter Tryd.func15, Tryd.ntmps15
    go_wp2_with fail
    refine (c1.out _).mono ?_
    rintro e w1 ⟨rfl, rfl⟩
    go_wp2_with fail
    go_ret
    exact ⟨ret_bool hR.out.symm, hb.out⟩
  | true =>
  rw [Bool.true_and] at hR
  by_cases h1 : S.length = T
  case neg =>
    have h1' : ¬ (S.length : Int) = T := by omega
    have h1'' : (S.length == T) = false := by simpa using h1
    rw [h1'', Bool.false_and] at hR
    go_enter Tryd.func15, Tryd.ntmps15
    go_wp2_with fail
    refine (c1.out _).mono ?_
    rintro e w1 ⟨rfl, rfl⟩
    go_wp2_with fail
    go_ret
    exact ⟨ret_bool hR.out.symm, hb.out⟩
  by_cases h2 : N.length = M
  case neg =>
    have h2' : ¬ (N.length : Int) = M := by omega
    have h2'' : (N.length == M) = false := by simpa using h2
    subst h1
    rw [h2'', Bool.false_and, Bool.and_false] at hR
    go_enter Tryd.func15, Tryd.ntmps15
    go_wp2_with fail
    refine (c1.out _).mono ?_
    rintro e w1 ⟨rfl, rfl⟩
    go_wp2_with fail
    go_ret
    exact ⟨ret_bool hR.out.symm, hb.out⟩
  subst h1 h2
  rw [beq_self_eq_true, beq_self_eq_true, Bool.true_and, Bool.true_and] at hR
  by_cases h3 : x < 0
  · have e : okB x = false := by unfold okB; rw [decide_eq_false (by omega)]; rfl
    rw [e, Bool.and_false, Bool.and_false, Bool.and_false] at hR
    go_enter Tryd.func15, Tryd.ntmps15
    go_wp2_with fail
    refine (c1.out _).mono ?_
    rintro e w1 ⟨rfl, rfl⟩
    go_wp2_with fail
    go_ret
    exact ⟨ret_bool hR.out.symm, hb.out⟩
  by_cases h4 : 255 < x
  · have e : okB x = false := by unfold okB; rw [decide_eq_false (show ¬ x ≤ 255 by omega), Bool.and_false]
    rw [e, Bool.and_false, Bool.and_false, Bool.and_false] at hR
    go_enter Tryd.func15, Tryd.ntmps15
    go_wp2_with fail
    refine (c1.out _).mono ?_
    rintro e w1 ⟨rfl, rfl⟩
    go_wp2_with fail
    go_ret
    exact ⟨ret_bool hR.out.symm, hb.out⟩
  have e5 : okB x = true := by unfold okB; rw [decide_eq_true (by omega), decide_eq_true (by omega)]; rfl
  by_cases hgo : D = false ∧ x ≠ 0
  · obtain ⟨rfl, hx0⟩ := hgo
    have hx1 : (x == 0) = false := by simpa using hx0
    have hx9 : (x != 0) = true := by simpa using hx0
    rw [hx1, Bool.false_or, Bool.false_and] at hR
    clear e5
    go_enter Tryd.func15, Tryd.ntmps15
    go_wp2_with fail
    refine (c1.out _).mono ?_
    rintro e w1 ⟨rfl, rfl⟩
    go_wp2_with fail
    go_ret
    exact ⟨ret_bool hR.out.symm, hb.out⟩
  have hx3 : D = true ∨ (D = false ∧ x = 0) := by
    cases D
    · exact .inr ⟨rfl, by rcases Classical.em (x = 0) with h | h
                          · exact h
                          · exact (hgo ⟨rfl, h⟩).elim⟩
    · exact .inl rfl
  have hR2 : Hid (r = (okT S && okN N)) := by
    refine Lib.hid ?_
    rw [hR.out, e5, Bool.and_true]
    rcases hx3 with rfl | ⟨rfl, rfl⟩ <;> rfl
  clear hR hgo e5
  go_enter Tryd.func15, Tryd.ntmps15
  go_wp2_with fail
  refine (c1.out _).mono ?_
  rintro e w1 ⟨rfl, rfl⟩
  rcases hx3 with rfl | ⟨rfl, rfl⟩
  all_goals
    go_wp2_with fail
    go_loopg [7] S.length (fun g v7 wr => ∃ p : Nat, v7 = .int .i64 p ∧ p + g = S.length ∧ wr = w.alloc (mO k (.slice a S.length cap) (.slice a2 N.length cap2) _) ∧ Hid (okT (S.drop p) = okT S))
    case atStart => exact ⟨0, rfl, by omega, rfl, Lib.hid rfl⟩
    case round =>
      obtain ⟨p, rfl, hp, rfl, hf⟩ := hrel
      by_cases hlt : p < S.length
      · have hy : S[p]? = some S[p] := List.getElem?_eq_getElem hlt
        generalize S[p] = y at hy
        obtain ⟨hym, b, off, rfl, hc⟩ := hx'.out p y hy
        have hst := okT_step hy
        have hp0 : (0 : Int) ≤ p := by omega
        have hp1 : (p : Int) < S.length := by omega
        by_cases hbig : y.length ≤ 255
        · have hbig' : (y.length : Int) ≤ 255 := by omega
          rw [hf.out, decide_eq_true hbig, Bool.true_and] at hst
          have hf' := Lib.hid hst.symm
          clear hst hf hy
          go_wp2_with fail
          go_roundg (S.length - (p + 1))
          case measure => omega
          case rel => exact ⟨p + 1, by go_num, by omega, rfl, hf'⟩
        · have hbig' : ¬ (y.length : Int) ≤ 255 := by omega
          rw [hf.out, decide_eq_false hbig, Bool.false_and] at hst
          rw [hst, Bool.false_and] at hR2
          clear hst hf hy
          go_wp2_with fail
          go_ret
          exact ⟨ret_bool hR2.out.symm, hb.out⟩
      · have e0 : okT (S.drop p) = true := by rw [List.drop_of_length_le (by omega)]; rfl
        rw [← hf.out, e0, Bool.true_and] at hR2
        obtain rfl : p = S.length := by omega
        clear e0 hf hx' c1
        go_wp2_with fail
        go_loopg [8] N.length (fun g v8 wr => ∃ p : Nat, v8 = .int .i64 p ∧ p + g = N.length ∧ wr = w.alloc (mO k (.slice a S.length cap) (.slice a2 N.length cap2) _) ∧ Hid (okN (N.drop p) = okN N))
        case atStart => exact ⟨0, rfl, by omega, rfl, Lib.hid rfl⟩
        case round =>
          obtain ⟨p, rfl, hp, rfl, hf⟩ := hrel
          by_cases hlt : p < N.length
          · have hy : N[p]? = some N[p] := List.getElem?_eq_getElem hlt
            generalize N[p] = y at hy
            obtain ⟨b, off, rfl, hc⟩ := hx2'.out p y hy
            have hst := okN_step hy
            have hp0 : (0 : Int) ≤ p := by omega
            have hp1 : (p : Int) < N.length := by omega
            by_cases g1 : y < 0
            · rw [hf.out, show okN1 y = false by unfold okN1; rw [decide_eq_false (by omega)]; rfl, Bool.false_and] at hst
              rw [hst] at hR2
              clear hst hf hy
              go_wp2_with fail
              go_ret
              exact ⟨ret_bool hR2.out.symm, hb.out⟩
            by_cases g2 : 4294967295 < y
            · rw [hf.out, show okN1 y = false by unfold okN1; rw [decide_eq_false (show ¬ y ≤ 4294967295 by omega), Bool.and_false], Bool.false_and] at hst
              rw [hst] at hR2
              clear hst hf hy
              go_wp2_with fail
              go_ret
              exact ⟨ret_bool hR2.out.symm, hb.out⟩
            · rw [hf.out, show okN1 y = true by unfold okN1; rw [decide_eq_true (by omega), decide_eq_true (by omega)]; rfl, Bool.true_and] at hst
              have hf' := Lib.hid hst.symm
              clear hst hf hy
              go_wp2_with fail
              go_roundg (N.length - (p + 1))
              case measure => omega
              case rel => exact ⟨p + 1, by go_num, by omega, rfl, hf'⟩
          · have e0 : okN (N.drop p) = true := by rw [List.drop_of_length_le (by omega)]; rfl
            rw [← hf.out, e0] at hR2
            obtain rfl : p = N.length := by omega
            clear e0 hf hx2'
            go_wp2_with fail
            go_ret
            exact ⟨ret_bool hR2.out.symm, hb.out⟩
end Go.Proofs.YtipinglchpmgaaaDoor
