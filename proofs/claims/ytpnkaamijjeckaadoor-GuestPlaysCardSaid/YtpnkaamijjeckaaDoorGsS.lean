/- The document's own guests: one goes. -/
import Derived.Test.YtpnkaamijjeckaaDoorGsR
namespace Go.Proofs.YtpnkaamijjeckaaDoor
open Go.RowKit
set_option linter.unusedVariables false
set_option linter.unusedSectionVars false
set_option linter.unusedSimpArgs false
set_option maxRecDepth 100000

section
variable {B : Nat} {w0 w w' : World} {fb b p T i n : Nat} {M N L : List Gst} {a a2 : Option Addr} {c c2 : Nat} {F F' S So X : List (Nat × Obj)} {x y : Gst}
theorem RGuAt.gone (h : RGuAt B w0 w fb M T F) (hi : i < M.length) (hl : M.length ≤ 1000) : ∃ a c, w.cell? ⟨fb, 0, none⟩ = some (.slice a M.length c) ∧
    ∃ a1 c1 a2 m c2, (∀ w, (Instr.slice 27 (.slice a M.length c) none (some (.int .i64 i)) none).run Tryd.prog w = .ok (.slice a1 i c1) w) ∧ (∀ w, (Instr.slice 27 (.slice a M.length c) (some (.int .i64 ((i : Int) + 1))) none none).run Tryd.prog w = .ok (.slice a2 m c2) w) ∧
    ∃ a3 c3 W2, AppRun Tryd.prog 27 (.slice none 0 0) (.slice a1 i c1) w (.slice a3 i c3) W2 ∧ W2.cell? ⟨fb, 0, none⟩ = some (.slice a M.length c) ∧
    ∃ a4 c4 W3, AppRun Tryd.prog 27 (.slice a3 i c3) (.slice a2 m c2) W2 (.slice a4 (M.eraseIdx i).length c4) W3 ∧ RLast B w0 fb (.slice a M.length c) (M.eraseIdx i) T F a4 (M.eraseIdx i).length c4 W3 := by
  obtain ⟨a, c, S, h1, h2⟩ := h
  obtain ⟨a1, c1, -, -, s1, -, r1, -⟩ := apG.piece h1 i (by omega)
  obtain ⟨-, -, a2, c2, -, s2, -, r2⟩ := apG.piece h1 (i + 1) (by omega)
  rw [gssV_take] at s1
  rw [gssV_drop] at s2
  have hp : ∀ (S : List (Nat × Obj)), ((fb, rgO (.slice a M.length c) T) :: (S ++ F)).Perm (((fb, rgO (.slice a M.length c) T) :: F) ++ S) := fun S => by
    classical
    exact List.perm_iff_count.2 fun a => by simp only [List.count_append, List.count_cons]; omega
  have hst := h2.perm (hp S)
  refine ⟨a, c, h2.cell List.mem_cons_self rfl, a1, c1, a2, M.length - (i + 1), c2, r1, fun w => ?_, ?_⟩
  · have := r2 w
    rw [show ((i + 1 : Nat) : Int) = (i : Int) + 1 by omega] at this
    exact this
  · obtain ⟨a3, c3, W2, F2, hr3, hs3, hst3⟩ := apG.copy hst (s1.reads hst) (gssV_one _) (by unfold maxLen; omega) (by omega)
    have hrd2 : Reads W2 (.slice a2 (M.length - (i + 1)) c2) (M.length - (i + 1)) 6 (gssV (M.drop (i + 1))) := s2.reads (A := ((fb, rgO (.slice a M.length c) T) :: F) ++ F2) (hst3.perm (by
      classical
      exact List.perm_iff_count.2 fun a => by simp only [List.count_append, List.count_cons]; omega))
    obtain ⟨a4, c4, W3, F4, hr4, hs4, hst4⟩ := apG.append hs3 hst3 hrd2 (gssV_one _) (by unfold maxLen; omega) (by omega)
    have e : gssV (M.take i) ++ gssV (M.drop (i + 1)) = gssV (M.eraseIdx i) := by rw [← gssV_app, List.eraseIdx_eq_take_drop_succ]
    have el : (M.eraseIdx i).length = i + (M.length - (i + 1)) := by rw [List.length_eraseIdx, if_pos hi]; omega
    rw [e] at hs4
    rw [← el] at hr4 hs4
    exact ⟨a3, c3, W2, ⟨hr3⟩, hst3.cell (b := fb) (i := 0) (List.mem_append_left _ (List.mem_append_left _ List.mem_cons_self)) rfl, a4, c4, W3, ⟨hr4⟩, rlast (R := S) hs4 (hst4.perm (show List.Perm _ (((fb, rgO (.slice a M.length c) T) :: (S ++ F)) ++ F4) from by
      classical
      exact List.perm_iff_count.2 fun a => by simp only [List.count_append, List.count_cons]; omega))⟩

set_option maxHeartbeats 4000000 in
theorem rg_drop (h : RGuAt B w0 w fb M T F) (hl : M.length ≤ 1000) (hTl : T ≤ 1000) (p q : Int) (t : List UInt8) {N : List Gst} {T' : Nat} {ok : Bool} (hok : (idxG M p q t).isSome = ok) (hN : dropM M p q t = N) (hT' : dropT M T p q t = T') :
    Calls Tryd.prog 12 #[gup fb, .int .i64 p, .int .i64 q, tx t] w fun e w' => e = .returned (.bool ok) ∧ RGuAt B w0 w' fb N T' F := by
  obtain ⟨a, c, hr, -⟩ := h.rdg
  have cf := Lib.hid (rat_g hr (by omega) p q t)
  unfold dropM at hN
  unfold dropT at hT'
  cases hi : idxG M p q t with
  | none =>
    rw [hi] at cf hok hN hT'
    obtain rfl : ok = false := by rw [← hok]; rfl
    simp only at hN hT'
    subst hN hT'
    replace h := Lib.hid h
    simp only [idxI] at cf
    clear hr hi hok
    go_enter Tryd.func12, Tryd.ntmps12
    go_wp2_with fail
    refine cf.out.mono ?_
    rintro e w2 ⟨rfl, rfl⟩
    go_wp2_with fail
    go_ret
    exact ⟨rfl, h.out⟩
  | some i =>
    rw [hi] at cf hok hN hT'
    obtain rfl : ok = true := by rw [← hok]; rfl
    simp only at hN hT'
    subst hN
    obtain ⟨hlt, -⟩ := idx_is hi
    simp only [idxI] at cf
    have el : (M.eraseIdx i).length = M.length - 1 := by rw [List.length_eraseIdx, if_pos hlt]
    obtain ⟨a, c, d0, a1, c1, a2, m, c2, r1, r2, a3, c3, W2, run1, d1, a4, c4, W3, run2, d2, f2, hG⟩ := (h.grow (drew_b _)).gone hlt hl
    have i0 : (0 : Int) ≤ i := by omega
    have i1 : (i : Int) < M.length := by omega
    have hwi : IntKind.i64.wrap ((i : Int) + 1) = (i : Int) + 1 := IntWalk.i64_in _ (by omega)
    obtain ⟨W4, hW4⟩ : ∃ W, W = W3.setCell ⟨fb, 0, none⟩ (.slice a4 (M.eraseIdx i).length c4) := ⟨_, rfl⟩
    rw [← hW4] at hG
    have T00 : (0 : Int) ≤ T := by omega
    have T01 : (T : Int) ≤ 1000 := by omega
    rw [← el] at hT'
    have hN0 : (0 : Int) ≤ (M.eraseIdx i).length := by omega
    have hN1 : ((M.eraseIdx i).length : Int) ≤ 1000 := by omega
    generalize M.eraseIdx i = N at *
    replace hG := Lib.hid hG
    replace hT' := Lib.hid hT'
    replace hW4 := Lib.hid hW4
    replace hwi := Lib.hid hwi
    clear h hr hi hok el hlt hl hTl
    go_enter Tryd.func12, Tryd.ntmps12
    go_wp2_with fail
    refine cf.out.mono ?_
    rintro e w2 ⟨rfl, rfl⟩
    have hwi2 := hwi.out
    go_upto_region 4 with fail
    generalize hn : N.length = n1 at *
    replace hn := Lib.hid hn
    go_region_law (first
      | (refine step_app (.const (.slice none 0 0)) (.tmp 23) 27 run1 rfl rfl (by simp [Act.eval, Act.put]) (by simp [Act.eval, Act.put]) ?_)
      | (refine step_app (.tmp 24) (.tmp 31) 27 run2 rfl rfl (by simp [Act.eval, Act.put]) (by simp [Act.eval, Act.put]) ?_))
    all_goals
      rw [← hW4.out]
      clear hW4 run1 run2 r1 r2 d0 d1 d2 f2 hwi hwi2 cf
      obtain ⟨a5, c5, hr5, t5, f5⟩ := hG.out.rdg
      have f51 := f5 1
      obtain ⟨T1, hT1⟩ : ∃ T1 : Nat, T1 = if i < T then T - 1 else T := ⟨_, rfl⟩
      rw [← hT1] at hT'
      clear hr5 f5
      by_cases hd : i < T
      · have hd0 : (i : Int) < T := by omega
        rw [if_pos hd] at hT1
        have e1 : (T : Int) - 1 = T1 := by omega
        have h6 := hG.out.turn T1
        obtain ⟨W5, hW5⟩ : ∃ W, W = W4.setCell ⟨fb, 1, none⟩ (.int .i64 (T1 : Int)) := ⟨_, rfl⟩
        rw [← hW5] at h6
        replace hT1 := Lib.hid hT1
        replace e1 := Lib.hid e1
        clear hG hd
        go_upto_region 7 with fail
        rw [e1.out, ← hW5]
        obtain ⟨a6, c6, hr6, t6, f6⟩ := h6.rdg
        have d6 := hr6.c0
        have f61 := f6 1
        rw [hn.out] at d6
        have h7 := Lib.hid (fun m => (h6.grow (drewN_below W5 m)).turn 0)
        have h8 := Lib.hid (fun m => h6.grow (drewN_below W5 m))
        clear hW5 hr6 f6 h6 t5 f51 hd0 e1 hT1
        by_cases hc : n1 ≤ T1
        · have hc0 : (n1 : Int) ≤ T1 := by omega
          have hTe : T' = 0 := by rw [← hT'.out, turnG, if_pos hc]
          subst hTe
          clear hT' hc h8
          go_quiet (fail)
          go_wp2_with fail
          go_ret
          exact ⟨rfl, h7.out _⟩
        · have hc0 : ¬ (n1 : Int) ≤ T1 := by omega
          have hTe : T' = T1 := by rw [← hT'.out, turnG, if_neg hc]
          subst hTe
          clear hT' hc h7
          go_quiet (fail)
          go_wp2_with fail
          go_ret
          exact ⟨rfl, h8.out _⟩
      · have hd0 : ¬ (i : Int) < T := by omega
        rw [if_neg hd] at hT1
        rw [hT1] at hT'
        clear hT1
        go_upto_region 7 with fail
        obtain ⟨a6, c6, hr6, t6, f6⟩ := hG.out.rdg
        have d6 := hr6.c0
        rw [hn.out] at d6
        have h7 := Lib.hid (fun m => (hG.out.grow (drewN_below W4 m)).turn 0)
        have h8 := Lib.hid (fun m => hG.out.grow (drewN_below W4 m))
        clear hr6 f6 hG t5 hd0 hd
        by_cases hc : n1 ≤ T
        · have hc0 : (n1 : Int) ≤ T := by omega
          have hTe : T' = 0 := by rw [← hT'.out, turnG, if_pos hc]
          subst hTe
          clear hT' hc h8
          go_quiet (fail)
          go_wp2_with fail
          go_ret
          exact ⟨rfl, h7.out _⟩
        · have hc0 : ¬ (n1 : Int) ≤ T := by omega
          have hTe : T' = T := by rw [← hT'.out, turnG, if_neg hc]
          subst hTe
          clear hT' hc h7
          go_quiet (fail)
          go_wp2_with fail
          go_ret
          exact ⟨rfl, h8.out _⟩
end
end Go.Proofs.YtpnkaamijjeckaaDoor
