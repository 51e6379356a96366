/- Match, the program's. -/
import Derived.Test.YtpplpcpdoghifaaPtD
namespace Go.Proofs.Ytpplpcpdoghifaa
open Go.RowKit
set_option linter.unusedVariables false

theorem stands_any (p x : List UInt8) (w : World) : Calls Try.prog 18 #[tx p, tx x] w fun e w' => e = .returned (.bool (stands p x)) ∧ w' = w := by
  go_enter Try.func18, Try.ntmps18
  go_wp2_with fail
  · have h : p = [42] := by assumption
    go_ret
    refine ⟨ret_bool ?_, rfl⟩
    rw [h]
    rfl
  · go_ret
    exact ⟨rfl, rfl⟩

/-- What holds at Match's label. -/
def MatchAt (w : World) (P K : Wds) (g : Nat) (a' : Act) (w' : World) : Prop :=
  ∃ (a c : Option Addr) (ca cc i t f : Nat) (b : Int), (K.length + 1 - f) * (P.length + 1) + (P.length - i) = g ∧ Held P K i t b f ∧
    Fr 81 [(5, .slice a P.length ca), (6, .slice c K.length cc), (7, .int .i64 i), (8, .int .i64 t), (9, .int .i64 b), (10, .int .i64 f)] a' ∧
    TextsAt w' a P.length P ∧ TextsAt w' c K.length K ∧ Below w.heap.size w w'

theorem measure_at {P K : Wds} {i t f : Nat} (h : i < P.length) (hf : f ≤ t) (ht : t ≤ K.length) : (K.length + 1 - t) * (P.length + 1) + (P.length - (i + 1)) < (K.length + 1 - f) * (P.length + 1) + (P.length - i) := by
  have := Nat.mul_le_mul_right (P.length + 1) (show K.length + 1 - t ≤ K.length + 1 - f by omega)
  omega
theorem measure_free {P K : Wds} {i n f : Nat} (h : f < K.length) : (K.length + 1 - (f + 1)) * (P.length + 1) + (P.length - n) < (K.length + 1 - f) * (P.length + 1) + (P.length - i) := by
  obtain ⟨q, hq⟩ : ∃ q, K.length + 1 - f = q + 1 := ⟨K.length - f, by omega⟩
  rw [show K.length + 1 - (f + 1) = q by omega, hq, Nat.add_mul]
  omega
theorem Held.behind {P K : Wds} {a t f : Nat} {b : Int} (h : Held P K a t b f) : -1 ≤ b ∧ b ≤ a := by
  obtain ⟨h1, h2, h3, ⟨rfl, _⟩ | ⟨n, S, A, rfl, hb, _⟩⟩ := h <;> omega

set_option maxHeartbeats 4000000 in
theorem match_to {p k : List UInt8} (hp : p.length ≤ 1000000) (hk : k.length ≤ 1000000) (w : World) :
    Calls Try.prog 11 #[tx p, tx k] w fun e w' => e = .returned (.bool (gl (wordsL p) (wordsL k))) ∧ Below w.heap.size w w' := by
  have c1 := Lib.hid (words_to hp w)
  have c2 := Lib.hid (fun W => words_to hk W)
  have lp : (wordsL p).length ≤ 1000001 := by have := words_len p; omega
  have lk : (wordsL k).length ≤ 1000001 := by have := words_len k; omega
  generalize wordsL p = P at *
  generalize wordsL k = K at *
  clear hp hk
  go_enter Try.func11, Try.ntmps11
  go_wp2_with fail
  refine wp_scope_ghost 0 (MatchAt w P K) rfl ?_ ?_
  · clear c1 c2
    rintro g a' w' ⟨a, c, ca, cc, i, t, f, b, hg, hH, hfr, r1, r2, hb⟩
    obtain ⟨q, rfl, hl'⟩ := hfr.lit
    clear hfr
    simp only [List.mem_cons, List.not_mem_nil, or_false, forall_eq_or_imp, forall_eq] at hl'
    obtain ⟨f5, f6, f7, f8, f9, f10⟩ := hl'
    simp only [List.range, List.range.loop, List.map, f5, f6, f7, f8, f9, f10]
    clear f5 f6 f7 f8 f9 f10
    have hi := hH.1
    have ht := hH.2.1
    have hft := hH.2.2.1
    obtain ⟨hb0, hb1⟩ := hH.behind
    have hi0 : (0 : Int) ≤ i := by omega
    have ht0 : (0 : Int) ≤ t := by omega
    replace hb := Lib.hid hb
    by_cases hiP : i < P.length
    · have hx : P[i]? = some P[i] := List.getElem?_eq_getElem hiP
      generalize P[i] = x at hx
      obtain ⟨-, ba, offa, rfl, hc1⟩ := r1.at_ i x hx
      have hi1 : (i : Int) < P.length := by omega
      by_cases hh : x = [35]
      · subst hh
        have hH' := Lib.hid (hH.hash hx)
        replace r1 := Lib.hid r1
        replace r2 := Lib.hid r2
        have hlt := measure_at hiP hft ht
        rw [hg] at hlt
        replace hlt := Lib.hid hlt
        clear hH hx hg
        go_wp2_with fail
        refine wp_goto ?_
        refine ⟨rfl, _, hlt.out, some ⟨ba, offa, none⟩, c, ca, cc, i + 1, t, t, ((i + 1 : Nat) : Int), rfl, hH'.out, ⟨rfl, rfl, ?_⟩, r1.out, r2.out, hb.out⟩
        simp
      · have hhB : (x == [35]) = false := by simpa using hh
        by_cases htK : t < K.length
        · have hy : K[t]? = some K[t] := List.getElem?_eq_getElem htK
          generalize K[t] = y at hy
          obtain ⟨-, bc, offc, rfl, hc2⟩ := r2.at_ t y hy
          have ht1 : (t : Int) < K.length := by omega
          have cst := Lib.hid (stands_any x y)
          by_cases hs : stands x y = true
          · have hH' := Lib.hid (hH.one hx hh hy hs)
            have hlt : (K.length + 1 - f) * (P.length + 1) + (P.length - (i + 1)) < g := by omega
            replace hlt := Lib.hid hlt
            replace r1 := Lib.hid r1
            replace r2 := Lib.hid r2
            rw [hs] at cst
            clear hH hx hy hg hs
            go_wp2_with fail
            go_quiet (first | (go_at_call 18; exact Calls.quiet_of_same (cst.out _)))
            replace r1 := Lib.hid (r1.out.below (drewN_below w' nq))
            replace r2 := Lib.hid (r2.out.below (drewN_below w' nq))
            replace hb := Lib.hid (bel hb.out (drewN_below w' nq))
            clear hc1 hc2
            generalize w'.drewN nq = W at *
            go_wp2_with fail
            refine wp_goto ?_
            refine ⟨rfl, _, hlt.out, some ⟨ba, offa, none⟩, some ⟨bc, offc, none⟩, ca, cc, i + 1, t + 1, f, b, rfl, hH'.out, ⟨rfl, rfl, ?_⟩, r1.out, r2.out, hb.out⟩
            simp
          · have hsf : stands x y = false := by simpa using hs
            have hm : Miss P K i t := ⟨by omega, fun p' hp' => by
              rw [hx] at hp'
              obtain rfl := Option.some.inj hp'
              refine ⟨hh, fun y' hy' => ?_⟩
              rw [hy] at hy'
              obtain rfl := Option.some.inj hy'
              exact hsf⟩
            rw [hsf] at cst
            clear hs hsf
            have hne : ¬ (i : Int) = P.length := by omega
            by_cases hbn : b < 0
            · have hg2 := Lib.hid (hH.not hm (.inl hbn))
              clear hH hx hy hg hm r1 r2
              go_wp2_with fail
              go_quiet (first | (go_at_call 18; exact Calls.quiet_of_same (cst.out _)))
              replace hb := Lib.hid (bel hb.out (drewN_below w' nq))
              clear hc1 hc2
              generalize w'.drewN nq = W at *
              go_wp2_with fail
              simp only [Exit.jump]
              go_ret
              exact ⟨ret_bool hg2.out.symm, hb.out⟩
            · obtain ⟨n, rfl, hn, hH'⟩ := hH.more hm hbn htK
              replace hH' := Lib.hid hH'
              have hlt := measure_free (P := P) (i := i) (n := n) (f := f) (show f < K.length by omega)
              rw [hg] at hlt
              replace hlt := Lib.hid hlt
              replace r1 := Lib.hid r1
              replace r2 := Lib.hid r2
              have hne2 : ((t : Int) == K.length) = false := by rw [beq_eq_false_iff_ne]; omega
              have hn0 : (0 : Int) ≤ n := by omega
              clear hH hx hy hg hm
              go_wp2_with fail
              go_quiet (first | (go_at_call 18; exact Calls.quiet_of_same (cst.out _)))
              replace r1 := Lib.hid (r1.out.below (drewN_below w' nq))
              replace r2 := Lib.hid (r2.out.below (drewN_below w' nq))
              replace hb := Lib.hid (bel hb.out (drewN_below w' nq))
              clear hc1 hc2
              generalize w'.drewN nq = W at *
              go_wp2_with fail
              refine wp_goto ?_
              refine ⟨rfl, _, hlt.out, some ⟨ba, offa, none⟩, some ⟨bc, offc, none⟩, ca, cc, n, f + 1, f + 1, (n : Int), rfl, hH'.out, ⟨rfl, rfl, ?_⟩, r1.out, r2.out, hb.out⟩
              simp
        · obtain rfl : t = K.length := by omega
          have hm : Miss P K i K.length := ⟨by omega, fun p' hp' => by
            rw [hx] at hp'
            obtain rfl := Option.some.inj hp'
            exact ⟨hh, fun y' hy' => by simp at hy'⟩⟩
          have hg2 := Lib.hid (hH.not hm (.inr rfl))
          have hne : ¬ (i : Int) = P.length := by omega
          clear hH hx hg hm r1 r2
          go_wp2_with fail
          go_quiet (fail)
          replace hb := Lib.hid (bel hb.out (drewN_below w' nq))
          clear hc1
          generalize w'.drewN nq = W at *
          go_wp2_with fail
          all_goals
            simp only [Exit.jump]
            go_ret
            exact ⟨ret_bool hg2.out.symm, hb.out⟩
    · obtain rfl : i = P.length := by omega
      by_cases htK : t < K.length
      · have hm : Miss P K P.length t := ⟨by omega, fun p' hp' => by simp at hp'⟩
        have hne2 : ¬ (t : Int) = K.length := by omega
        by_cases hbn : b < 0
        · have hg2 := Lib.hid (hH.not hm (.inl hbn))
          clear hH hg hm r1 r2
          go_wp2_with fail
          go_quiet (fail)
          replace hb := Lib.hid (bel hb.out (drewN_below w' nq))
          generalize w'.drewN nq = W at *
          go_wp2_with fail
          simp only [Exit.jump]
          go_ret
          exact ⟨ret_bool hg2.out.symm, hb.out⟩
        · obtain ⟨n, rfl, hn, hH'⟩ := hH.more hm hbn htK
          replace hH' := Lib.hid hH'
          have hlt := measure_free (P := P) (i := P.length) (n := n) (f := f) (show f < K.length by omega)
          rw [hg] at hlt
          replace hlt := Lib.hid hlt
          replace r1 := Lib.hid r1
          replace r2 := Lib.hid r2
          clear hH hg hm
          go_wp2_with fail
          go_quiet (fail)
          replace r1 := Lib.hid (r1.out.below (drewN_below w' nq))
          replace r2 := Lib.hid (r2.out.below (drewN_below w' nq))
          replace hb := Lib.hid (bel hb.out (drewN_below w' nq))
          generalize w'.drewN nq = W at *
          go_wp2_with fail
          refine wp_goto ?_
          refine ⟨rfl, _, hlt.out, a, c, ca, cc, n, f + 1, f + 1, (n : Int), rfl, hH'.out, ⟨rfl, rfl, ?_⟩, r1.out, r2.out, hb.out⟩
          simp
      · obtain rfl : t = K.length := by omega
        have hg2 := Lib.hid hH.met
        clear hH hg r1 r2
        go_wp2_with fail
        go_quiet (fail)
        replace hb := Lib.hid (bel hb.out (drewN_below w' nq))
        generalize w'.drewN nq = W at *
        go_wp2_with fail
        simp only [Exit.jump]
        go_ret
        exact ⟨ret_bool hg2.out.symm, hb.out⟩
  · intro H
    go_wp2_with fail
    refine c1.out.mono ?_
    rintro e w1 ⟨v1, rfl, ⟨a, ca, rfl, r1⟩, hb1⟩
    replace hb1 := Lib.hid hb1
    replace r1 := Lib.hid r1
    go_wp2_with fail
    refine (c2.out _).mono ?_
    rintro e w2 ⟨v2, rfl, ⟨c, cc, rfl, r2⟩, hb⟩
    have hb2 := Lib.hid (bel hb1.out hb)
    replace r1 := Lib.hid (r1.out.below hb)
    replace r2 := Lib.hid r2
    clear hb c1 c2 hb1
    go_wp2_with fail
    refine wp_label ?_
    go_step
    go_step
    exact H _ _ _ ⟨a, c, ca, cc, 0, 0, 0, -1, rfl, Held.start P K, ⟨rfl, rfl, by simp⟩, r1.out, r2.out, hb2.out⟩
end Go.Proofs.Ytpplpcpdoghifaa
