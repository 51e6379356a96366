/- Same, by the program and by the document's own. -/
import Derived.Test.YtipinglchpmgaaaDoorMdD
namespace Go.Proofs.YtipinglchpmgaaaDoor
open Go.RowKit
set_option linter.unusedVariables false

theorem beq_step {α : Type} [BEq α] {L1 L2 : List α} {p : Nat} {x y : α} (h1 : L1[p]? = some x) (h2 : L2[p]? = some y) : (L1.drop p == L2.drop p) = ((x == y) && (L1.drop (p + 1) == L2.drop (p + 1))) := by
  have i1 := (List.getElem?_eq_some_iff.1 h1).1
  have i2 := (List.getElem?_eq_some_iff.1 h2).1
  rw [List.drop_eq_getElem_cons i1, List.drop_eq_getElem_cons i2]
  rw [List.getElem?_eq_getElem i1, Option.some.injEq] at h1
  rw [List.getElem?_eq_getElem i2, Option.some.injEq] at h2
  rw [h1, h2]
  rfl
theorem beq_lens {α : Type} [BEq α] [LawfulBEq α] {L1 L2 : List α} (h : L1.length ≠ L2.length) : (L1 == L2) = false := by
  rw [beq_eq_false_iff_ne]
  intro e
  exact h (congrArg List.length e)
theorem beq_end {α : Type} [BEq α] [LawfulBEq α] {L1 L2 : List α} {p : Nat} (h1 : ¬ p < L1.length) (h : L1.length = L2.length) : (L1.drop p == L2.drop p) = true := by
  rw [List.drop_of_length_le (by omega), List.drop_of_length_le (by omega)]
  simp

set_option maxHeartbeats 1000000 in
theorem equalT_any {v1 v2 : Value} {L1 L2 : List (List UInt8)} {w : World} (h1 : TxtS w v1 L1) (h2 : TxtS w v2 L2) :
    Calls Tryd.prog 28 #[v1, v2] w fun e w' => e = .returned (.bool (L1 == L2)) ∧ ∃ n, w' = w.drewN n := by
  obtain ⟨a, cap, rfl, hl, hm, hx⟩ := h1
  obtain ⟨a2, cap2, rfl, hl2, hm2, hx2⟩ := h2
  have hm1 : L1.length ≤ maxLen := by omega
  simp only [maxLen] at hm1
  by_cases hne : L1.length = L2.length
  case neg =>
    have hne' : ¬ (L1.length : Int) = L2.length := by omega
    have e := Lib.hid (beq_lens hne)
    go_enter Tryd.func28, Tryd.ntmps28
    go_wp2_with fail
    go_ret
    exact ⟨ret_bool e.out.symm, 0, rfl⟩
  have hne' : (L1.length : Int) = L2.length := by omega
  replace hx := Lib.hid hx
  replace hx2 := Lib.hid hx2
  obtain ⟨r, hr⟩ : ∃ r, Hid (r = (L1 == L2)) := ⟨_, Lib.hid rfl⟩
  rw [← hr.out]
  rw [← hne]
  clear hl hm hl2 hm2
  go_enter Tryd.func28, Tryd.ntmps28
  go_wp2_with fail
  go_loopg [5, 13] L1.length (fun g v5 v13 wr => ∃ p : Nat, v13 = .int .i64 p ∧ p + g = L1.length ∧ (∃ q, wr = w.drewN q) ∧ Hid ((L1.drop p == L2.drop p) = r))
  case atStart => exact ⟨0, rfl, by omega, ⟨0, rfl⟩, hr.out.symm ▸ Lib.hid rfl⟩
  case round =>
    obtain ⟨p, rfl, hp, ⟨q, rfl⟩, hf⟩ := hrel
    by_cases hlt : p < L1.length
    · have hy : L1[p]? = some L1[p] := List.getElem?_eq_getElem hlt
      have hz : L2[p]? = some L2[p] := List.getElem?_eq_getElem (by omega)
      generalize L1[p] = y at hy
      generalize L2[p] = z at hz
      obtain ⟨hym, b, off, rfl, hc⟩ := hx.out p y hy
      obtain ⟨hzm, b2, off2, rfl, hc2⟩ := hx2.out p z hz
      have hst := beq_step hy hz
      have hp0 : (0 : Int) ≤ p := by omega
      have hp1 : (p : Int) < L1.length := by omega
      by_cases hyz : y = z
      · subst hyz
        rw [hf.out, beq_self_eq_true, Bool.true_and] at hst
        have hf' := Lib.hid hst.symm
        clear hst hf hy hz hne'
        go_wp2_with fail
        go_quiet (fail)
        go_wp2_with fail
        go_roundg (L1.length - (p + 1))
        case measure => omega
        case rel => exact ⟨p + 1, by go_num, by omega, ⟨_, rfl⟩, hf'⟩
      · have hq : (y == z) = false := beq_eq_false_iff_ne.2 hyz
        rw [hf.out, hq, Bool.false_and] at hst
        subst hst
        clear hf hy hz hne'
        go_wp2_with fail
        go_quiet (fail)
        go_wp2_with fail
        go_ret
        exact ⟨rfl, _, World.drewN_drewN _ _ _⟩
    · have e0 := beq_end (p := p) hlt hne
      rw [hf.out] at e0
      subst e0
      clear hne'
      go_wp2_with fail
      go_ret
      exact ⟨rfl, _, rfl⟩
set_option maxHeartbeats 1000000 in
theorem equalN_any {v1 v2 : Value} {L1 L2 : List Int} {w : World} (h1 : NumS w v1 L1) (h2 : NumS w v2 L2) :
    Calls Tryd.prog 29 #[v1, v2] w fun e w' => e = .returned (.bool (L1 == L2)) ∧ ∃ n, w' = w.drewN n := by
  obtain ⟨a, cap, rfl, hl, hm, hx⟩ := h1
  obtain ⟨a2, cap2, rfl, hl2, hm2, hx2⟩ := h2
  have hm1 : L1.length ≤ maxLen := by omega
  simp only [maxLen] at hm1
  by_cases hne : L1.length = L2.length
  case neg =>
    have hne' : ¬ (L1.length : Int) = L2.length := by omega
    have e := Lib.hid (beq_lens hne)
    go_enter Tryd.func29, Tryd.ntmps29
    go_wp2_with fail
    go_ret
    exact ⟨ret_bool e.out.symm, 0, rfl⟩
  have hne' : (L1.length : Int) = L2.length := by omega
  replace hx := Lib.hid hx
  replace hx2 := Lib.hid hx2
  obtain ⟨r, hr⟩ : ∃ r, Hid (r = (L1 == L2)) := ⟨_, Lib.hid rfl⟩
  rw [← hr.out]
  rw [← hne]
  clear hl hm hl2 hm2
  go_enter Tryd.func29, Tryd.ntmps29
  go_wp2_with fail
  go_loopg [5, 13] L1.length (fun g v5 v13 wr => ∃ p : Nat, v13 = .int .i64 p ∧ p + g = L1.length ∧ (∃ q, wr = w.drewN q) ∧ Hid ((L1.drop p == L2.drop p) = r))
  case atStart => exact ⟨0, rfl, by omega, ⟨0, rfl⟩, hr.out.symm ▸ Lib.hid rfl⟩
  case round =>
    obtain ⟨p, rfl, hp, ⟨q, rfl⟩, hf⟩ := hrel
    by_cases hlt : p < L1.length
    · have hy : L1[p]? = some L1[p] := List.getElem?_eq_getElem hlt
      have hz : L2[p]? = some L2[p] := List.getElem?_eq_getElem (by omega)
      generalize L1[p] = y at hy
      generalize L2[p] = z at hz
      obtain ⟨b, off, rfl, hc⟩ := hx.out p y hy
      obtain ⟨b2, off2, rfl, hc2⟩ := hx2.out p z hz
      have hst := beq_step hy hz
      have hp0 : (0 : Int) ≤ p := by omega
      have hp1 : (p : Int) < L1.length := by omega
      by_cases hyz : y = z
      · subst hyz
        rw [hf.out, beq_self_eq_true, Bool.true_and] at hst
        have hf' := Lib.hid hst.symm
        clear hst hf hy hz hne'
        go_wp2_with fail
        go_quiet (fail)
        go_wp2_with fail
        go_roundg (L1.length - (p + 1))
        case measure => omega
        case rel => exact ⟨p + 1, by go_num, by omega, ⟨_, rfl⟩, hf'⟩
      · have hq : (y == z) = false := beq_eq_false_iff_ne.2 hyz
        rw [hf.out, hq, Bool.false_and] at hst
        subst hst
        clear hf hy hz hne'
        go_wp2_with fail
        go_quiet (fail)
        go_wp2_with fail
        go_ret
        exact ⟨rfl, _, World.drewN_drewN _ _ _⟩
    · have e0 := beq_end (p := p) hlt hne
      rw [hf.out] at e0
      subst e0
      clear hne'
      go_wp2_with fail
      go_ret
      exact ⟨rfl, _, rfl⟩

set_option maxHeartbeats 1000000 in
theorem same_any {v1 v2 : Value} {m1 m2 : Meth} {w : World} (h1 : RdM w v1 m1) (h2 : RdM w v2 m2) :
    Calls Tryd.prog 16 #[v1, v2] w fun e w' => e = .returned (.bool (sameM m1 m2)) ∧ Below w.heap.size w w' := by
  obtain ⟨s1, n1, rfl, hs1, hn1⟩ := h1
  obtain ⟨s2, n2, rfl, hs2, hn2⟩ := h2
  obtain ⟨k1, S1, N1, x1⟩ := m1
  obtain ⟨k2, S2, N2, x2⟩ := m2
  simp only at *
  have hb1 := new_below w (mO k1 s1 n1 x1)
  have hb2 := hb1.trans ((new_below (w.alloc (mO k1 s1 n1 x1)) (mO k2 s2 n2 x2)).mono (by simp))
  replace hb1 := Lib.hid hb1
  replace hb2 := Lib.hid hb2
  have hR : Hid (sameM ⟨k1, S1, N1, x1⟩ ⟨k2, S2, N2, x2⟩ = ((k1 == k2) && ((x1 == x2) && ((S1 == S2) && (N1 == N2))))) := Lib.hid rfl
  generalize sameM ⟨k1, S1, N1, x1⟩ ⟨k2, S2, N2, x2⟩ = r at *
  have c1 := Lib.hid (equalT_any (hs1.below hb2.out) (hs2.below hb2.out))
  have c2 := Lib.hid (fun n => equalN_any ((hn1.below hb2.out).below (drewN_below _ n)) ((hn2.below hb2.out).below (drewN_below _ n)))
  obtain ⟨a1, cap1, rfl, -, -, -⟩ := hs1
  obtain ⟨a2, cap2, rfl, -, -, -⟩ := hs2
  obtain ⟨a3, cap3, rfl, -, -, -⟩ := hn1
  obtain ⟨a4, cap4, rfl, -, -, -⟩ := hn2
  have hbn := Lib.hid (fun n => hb2.out.trans ((drewN_below _ n).mono (by simp; omega)))
  by_cases hk : k1 = k2
  case neg =>
    have hk' : (k1 == k2) = false := by simpa using hk
    rw [hk', Bool.false_and] at hR
    go_enter Tryd.func16, Tryd.ntmps16
    go_wp2_with fail
    go_ret
    exact ⟨ret_bool hR.out.symm, hb2.out⟩
  subst hk
  rw [beq_self_eq_true, Bool.true_and] at hR
  generalize (S1 == S2) = u at *
  generalize (N1 == N2) = v at *
  cases u with
  | false =>
    rw [Bool.false_and, Bool.and_false] at hR
    go_enter Tryd.func16, Tryd.ntmps16
    go_wp2_with fail
    refine c1.out.mono ?_
    rintro e w1 ⟨rfl, n, rfl⟩
    go_wp2_with fail
    go_ret
    exact ⟨ret_bool hR.out.symm, hbn.out _⟩
  | true =>
    rw [Bool.true_and] at hR
    cases v with
    | false =>
      rw [Bool.and_false] at hR
      go_enter Tryd.func16, Tryd.ntmps16
      go_wp2_with fail
      refine c1.out.mono ?_
      rintro e w1 ⟨rfl, n, rfl⟩
      go_wp2_with fail
      refine (c2.out _).mono ?_
      rintro e w1 ⟨rfl, n2, rfl⟩
      go_wp2_with fail
      go_ret
      exact ⟨ret_bool hR.out.symm, hbn.out _⟩
    | true =>
      rw [Bool.and_true] at hR
      go_enter Tryd.func16, Tryd.ntmps16
      go_wp2_with fail
      refine c1.out.mono ?_
      rintro e w1 ⟨rfl, n, rfl⟩
      go_wp2_with fail
      refine (c2.out _).mono ?_
      rintro e w1 ⟨rfl, n2, rfl⟩
      go_wp2_with fail
      go_ret
      exact ⟨ret_bool hR.out.symm, hbn.out _⟩

set_option maxHeartbeats 2000000 in
theorem rsame_any {v1 v2 : Value} {m1 m2 : Meth} {w : World} (h1 : RdM w v1 m1) (h2 : RdM w v2 m2) :
    Calls Tryd.prog 17 #[v1, v2] w fun e w' => e = .returned (.bool (sameM m1 m2)) ∧ Below w.heap.size w w' := by
  obtain ⟨s1, n1, rfl, hs1, hn1⟩ := h1
  obtain ⟨s2, n2, rfl, hs2, hn2⟩ := h2
  obtain ⟨k1, S1, N1, x1⟩ := m1
  obtain ⟨k2, S2, N2, x2⟩ := m2
  simp only at *
  have hb1 := new_below w (mO k1 s1 n1 x1)
  have hb2 := hb1.trans ((new_below (w.alloc (mO k1 s1 n1 x1)) (mO k2 s2 n2 x2)).mono (by simp))
  replace hb1 := Lib.hid hb1
  replace hb2 := Lib.hid hb2
  have hR : Hid (sameM ⟨k1, S1, N1, x1⟩ ⟨k2, S2, N2, x2⟩ = ((k1 == k2) && ((x1 == x2) && ((S1 == S2) && (N1 == N2))))) := Lib.hid rfl
  generalize sameM ⟨k1, S1, N1, x1⟩ ⟨k2, S2, N2, x2⟩ = r at *
  replace hs1 := hs1.below hb2.out
  replace hs2 := hs2.below hb2.out
  replace hn1 := hn1.below hb2.out
  replace hn2 := hn2.below hb2.out
  obtain ⟨a1, cap1, rfl, hl1, hm1, hx1⟩ := hs1
  obtain ⟨a2, cap2, rfl, -, -, hx2⟩ := hs2
  obtain ⟨a3, cap3, rfl, hl3, hm3, hx3⟩ := hn1
  obtain ⟨a4, cap4, rfl, -, -, hx4⟩ := hn2
  have hS1 : S1.length ≤ maxLen := by omega
  have hN1 : N1.length ≤ maxLen := by omega
  simp only [maxLen] at hS1 hN1
  clear hl1 hm1 hl3 hm3
  replace hx1 := Lib.hid hx1
  replace hx2 := Lib.hid hx2
  replace hx3 := Lib.hid hx3
  replace hx4 := Lib.hid hx4
  have hbn := Lib.hid (fun n => hb2.out.trans ((drewN_below _ n).mono (by simp; omega)))
  by_cases hk : k1 = k2
  case neg =>
    have hk' : (k1 == k2) = false := by simpa using hk
    rw [hk', Bool.false_and] at hR
    go_enter Tryd.func17, Tryd.ntmps17
    go_wp2_with fail
    go_ret
    exact ⟨ret_bool hR.out.symm, hb2.out⟩
  subst hk
  rw [beq_self_eq_true, Bool.true_and] at hR
  by_cases hx : x1 = x2
  case neg =>
    have hx' : (x1 == x2) = false := by simpa using hx
    rw [hx', Bool.false_and] at hR
    go_enter Tryd.func17, Tryd.ntmps17
    go_wp2_with fail
    go_ret
    exact ⟨ret_bool hR.out.symm, hb2.out⟩
  subst hx
  rw [beq_self_eq_true, Bool.true_and] at hR
  by_cases hS : S1.length = S2.length
  case neg =>
    have hS' : ¬ (S1.length : Int) = S2.length := by omega
    rw [beq_lens hS, Bool.false_and] at hR
    go_enter Tryd.func17, Tryd.ntmps17
    go_wp2_with fail
    go_ret
    exact ⟨ret_bool hR.out.symm, hb2.out⟩
  by_cases hN : N1.length = N2.length
  case neg =>
    have hN' : ¬ (N1.length : Int) = N2.length := by omega
    rw [beq_lens hN, Bool.and_false] at hR
    rw [← hS] at hb2 ⊢
    replace hS := Lib.hid hS
    go_enter Tryd.func17, Tryd.ntmps17
    go_wp2_with fail
    go_ret
    exact ⟨ret_bool hR.out.symm, hb2.out⟩
  rw [← hS, ← hN] at hb2 hbn hx1 hx2 hx3 hx4 ⊢
  have eS := fun p (h : ¬ p < S1.length) => beq_end (p := p) h hS
  have eN := fun p (h : ¬ p < N1.length) => beq_end (p := p) h hN
  have iS : ∀ p, p < S1.length → ∃ z, S2[p]? = some z := fun p hp => ⟨_, List.getElem?_eq_getElem (by omega)⟩
  have iN : ∀ p, p < N1.length → ∃ z, N2[p]? = some z := fun p hp => ⟨_, List.getElem?_eq_getElem (by omega)⟩
  replace eS := Lib.hid eS
  replace eN := Lib.hid eN
  replace iS := Lib.hid iS
  replace iN := Lib.hid iN
  clear hS hN
  go_enter Tryd.func17, Tryd.ntmps17
  go_wp2_with fail
  go_loopg [5] S1.length (fun g v5 wr => ∃ p : Nat, v5 = .int .i64 p ∧ p + g = S1.length ∧ (∃ q, wr = ((w.alloc (mO k1 (.slice a1 S1.length cap1) (.slice a3 N1.length cap3) x1)).alloc (mO k1 (.slice a2 S1.length cap2) (.slice a4 N1.length cap4) x1)).drewN q) ∧ Hid ((S1.drop p == S2.drop p) = (S1 == S2)))
  case atStart => exact ⟨0, rfl, by omega, ⟨0, rfl⟩, Lib.hid rfl⟩
  case round =>
    obtain ⟨p, rfl, hp, ⟨q, rfl⟩, hf⟩ := hrel
    by_cases hlt : p < S1.length
    · have hy : S1[p]? = some S1[p] := List.getElem?_eq_getElem hlt
      generalize S1[p] = y at hy
      obtain ⟨z, hz⟩ := iS.out p hlt
      obtain ⟨hym, b, off, rfl, hc⟩ := hx1.out p y hy
      obtain ⟨hzm, b2, off2, rfl, hc2⟩ := hx2.out p z hz
      have hst := beq_step hy hz
      have hp0 : (0 : Int) ≤ p := by omega
      have hp1 : (p : Int) < S1.length := by omega
      by_cases hyz : y = z
      · subst hyz
        rw [hf.out, beq_self_eq_true, Bool.true_and] at hst
        have hf' := Lib.hid hst.symm
        clear hst hf hy hz
        go_wp2_with fail
        go_quiet (fail)
        go_wp2_with fail
        go_roundg (S1.length - (p + 1))
        case measure => omega
        case rel => exact ⟨p + 1, by go_num, by omega, ⟨_, rfl⟩, hf'⟩
      · have hq : (y == z) = false := beq_eq_false_iff_ne.2 hyz
        rw [hf.out, hq, Bool.false_and] at hst
        rw [hst, Bool.false_and] at hR
        clear hst hf hy hz
        go_wp2_with fail
        go_quiet (fail)
        go_wp2_with fail
        go_ret
        exact ⟨ret_bool hR.out.symm, World.drewN_drewN _ _ _ ▸ hbn.out _⟩
    · rw [← hf.out, eS.out p hlt, Bool.true_and] at hR
      clear hf
      go_wp2_with fail
      go_loopg [6] N1.length (fun g v6 wr => ∃ p : Nat, v6 = .int .i64 p ∧ p + g = N1.length ∧ (∃ q, wr = ((w.alloc (mO k1 (.slice a1 S1.length cap1) (.slice a3 N1.length cap3) x1)).alloc (mO k1 (.slice a2 S1.length cap2) (.slice a4 N1.length cap4) x1)).drewN q) ∧ Hid ((N1.drop p == N2.drop p) = (N1 == N2)))
      case atStart => exact ⟨0, rfl, by omega, ⟨q, rfl⟩, Lib.hid rfl⟩
      case round =>
        clear hlt
        obtain ⟨p, rfl, hp, ⟨q, rfl⟩, hf⟩ := hrel
        by_cases hlt : p < N1.length
        · have hy : N1[p]? = some N1[p] := List.getElem?_eq_getElem hlt
          generalize N1[p] = y at hy
          obtain ⟨z, hz⟩ := iN.out p hlt
          obtain ⟨b, off, rfl, hc⟩ := hx3.out p y hy
          obtain ⟨b2, off2, rfl, hc2⟩ := hx4.out p z hz
          have hst := beq_step hy hz
          have hp0 : (0 : Int) ≤ p := by omega
          have hp1 : (p : Int) < N1.length := by omega
          by_cases hyz : y = z
          · subst hyz
            rw [hf.out, beq_self_eq_true, Bool.true_and] at hst
            have hf' := Lib.hid hst.symm
            clear hst hf hy hz
            go_wp2_with fail
            go_quiet (fail)
            go_wp2_with fail
            go_roundg (N1.length - (p + 1))
            case measure => omega
            case rel => exact ⟨p + 1, by go_num, by omega, ⟨_, rfl⟩, hf'⟩
          · have hq : (y == z) = false := beq_eq_false_iff_ne.2 hyz
            rw [hf.out, hq, Bool.false_and] at hst
            rw [hst] at hR
            clear hst hf hy hz
            go_wp2_with fail
            go_quiet (fail)
            go_wp2_with fail
            go_ret
            exact ⟨ret_bool hR.out.symm, World.drewN_drewN _ _ _ ▸ hbn.out _⟩
        · rw [← hf.out, eN.out p hlt] at hR
          clear hf
          go_wp2_with fail
          go_ret
          exact ⟨ret_bool hR.out.symm, hbn.out _⟩
end Go.Proofs.YtipinglchpmgaaaDoor
