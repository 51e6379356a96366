/- Names, keys; SameTexts. -/
import Derived.Test.YtpplpcpdoghifaaPtF
namespace Go.Proofs.Ytpplpcpdoghifaa
open Go.RowKit
set_option linter.unusedVariables false

theorem inname_any (c : UInt8) (w : World) : Calls Try.prog 19 #[.int .u8 c.toNat] w fun e w' => e = .returned (.bool (inNm c)) ∧ w' = w := by
  unfold inNm
  generalize c.toNat = n at *
  go_enter Try.func19, Try.ntmps19
  go_wp2_with fail
  all_goals
    go_ret
    refine ⟨ret_bool ?_, rfl⟩
    apply Bool.eq_iff_iff.2
    simp only [Bool.or_eq_true, Bool.and_eq_true, decide_eq_true_eq, beq_iff_eq]
    constructor
    all_goals
      intro _
      first | trivial | omega

theorem inNm_iff (c : UInt8) : inNm c = true ↔ (97 ≤ c.toNat ∧ c.toNat ≤ 122) ∨ (65 ≤ c.toNat ∧ c.toNat ≤ 90) ∨ (48 ≤ c.toNat ∧ c.toNat ≤ 57) ∨ c.toNat = 45 := by
  unfold inNm
  simp only [Bool.or_eq_true, decide_eq_true_eq, or_assoc]
theorem all_take {l : List UInt8} {i : Nat} {c : UInt8} (h : (l.take i).all inNm = true) (hc : l[i]? = some c) : (l.take (i + 1)).all inNm = inNm c := by
  rw [List.take_add_one, hc, List.all_append, h]
  simp
theorem isNm_bad {l : List UInt8} {i : Nat} {c : UInt8} (hc : l[i]? = some c) (h : inNm c = false) : isNm l = false := by
  have : l.all inNm = false := by
    apply Bool.eq_false_iff.2
    intro ha
    rw [List.all_eq_true] at ha
    rw [ha c (List.mem_of_getElem? hc)] at h
    cases h
  rw [isNm, this, Bool.and_false]

/-- What holds at IsName's label. -/
def NameAt (w : World) (l : List UInt8) (g : Nat) (a' : Act) (w' : World) : Prop := ∃ i : Nat, i + g = l.length ∧ 0 < l.length ∧ l.length ≤ 12 ∧ (l.take i).all inNm = true ∧ Fr 22 [(0, tx l), (3, .int .i64 i)] a' ∧ w' = w

set_option maxHeartbeats 1000000 in
theorem isname_any (l : List UInt8) (w : World) : Calls Try.prog 13 #[tx l] w fun e w' => e = .returned (.bool (isNm l)) ∧ w' = w := by
  have hIn := Lib.hid (fun c => inname_any c w)
  go_enter Try.func13, Try.ntmps13
  go_wp2_with fail
  refine wp_scope_ghost 0 (NameAt w l) rfl ?_ ?_
  · rintro g a' w' ⟨i, hi, hl0, hl12, ha, hfr, rfl⟩
    obtain ⟨q, rfl, hl'⟩ := hfr.lit
    clear hfr
    simp only [List.mem_cons, List.not_mem_nil, or_false, forall_eq_or_imp, forall_eq] at hl'
    obtain ⟨f0, f3⟩ := hl'
    simp only [List.range, List.range.loop, List.map, f0, f3]
    clear f0 f3
    have hi0 : (0 : Int) ≤ i := by omega
    by_cases hlt : i < l.length
    · have hx : l[i]? = some l[i] := List.getElem?_eq_getElem hlt
      have hi1 : (i : Int) < l.length := by omega
      have hne : ((i : Int) == l.length) = false := by rw [beq_eq_false_iff_ne]; omega
      have c1 := Lib.hid (hIn.out l[i])
      clear hIn
      have hg : (((⟨l.toArray⟩ : ByteArray)[i]'(show i < l.length from hlt)).toNat : Int) = (l[i].toNat : Int) := rfl
      cases hb : inNm l[i] with
      | true =>
        rw [hb] at c1
        have ha2 := all_take ha hx
        rw [hb] at ha2
        replace ha2 := Lib.hid ha2
        clear ha hx hb
        go_wp2_with fail
        refine c1.out.mono ?_
        rintro e w1 ⟨rfl, rfl⟩
        go_wp2_with fail
        refine wp_goto ?_
        refine ⟨rfl, g - 1, by omega, i + 1, by omega, hl0, hl12, ha2.out, ⟨rfl, rfl, ?_⟩, rfl⟩
        simp
      | false =>
        rw [hb] at c1
        have hf := isNm_bad hx hb
        replace hf := Lib.hid hf
        clear ha hx hb
        go_wp2_with fail
        refine c1.out.mono ?_
        rintro e w1 ⟨rfl, rfl⟩
        go_wp2_with fail
        simp only [Exit.jump]
        go_ret
        exact ⟨ret_bool hf.out.symm, rfl⟩
    · obtain rfl : i = l.length := by omega
      rw [List.take_of_length_le (Nat.le_refl _)] at ha
      have hf : isNm l = true := by rw [isNm, ha, decide_eq_true (show 1 ≤ l.length by omega), decide_eq_true hl12]; rfl
      clear hIn
      go_wp2_with fail
      simp only [Exit.jump]
      go_ret
      exact ⟨ret_bool hf.symm, rfl⟩
  · intro H
    by_cases h0 : l = []
    · subst h0
      clear H
      go_wp2_with fail
      simp only [Exit.jump]
      go_ret
      exact ⟨rfl, rfl⟩
    · have hpos : 0 < l.length := List.length_pos_iff.2 h0
      have h0B : (l == []) = false := by simpa using h0
      have h0C : l.isEmpty = false := by simpa using h0
      by_cases h12 : 12 < l.length
      · have h12' : (12 : Int) < l.length := by omega
        have hf : isNm l = false := by rw [isNm, decide_eq_false (show ¬ l.length ≤ 12 by omega), Bool.and_false, Bool.false_and]
        clear H
        go_wp2_with fail
        simp only [Exit.jump]
        go_ret
        exact ⟨ret_bool hf.symm, rfl⟩
      · have h12' : ¬ (12 : Int) < l.length := by omega
        go_wp2_with fail
        refine wp_label ?_
        go_step
        go_step
        exact H l.length _ _ ⟨0, by omega, by omega, by omega, by simp, ⟨rfl, rfl, by simp⟩, rfl⟩

set_option maxHeartbeats 1000000 in
theorem risname_any (l : List UInt8) (hl : l.length ≤ maxLen) (w : World) : Calls Try.prog 14 #[tx l] w fun e w' => e = .returned (.bool (isNm l)) ∧ w' = w := by
  unfold maxLen at hl
  go_enter Try.func14, Try.ntmps14
  go_wp2_with fail
  go_loopg [3] l.length (fun g v3 wr => ∃ i : Nat, v3 = .int .i64 i ∧ i + g = l.length ∧ Hid ((l.take i).all inNm = true) ∧ wr = w)
  case atStart => exact ⟨0, rfl, by omega, Lib.hid (by simp), rfl⟩
  case round =>
    obtain ⟨i, rfl, hi, ha, rfl⟩ := hrel
    have hi0 : (0 : Int) ≤ i := by omega
    by_cases hlt : i < l.length
    · have hx : l[i]? = some l[i] := List.getElem?_eq_getElem hlt
      have hi1 : (i : Int) < l.length := by omega
      have ha2 := Lib.hid (all_take ha.out hx)
      have hbad := Lib.hid (isNm_bad hx)
      clear ha hx
      have hif := inNm_iff l[i]
      have hcN : ((⟨l.toArray⟩ : ByteArray)[i]'(show i < l.length from hlt)) = l[i] := rfl
      have hint : ((l[i].toNat : Int) < 45 ∨ (45 < (l[i].toNat : Int) ∧ (l[i].toNat : Int) < 48) ∨ (57 < (l[i].toNat : Int) ∧ (l[i].toNat : Int) < 65) ∨ (90 < (l[i].toNat : Int) ∧ (l[i].toNat : Int) < 97) ∨ 122 < (l[i].toNat : Int)) ∨
          ((l[i].toNat : Int) = 45 ∨ (48 ≤ (l[i].toNat : Int) ∧ (l[i].toNat : Int) ≤ 57) ∨ (65 ≤ (l[i].toNat : Int) ∧ (l[i].toNat : Int) ≤ 90) ∨ (97 ≤ (l[i].toNat : Int) ∧ (l[i].toNat : Int) ≤ 122)) := by omega
      rcases hint with h | h
      · have hf := hbad.out (by
          cases hb : inNm l[i] with
          | false => rfl
          | true =>
            have := hif.1 hb
            omega)
        have hne : (((l[i].toNat : Nat) : Int) != 45) = true := by
          rw [bne_iff_ne]
          omega
        replace hf := Lib.hid hf
        clear hif ha2 hbad
        rcases h with h | ⟨h, h'⟩ | ⟨h, h'⟩ | ⟨h, h'⟩ | h
        all_goals
          go_wp2_with fail
          go_ret
          exact ⟨ret_bool hf.out.symm, rfl⟩
      · rw [hif.2 (by omega)] at ha2
        clear hif hbad
        rcases h with h | ⟨h, h'⟩ | ⟨h, h'⟩ | ⟨h, h'⟩
        · have hne : (((l[i].toNat : Nat) : Int) != 45) = false := by
            rw [bne_eq_false_iff_eq]
            exact h
          go_wp2_with fail
          go_roundg (l.length - (i + 1))
          case measure => omega
          case rel => exact ⟨i + 1, by go_num, by omega, ha2, rfl⟩
        all_goals
          go_wp2_with fail
          go_roundg (l.length - (i + 1))
          case measure => omega
          case rel => exact ⟨i + 1, by go_num, by omega, ha2, rfl⟩
    · obtain rfl : i = l.length := by omega
      have ha2 := ha.out
      rw [List.take_of_length_le (Nat.le_refl _)] at ha2
      have hf : isNm l = (decide ((1 : Int) ≤ l.length) && decide ((l.length : Int) ≤ 12)) := by
        rw [isNm, ha2, Bool.and_true]
        congr 1
        · apply decide_eq_decide.2; omega
        · apply decide_eq_decide.2; omega
      replace hf := Lib.hid hf
      clear ha ha2
      go_wp2_with fail
      all_goals
        go_ret
        refine ⟨ret_bool ?_, rfl⟩
        rw [hf.out]
        first
          | (rw [decide_eq_true (show (1 : Int) ≤ l.length by omega), Bool.true_and]; done)
          | (rw [decide_eq_false (show ¬ (1 : Int) ≤ l.length by omega), Bool.false_and])
theorem iskey_any (l : List UInt8) (w : World) : Calls Try.prog 15 #[tx l] w fun e w' => e = .returned (.bool (decide (l.length ≤ 40))) ∧ w' = w := by
  go_enter Try.func15, Try.ntmps15
  go_wp2_with fail
  go_ret
  exact ⟨ret_bool (decide_eq_decide.2 (by omega)), rfl⟩
theorem riskey_any (l : List UInt8) (w : World) : Calls Try.prog 16 #[tx l] w fun e w' => e = .returned (.bool (decide (l.length ≤ 40))) ∧ w' = w := by
  go_enter Try.func16, Try.ntmps16
  go_wp2_with fail
  go_ret
  exact ⟨ret_bool (decide_eq_decide.2 (by omega)), rfl⟩

set_option maxHeartbeats 1000000 in
theorem sameTexts_true {w : World} {v1 v2 : Value} {l : Wds} (h1 : ReadTs w v1 l) (h2 : ReadTs w v2 l) (hl : l.length ≤ 1073741824) : Calls Try.prog 8 #[v1, v2] w fun e w' => e = .returned (.bool true) ∧ Below w.heap.size w w' := by
  obtain ⟨a1, c1, rfl, h1⟩ := h1
  obtain ⟨a2, c2, rfl, h2⟩ := h2
  replace h1 := Lib.hid h1
  replace h2 := Lib.hid h2
  go_enter Try.func8, Try.ntmps8
  go_wp2_with fail
  go_loopg [5] l.length (fun g i wt => ∃ p : Nat, i = .int .i64 p ∧ p + g = l.length ∧ ∃ m, wt = w.drewN m)
  case atStart => exact ⟨0, rfl, by omega, 0, rfl⟩
  case round =>
    obtain ⟨p, rfl, hp, m, rfl⟩ := hrel
    have hp0 : (0 : Int) ≤ p := by omega
    by_cases hlt : p < l.length
    · have hx : l[p]? = some l[p] := List.getElem?_eq_getElem hlt
      generalize l[p] = x at hx
      obtain ⟨-, b1, o1, rfl, k1⟩ := h1.out.at_ p x hx
      obtain ⟨-, b2, o2, rfl, k2⟩ := h2.out.at_ p x hx
      have hp1 : (p : Int) < l.length := by omega
      clear hx
      go_wp2_with fail
      go_quiet (fail)
      go_wp2_with fail
      go_roundg (l.length - (p + 1))
      case measure => omega
      case rel => exact ⟨p + 1, by go_num, by omega, _, rfl⟩
    · go_wp2_with fail
      go_ret
      exact ⟨rfl, drewN_below _ _⟩
end Go.Proofs.Ytpplpcpdoghifaa
