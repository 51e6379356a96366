/- What the laws know; PatternTells. -/
import Derived.Test.YtpplpcpdoghifaaPtG
namespace Go.Proofs.Ytpplpcpdoghifaa
open Go.RowKit
set_option linter.unusedVariables false

/-- Match, of two texts whose words are known. -/
theorem match_is {p k : List UInt8} {b : Bool} (h : gl (wordsL p) (wordsL k) = b) (hp : p.length ≤ 1000000) (hk : k.length ≤ 1000000) (w : World) :
    Calls Try.prog 11 #[tx p, tx k] w fun e w' => e = .returned (.bool b) ∧ Below w.heap.size w w' := h ▸ match_to hp hk w
theorem words_count {l : List UInt8} {n : Nat} (h : (wordsL l).length = n) (hl : l.length ≤ 1000000) (w : World) :
    Calls Try.prog 9 #[tx l] w fun e w' => ∃ a c, e = .returned (.slice a n c) ∧ Below w.heap.size w w' := by
  refine (words_to hl w).mono ?_
  rintro e w' ⟨v, rfl, ⟨a, c, rfl, _⟩, hb⟩
  exact ⟨a, c, by rw [h], hb⟩
theorem isname_is {l : List UInt8} {b : Bool} (h : isNm l = b) (w : World) : Calls Try.prog 13 #[tx l] w fun e w' => e = .returned (.bool b) ∧ w' = w := h ▸ isname_any l w

set_option maxHeartbeats 4000000 in
theorem known10_true (w : World) : Calls Try.prog 7 #[] w fun e w' => e = .returned (.bool true) ∧ Below w.heap.size w w' := by
  have a1 := Lib.hid (match_is (p := [97, 46, 35]) (k := [97]) (b := true) (by decide) (by decide) (by decide))
  have a2 := Lib.hid (match_is (p := [97, 46, 35]) (k := [97, 46, 98, 46, 99]) (b := true) (by decide) (by decide) (by decide))
  have a3 := Lib.hid (match_is (p := [97, 46, 42]) (k := [97]) (b := false) (by decide) (by decide) (by decide))
  have a4 := Lib.hid (match_is (p := [42, 46, 98]) (k := [97, 46, 98]) (b := true) (by decide) (by decide) (by decide))
  have a5 := Lib.hid (match_is (p := [35]) (k := []) (b := true) (by decide) (by decide) (by decide))
  have a6 := Lib.hid (match_is (p := [97]) (k := [98]) (b := false) (by decide) (by decide) (by decide))
  have a7 := Lib.hid (words_count (l := []) (n := 1) (by decide) (by decide))
  have a8 := Lib.hid (words_count (l := [97, 46, 46, 98]) (n := 3) (by decide) (by decide))
  have a9 := Lib.hid (isname_is (l := [113, 45, 49]) (b := true) (by decide))
  have a10 := Lib.hid (isname_is (l := []) (b := false) (by decide))
  have a11 := Lib.hid (iskey_any [97, 46, 98])
  have h := Lib.hid (Below.refl w.heap.size w)
  go_enter Try.func7, Try.ntmps7
  go_wp2_with fail
  refine (a1.out _).mono ?_
  rintro e w1 ⟨rfl, hb⟩
  replace h := Lib.hid (bel h.out hb)
  clear hb a1
  go_wp2_with fail
  refine (a2.out _).mono ?_
  rintro e w2 ⟨rfl, hb⟩
  replace h := Lib.hid (bel h.out hb)
  clear hb a2
  go_wp2_with fail
  refine (a3.out _).mono ?_
  rintro e w3 ⟨rfl, hb⟩
  replace h := Lib.hid (bel h.out hb)
  clear hb a3
  go_wp2_with fail
  refine (a4.out _).mono ?_
  rintro e w4 ⟨rfl, hb⟩
  replace h := Lib.hid (bel h.out hb)
  clear hb a4
  go_wp2_with fail
  refine (a5.out _).mono ?_
  rintro e w5 ⟨rfl, hb⟩
  replace h := Lib.hid (bel h.out hb)
  clear hb a5
  go_wp2_with fail
  refine (a6.out _).mono ?_
  rintro e w6 ⟨rfl, hb⟩
  replace h := Lib.hid (bel h.out hb)
  clear hb a6
  go_wp2_with fail
  refine (a7.out _).mono ?_
  rintro e w7 ⟨x7, y7, rfl, hb⟩
  replace h := Lib.hid (bel h.out hb)
  clear hb a7
  go_wp2_with fail
  refine (a8.out _).mono ?_
  rintro e w8 ⟨x8, y8, rfl, hb⟩
  replace h := Lib.hid (bel h.out hb)
  clear hb a8
  go_wp2_with fail
  refine (a9.out _).mono ?_
  rintro e w9 ⟨rfl, rfl⟩
  go_wp2_with fail
  refine (a10.out _).mono ?_
  rintro e w10 ⟨rfl, rfl⟩
  go_wp2_with fail
  refine (a11.out _).mono ?_
  rintro e w11 ⟨rfl, rfl⟩
  go_wp2_with fail
  go_ret
  exact ⟨rfl, h.out⟩

theorem tells10_walk {p k : List UInt8} (hp : p.length ≤ maxLen) (w : World) :
    Calls Try.prog 3 #[tx p, tx k] w fun e w' => e = .returned (.bool true) ∧ Below w.heap.size w w' := by
  have c1 := Lib.hid (known10_true w)
  by_cases hlong : 60 < p.length ∨ 60 < k.length
  · rcases hlong with h | h
    all_goals
      have h' := Int.ofNat_lt.2 h
      go_enter Try.func3, Try.ntmps3
      go_wp2_with fail
      refine c1.out.mono ?_
      rintro e w1 ⟨rfl, hb⟩
      replace hb := Lib.hid hb
      go_wp2_with fail
      all_goals
        go_ret
        exact ⟨rfl, hb.out⟩
  · have h1 : ¬ (60 : Int) < p.length := by omega
    have h2 : ¬ (60 : Int) < k.length := by omega
    have a1 := Lib.hid (words_to (l := k) (by omega))
    have a2 := Lib.hid (rwords_to (l := k) (by omega))
    have lk : (wordsL k).length ≤ 1073741824 := by have := words_len k; omega
    have a3 := Lib.hid (fun W v1 v2 h h' => sameTexts_true (w := W) (v1 := v1) (v2 := v2) (l := wordsL k) h h' lk)
    have a4 := Lib.hid (match_to (p := p) (k := k) (by omega) (by omega))
    have a5 := Lib.hid (rmatch_to (p := p) (k := k) (by omega) (by omega))
    have a6 := Lib.hid (isname_any p)
    have a7 := Lib.hid (risname_any p hp)
    have a8 := Lib.hid (iskey_any p)
    have a9 := Lib.hid (riskey_any p)
    generalize gl (wordsL p) (wordsL k) = M at *
    generalize isNm p = N at *
    generalize decide (p.length ≤ 40) = Y at *
    generalize wordsL k = K at *
    clear lk hlong hp
    go_enter Try.func3, Try.ntmps3
    go_wp2_with fail
    refine c1.out.mono ?_
    rintro e w1 ⟨rfl, hb⟩
    replace hb := Lib.hid hb
    clear c1
    go_wp2_with fail
    refine (a1.out _).mono ?_
    rintro e w2 ⟨v1, rfl, r1, hb2⟩
    replace hb := Lib.hid (bel hb.out hb2)
    replace r1 := Lib.hid r1
    clear hb2 a1
    go_wp2_with fail
    refine (a2.out _).mono ?_
    rintro e w3 ⟨v2, rfl, r2, hb2⟩
    replace hb := Lib.hid (bel hb.out hb2)
    replace r1 := Lib.hid (r1.out.below hb2)
    replace r2 := Lib.hid r2
    clear hb2 a2
    go_wp2_with fail
    refine (a3.out _ _ _ r1.out r2.out).mono ?_
    rintro e w4 ⟨rfl, hb2⟩
    replace hb := Lib.hid (bel hb.out hb2)
    clear hb2 a3 r1 r2
    go_wp2_with fail
    refine (a4.out _).mono ?_
    rintro e w5 ⟨rfl, hb2⟩
    replace hb := Lib.hid (bel hb.out hb2)
    clear hb2 a4
    go_wp2_with fail
    refine (a5.out _).mono ?_
    rintro e w6 ⟨rfl, hb2⟩
    replace hb := Lib.hid (bel hb.out hb2)
    clear hb2 a5
    go_wp2_with fail
    refine (a6.out _).mono ?_
    rintro e w7 ⟨rfl, rfl⟩
    go_wp2_with fail
    refine (a7.out _).mono ?_
    rintro e w8 ⟨rfl, rfl⟩
    go_wp2_with fail
    refine (a8.out _).mono ?_
    rintro e w9 ⟨rfl, rfl⟩
    go_wp2_with fail
    refine (a9.out _).mono ?_
    rintro e w10 ⟨rfl, rfl⟩
    go_wp2_with fail
    go_ret
    exact ⟨ret_bool (by simp), hb.out⟩
theorem tells10_row {p k : ByteArray} {w : World} (r0 : Read Try.prog w 9 [.string p]) (r1 : Read Try.prog w 9 [.string k]) :
    Calls Try.prog 3 #[.string p, .string k] w fun e w' => e = .returned (.bool true) ∧ Below w.heap.size w w' := by
  obtain ⟨s, h1, h2⟩ := r0.string uStr6
  simp only [List.cons.injEq, Value.string.injEq, and_true] at h1
  subst h1
  obtain ⟨⟨l⟩⟩ := p
  obtain ⟨⟨m⟩⟩ := k
  exact tells10_walk h2 w
end Go.Proofs.Ytpplpcpdoghifaa
