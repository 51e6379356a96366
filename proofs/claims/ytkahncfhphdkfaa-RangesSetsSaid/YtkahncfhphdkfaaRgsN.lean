/- The statement of layer 3 about both ends of the numbers. -/
import Derived.Test.YtkahncfhphdkfaaRgsH
namespace Go.Proofs.Ytkahncfhphdkfaa
open Go.RowKit
set_option linter.unusedVariables false

theorem canon_one {lo hi : Int} (h0 : 1 ≤ lo) (h1 : lo ≤ hi) (h2 : hi ≤ 1000000) : Canon [(lo, hi)] := ⟨by simp; omega, by simp⟩
theorem inn_one (lo hi k : Int) : Inn [(lo, hi)] k ↔ lo ≤ k ∧ k ≤ hi := by simp [Inn]
theorem cnt_one (lo hi : Int) : cnt [(lo, hi)] = hi - lo + 1 := by simp [cnt]

set_option maxRecDepth 100000 in
set_option maxHeartbeats 4000000 in
theorem ends3_none (a b : Int) (hn : b < 1 ∨ 1000000 < a ∨ b < a) (w : World) : Calls Try.prog 5 #[.int .i64 a, .int .i64 b] w fun e w' => e = .returned (.bool true) ∧ Below w.heap.size w w' := by
  have hk := Lib.hid (known3_true w)
  have hem : ∀ k : Int, ¬ (max a 1 ≤ k ∧ k ≤ min b 1000000) := fun k => by omega
  have hadd : ∀ k, Inn [] k ↔ Inn [] k ∨ (max a 1 ≤ k ∧ k ≤ min b 1000000) := fun k => ⟨.inl, fun h => h.elim id fun h => absurd h (hem k)⟩
  have hcut : ∀ k, Inn [] k ↔ Inn [] k ∧ ¬ (max a 1 ≤ k ∧ k ≤ min b 1000000) := fun k => ⟨fun h => ⟨h, hem k⟩, fun h => h.1⟩
  replace hadd := Lib.hid hadd
  replace hcut := Lib.hid hcut
  clear hem
  go_enter Try.func5, Try.ntmps5
  go_wp2_with fail
  refine hk.out.mono ?_
  rintro e w1 ⟨rfl, hb⟩
  replace hb := Lib.hid hb
  have c1 := Lib.hid (rgs_new (St.start w1))
  clear hk
  go_wp2_with fail
  refine c1.out.mono ?_
  rintro e w2 ⟨rfl, h2⟩
  have c2 := Lib.hid (add_to h2 a b canon_nil hadd.out (d := 0) rfl)
  clear c1 h2
  go_wp2_with fail
  refine c2.out.mono ?_
  rintro e w3 ⟨rfl, h3⟩
  have c3 := Lib.hid (rgs_count h3)
  rw [cnt_nil] at c3
  replace h3 := Lib.hid h3
  clear c2
  have fin : Calls Try.prog 10 #[gptr w1.heap.size, .int .i64 a, .int .i64 b] w3 fun e w' => e = .returned (.int .i64 0) ∧ RgsIs w1.heap.size w1 w' w1.heap.size [] [] := add_to h3.out a b canon_nil hadd.out (d := 0) rfl
  replace fin := Lib.hid fin
  go_upto_region 5 with fail
  go_cut [7] (fun v wx => (∃ z : Int, v = .int .i64 z) ∧ wx = w3)
  case first =>
    go_wp2_with fail
    all_goals
      go_meet
      case rel => exact ⟨⟨_, rfl⟩, rfl⟩
  case rest =>
    obtain ⟨⟨z, rfl⟩, rfl⟩ := hcut
    have hcase : b < 1 ∨ (decide (b < 1) = false ∧ 1000000 < a) ∨ (decide (b < 1) = false ∧ decide (1000000 < a) = false ∧ b < a) := by
      rcases hn with h | h | h
      · exact .inl h
      · by_cases h2 : b < 1
        · exact .inl h2
        · exact .inr (.inl ⟨by simpa using h2, h⟩)
      · by_cases h2 : b < 1
        · exact .inl h2
        · by_cases h3 : 1000000 < a
          · exact .inr (.inl ⟨by simpa using h2, h3⟩)
          · exact .inr (.inr ⟨by simpa using h2, by simpa using h3, h⟩)
    clear hn
    rcases hcase with h | ⟨h, h'⟩ | ⟨h, h', h''⟩
    all_goals
      go_wp2_with fail
      refine c3.out.mono ?_
      rintro e w4 ⟨rfl, rfl⟩
      clear c3
      go_wp2_with fail
      refine fin.out.mono ?_
      rintro e w5 ⟨rfl, h5⟩
      have c5 := Lib.hid (cut_to h5 a b canon_nil hcut.out (d := 0) rfl)
      clear h5 fin h3
      go_wp2_with fail
      refine c5.out.mono ?_
      rintro e w6 ⟨rfl, h6⟩
      have c6 := Lib.hid (rgs_all h6)
      clear c5 h6
      go_wp2_with fail
      refine c6.out.mono ?_
      rintro e w7 ⟨v', S', rfl, hs, h7⟩
      obtain ⟨a', cap', rfl, -, -, -⟩ := hs.form
      simp only [List.length_nil]
      have hb7 := Lib.hid h7.below
      clear c6 hs h7
      go_wp2_with fail
      go_ret
      exact ⟨rfl, hb.out.trans (hb7.out.mono hb.out.size)⟩

set_option maxRecDepth 100000 in
set_option maxHeartbeats 4000000 in
theorem ends3_some (a b : Int) (h1 : 1 ≤ b) (h2 : a ≤ 1000000) (h3 : a ≤ b) (ha : -9223372036854775808 ≤ a) (hb2 : b ≤ 9223372036854775807) (w : World) : Calls Try.prog 5 #[.int .i64 a, .int .i64 b] w fun e w' => e = .returned (.bool true) ∧ Below w.heap.size w w' := by
  have hk := Lib.hid (known3_true w)
  have hlo : 1 ≤ max a 1 ∧ max a 1 ≤ min b 1000000 ∧ min b 1000000 ≤ 1000000 := by omega
  have hadd : ∀ k, Inn [(max a 1, min b 1000000)] k ↔ Inn [] k ∨ (max a 1 ≤ k ∧ k ≤ min b 1000000) := fun k => by rw [inn_one]; exact ⟨.inr, fun h => h.elim (fun h => absurd h (inn_nil k)) id⟩
  have hadd2 : ∀ k, Inn [(max a 1, min b 1000000)] k ↔ Inn [(max a 1, min b 1000000)] k ∨ (max a 1 ≤ k ∧ k ≤ min b 1000000) := fun k => by rw [inn_one]; exact ⟨.inr, fun h => h.elim id id⟩
  have hct : ∀ k, Inn [] k ↔ Inn [(max a 1, min b 1000000)] k ∧ ¬ (max a 1 ≤ k ∧ k ≤ min b 1000000) := fun k => by rw [inn_one]; exact ⟨fun h => absurd h (inn_nil k), fun h => absurd h.1 h.2⟩
  obtain ⟨d, hd⟩ : ∃ d, d = min b 1000000 - max a 1 + 1 := ⟨_, rfl⟩
  have hcan := canon_one hlo.1 hlo.2.1 hlo.2.2
  have hwant : max 0 d = d ∧ 1 ≤ d ∧ d ≤ 1000000 := by omega
  have e1 : cnt [(max a 1, min b 1000000)] - cnt [] = d := by rw [cnt_one, cnt_nil]; omega
  have e2 : cnt [(max a 1, min b 1000000)] - cnt [(max a 1, min b 1000000)] = 0 := by omega
  have e3 : cnt [(max a 1, min b 1000000)] = d := by rw [cnt_one]; omega
  generalize hl' : [(max a 1, min b 1000000)] = l' at *
  replace hadd := Lib.hid hadd
  replace hadd2 := Lib.hid hadd2
  replace hct := Lib.hid hct
  replace hcan := Lib.hid hcan
  replace e1 := Lib.hid e1
  replace e2 := Lib.hid e2
  replace e3 := Lib.hid e3
  replace hd := Lib.hid hd
  replace hwant := Lib.hid hwant
  clear hlo hl'
  go_enter Try.func5, Try.ntmps5
  go_wp2_with fail
  refine hk.out.mono ?_
  rintro e w1 ⟨rfl, hb⟩
  replace hb := Lib.hid hb
  have c1 := Lib.hid (rgs_new (St.start w1))
  clear hk
  go_wp2_with fail
  refine c1.out.mono ?_
  rintro e w2 ⟨rfl, h4⟩
  have c2 := Lib.hid (add_to h4 a b hcan.out hadd.out e1.out)
  clear c1 h4
  go_wp2_with fail
  refine c2.out.mono ?_
  rintro e w3 ⟨rfl, h5⟩
  have c3 := Lib.hid (rgs_count h5)
  rw [e3.out] at c3
  replace h5 := Lib.hid h5
  clear c2
  go_upto_region 5 with fail
  go_cut [7] (fun v wx => v = .int .i64 d ∧ wx = w3)
  case first =>
    have hd' := hd.out
    have hw' := hwant.out
    clear hd hwant c3 h5
    by_cases q1 : b ≤ 1000000 <;> by_cases q2 : 1 ≤ a
    · rw [Int.min_eq_left q1, Int.max_eq_left q2] at hd'
      replace hd' := Lib.hid hd'
      replace hw' := Lib.hid hw'
      go_wp2_with fail
      all_goals
        go_meet
        case rel => exact ⟨congrArg (Value.int .i64) (by have := hd'.out; omega), rfl⟩
    · rw [Int.min_eq_left q1, Int.max_eq_right (Int.le_of_lt (Int.not_le.1 q2))] at hd'
      replace hd' := Lib.hid hd'
      replace hw' := Lib.hid hw'
      go_wp2_with fail
      all_goals
        go_meet
        case rel => exact ⟨congrArg (Value.int .i64) (by have := hd'.out; omega), rfl⟩
    · rw [Int.min_eq_right (Int.le_of_lt (Int.not_le.1 q1)), Int.max_eq_left q2] at hd'
      replace hd' := Lib.hid hd'
      replace hw' := Lib.hid hw'
      go_wp2_with fail
      all_goals
        go_meet
        case rel => exact ⟨congrArg (Value.int .i64) (by have := hd'.out; omega), rfl⟩
    · rw [Int.min_eq_right (Int.le_of_lt (Int.not_le.1 q1)), Int.max_eq_right (Int.le_of_lt (Int.not_le.1 q2))] at hd'
      replace hd' := Lib.hid hd'
      replace hw' := Lib.hid hw'
      go_wp2_with fail
      all_goals
        go_meet
        case rel => exact ⟨congrArg (Value.int .i64) (by have := hd'.out; omega), rfl⟩
  case rest =>
    obtain ⟨rfl, rfl⟩ := hcut
    have q1 : decide (b < 1) = false := by simpa using h1
    have q2 : decide (1000000 < a) = false := by simpa using h2
    have q3 : decide (b < a) = false := by simpa using h3
    clear hd hwant h1 h2 h3
    go_wp2_with fail
    refine c3.out.mono ?_
    rintro e w4 ⟨rfl, rfl⟩
    have c4 := Lib.hid (add_to h5.out a b hcan.out hadd2.out e2.out)
    clear c3 h5
    go_wp2_with fail
    refine c4.out.mono ?_
    rintro e w5 ⟨rfl, h5⟩
    have c5 := Lib.hid (cut_to h5 a b canon_nil hct.out e1.out)
    clear h5 c4
    go_wp2_with fail
    refine c5.out.mono ?_
    rintro e w6 ⟨rfl, h6⟩
    have c6 := Lib.hid (rgs_all h6)
    clear c5 h6
    go_wp2_with fail
    refine c6.out.mono ?_
    rintro e w7 ⟨v', S', rfl, hs, h7⟩
    obtain ⟨a', cap', rfl, -, -, -⟩ := hs.form
    simp only [List.length_nil]
    have hb7 := Lib.hid h7.below
    clear c6 hs h7
    go_wp2_with fail
    go_ret
    exact ⟨rfl, hb.out.trans (hb7.out.mono hb.out.size)⟩

theorem ends3_walk (a b : Int) (ha : -9223372036854775808 ≤ a) (hb : b ≤ 9223372036854775807) (w : World) : Calls Try.prog 5 #[.int .i64 a, .int .i64 b] w fun e w' => e = .returned (.bool true) ∧ Below w.heap.size w w' := by
  by_cases hn : b < 1 ∨ 1000000 < a ∨ b < a
  · exact ends3_none a b hn w
  · exact ends3_some a b (by omega) (by omega) (by omega) ha hb w
end Go.Proofs.Ytkahncfhphdkfaa
