/- The statement of layer 1 about numbers: Class, beside the document's. -/
import Derived.Test.YtpeedcghpdnogaaSlabK
namespace Go.Proofs.Ytpeedcghpdnogaa
open Go.RowKit

set_option maxHeartbeats 1000000 in
theorem rclass_any (n : Int) (w : World) : Calls Try.prog 25 #[.int .i64 n] w fun e w' => e = .returned (.int .i64 (cls n)) ∧ w = w' := by
  go_enter Try.func25, Try.ntmps25
  go_wp2_with fail
  go_loop [3] (fun v => ∃ c : Int, v = .int .i64 c ∧ (c = 32 ∨ c = 64 ∨ c = 128 ∨ c = 256 ∨ c = 512) ∧ (c = 32 ∨ c < 2 * n)) (fun v => (1024 - intOf v).toNat)
  case atStart => exact ⟨32, rfl, by omega, by omega⟩
  case round =>
    obtain ⟨c, rfl, hc, hc2⟩ := hrel
    by_cases h1 : c < n
    · by_cases h2 : c ≤ 256
      · go_wp2_with fail
        go_round
        case rel => exact ⟨2 * c, rfl, by omega, by omega⟩
        case measure => simp [intOf]; omega
      · go_wp2_with fail
        go_ret
        refine ⟨ret_int (a := 0) ?_, rfl⟩
        unfold cls
        simp only [if_neg (show ¬ n ≤ 0 by omega), if_neg (show ¬ n ≤ 32 by omega), if_neg (show ¬ n ≤ 64 by omega), if_neg (show ¬ n ≤ 128 by omega), if_neg (show ¬ n ≤ 256 by omega)]
    · by_cases h3 : n ≤ 0
      · go_wp2_with fail
        go_ret
        refine ⟨ret_int (a := 0) ?_, rfl⟩
        unfold cls
        rw [if_pos h3]
      · by_cases h2 : 256 < c
        · go_wp2_with fail
          go_ret
          refine ⟨ret_int (a := 0) ?_, rfl⟩
          unfold cls
          simp only [if_neg (show ¬ n ≤ 0 by omega), if_neg (show ¬ n ≤ 32 by omega), if_neg (show ¬ n ≤ 64 by omega), if_neg (show ¬ n ≤ 128 by omega), if_neg (show ¬ n ≤ 256 by omega)]
        · go_wp2_with fail
          go_ret
          refine ⟨ret_int (a := c) ?_, rfl⟩
          unfold cls
          rcases hc with rfl | rfl | rfl | rfl | rfl
          · simp only [if_neg (show ¬ n ≤ 0 by omega), if_pos (show n ≤ 32 by omega)]
          · simp only [if_neg (show ¬ n ≤ 0 by omega), if_neg (show ¬ n ≤ 32 by omega), if_pos (show n ≤ 64 by omega)]
          · simp only [if_neg (show ¬ n ≤ 0 by omega), if_neg (show ¬ n ≤ 32 by omega), if_neg (show ¬ n ≤ 64 by omega), if_pos (show n ≤ 128 by omega)]
          · simp only [if_neg (show ¬ n ≤ 0 by omega), if_neg (show ¬ n ≤ 32 by omega), if_neg (show ¬ n ≤ 64 by omega), if_neg (show ¬ n ≤ 128 by omega), if_pos (show n ≤ 256 by omega)]
          · omega

/-- What Class answers, by ranges. -/
theorem cls_cases (n : Int) : (n ≤ 0 ∧ cls n = 0) ∨ (256 < n ∧ cls n = 0) ∨ ((0 < n ∧ n ≤ 32) ∧ cls n = 32) ∨ ((32 < n ∧ n ≤ 64) ∧ cls n = 64) ∨ ((64 < n ∧ n ≤ 128) ∧ cls n = 128) ∨ ((128 < n ∧ n ≤ 256) ∧ cls n = 256) := by
  unfold cls
  repeat' split
  all_goals omega

set_option maxRecDepth 100000 in
set_option maxHeartbeats 1000000 in
theorem classes_walk (n : Int) (w : World) : Calls Try.prog 4 #[.int .i64 n] w fun e w' => e = .returned (.bool true) ∧ Below w.heap.size w w' := by
  have hk := Lib.hid (known_true w)
  rcases cls_cases n with ⟨h, hc⟩ | ⟨h, hc⟩ | ⟨⟨h, h'⟩, hc⟩ | ⟨⟨h, h'⟩, hc⟩ | ⟨⟨h, h'⟩, hc⟩ | ⟨⟨h, h'⟩, hc⟩
  all_goals
    have c1 := Lib.hid (fun w => class_to hc w)
    have c2 : Hid (∀ w, Calls Try.prog 25 #[.int .i64 n] w fun e w' => e = .returned (.int .i64 _) ∧ w = w') := fun w => hc ▸ rclass_any n w
    clear hc
    go_enter Try.func4, Try.ntmps4
    go_wp2_with fail
    refine hk.out.mono ?_
    rintro e w1 ⟨rfl, hb⟩
    have hb := Lib.hid hb
    go_wp2_with fail
    refine (c1.out _).mono ?_
    rintro e w2 ⟨rfl, rfl⟩
    go_wp2_with fail
  · go_ret
    exact ⟨rfl, hb.out⟩
  · go_ret
    exact ⟨rfl, hb.out⟩
  all_goals
    refine (c2.out _).mono ?_
    rintro e w2 ⟨rfl, rfl⟩
    go_wp2_with fail
    go_ret
    exact ⟨rfl, hb.out⟩
end Go.Proofs.Ytpeedcghpdnogaa
