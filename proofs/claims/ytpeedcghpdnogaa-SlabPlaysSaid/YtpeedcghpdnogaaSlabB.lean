/- The slab's Class: for every number the least of the four classes that isn't below it, or 0. -/
import Derived.Test.YtpeedcghpdnogaaSlabA
namespace Go.Proofs.Ytpeedcghpdnogaa
open Go.RowKit

set_option maxHeartbeats 400000 in
theorem class_any (n : Int) (w : World) : Calls Try.prog 24 #[.int .i64 n] w fun e w' => e = .returned (.int .i64 (cls n)) ∧ w = w' := by
  go_enter Try.func24, Try.ntmps24
  go_wp2
  refine wp_scope_label 0 (fun a' w' => w = w' ∧ 0 < n ∧ n ≤ 256 ∧ ∃ c : Int, Fr 16 [(0, .int .i64 n), (3, .int .i64 c)] a' ∧ (c = 32 ∨ c = 64 ∨ c = 128 ∨ c = 256) ∧ (c = 32 ∨ c < 2 * n)) (fun a' _ => (256 - intOf (a'.tmps.getD 3 undef)).toNat) rfl ?_ ?_
  · rintro a' w' ⟨rfl, h0, h1, c, hf, hc, hc2⟩
    obtain ⟨f, rfl, hl⟩ := hf.lit
    clear hf
    simp only [List.mem_cons, List.not_mem_nil, or_false, forall_eq_or_imp, forall_eq] at hl
    obtain ⟨f0, f3⟩ := hl
    simp only [List.range, List.range.loop, List.map, f0, f3]
    clear f0 f3
    go_wp2
    · refine wp_goto ?_
      refine ⟨rfl, ⟨rfl, h0, h1, c * 2, ⟨rfl, rfl, by simp⟩, by omega, by omega⟩, ?_⟩
      simp [intOf]
      omega
    · simp only [Exit.jump]
      go_ret
      refine ⟨ret_int (a := c) ?_, rfl⟩
      unfold cls
      rcases hc with rfl | rfl | rfl | rfl
      · simp only [if_neg (show ¬ n ≤ 0 by omega), if_pos (show n ≤ 32 by omega)]
      · simp only [if_neg (show ¬ n ≤ 0 by omega), if_neg (show ¬ n ≤ 32 by omega), if_pos (show n ≤ 64 by omega)]
      · simp only [if_neg (show ¬ n ≤ 0 by omega), if_neg (show ¬ n ≤ 32 by omega), if_neg (show ¬ n ≤ 64 by omega), if_pos (show n ≤ 128 by omega)]
      · simp only [if_neg (show ¬ n ≤ 0 by omega), if_neg (show ¬ n ≤ 32 by omega), if_neg (show ¬ n ≤ 64 by omega), if_neg (show ¬ n ≤ 128 by omega), if_pos (show n ≤ 256 by omega)]
  · intro H
    go_wp2
    · simp only [Exit.jump]
      go_ret
      refine ⟨ret_int (a := 0) ?_, rfl⟩
      unfold cls
      rename_i h1 h2
      rcases h2 with h2 | h2
      · omega
      · simp only [if_neg (show ¬ n ≤ 0 by omega), if_neg (show ¬ n ≤ 32 by omega), if_neg (show ¬ n ≤ 64 by omega), if_neg (show ¬ n ≤ 128 by omega), if_neg (show ¬ n ≤ 256 by omega)]
    · refine wp_label ?_
      go_step
      go_step
      refine H _ _ ⟨rfl, by omega, by omega, 32, ⟨rfl, rfl, by simp⟩, by omega, by omega⟩
    · simp only [Exit.jump]
      go_ret
      refine ⟨ret_int (a := 0) ?_, rfl⟩
      unfold cls
      rw [if_pos (by assumption)]
end Go.Proofs.Ytpeedcghpdnogaa
