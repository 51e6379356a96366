/- Places of times: which of two is ahead, the time of a place, the place of a time. -/
import Derived.Test.YtldocgpnmfmnaaaRows
import Derived.Test.YtldocgpnmfmnaaaOwn
import Derived.Test.YtldocgpnmfmnaaaDlA
import Derived.Laws.Cover3
import Derived.Deep.QuietTactic
import Derived.BigQuiet
import Derived.Lib.Hide
namespace Go.Proofs.Ytldocgpnmfmnaaa
open Go.RowKit
set_option linter.unusedVariables false

theorem cmp_eq {a b : Int} (h : a = b) : compare a b = .eq := by subst h; simp
theorem cmp_lt {a b : Int} (h : a < b) : compare a b = .lt := Int.compare_eq_lt.2 h
theorem cmp_gt {a b : Int} (h : b < a) : compare a b = .gt := Int.compare_eq_gt.2 h

set_option maxHeartbeats 400000 in
theorem isAhead_any (t u : Int) (ht : T64 t) (hu : T64 u) (w : World) :
    Calls Try.prog 24 #[placeV t, placeV u] w fun e w' => e = .returned (.bool (decide (t < u))) ∧ w = w' := by
  have h1 := @order_re t u
  have h2 := order_im ht hu
  have e1 := time_eq t
  have e2 := time_eq u
  have b1 := rst_bounds t
  have b2 := rst_bounds u
  unfold placeV
  generalize floatOfInt .f64 (rst t) = x1 at *
  generalize floatOfInt .f64 (rst u) = x2 at *
  generalize floatOfInt .f64 (rnd t) = y1 at *
  generalize floatOfInt .f64 (rnd u) = y2 at *
  rcases Int.lt_trichotomy (rnd t) (rnd u) with h | h | h
  · rw [cmp_lt h] at h2
    rw [decide_eq_true (show t < u by omega)]
    clear e1 e2 b1 b2 h h1
    go_enter Try.func24, Try.ntmps24
    go_wp2_with fail
    go_ret
    exact ⟨rfl, rfl⟩
  · rw [cmp_eq h] at h2
    have hd : FloatKind.f64.format.order x1 x2 = some .lt ∧ t < u ∨ FloatKind.f64.format.order x1 x2 ≠ some .lt ∧ ¬ t < u := by
      rw [h1]
      rcases Int.lt_trichotomy (rst t) (rst u) with k | k | k
      · exact .inl ⟨by rw [cmp_lt k], by omega⟩
      · exact .inr ⟨by rw [cmp_eq k]; simp, by omega⟩
      · exact .inr ⟨by rw [cmp_gt k]; simp, by omega⟩
    clear e1 e2 b1 b2 h h1
    go_enter Try.func24, Try.ntmps24
    go_wp2_with fail
    go_ret
    refine ⟨?_, rfl⟩
    rcases hd with ⟨h3, h4⟩ | ⟨h3, h4⟩
    · rw [h3, decide_eq_true h4]; rfl
    · rw [decide_eq_false (Int.not_lt.2 h4), beq_eq_false_iff_ne.2 h3]; rfl
  · rw [cmp_gt h] at h2
    rw [decide_eq_false (show ¬ t < u by omega)]
    clear e1 e2 b1 b2 h h1
    go_enter Try.func24, Try.ntmps24
    go_wp2_with fail
    go_ret
    exact ⟨rfl, rfl⟩

theorem uInt5 : Try.prog.underlying 3 = some (.int .i64) := by kernel_rfl
theorem uF64 : Try.prog.underlying 46 = some (.float .f64) := by kernel_rfl

set_option maxHeartbeats 400000 in
theorem timeAt_any (t : Int) (ht : T64 t) (w : World) :
    Calls Try.prog 25 #[placeV t] w fun e w' => e = .returned (.int .i64 t) ∧ w = w' := by
  have c1 : ∀ w, (convert 46 3 (.float .f64 (floatOfInt .f64 (rst t)))).run Try.prog w = .ok (.int .i64 (rst t)) w := fun w => run_convert_float_int w _ _ _ _ _ _ (by rw [uF64]; rfl) uInt5 (int_re t)
  have c2 : ∀ w, (convert 46 3 (.float .f64 (floatOfInt .f64 (rnd t)))).run Try.prog w = .ok (.int .i64 (rnd t)) w := fun w => run_convert_float_int w _ _ _ _ _ _ (by rw [uF64]; rfl) uInt5 (int_im ht)
  have e1 := time_eq t
  have b1 := rst_bounds t
  have b2 := rnd_bounds ht
  unfold placeV
  generalize floatOfInt .f64 (rst t) = x1 at *
  generalize floatOfInt .f64 (rnd t) = y1 at *
  obtain ⟨h1, h2⟩ := ht
  generalize rst t = a at *
  generalize rnd t = b at *
  obtain ⟨b3, b4⟩ := b1
  obtain ⟨b5, b6⟩ := b2
  subst e1
  go_enter Try.func25, Try.ntmps25
  go_wp2_with (first | simp only [c1] | simp only [c2])
  go_ret
  exact ⟨rfl, rfl⟩

set_option maxHeartbeats 400000 in
theorem turn_none (t s : Int) (hs : s < 1) (w : World) :
    Calls Try.prog 20 #[.int .i64 t, .int .i64 s] w fun e w' => e = .returned (.complex .f64 0 0) ∧ w = w' := by
  go_enter Try.func20, Try.ntmps20
  go_wp2_with fail
  go_ret
  exact ⟨rfl, rfl⟩

theorem div_parts (t s : Int) (hs : 1 ≤ s) : (t.tmod s < 0 ∧ t.tmod s + s = t % s ∧ t.tdiv s - 1 = t / s) ∨ (¬ t.tmod s < 0 ∧ t.tmod s = t % s ∧ t.tdiv s = t / s) := by
  have h1 := Int.emod_nonneg t (show s ≠ 0 by omega)
  have h2 := Int.emod_lt_of_pos t (show 0 < s by omega)
  rw [Int.tdiv_eq_ediv, Int.tmod_eq_emod, Int.sign_eq_one_of_pos (by omega)]
  generalize t % s = r at *
  generalize t / s = q at *
  by_cases h : 0 ≤ t ∨ s ∣ t
  · rw [if_pos h, if_pos h]; right; omega
  · rw [if_neg h, if_neg h]; left; omega

set_option maxHeartbeats 400000 in
theorem turn_any (t s : Int) (ht : T64 t) (hs : 1 ≤ s) (hs2 : s ≤ 9223372036854775807) (w : World) :
    Calls Try.prog 20 #[.int .i64 t, .int .i64 s] w fun e w' => e = .returned (.complex .f64 (floatOfInt .f64 (t % s)) (floatOfInt .f64 (t / s))) ∧ ∃ n, w' = w.drewN n := by
  have hm1 := Int.emod_nonneg t (show s ≠ 0 by omega)
  have hm2 := Int.emod_lt_of_pos t (show 0 < s by omega)
  have hq := Int.mul_ediv_add_emod t s
  obtain ⟨h1, h2⟩ := ht
  have hq1 : -9223372036854775808 ≤ t / s := by
    rw [Int.le_ediv_iff_mul_le (by omega)]
    have : (-9223372036854775808 : Int) * s ≤ -9223372036854775808 * 1 := Int.mul_le_mul_of_nonpos_left (by omega) hs
    omega
  have hq2 : t / s ≤ 9223372036854775807 := by
    have h3 : t / s < 9223372036854775807 + 1 := by
      rw [Int.ediv_lt_iff_lt_mul (by omega)]
      have : (9223372036854775807 + 1 : Int) * 1 ≤ (9223372036854775807 + 1) * s := Int.mul_le_mul_of_nonneg_left hs (by omega)
      omega
    omega
  rcases div_parts t s hs with ⟨h, e1, e2⟩ | ⟨h, e1, e2⟩
  · have w1 : wrap64 (t.tmod s + s) = t % s := by rw [e1]; exact IntWalk.wrap64_in _ (by omega)
    have w2 : wrap64 (t.tdiv s - 1) = t / s := by rw [e2]; exact IntWalk.wrap64_in _ (by omega)
    replace w1 := Lib.hid w1
    replace w2 := Lib.hid w2
    clear e1 e2 hq
    generalize t % s = r at *
    generalize t / s = q at *
    go_enter Try.func20, Try.ntmps20
    go_wp2_with fail
    go_quiet (fail)
    go_wp2_with fail
    go_ret
    refine ⟨?_, _, rfl⟩
    rw [← w1.out, ← w2.out]; rfl
  · rw [← e1, ← e2]
    clear e1 e2 hm1 hm2 hq hq1 hq2
    go_enter Try.func20, Try.ntmps20
    go_wp2_with fail
    go_quiet (fail)
    go_wp2_with fail
    go_ret
    exact ⟨rfl, _, rfl⟩
end Go.Proofs.Ytldocgpnmfmnaaa
