/- Heads: within, Is, by the program and by the document's own. -/
import Derived.Test.YtnnpcjhjmghobaaDoorCtT
import Derived.Test.YtnnpcjhjmghobaaDoorOcV
namespace Go.Proofs.YtnnpcjhjmghobaaDoor
open Go.RowKit
set_option linter.unusedVariables false

abbrev ctV (s p t : Int) : Value := .agg #[.int .i64 s, .int .i64 p, .int .i64 t]
abbrev ctO (s p t : Int) : Obj := .cells #[.int .i64 s, .int .i64 p, .int .i64 t] 23
theorem new_below (w : World) (o : Obj) : Below w.heap.size w (w.alloc o) := (Below.refl _ w).alloc (Nat.le_refl _) o

theorem within_any (n m : Int) (w : World) : Calls Tryd.prog 12 #[.int .i64 n, .int .i64 m] w fun e w' => e = .returned (.bool (decide (0 ≤ n) && decide (n ≤ m))) ∧ w = w' := by
  by_cases h1 : 0 ≤ n
  · by_cases h2 : n ≤ m
    · rw [decide_eq_true h1, decide_eq_true h2]
      go_enter Tryd.func12, Tryd.ntmps12
      go_wp2
      go_ret
      exact ⟨rfl, rfl⟩
    · rw [decide_eq_true h1, decide_eq_false h2]
      go_enter Tryd.func12, Tryd.ntmps12
      go_wp2
      go_ret
      exact ⟨rfl, rfl⟩
  · rw [decide_eq_false h1]
    go_enter Tryd.func12, Tryd.ntmps12
    go_wp2
    go_ret
    exact ⟨rfl, rfl⟩

theorem isc_any (s p t : Int) (w : World) : Calls Tryd.prog 6 #[ctV s p t] w fun e w' => e = .returned (.bool (isC s p t)) ∧ w' = w.alloc (ctO s p t) := by
  have c1 := Lib.hid (within_any s 200)
  have c2 := Lib.hid (within_any p 255)
  have c3 := Lib.hid (within_any t 10000)
  unfold isC
  generalize (decide (0 ≤ s) && decide (s ≤ 200)) = a at *
  generalize (decide (0 ≤ p) && decide (p ≤ 255)) = b at *
  generalize (decide (0 ≤ t) && decide (t ≤ 10000)) = c at *
  go_enter Tryd.func6, Tryd.ntmps6
  cases a with
  | false =>
    go_wp2_with fail
    refine (c1.out _).mono ?_
    rintro e w1 ⟨rfl, rfl⟩
    go_wp2_with fail
    go_ret
    exact ⟨rfl, rfl⟩
  | true =>
    cases b with
    | false =>
      go_wp2_with fail
      refine (c1.out _).mono ?_
      rintro e w1 ⟨rfl, rfl⟩
      go_wp2_with fail
      refine (c2.out _).mono ?_
      rintro e w1 ⟨rfl, rfl⟩
      go_wp2_with fail
      go_ret
      exact ⟨rfl, rfl⟩
    | true =>
      go_wp2_with fail
      refine (c1.out _).mono ?_
      rintro e w1 ⟨rfl, rfl⟩
      go_wp2_with fail
      refine (c2.out _).mono ?_
      rintro e w1 ⟨rfl, rfl⟩
      go_wp2_with fail
      refine (c3.out _).mono ?_
      rintro e w1 ⟨rfl, rfl⟩
      go_wp2_with fail
      go_ret
      exact ⟨rfl, rfl⟩

theorem risc_any (s p t : Int) (w : World) : Calls Tryd.prog 7 #[ctV s p t] w fun e w' => e = .returned (.bool (isC s p t)) ∧ w' = w.alloc (ctO s p t) := by
  by_cases h1 : 0 ≤ s
  rotate_left
  · have f : isC s p t = false := by simp [isC, h1]
    rw [f]
    clear f
    go_enter Tryd.func7, Tryd.ntmps7
    go_wp2_with fail
    go_ret
    exact ⟨rfl, rfl⟩
  by_cases h2 : s ≤ 200
  rotate_left
  · have f : isC s p t = false := by simp [isC, h2]
    rw [f]
    clear f
    go_enter Tryd.func7, Tryd.ntmps7
    go_wp2_with fail
    go_ret
    exact ⟨rfl, rfl⟩
  by_cases h3 : 0 ≤ p
  rotate_left
  · have f : isC s p t = false := by simp [isC, h3]
    rw [f]
    clear f
    go_enter Tryd.func7, Tryd.ntmps7
    go_wp2_with fail
    go_ret
    exact ⟨rfl, rfl⟩
  by_cases h4 : p ≤ 255
  rotate_left
  · have f : isC s p t = false := by simp [isC, h4]
    rw [f]
    clear f
    go_enter Tryd.func7, Tryd.ntmps7
    go_wp2_with fail
    go_ret
    exact ⟨rfl, rfl⟩
  by_cases h5 : 0 ≤ t
  rotate_left
  · have f : isC s p t = false := by simp [isC, h5]
    rw [f]
    clear f
    go_enter Tryd.func7, Tryd.ntmps7
    go_wp2_with fail
    go_ret
    exact ⟨rfl, rfl⟩
  by_cases h6 : t ≤ 10000
  rotate_left
  · have f : isC s p t = false := by simp [isC, h6]
    rw [f]
    clear f
    go_enter Tryd.func7, Tryd.ntmps7
    go_wp2_with fail
    go_ret
    exact ⟨rfl, rfl⟩
  have f : isC s p t = true := by simp [isC, h1, h2, h3, h4, h5, h6]
  rw [f]
  clear f
  go_enter Tryd.func7, Tryd.ntmps7
  go_wp2_with fail
  go_ret
  exact ⟨rfl, rfl⟩
theorem isc_b (s p t : Int) (w : World) : Calls Tryd.prog 6 #[ctV s p t] w fun e w' => e = .returned (.bool (isC s p t)) ∧ Below w.heap.size w w' :=
  (isc_any s p t w).mono fun e w' ⟨h, h2⟩ => ⟨h, h2 ▸ new_below w _⟩
theorem risc_b (s p t : Int) (w : World) : Calls Tryd.prog 7 #[ctV s p t] w fun e w' => e = .returned (.bool (isC s p t)) ∧ Below w.heap.size w w' :=
  (risc_any s p t w).mono fun e w' ⟨h, h2⟩ => ⟨h, h2 ▸ new_below w _⟩
end Go.Proofs.YtnnpcjhjmghobaaDoor
