/- Kinds by the document's own: Shape, Client. -/
import Derived.Test.YtipinglchpmgaaaDoorMdB
namespace Go.Proofs.YtipinglchpmgaaaDoor
open Go.RowKit
set_option linter.unusedVariables false

/-- Kinds that have parts; kinds that clients send. -/
def named : List Int := [2, 5, 23, 30, 31, 32, 3, 4, 7, 11, 13, 29, 33, 15, 25, 36, 17, 18, 19, 21, 24, 26, 27, 34, 35, 37, 39, 40, 41]
def clients : List Int := [2, 4, 5, 7, 8, 9, 11, 12, 13, 15, 17, 19, 21, 23, 25, 27, 29, 31, 33, 36, 39, 40, 41, 42, 44, 46, 48]
theorem named_rest : ∀ k : Int, (∀ c ∈ named, k ≠ c) → shT k = 0 ∧ shN k = 0 ∧ shB k = false := by
  refine by_kind (by decide +kernel) fun k h _ => ?_
  obtain ⟨h1, h2, h3, -⟩ := sh_none h
  exact ⟨h1, h2, h3⟩
theorem clients_rest : ∀ k : Int, (∀ c ∈ clients, k ≠ c) → clientK k = false := by
  refine by_kind (by decide +kernel) fun k h _ => ?_
  exact (sh_none h).2.2.2

set_option maxHeartbeats 4000000 in
theorem rclient_any (k : Int) (w : World) : Calls Tryd.prog 21 #[.int .i64 k] w fun e w' => e = .returned (.bool (clientK k)) ∧ w = w' := by
  go_enter Tryd.func21, Tryd.ntmps21
  go_wp2_with fail
  all_goals first
    | (rename_i h
       obtain rfl := eq_of_beq h
       go_ret
       exact ⟨rfl, rfl⟩)
    | (have hc : clientK k = false := clients_rest k (by simp only [beq_eq_false_iff_ne, ne_eq] at *; simp only [clients, List.mem_cons, List.not_mem_nil, or_false, forall_eq_or_imp, forall_eq]; repeat' first | assumption | constructor)
       go_ret
       exact ⟨by rw [hc]; rfl, rfl⟩)

set_option maxHeartbeats 4000000 in
theorem rshape_any (k : Int) (w : World) : Calls Tryd.prog 13 #[.int .i64 k] w fun e w' => e = .returned (.tuple #[.int .i64 (shT k), .int .i64 (shN k), .bool (shB k), .bool (isKd k)]) ∧ w = w' := by
  go_enter Tryd.func13, Tryd.ntmps13
  go_wp2_with fail
  all_goals first
    | (rename_i h
       obtain rfl := eq_of_beq h
       refine bodyPost_ret (results_tmp4 rfl _ _ _) rfl ?_
       exact ⟨rfl, rfl⟩)
    | (obtain ⟨e1, e2, e3⟩ : shT k = 0 ∧ shN k = 0 ∧ shB k = false := named_rest k (by simp only [beq_eq_false_iff_ne, ne_eq] at *; simp only [named, List.mem_cons, List.not_mem_nil, or_false, forall_eq_or_imp, forall_eq]; repeat' first | assumption | constructor)
       rename_i h
       refine bodyPost_ret (results_tmp4 rfl _ _ _) rfl ?_
       first
         | (have e4 : isKd k = decide (k ≤ 49) := by unfold isKd; rw [decide_eq_true h, Bool.true_and]
            rw [e1, e2, e3, e4]
            exact ⟨rfl, rfl⟩)
         | (have e4 : isKd k = false := by unfold isKd; rw [decide_eq_false (show ¬ 1 ≤ k by omega), Bool.false_and]
            rw [e1, e2, e3, e4]
            exact ⟨rfl, rfl⟩))
end Go.Proofs.YtipinglchpmgaaaDoor
