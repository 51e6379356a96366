/- The statement of layer 16 about what comes back: its parts. -/
import Derived.Test.YtmmagapggmcceaaQuG
namespace Go.Proofs.Ytmmagapggmcceaa
open Go.RowKit
open Go.ChangeMaps (setBlock)
set_option linter.unusedVariables false
set_option linter.unusedSectionVars false
set_option linter.unusedSimpArgs false
set_option maxRecDepth 100000

/-- By number. -/
abbrev bE (k : Nat) : Ent := oE ((k : Int) + 1) 0 0
def ensB (j : Nat) : List Ent := (List.range j).map bE
theorem ensB_len (j : Nat) : (ensB j).length = j := by simp [ensB]
theorem ensB_succ (j : Nat) : ensB (j + 1) = ensB j ++ [bE j] := by simp [ensB, List.range_succ]
theorem ensB_at {j i : Nat} (h : i < j) : (ensB j)[i]? = some (bE i) := by
  unfold ensB
  rw [List.getElem?_map, List.getElem?_range h]
  rfl
/-- Those from j on, back. -/
def backB (n j : Nat) : List Ent := (List.range (n - j)).map fun i => againE (bE (j + i))
theorem backB_len (n j : Nat) : (backB n j).length = n - j := by simp [backB]
theorem backB_end (n : Nat) : backB n n = [] := by simp [backB]
theorem backB_step {n j : Nat} (h : j < n) : backB n j = againE (bE j) :: backB n (j + 1) := by
  unfold backB
  rw [show n - j = (n - (j + 1)) + 1 by omega, List.range_succ_eq_map, List.map_cons, List.map_map]
  congr 1
  apply List.map_congr_left
  intro i hi
  simp only [Function.comp]
  rw [show j + i.succ = j + 1 + i by omega]
theorem backB_mem {n j : Nat} {e : Ent} (h : e ∈ backB n j) : ∃ k, j ≤ k ∧ k < n ∧ e = againE (bE k) := by
  obtain ⟨i, hi, rfl⟩ := List.mem_map.1 h
  have := List.mem_range.1 hi
  exact ⟨j + i, by omega, by omega, rfl⟩
theorem backB_at {n i : Nat} (h : i < n) : (backB n 0)[i]? = some (againE (bE i)) := by
  unfold backB
  rw [List.getElem?_map, List.getElem?_range (by omega)]
  simp
theorem backB_ok {n j : Nat} (h : j < n) : putOk (backB n (j + 1)) (againE (bE j)) = true ∧ insM (againE (bE j)) (backB n (j + 1)) = backB n j ∧ putOk (backB n j) (againE (bE j)) = false := by
  refine ⟨?_, ?_, ?_⟩
  · simp only [putOk, decide_eq_true_eq]
    refine ⟨fun hm => ?_, by decide⟩
    obtain ⟨x, hx, e⟩ := List.mem_map.1 hm
    obtain ⟨k, h1, -, rfl⟩ := backB_mem hx
    have : (k : Int) + 1 = (j : Int) + 1 := e
    omega
  · rw [backB_step h]
    by_cases h2 : j + 1 < n
    · rw [backB_step h2]
      unfold insM
      rw [if_pos]
      rw [less_iff]
      right
      refine ⟨rfl, ?_⟩
      show (j : Int) + 1 < ((j + 1 : Nat) : Int) + 1
      omega
    · rw [show j + 1 = n by omega, backB_end]
      rfl
  · simp only [putOk, decide_eq_false_iff_not]
    refine fun hc => hc.1 ?_
    rw [backB_step h]
    exact List.mem_map.2 ⟨_, List.mem_cons_self, rfl⟩
section
variable {B : Nat} {w0 w : World} {qb i n j : Nat} {M : List Ent} {F : List (Nat × Obj)} {o : Opt}
/-- One put where there is none. -/
theorem b_put (h : QuIs B w0 w qb o [] F) (ho : o.prio = 0 ∧ o.ttl = 0) (hl : limitO o = 2) : Calls Try.prog 9 #[rptr qb, oV ((j : Int) + 1) 0 0, .int .i64 0] w fun r w' => (∃ v, r = .returned (.tuple #[.bool true, v])) ∧ QuIs B w0 w' qb o [bE j] F := by
  refine (put_q (for_plain (by decide) (by rw [ho.1]; decide) ho.2) h (by simp)).mono ?_
  rintro r w' ⟨ok, W, N, a, c, S, rfl, hP, hs, h'⟩
  obtain ⟨rfl, rfl, rfl⟩ := hP.room (by simp [putOk]) (by rw [hl]; simp)
  exact ⟨⟨_, rfl⟩, h'.sub (List.sublist_append_right _ _)⟩
theorem b_take (h : QuIs B w0 w qb o [bE j] F) : Calls Try.prog 11 #[rptr qb] w fun r w' => r = .returned (.tuple #[oV ((j : Int) + 1) 0 0, .bool true]) ∧ QuIs B w0 (w'.alloc (enO (bE j))) qb o [] ((w'.heap.size, enO (bE j)) :: F) := by
  refine (qu_take h).mono ?_
  rintro r w' ⟨rfl, h'⟩
  exact ⟨rfl, h'.alloc (enO (bE j))⟩
theorem b_back (h : QuIs B w0 w qb o (backB n (j + 1)) F) (hj : j < n) (hn : n ≤ 1000) : Calls Try.prog 12 #[rptr qb, oV ((j : Int) + 1) 0 0] w fun r w' => r = .returned (.bool true) ∧ QuIs B w0 w' qb o (backB n j) F := by
  obtain ⟨h1, h2, -⟩ := backB_ok hj
  refine (qu_back (e := bE j) h (by simp) (by simp) (by rw [backB_len]; omega)).mono ?_
  rintro r w' ⟨rfl, h'⟩
  rw [h1]
  unfold putM at h'
  rw [h1, if_pos rfl, h2] at h'
  exact ⟨rfl, h'⟩
theorem b_again (h : QuIs B w0 w qb o (backB n j) F) (hj : j < n) (hn : n ≤ 1000) : Calls Try.prog 12 #[rptr qb, oV ((j : Int) + 1) 0 0] w fun r w' => r = .returned (.bool false) ∧ QuIs B w0 w' qb o (backB n j) F := by
  obtain ⟨-, -, h3⟩ := backB_ok hj
  refine (qu_back (e := bE j) h (by simp) (by simp) (by rw [backB_len]; omega)).mono ?_
  rintro r w' ⟨rfl, h'⟩
  rw [h3]
  unfold putM at h'
  rw [h3, if_neg (by decide)] at h'
  exact ⟨rfl, h'⟩
theorem b_new (h : n ≤ 20) : putOk (backB n 0) (oE 99 0 0) = true := by
  simp only [putOk, decide_eq_true_eq]
  refine ⟨fun hm => ?_, by decide⟩
  obtain ⟨x, hx, e⟩ := List.mem_map.1 hm
  obtain ⟨k, -, h1, rfl⟩ := backB_mem hx
  have : (k : Int) + 1 = 99 := e
  omega
/-- The last put, by what it answers. -/
theorem b_last1 (h : QuIs B w0 w qb o (backB 1 0) F) (ho : o.prio = 0 ∧ o.ttl = 0) (hl : limitO o = 2) : Calls Try.prog 9 #[rptr qb, oV 99 0 0, .int .i64 0] w fun r w' => (∃ a c, r = .returned (.tuple #[.bool true, .slice a 0 c])) ∧ Below B w0 w' := by
  refine (put_q (for_plain (by decide) (by rw [ho.1]; decide) ho.2) h (by rw [backB_len]; omega)).mono ?_
  rintro r w' ⟨ok, W, N, a, c, S, rfl, hP, hs, h'⟩
  obtain ⟨rfl, rfl, rfl⟩ := hP.room (b_new (by omega)) (by rw [hl, backB_len]; omega)
  exact ⟨⟨_, _, rfl⟩, h'.below⟩
theorem b_last2 (h : QuIs B w0 w qb o (backB (n + 1) 0) F) (hn : 1 ≤ n ∧ n < 20) (ho : o.prio = 0 ∧ o.ttl = 0) (hl : limitO o = 2) (hr : rejO o = true) : Calls Try.prog 9 #[rptr qb, oV 99 0 0, .int .i64 0] w fun r w' => (∃ a c, r = .returned (.tuple #[.bool false, .slice a 0 c])) ∧ Below B w0 w' := by
  refine (put_q (for_plain (by decide) (by rw [ho.1]; decide) ho.2) h (by rw [backB_len]; omega)).mono ?_
  rintro r w' ⟨ok, W, N, a, c, S, rfl, hP, hs, h'⟩
  obtain ⟨rfl, rfl, rfl⟩ := hP.refuse (b_new (by omega)) (by rw [hl, backB_len]; omega) hr
  exact ⟨⟨_, _, rfl⟩, h'.below⟩
theorem b_last3 (h : QuIs B w0 w qb o (backB (n + 1) 0) F) (hn : 1 ≤ n ∧ n < 20) (ho : o.prio = 0 ∧ o.ttl = 0) (hl : limitO o = 2) (hr : rejO o = false) : Calls Try.prog 9 #[rptr qb, oV 99 0 0, .int .i64 0] w fun r w' => (∃ a c, r = .returned (.tuple #[.bool true, .slice a n c])) ∧ Below B w0 w' := by
  refine (put_q (for_plain (by decide) (by rw [ho.1]; decide) ho.2) h (by rw [backB_len]; omega)).mono ?_
  rintro r w' ⟨ok, W, N, a, c, S, rfl, hP, hs, h'⟩
  rcases hP with ⟨x, -⟩ | ⟨-, x, -⟩ | ⟨-, -, x, -⟩ | ⟨-, -, -, rfl, N1, h4, h5, rfl⟩
  · rw [b_new (by omega)] at x; cases x
  · rw [hl, backB_len] at x; omega
  · rw [hr] at x; cases x
  · have h6 := h4.len h.ok
    rw [backB_len] at h6
    rw [hl] at h5
    have : W.length = n := by omega
    rw [this]
    exact ⟨⟨_, _, rfl⟩, h'.below⟩
end
end Go.Proofs.Ytmmagapggmcceaa
