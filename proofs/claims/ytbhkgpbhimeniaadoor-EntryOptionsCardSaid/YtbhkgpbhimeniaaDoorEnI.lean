/- Options that are any. -/
import Derived.Test.YtbhkgpbhimeniaaDoorEnC
import Derived.Test.YtbhkgpbhimeniaaDoorEnT
namespace Go.Proofs.YtbhkgpbhimeniaaDoor
open Go.RowKit
set_option linter.unusedVariables false
set_option maxRecDepth 100000

def measL (o : Opt) : List Int := [o.maxLen, o.ttl, o.prio, o.bits, (o.dead.length : Int), (o.deadKey.length : Int)]
theorem measures_any (o : Opt) (w : World) : Calls Tryd.prog 15 #[opV o] w fun r w' => r = .returned (.agg #[.int .i64 o.maxLen, .int .i64 o.ttl, .int .i64 o.prio, .int .i64 o.bits, .int .i64 o.dead.length, .int .i64 o.deadKey.length]) ∧ Below w.heap.size w w' := by
  go_enter Tryd.func15, Tryd.ntmps15
  go_wp2_with fail
  refine bodyPost_ret (v := .agg #[.int .i64 o.maxLen, .int .i64 o.ttl, .int .i64 o.prio, .int .i64 o.bits, .int .i64 o.dead.length, .int .i64 o.deadKey.length]) (by simp [results, Tryd.results15, go_sem]) rfl ⟨rfl, by repeat (first | exact Below.refl _ _ | refine bel ?_ (new_below _ _))⟩

/-- All from one on are within their limits. -/
def restOk (o : Opt) (j : Nat) : Bool := (((measL o).zip mostL).drop j).all fun p => decide (0 ≤ p.1) && decide (p.1 ≤ p.2)
theorem restOk_all (o : Opt) : restOk o 0 = isO o := by
  unfold restOk isO measL mostL
  simp only [List.zip_cons_cons, List.zip_nil_right, List.drop_zero, List.all_cons, List.all_nil, Bool.and_true]
  rw [Bool.eq_iff_iff]
  simp only [Bool.and_eq_true, decide_eq_true_eq]
  omega
theorem restOk_end (o : Opt) : restOk o 6 = true := rfl
theorem restOk_step (o : Opt) {j : Nat} (h : j < 6) : restOk o j = (decide (0 ≤ (measL o).getD j 0) && decide ((measL o).getD j 0 ≤ mostL.getD j 0) && restOk o (j + 1)) := by
  obtain rfl | rfl | rfl | rfl | rfl | rfl : j = 0 ∨ j = 1 ∨ j = 2 ∨ j = 3 ∨ j = 4 ∨ j = 5 := by omega
  all_goals rfl

def OptsJ (w : World) (o : Opt) (g : Nat) (a' : Act) (wr : World) : Prop :=
  ∃ (j nb : Nat), j + g = 6 ∧ Fr 24 [(3, .pointer (some ⟨nb, 0, none⟩)), (4, .int .i64 j)] a' ∧ restOk o j = isO o ∧ Below w.heap.size w wr ∧ ∀ k, k < 6 → wr.cell? ⟨nb, k, none⟩ = some (.int .i64 ((measL o).getD k 0))

set_option maxHeartbeats 1000000 in
theorem isopts_any (o : Opt) (w : World) (hT : Most w.heap.size w) : Calls Tryd.prog 10 #[opV o] w fun r w' => r = .returned (.bool (isO o)) ∧ Below w.heap.size w w' := by
  have hW : Hid (∀ w', Below w.heap.size w w' → Most w'.heap.size w') := Lib.hid fun w' hb => hT.on hb
  have c1 := Lib.hid (measures_any o)
  have h0 := Lib.hid (new_below w (opO o))
  clear hT
  go_enter Tryd.func10, Tryd.ntmps10
  go_wp2_with fail
  refine wp_scope_ghost 0 (OptsJ w o) rfl ?_ ?_
  · rintro g a' wr ⟨j, nb, hj, hfr, hacc, hB, hc⟩
    obtain ⟨f, rfl, hl'⟩ := hfr.lit
    clear hfr c1 h0
    simp only [List.mem_cons, List.not_mem_nil, or_false, forall_eq_or_imp, forall_eq] at hl'
    obtain ⟨f3, f4⟩ := hl'
    simp only [List.range, List.range.loop, List.map, f3, f4]
    clear f3 f4
    have fin := Lib.hid hB
    have finN := Lib.hid (fun n => bel hB (drewN_below _ n))
    by_cases h6 : j = 6
    · subst h6
      have e : Hid (true = isO o) := Lib.hid hacc
      clear hacc hc hW
      go_wp2_with fail
      simp only [Exit.jump]
      go_ret
      exact ⟨ret_bool e.out, fin.out⟩
    · have hlt : j < 6 := by omega
      have q0 := hc j hlt
      have q1 := (hW.out _ hB).2 j hlt
      have hst := restOk_step o hlt
      have hcN := Lib.hid hc
      generalize (measL o).getD j 0 = x at *
      generalize mostL.getD j 0 = y at *
      have hj0 : (0 : Int) ≤ j := by omega
      have hj6 : (j : Int) < 6 := by omega
      have hne : ((j : Int) == 6) = false := by rw [beq_eq_false_iff_ne]; omega
      clear hc hW hB
      by_cases h1 : x < 0
      · have e : Hid (false = isO o) := Lib.hid (by rw [← hacc, hst, decide_eq_false (show ¬ 0 ≤ x by omega)]; rfl)
        clear hacc hst
        go_wp2_with fail
        go_quiet (fail)
        go_wp2_with fail
        simp only [Exit.jump]
        go_ret
        exact ⟨ret_bool e.out, finN.out _⟩
      · by_cases h2 : x > y
        · have e : Hid (false = isO o) := Lib.hid (by rw [← hacc, hst, decide_eq_false (show ¬ x ≤ y by omega), Bool.and_false]; rfl)
          clear hacc hst
          go_wp2_with fail
          go_quiet (fail)
          go_wp2_with fail
          simp only [Exit.jump]
          go_ret
          exact ⟨ret_bool e.out, finN.out _⟩
        · have e : Hid (restOk o (j + 1) = isO o) := Lib.hid (by rw [← hacc, hst, decide_eq_true (show x ≤ y by omega), decide_eq_true (show 0 ≤ x by omega)]; rfl)
          clear hacc hst
          go_wp2_with fail
          go_quiet (fail)
          go_wp2_with fail
          refine wp_goto ?_
          exact ⟨rfl, g - 1, by omega, j + 1, nb, by omega, ⟨rfl, rfl, by simp⟩, e.out, finN.out _, hcN.out⟩
  · intro H
    go_wp2_with fail
    refine (c1.out _).mono ?_
    rintro r w1 ⟨rfl, hb⟩
    have hb1 := Lib.hid (bel h0.out hb)
    clear hb
    go_wp2_with fail
    refine wp_label ?_
    go_step
    go_step
    refine H _ _ _ ⟨0, _, Nat.zero_add 6, ⟨rfl, rfl, by simp; rfl⟩, restOk_all o, bel hb1.out (new_below _ _), fun k hk => ?_⟩
    obtain rfl | rfl | rfl | rfl | rfl | rfl : k = 0 ∨ k = 1 ∨ k = 2 ∨ k = 3 ∨ k = 4 ∨ k = 5 := by omega
    all_goals simp [measL]
end Go.Proofs.YtbhkgpbhimeniaaDoor
