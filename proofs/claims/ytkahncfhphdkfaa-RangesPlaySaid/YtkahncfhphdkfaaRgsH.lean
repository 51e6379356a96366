/- Layer 3's known cases. -/
import Derived.Test.YtkahncfhphdkfaaRgsU
import Derived.ChangeKeysEq
import Derived.Laws.StructEq
namespace Go.Proofs.Ytkahncfhphdkfaa
open Go.RowKit
set_option linter.unusedVariables false

theorem pair_equal (a b c d : Int) (w : World) : (Op.equalIn 10000 40 (.agg #[.int .i64 a, .int .i64 b]) (.agg #[.int .i64 c, .int .i64 d])).run Try.prog w = .ok (a == c && b == d) w := by
  have hu : Try.prog.underlying 40 = some (.array 2 3) := by kernel_rfl
  obtain ⟨i0, hi, hz0, hz1, hz2⟩ := info_parts infInt3
  have hc : Try.prog.cellsOf 3 = 1 := by kernel_rfl
  have he : ∀ (d : Nat) (a b : Int) w, (Op.equalIn (d + 1) 3 (.int .i64 a) (.int .i64 b)).run Try.prog w = .ok (a == b) w := fun d a b w => run_equalIn_int w d 3 .i64 .i64 a b Try.underlying3
  rw [run_equalIn_array w 9999 _ _ hu hi, hc]
  have hp0 : ∀ (x y : Value) (w : World), (part 3 #[x, y] 0).run Try.prog w = .ok x w := fun x y w => run_part_plain w (by kernel_rfl) rfl
  have hp1 : ∀ (x y : Value) (w : World), (part 3 #[x, y] 1).run Try.prog w = .ok y w := fun x y w => run_part_plain w (by kernel_rfl) rfl
  show (Op.eqItems 9999 3 1 _ _ [0, 1]).run Try.prog w = _
  simp only [Op.eqItems, Nat.mul_one, Sem.run_bind, hp0, Result.andThen_ok, he 9998]
  cases h : a == c <;> cases h2 : b == d <;> simp [hp1, he 9998, h2]

section
variable {B : Nat} {w0 w : World} {F S Sx A F9 : List (Nat × Obj)} {rb : Nat} {v : Value} {l : List Row}

theorem add_to (h : RgsIs B w0 w rb l F) (lo hi : Int) {l' : List Row} (hc : Canon l') (hm : ∀ k, Inn l' k ↔ Inn l k ∨ (max lo 1 ≤ k ∧ k ≤ min hi 1000000)) {d : Int} (hd : cnt l' - cnt l = d) :
    Calls Try.prog 10 #[gptr rb, .int .i64 lo, .int .i64 hi] w fun e w' => e = .returned (.int .i64 d) ∧ RgsIs B w0 w' rb l' F :=
  (rgs_add h lo hi).mono fun e w' ⟨l2, he, h1, h2⟩ => by
    have : l2 = l' := h2.1.uniq hc fun k => by rw [h1, hm]
    subst this
    exact ⟨by rw [he, hd], h2⟩
theorem cut_to (h : RgsIs B w0 w rb l F) (lo hi : Int) {l' : List Row} (hc : Canon l') (hm : ∀ k, Inn l' k ↔ Inn l k ∧ ¬ (max lo 1 ≤ k ∧ k ≤ min hi 1000000)) {d : Int} (hd : cnt l - cnt l' = d) :
    Calls Try.prog 9 #[gptr rb, .int .i64 lo, .int .i64 hi] w fun e w' => e = .returned (.int .i64 d) ∧ RgsIs B w0 w' rb l' F :=
  (rgs_cut h lo hi).mono fun e w' ⟨l2, he, h1, h2⟩ => by
    have : l2 = l' := h2.1.uniq hc fun k => by rw [h1, hm]
    subst this
    exact ⟨by rw [he, hd], h2⟩

theorem canon_1 : Canon [(1, 3)] := ⟨by simp, by simp⟩
theorem canon_2 : Canon [(1, 4)] := ⟨by simp, by simp⟩
theorem canon_3 : Canon [(1, 1), (3, 4)] := ⟨by simp, by simp⟩

set_option maxRecDepth 100000 in
set_option maxHeartbeats 4000000 in
theorem known3_true (w : World) : Calls Try.prog 7 #[] w fun e w' => e = .returned (.bool true) ∧ Below w.heap.size w w' := by
  have c1 := Lib.hid (rgs_new (St.start w))
  go_enter Try.func7, Try.ntmps7
  go_wp2_with fail
  refine c1.out.mono ?_
  rintro e w1 ⟨rfl, h1⟩
  have c2 := Lib.hid (rgs_least h1)
  unfold leastV at c2
  clear c1
  replace h1 := Lib.hid h1
  go_wp2_with fail
  refine c2.out.mono ?_
  rintro e w2 ⟨rfl, rfl⟩
  have c3 := Lib.hid (add_to h1.out 1 3 canon_1 (fun k => by simp [Inn]; omega) (d := 3) (by simp [cnt]))
  clear c2 h1
  go_wp2_with fail
  refine c3.out.mono ?_
  rintro e w3 ⟨rfl, h3⟩
  have c4 := Lib.hid (add_to h3 4 4 canon_2 (fun k => by simp [Inn]; omega) (d := 1) (by simp [cnt]))
  clear c3 h3
  go_wp2_with fail
  refine c4.out.mono ?_
  rintro e w4 ⟨rfl, h4⟩
  have c5 := Lib.hid (cut_to h4 2 2 canon_3 (fun k => by simp [Inn]; omega) (d := 1) (by simp [cnt]))
  clear c4 h4
  go_wp2_with fail
  refine c5.out.mono ?_
  rintro e w5 ⟨rfl, h5⟩
  have c6 := Lib.hid (rgs_least h5)
  unfold leastV at c6
  clear c5
  replace h5 := Lib.hid h5
  go_wp2_with fail
  refine c6.out.mono ?_
  rintro e w6 ⟨rfl, rfl⟩
  have c7 := Lib.hid (rgs_all h5.out)
  clear c6 h5
  go_wp2_with fail
  refine c7.out.mono ?_
  rintro e w7 ⟨v, S, rfl, hs, h7⟩
  obtain ⟨X, hst, -⟩ := h7.st
  have hrd := hs.readRows hst
  obtain ⟨a, cap, rfl, hrd⟩ := hrd
  obtain ⟨b, off, rfl, k0, k1⟩ := hrd 0 (1, 1) rfl
  obtain ⟨b', off', e, k2, k3⟩ := hrd 1 (3, 4) rfl
  cases e
  simp only [Nat.zero_mul, Nat.one_mul, Nat.add_zero, List.length_cons, List.length_nil] at k0 k1 k2 k3 hs
  have c8 := Lib.hid (rgs_has h7 3)
  rw [innB_true (by simp [Inn])] at c8
  have peq := pair_equal
  replace h7 := Lib.hid h7
  clear c7 hrd hs hst
  go_wp2_with fail
  refine c8.out.mono ?_
  rintro e w8 ⟨rfl, h8⟩
  have c9 := Lib.hid (rgs_has h8 2)
  rw [innB_false (by simp [Inn])] at c9
  clear c8 h7
  go_wp2_with fail
  refine c9.out.mono ?_
  rintro e w9 ⟨rfl, h9⟩
  have c10 := Lib.hid (rgs_count h9)
  rw [show cnt [((1 : Int), (1 : Int)), (3, 4)] = 3 by simp [cnt]] at c10
  replace h9 := Lib.hid h9
  clear c9 h8
  go_wp2_with fail
  refine c10.out.mono ?_
  rintro e w10 ⟨rfl, rfl⟩
  have c11 := Lib.hid (rgs_upto h9.out 3)
  clear c10 h9
  go_wp2_with fail
  refine c11.out.mono ?_
  rintro e w11 ⟨v', S', rfl, hs', h11⟩
  have hu : uptoL [((1 : Int), (1 : Int)), (3, 4)] 3 = [1, 3] := by decide
  rw [hu] at hs'
  obtain ⟨a', cap', rfl, -, -, -⟩ := hs'.form
  simp only [List.length_cons, List.length_nil]
  have hb := Lib.hid h11.below
  clear c11 h11 hs' hu
  go_wp2_with fail
  go_ret
  exact ⟨rfl, hb.out⟩
end
end Go.Proofs.Ytkahncfhphdkfaa
