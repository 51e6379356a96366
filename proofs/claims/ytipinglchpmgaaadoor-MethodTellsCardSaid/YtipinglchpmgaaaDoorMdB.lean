/- Kinds: isKind, fits, Client, Shape, by the program and by the document's own. -/
import Derived.Test.YtipinglchpmgaaaDoorMdT
import Derived.Test.YtipinglchpmgaaaDoorOcV
import Derived.Deep.LoopGhost
import Derived.Deep.CutBlock
import Derived.Deep.DeepCutAuto
namespace Go.Proofs.YtipinglchpmgaaaDoor
open Go.RowKit
set_option linter.unusedVariables false

theorem isKd_any (k : Int) (w : World) : Calls Tryd.prog 23 #[.int .i64 k] w fun e w' => e = .returned (.bool (isKd k)) ∧ w = w' := by
  have e : Hid (isKd k = (decide (1 ≤ k) && decide (k ≤ 49))) := Lib.hid rfl
  by_cases h1 : 1 ≤ k
  · by_cases h2 : k ≤ 49
    · have f : isKd k = true := isKd_iff.2 ⟨h1, h2⟩
      rw [f]
      clear e f
      go_enter Tryd.func23, Tryd.ntmps23
      go_wp2
      go_ret
      exact ⟨rfl, rfl⟩
    · have f : isKd k = false := by rw [e.out]; simp [h2]
      rw [f]
      clear e f
      go_enter Tryd.func23, Tryd.ntmps23
      go_wp2
      go_ret
      exact ⟨rfl, rfl⟩
  · have f : isKd k = false := by rw [e.out]; simp [h1]
    rw [f]
    clear e f
    go_enter Tryd.func23, Tryd.ntmps23
    go_wp2
    go_ret
    exact ⟨rfl, rfl⟩

/-- fits at four bytes, at one. -/
theorem fits4_any (n : Int) (w : World) : Calls Tryd.prog 27 #[.int .i64 n, .int .i64 4] w fun e w' => e = .returned (.bool (okN1 n)) ∧ w = w' := by
  by_cases h1 : 0 ≤ n
  · by_cases h2 : n ≤ 4294967295
    · have h3 : n < 4294967296 := by omega
      have f : okN1 n = true := by simp [okN1, h1, h2]
      rw [f]
      clear f
      go_enter Tryd.func27, Tryd.ntmps27
      go_wp2
      go_ret
      exact ⟨rfl, rfl⟩
    · have h3 : ¬ n < 4294967296 := by omega
      have f : okN1 n = false := by simp [okN1, h2]
      rw [f]
      clear f
      go_enter Tryd.func27, Tryd.ntmps27
      go_wp2
      go_ret
      exact ⟨rfl, rfl⟩
  · have f : okN1 n = false := by simp [okN1, h1]
    rw [f]
    clear f
    go_enter Tryd.func27, Tryd.ntmps27
    go_wp2
    go_ret
    exact ⟨rfl, rfl⟩
theorem fits1_any (n : Int) (w : World) : Calls Tryd.prog 27 #[.int .i64 n, .int .i64 1] w fun e w' => e = .returned (.bool (okB n)) ∧ w = w' := by
  by_cases h1 : 0 ≤ n
  · by_cases h2 : n ≤ 255
    · have h3 : n < 256 := by omega
      have f : okB n = true := by simp [okB, h1, h2]
      rw [f]
      clear f
      go_enter Tryd.func27, Tryd.ntmps27
      go_wp2
      go_ret
      exact ⟨rfl, rfl⟩
    · have h3 : ¬ n < 256 := by omega
      have f : okB n = false := by simp [okB, h2]
      rw [f]
      clear f
      go_enter Tryd.func27, Tryd.ntmps27
      go_wp2
      go_ret
      exact ⟨rfl, rfl⟩
  · have f : okB n = false := by simp [okB, h1]
    rw [f]
    clear f
    go_enter Tryd.func27, Tryd.ntmps27
    go_wp2
    go_ret
    exact ⟨rfl, rfl⟩

theorem client_any {B : Nat} (k : Int) (w : World) (hT : Kinds B w) : Calls Tryd.prog 20 #[.int .i64 k] w fun e w' => e = .returned (.bool (clientK k)) ∧ w = w' := by
  have c1 := Lib.hid (isKd_any k)
  cases hk : isKd k with
  | false =>
    rw [(sh_none hk).2.2.2]
    rw [hk] at c1
    go_enter Tryd.func20, Tryd.ntmps20
    go_wp2_with fail
    refine (c1.out _).mono ?_
    rintro e w' ⟨rfl, rfl⟩
    go_wp2_with fail
    go_ret
    exact ⟨rfl, rfl⟩
  | true =>
    obtain ⟨h1, h2⟩ := isKd_iff.1 hk
    obtain ⟨n, rfl⟩ := Int.eq_ofNat_of_zero_le (show (0 : Int) ≤ k by omega)
    have hc := hT.client (k := n) (by omega)
    have hn : n < 50 := by omega
    have hn0 : (0 : Int) ≤ n := by omega
    have hn1 : (n : Int) < 50 := by omega
    rw [hk] at c1
    generalize clientK (n : Int) = c at *
    clear hT hk h1 h2
    go_enter Tryd.func20, Tryd.ntmps20
    go_wp2_with fail
    refine (c1.out _).mono ?_
    rintro e w' ⟨rfl, rfl⟩
    go_wp2_with fail
    go_ret
    exact ⟨rfl, rfl⟩

/-! ### Shape -/
theorem results_tmp4 {fn : Func} {t u v x : Tmp} (h : fn.results = #[.tmp t, .tmp u, .tmp v, .tmp x]) (tmps : Array Value) (P : Program) (w : World) :
    (results fn tmps).run P w = .ok (.tuple #[tmps.getD t undef, tmps.getD u undef, tmps.getD v undef, tmps.getD x undef]) w := by simp [results, h]
def ShapeAt (w : World) (T N : Nat) (B : Bool) (g : Nat) (a' : Act) (w' : World) : Prop :=
  ∃ (x y : Nat) (z : Bool) (a b : Nat) (c : Bool), Fr 36 [(6, .int .i64 x), (7, .int .i64 y), (8, .bool z), (9, tx (lay a b c))] a' ∧ x + a = T ∧ y + b = N ∧ (z || c) = B ∧ a + b + c.toNat = g ∧ T ≤ 3 ∧ N ≤ 3 ∧ w' = w

theorem cut_one (x : UInt8) (L : List UInt8) : (⟨(x :: L).toArray⟩ : ByteArray).extract 1 (L.length + 1) = ⟨L.toArray⟩ := by
  rw [ByteArray.extract_mk]
  simp

set_option maxHeartbeats 1000000 in
theorem shape_any {B : Nat} (k : Int) (w : World) (hT : Kinds B w) :
    Calls Tryd.prog 12 #[.int .i64 k] w fun e w' => e = .returned (.tuple #[.int .i64 (shT k), .int .i64 (shN k), .bool (shB k), .bool (isKd k)]) ∧ w = w' := by
  have c1 := Lib.hid (isKd_any k)
  cases hk : isKd k with
  | false =>
    obtain ⟨e1, e2, e3, -⟩ := sh_none hk
    rw [e1, e2, e3]
    rw [hk] at c1
    clear e1 e2 e3
    go_enter Tryd.func12, Tryd.ntmps12
    go_wp2_with fail
    refine wp_scope_ghost 0 (fun _ _ _ => False) rfl (fun _ _ _ h => h.elim) fun _ => ?_
    go_wp2_with fail
    refine (c1.out _).mono ?_
    rintro e w' ⟨rfl, rfl⟩
    go_wp2_with fail
    simp only [Exit.jump]
    refine bodyPost_ret (results_tmp4 rfl _ _ _) rfl ?_
    exact ⟨rfl, rfl⟩
  | true =>
    obtain ⟨h1, h2⟩ := isKd_iff.1 hk
    obtain ⟨n, rfl⟩ := Int.eq_ofNat_of_zero_le (show (0 : Int) ≤ k by omega)
    have hc := hT.parts (k := n) (by omega)
    have hn : n < 50 := by omega
    have hn0 : (0 : Int) ≤ n := by omega
    have hn1 : (n : Int) < 50 := by omega
    have t1 := shT_le (n : Int)
    have t2 := shN_le (n : Int)
    rw [partsK_lay] at hc
    rw [hk] at c1
    generalize shT (n : Int) = T at *
    generalize shN (n : Int) = N at *
    generalize shB (n : Int) = D at *
    clear hT hk h1 h2
    go_enter Tryd.func12, Tryd.ntmps12
    go_wp2_with fail
    refine wp_scope_ghost 0 (ShapeAt w T N D) rfl ?_ ?_
    · rintro g a' w' ⟨x, y, z, a, b, c, hfr, hx, hy, hz, hg, -, -, rfl⟩
      obtain ⟨f, rfl, hl'⟩ := hfr.lit
      clear hfr c1 hc hn hn0 hn1
      simp only [List.mem_cons, List.not_mem_nil, or_false, forall_eq_or_imp, forall_eq] at hl'
      obtain ⟨f6, f7, f8, f9⟩ := hl'
      simp only [List.range, List.range.loop, List.map, f6, f7, f8, f9]
      clear f6 f7 f8 f9
      rcases a with _ | a
      · rcases b with _ | b
        · cases c with
          | false =>
            obtain rfl : x = T := by omega
            obtain rfl : y = N := by omega
            obtain rfl : z = D := by simpa using hz
            rw [lay_nil]
            clear hx hy hz hg
            go_wp2_with fail
            simp only [Exit.jump]
            refine bodyPost_ret (results_tmp4 rfl _ _ _) rfl ?_
            exact ⟨rfl, rfl⟩
          | true =>
            rw [lay_B]
            have fin : Hid (∀ a', Fr 36 [(6, .int .i64 x), (7, .int .i64 y), (8, .bool true), (9, tx [])] a' → ∃ m, m < g ∧ ShapeAt w' T N D m a' w') :=
              Lib.hid fun a' hf => ⟨0, by have : true.toNat = 1 := rfl; omega, x, y, true, 0, 0, false, hf, hx, hy, by rw [← hz]; simp, rfl, t1, t2, rfl⟩
            clear hx hy hz hg
            go_wp2_with fail
            refine wp_goto ?_
            exact ⟨rfl, fin.out _ ⟨rfl, rfl, by simp; rfl⟩⟩
        · rw [lay_N]
          have fin : Hid (∀ a', Fr 36 [(6, .int .i64 x), (7, .int .i64 ((y + 1 : Nat) : Int)), (8, .bool z), (9, tx (lay 0 b c))] a' → ∃ m, m < g ∧ ShapeAt w' T N D m a' w') :=
            Lib.hid fun a' hf => ⟨0 + b + c.toNat, by omega, x, y + 1, z, 0, b, c, hf, hx, by omega, hz, rfl, t1, t2, rfl⟩
          have hy3 : y < 3 := by omega
          generalize lay 0 b c = L at *
          have ex := cut_one 110 L
          clear hx hy hz hg
          go_wp2_with fail
          refine wp_goto ?_
          exact ⟨rfl, fin.out _ ⟨rfl, rfl, by simp⟩⟩
      · rw [lay_T]
        have fin : Hid (∀ a', Fr 36 [(6, .int .i64 ((x + 1 : Nat) : Int)), (7, .int .i64 y), (8, .bool z), (9, tx (lay a b c))] a' → ∃ m, m < g ∧ ShapeAt w' T N D m a' w') :=
          Lib.hid fun a' hf => ⟨a + b + c.toNat, by omega, x + 1, y, z, a, b, c, hf, by omega, hy, hz, rfl, t1, t2, rfl⟩
        have hx3 : x < 3 := by omega
        generalize lay a b c = L at *
        have ex := cut_one 116 L
        clear hx hy hz hg
        go_wp2_with fail
        refine wp_goto ?_
        exact ⟨rfl, fin.out _ ⟨rfl, rfl, by simp⟩⟩
    · intro H
      go_wp2_with fail
      refine (c1.out _).mono ?_
      rintro e w1 ⟨rfl, rfl⟩
      go_wp2_with fail
      refine wp_label ?_
      go_step
      go_step
      exact H _ _ _ ⟨0, 0, false, T, N, D, ⟨rfl, rfl, by simp⟩, by omega, by omega, by simp, rfl, t1, t2, rfl⟩
end Go.Proofs.YtipinglchpmgaaaDoor
