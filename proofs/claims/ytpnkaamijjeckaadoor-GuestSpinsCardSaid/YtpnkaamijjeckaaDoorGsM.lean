/- Turned as often as there are places one is where one was. -/
import Derived.Test.YtpnkaamijjeckaaDoorGsL
import Derived.Test.YtpnkaamijjeckaaDoorArgs
namespace Go.Proofs.YtpnkaamijjeckaaDoor
open Go.RowKit
set_option linter.unusedVariables false
set_option linter.unusedSectionVars false
set_option linter.unusedSimpArgs false
set_option maxRecDepth 100000

def eqF (a b : Nat) : Bool := FloatKind.f64.format.order a b == some .eq
theorem eqF_is {a b : Nat} (h : eqF a b = true) : FloatKind.f64.format.order a b = some .eq := by
  unfold eqF at h
  exact eq_of_beq h
def okMul (q e : Nat) : Bool := match cMulBits (cRe q) (cIm q) (cRe e) (cIm e) with
  | some (re, im) => eqF (cRe ((q + e) % 4)) re && eqF (cIm ((q + e) % 4)) im
  | none => false
def okAbs (q : Nat) : Bool := match floatBits .mul .f64 (cRe q) (cRe q), floatBits .mul .f64 (cIm q) (cIm q) with
  | some a, some b => (match floatBits .add .f64 a b with | some c => eqF c 4607182418800017408 | none => false) && (eqF (cRe q) (cRe q) && eqF (cIm q) (cIm q))
  | _, _ => false
theorem mul_all : ∀ q : Fin 4, ∀ e : Fin 4, okMul q.1 e.1 = true := by decide +kernel
theorem abs_all : ∀ q : Fin 4, okAbs q.1 = true := by decide +kernel
theorem mul_ok {q e : Nat} (hq : q < 4) (he : e < 4) : ∃ re im, cMulBits (cRe q) (cIm q) (cRe e) (cIm e) = some (re, im) ∧ FloatKind.f64.format.order (cRe ((q + e) % 4)) re = some .eq ∧ FloatKind.f64.format.order (cIm ((q + e) % 4)) im = some .eq := by
  have h := mul_all ⟨q, hq⟩ ⟨e, he⟩
  unfold okMul at h
  simp only at h
  cases hm : cMulBits (cRe q) (cIm q) (cRe e) (cIm e) with
  | none => rw [hm] at h; cases h
  | some r =>
    obtain ⟨re, im⟩ := r
    rw [hm] at h
    simp only [Bool.and_eq_true] at h
    exact ⟨re, im, rfl, eqF_is h.1, eqF_is h.2⟩
theorem abs_ok {q : Nat} (hq : q < 4) : ∃ a b c, floatBits .mul .f64 (cRe q) (cRe q) = some a ∧ floatBits .mul .f64 (cIm q) (cIm q) = some b ∧ floatBits .add .f64 a b = some c ∧ FloatKind.f64.format.order c 4607182418800017408 = some .eq ∧ FloatKind.f64.format.order (cRe q) (cRe q) = some .eq ∧ FloatKind.f64.format.order (cIm q) (cIm q) = some .eq := by
  have h := abs_all ⟨q, hq⟩
  unfold okAbs at h
  simp only at h
  cases h1 : floatBits .mul .f64 (cRe q) (cRe q) with
  | none => rw [h1] at h; cases h
  | some a =>
    cases h2 : floatBits .mul .f64 (cIm q) (cIm q) with
    | none => rw [h1, h2] at h; cases h
    | some b =>
      rw [h1, h2] at h
      simp only at h
      cases h3 : floatBits .add .f64 a b with
      | none => rw [h3] at h; cases h
      | some c =>
        rw [h3] at h
        simp only [Bool.and_eq_true] at h
        exact ⟨a, b, c, rfl, rfl, h3, eqF_is h.1, eqF_is h.2.1, eqF_is h.2.2⟩
theorem spn_lt (z n : Int) : spn z n < 4 := by unfold spn; omega

/-- What the law's walk is told where there are k places. -/
structure SpinF (z k : Int) (e : Nat) (xa ya xb yb re im p q r : Nat) : Prop where
  ca : ∀ w, Calls Tryd.prog 20 #[.int .i64 z, .int .i64 k] w fun e w' => e = .returned (.complex .f64 xa ya) ∧ w' = w
  cb : ∀ w, Calls Tryd.prog 20 #[.int .i64 (z + 1), .int .i64 k] w fun e w' => e = .returned (.complex .f64 xb yb) ∧ w' = w
  cc : ∀ w, Calls Tryd.prog 20 #[.int .i64 (z + k), .int .i64 k] w fun e w' => e = .returned (.complex .f64 xa ya) ∧ w' = w
  c0 : ∀ w, Calls Tryd.prog 20 #[.int .i64 0, .int .i64 k] w fun e w' => e = .returned (.complex .f64 4607182418800017408 0) ∧ w' = w
  mul : ∀ t w, (binOp .mul t (.complex .f64 xa ya) (.complex .f64 (cRe e) (cIm e))).run Tryd.prog w = .ok (.complex .f64 re im) w
  mb : FloatKind.f64.format.order xb re = some .eq
  mi : FloatKind.f64.format.order yb im = some .eq
  aa : FloatKind.f64.format.order xa xa = some .eq
  ai : FloatKind.f64.format.order ya ya = some .eq
  sq : ∀ t w, (binOp .mul t (.float .f64 xa) (.float .f64 xa)).run Tryd.prog w = .ok (.float .f64 p) w
  si : ∀ t w, (binOp .mul t (.float .f64 ya) (.float .f64 ya)).run Tryd.prog w = .ok (.float .f64 q) w
  su : ∀ t w, (binOp .add t (.float .f64 p) (.float .f64 q)).run Tryd.prog w = .ok (.float .f64 r) w
  one : FloatKind.f64.format.order r 4607182418800017408 = some .eq
theorem spinF (z k : Int) (e : Nat) (hk : k = 1 ∧ e = 0 ∨ k = 2 ∧ e = 2 ∨ k = 4 ∧ e = 1) : ∃ xa ya xb yb re im p q r, SpinF z k e xa ya xb yb re im p q r := by
  have hk1 : k = 1 ∨ k = 2 ∨ k = 4 := by omega
  have he : e < 4 := by omega
  obtain ⟨re, im, m1, m2, m3⟩ := mul_ok (spn_lt z k) he
  obtain ⟨p, q, r, a1, a2, a3, a4, a5, a6⟩ := abs_ok (spn_lt z k)
  have eb : spn (z + 1) k = (spn z k + e) % 4 := by
    unfold spn
    rcases hk with ⟨rfl, rfl⟩ | ⟨rfl, rfl⟩ | ⟨rfl, rfl⟩ <;> simp only [Int.reduceDiv] <;> omega
  have ec : spn (z + k) k = spn z k := by
    unfold spn
    rcases hk with ⟨rfl, rfl⟩ | ⟨rfl, rfl⟩ | ⟨rfl, rfl⟩ <;> simp only [Int.reduceDiv] <;> omega
  have e0 : spn 0 k = 0 := by
    unfold spn
    rcases hk with ⟨rfl, rfl⟩ | ⟨rfl, rfl⟩ | ⟨rfl, rfl⟩ <;> decide
  refine ⟨cRe (spn z k), cIm (spn z k), cRe (spn (z + 1) k), cIm (spn (z + 1) k), re, im, p, q, r, fun w => spin_any z k hk1 w, fun w => spin_any (z + 1) k hk1 w, fun w => ?_, fun w => ?_, fun t w => run_complex_mul w t _ _ _ _ _ _ m1, by rw [eb]; exact m2, by rw [eb]; exact m3, a5, a6, fun t w => run_float_arith w .mul t .f64 _ _ _ a1, fun t w => run_float_arith w .mul t .f64 _ _ _ a2, fun t w => run_float_arith w .add t .f64 _ _ _ a3, a4⟩
  · have := spin_any (z + k) k hk1 w
    rw [ec] at this
    exact this
  · have := spin_any 0 k hk1 w
    rw [e0] at this
    exact this

set_option maxHeartbeats 4000000 in
theorem spins_walk (a0 a1 : Int) (w0 : (Lit.int .i16 a0).wf = true) (w1 : (Lit.int .u8 a1).wf = true) (w : World) (hT : Tab w.heap.size w) :
    Calls Tryd.prog 5 #[.int .i16 a0, .int .u8 a1] w fun e w' => e = .returned (.bool true) ∧ Below w.heap.size w w' := by
  have ck := Lib.hid (known18_true w hT)
  have b0 := bounds_i16 w0
  have b1 := bounds_u8 w1
  obtain ⟨q0, q1⟩ := b0
  obtain ⟨q2, q3⟩ := b1
  clear w0 w1 hT
  obtain ⟨k, hk⟩ : ∃ k, k = a1 % 6 := ⟨_, rfl⟩
  have hks : k = 0 ∨ k = 3 ∨ k = 5 ∨ k = 1 ∨ k = 2 ∨ k = 4 := by omega
  have hz : FloatKind.f64.format.order 0 0 = some .eq := by decide +kernel
  have ho : FloatKind.f64.format.order 4607182418800017408 4607182418800017408 = some .eq := by decide +kernel
  have hways : (k ≠ 1 ∧ k ≠ 2 ∧ k ≠ 4) ∨ ∃ e, (k = 1 ∧ e = 0 ∨ k = 2 ∧ e = 2 ∨ k = 4 ∧ e = 1) := by
    rcases hks with rfl | rfl | rfl | rfl | rfl | rfl
    · exact .inl (by decide)
    · exact .inl (by decide)
    · exact .inl (by decide)
    · exact .inr ⟨0, by decide⟩
    · exact .inr ⟨2, by decide⟩
    · exact .inr ⟨1, by decide⟩
  have hk0 : 0 ≤ k := by omega
  have hk5 : k ≤ 5 := by omega
  have hkr : a1 % 6 = k := hk.symm
  clear hks hk
  rcases hways with ⟨n1, n2, n4⟩ | ⟨e, hke⟩
  · have cs := Lib.hid (fun z w => spin_no z k n1 n2 n4 w)
    have k1 : (k != 1) = true := by simpa using n1
    have k2 : (k != 2) = true := by simpa using n2
    have k4 : (k != 4) = true := by simpa using n4
    clear n1 n2 n4 ho
    go_enter Tryd.func5, Tryd.ntmps5
    go_wp2_with fail
    refine ck.out.mono ?_
    rintro e w1 ⟨rfl, hb⟩
    replace hb := Lib.hid hb
    go_wp2_with fail
    refine (cs.out _ _).mono ?_
    rintro e w2 ⟨rfl, rfl⟩
    go_wp2_with fail
    refine (cs.out _ _).mono ?_
    rintro e w2 ⟨rfl, rfl⟩
    go_wp2_with fail
    refine (cs.out _ _).mono ?_
    rintro e w2 ⟨rfl, rfl⟩
    go_wp2_with fail
    go_ret
    exact ⟨rfl, hb.out⟩
  · obtain ⟨xa, ya, xb, yb, re, im, p, q, r, F⟩ := spinF a0 k e hke
    have hmul := F.mul
    have mb := F.mb
    have mi := F.mi
    have aa := F.aa
    have ai := F.ai
    have sq := F.sq
    have si := F.si
    have su := F.su
    have on := F.one
    replace F := Lib.hid F
    rcases hke with ⟨rfl, rfl⟩ | ⟨rfl, rfl⟩ | ⟨rfl, rfl⟩
    all_goals
      simp [cRe, cIm] at hmul
      go_enter Tryd.func5, Tryd.ntmps5
      go_wp2_with fail
      refine ck.out.mono ?_
      rintro e w1 ⟨rfl, hb⟩
      replace hb := Lib.hid hb
      go_wp2_with fail
      refine (F.out.ca _).mono ?_
      rintro e w2 ⟨rfl, rfl⟩
      go_wp2_with fail
      refine (F.out.cb _).mono ?_
      rintro e w2 ⟨rfl, rfl⟩
      go_wp2_with fail
      refine (F.out.cc _).mono ?_
      rintro e w2 ⟨rfl, rfl⟩
      go_wp2_with fail
      refine (F.out.c0 _).mono ?_
      rintro e w2 ⟨rfl, rfl⟩
      go_wp2_with fail
      go_ret
      exact ⟨rfl, hb.out⟩
end Go.Proofs.YtpnkaamijjeckaaDoor
