/- The laws' known example; a time's place by numbers. -/
import Derived.Test.YtldocgpnmfmnaaaDlK
import Derived.Test.YtldocgpnmfmnaaaSame
import Derived.OpenShut
namespace Go.Proofs.Ytldocgpnmfmnaaa
open Go.RowKit
set_option linter.unusedVariables false

section
variable {B : Nat} {w0 w : World} {db : Nat} {F S : List (Nat × Obj)} {L L' : List (Int × Int)} {v : Value} {n : Nat} {xs : List Value}

theorem DialIs.beside (h : DialIs B w0 w db L (S ++ F)) : ∃ A, St B w0 w (A ++ S) ∧ ∀ w' S', St B w0 w' (A ++ S') → DialIs B w0 w' db L (S' ++ F) := by
  obtain ⟨M, hv, hF, mv, es, clk, h1, h2⟩ := h
  obtain ⟨A, k1, k2⟩ := h1.beside
  exact ⟨A, k1, fun w' S' h' => ⟨M, hv, hF, mv, es, clk, k2 w' S' h', h2⟩⟩
theorem DialIs.rest (h : DialIs B w0 w db L (S ++ F)) : DialIs B w0 w db L F := by
  obtain ⟨A, k1, k2⟩ := h.beside
  exact k2 w [] (k1.sub (by simp))
theorem DialIs.ids (h : DialIs B w0 w db L (S ++ F)) {l : List Int} (hs : SlIs 3 1 v l.length (l.map (Value.int .i64)) S) : ReadInts w v l := by
  obtain ⟨A, k1, -⟩ := h.beside
  exact hs.readInts k1
theorem DialIs.srt (h : DialIs B w0 w db L F) : Srt L := by
  obtain ⟨M, hv, hF, mv, es, clk, h1, h2, h3⟩ := h
  exact h3.srt
theorem DialIs.len (h : DialIs B w0 w db L F) : L.length ≤ 5000 := by
  obtain ⟨M, hv, hF, mv, es, clk, h1, h2, h3⟩ := h
  rw [← h3.len]; exact h1.at_.few
theorem idsV_eq (L : List (Int × Int)) : idsV L = (L.map (·.2)).map (Value.int .i64) := by simp [idsV]

/-! The calls, each with what it answers written out. -/
theorem dial_set (h : DialIs B w0 w db L F) (id t : Int) (ht : T64 t) (hL : L.length < 5000) (he : setL id t L = L') :
    Calls Try.prog 9 #[mp db, .int .i64 id, .int .i64 t] w fun e w' => e = .returned (.tuple #[]) ∧ DialIs B w0 w' db L' F := he ▸ dl_set h id t ht hL
theorem dial_next (h : DialIs B w0 w db L F) {r : Option Int} (hr : L.head?.map (·.1) = r) :
    Calls Try.prog 18 #[mp db] w fun e w' => e = .returned (.tuple #[.int .i64 (r.getD 0), .bool r.isSome]) ∧ w' = w := hr ▸ dl_next h
theorem dial_when (h : DialIs B w0 w db L F) (id : Int) {r : Option Int} (hr : whenL id L = r) :
    Calls Try.prog 16 #[mp db, .int .i64 id] w fun e w' => e = .returned (.tuple #[.int .i64 (r.getD 0), .bool r.isSome]) ∧ w' = w := hr ▸ dl_when h id
theorem dial_clear (h : DialIs B w0 w db L F) (id : Int) {r : Bool} (hr : hasL id L = r) (he : del id L = L') :
    Calls Try.prog 11 #[mp db, .int .i64 id] w fun e w' => e = .returned (.bool r) ∧ DialIs B w0 w' db L' F := he ▸ hr ▸ dl_clear h id
theorem dial_due (h : DialIs B w0 w db L F) (now : Int) (hn : T64 now) {l : List Int} (hl : (dueL now L).map (·.2) = l) (he : restL now L = L') :
    Calls Try.prog 14 #[mp db, .int .i64 now] w fun e w' => ∃ v S, e = .returned v ∧ ReadInts w' v l ∧ SlIs 3 1 v l.length (l.map (Value.int .i64)) S ∧ DialIs B w0 w' db L' (S ++ F) := by
  refine (dl_due h now hn h.len).mono ?_
  rintro e w' ⟨v, S, rfl, hs, hD⟩
  rw [idsV_eq, hl, show (dueL now L).length = l.length by rw [← hl]; simp] at hs
  rw [he] at hD
  exact ⟨v, S, rfl, hD.ids hs, hs, hD⟩
end

theorem place_const : Value.complex .f64 4607182418800017408 4611686018427387904 = .complex .f64 (floatOfInt .f64 1) (floatOfInt .f64 2) := by
  have e1 : floatOfInt .f64 1 = 4607182418800017408 := by decide +kernel
  have e2 : floatOfInt .f64 2 = 4611686018427387904 := by decide +kernel
  rw [e1, e2]

theorem Below.drewN {B : Nat} {w0 w : World} (h : Below B w0 w) (n : Nat) : Below B w0 (w.drewN n) := ⟨h.os, h.tape, h.output, h.size, h.block⟩

set_option maxHeartbeats 4000000 in
set_option maxRecDepth 100000 in
theorem known5_true (w : World) : Calls Try.prog 7 #[] w fun e w' => e = .returned (.bool true) ∧ Below w.heap.size w w' := by
  have cn := Lib.hid (dl_new (St.start w))
  have cT : Hid (∀ W, Calls Try.prog 20 #[.int .i64 7, .int .i64 3] W fun e w' => e = .returned (.complex .f64 4607182418800017408 4611686018427387904) ∧ ∃ n, w' = W.drewN n) := Lib.hid fun W => by
    rw [place_const]
    exact turn_any 7 3 ⟨by decide, by decide⟩ (by decide) (by decide) W
  have c0 : Hid (∀ W, Calls Try.prog 20 #[.int .i64 5, .int .i64 0] W fun e w' => e = .returned (.complex .f64 0 0) ∧ W = w') := Lib.hid fun W => turn_none 5 0 (by decide) W
  have k1 : FloatKind.f64.format.order 4607182418800017408 4607182418800017408 = some .eq := by decide +kernel
  have k2 : FloatKind.f64.format.order 4611686018427387904 4611686018427387904 = some .eq := by decide +kernel
  have k3 : FloatKind.f64.format.order 0 0 = some .eq := by decide +kernel
  go_enter Try.func7, Try.ntmps7
  go_wp2_with fail
  refine cn.out.mono ?_
  rintro e w1 ⟨db, rfl, h1⟩
  replace h1 := Lib.hid h1
  go_wp2_with fail
  refine (dial_next h1.out (r := none) rfl).mono ?_
  rintro e w2 ⟨rfl, rfl⟩
  go_wp2_with fail
  refine (dial_set h1.out 3 10 ⟨by decide, by decide⟩ (by decide) (L' := [(10, 3)]) (by decide)).mono ?_
  rintro e w2 ⟨rfl, h2⟩
  replace h2 := Lib.hid h2
  clear h1
  go_wp2_with fail
  refine (dial_set h2.out 1 10 ⟨by decide, by decide⟩ (by decide) (L' := [(10, 1), (10, 3)]) (by decide)).mono ?_
  rintro e w3 ⟨rfl, h3⟩
  replace h3 := Lib.hid h3
  clear h2
  go_wp2_with fail
  refine (dial_set h3.out 3 5 ⟨by decide, by decide⟩ (by decide) (L' := [(5, 3), (10, 1)]) (by decide)).mono ?_
  rintro e w4 ⟨rfl, h4⟩
  replace h4 := Lib.hid h4
  clear h3
  go_wp2_with fail
  refine (dial_when h4.out 3 (r := some 5) (by decide)).mono ?_
  rintro e w5 ⟨rfl, rfl⟩
  go_wp2_with fail
  refine (dial_next h4.out (r := some 5) rfl).mono ?_
  rintro e w5 ⟨rfl, rfl⟩
  go_wp2_with fail
  refine (dial_due h4.out 7 ⟨by decide, by decide⟩ (l := [3]) (L' := [(10, 1)]) (by decide) (by decide)).mono ?_
  rintro e w6 ⟨v, S, rfl, -, hs, h6⟩
  obtain ⟨a, cap, rfl, -, -, -⟩ := hs.form
  replace h6 := Lib.hid h6
  replace hs := Lib.hid hs
  clear h4
  go_wp2_with fail
  refine (dial_clear h6.out 9 (r := false) (L' := [(10, 1)]) (by decide) (by decide)).mono ?_
  rintro e w7 ⟨rfl, h7⟩
  obtain ⟨a', cap', he, hr⟩ := h7.ids hs.out
  obtain ⟨b, off, rfl, hc⟩ := hr 0 3 rfl
  cases he
  rw [Nat.add_zero] at hc
  have cl := Lib.hid (dl_len h7)
  have hb := Lib.hid h7.below
  clear h6 h7 hs hr
  go_wp2_with fail
  refine cl.out.mono ?_
  rintro e w8 ⟨rfl, rfl⟩
  go_wp2_with fail
  refine (cT.out _).mono ?_
  rintro e w8 ⟨rfl, n, rfl⟩
  go_wp2_with fail
  refine (c0.out _).mono ?_
  rintro e w9 ⟨rfl, rfl⟩
  go_wp2_with fail
  go_ret
  exact ⟨rfl, Below.drewN hb.out n⟩

/-! ### a time's place, by numbers -/
theorem fl_self (a : Int) (h1 : -9007199254740992 < a) (h2 : a < 9007199254740992) : FloatKind.f64.format.order (floatOfInt .f64 a) (floatOfInt .f64 a) = some .eq := by
  rw [fl_order a a h1 h2 h1 h2]; simp

theorem tmod_bounds (t s : Int) (hs : 1 ≤ s) : -s ≤ t.tmod s ∧ t.tmod s < s := by
  have h1 := Int.emod_nonneg t (show s ≠ 0 by omega)
  have h2 := Int.emod_lt_of_pos t (show 0 < s by omega)
  rcases div_parts t s hs with ⟨h, e1, e2⟩ | ⟨h, e1, e2⟩ <;> omega

theorem quot_bounds (t s : Int) (hs : 1 ≤ s) (h1 : -1125899906842624 ≤ t) (h2 : t ≤ 1125899906842624) : -1125899906842624 ≤ t / s ∧ t / s ≤ 1125899906842624 := by
  constructor
  · rw [Int.le_ediv_iff_mul_le (by omega)]
    have : (-1125899906842624 : Int) * s ≤ -1125899906842624 * 1 := Int.mul_le_mul_of_nonpos_left (by omega) hs
    omega
  · have h3 : t / s < 1125899906842624 + 1 := by
      rw [Int.ediv_lt_iff_lt_mul (by omega)]
      have : (1125899906842624 + 1 : Int) * 1 ≤ (1125899906842624 + 1) * s := Int.mul_le_mul_of_nonneg_left hs (by omega)
      omega
    omega

set_option maxHeartbeats 4000000 in
theorem turns_walk (t s : Int) (w0 : (Lit.int .i64 t).wf = true) (w1 : (Lit.int .i64 s).wf = true) (w : World) :
    Calls Try.prog 4 #[.int .i64 t, .int .i64 s] w fun e w' => e = .returned (.bool true) ∧ Below w.heap.size w w' := by
  have hk := Lib.hid (known5_true w)
  have b1 := bounds_i64 w1
  obtain ⟨b3, b4⟩ := b1
  clear w0 w1
  by_cases h1 : 1125899906842624 < t
  · go_enter Try.func4, Try.ntmps4
    go_wp2_with fail
    refine hk.out.mono ?_
    rintro e w2 ⟨rfl, hb⟩
    replace hb := Lib.hid hb
    go_wp2_with fail
    go_ret
    exact ⟨rfl, hb.out⟩
  by_cases h2 : t < -1125899906842624
  · go_enter Try.func4, Try.ntmps4
    go_wp2_with fail
    refine hk.out.mono ?_
    rintro e w2 ⟨rfl, hb⟩
    replace hb := Lib.hid hb
    go_wp2_with fail
    go_ret
    exact ⟨rfl, hb.out⟩
  by_cases h3 : 1125899906842624 < s
  · go_enter Try.func4, Try.ntmps4
    go_wp2_with fail
    refine hk.out.mono ?_
    rintro e w2 ⟨rfl, hb⟩
    replace hb := Lib.hid hb
    go_wp2_with fail
    go_ret
    exact ⟨rfl, hb.out⟩
  by_cases h4 : s < 1
  · have cT := Lib.hid (turn_none t s h4)
    have k3 : FloatKind.f64.format.order 0 0 = some .eq := by decide +kernel
    go_enter Try.func4, Try.ntmps4
    go_wp2_with fail
    refine hk.out.mono ?_
    rintro e w2 ⟨rfl, hb⟩
    replace hb := Lib.hid hb
    go_wp2_with fail
    refine (cT.out _).mono ?_
    rintro e w3 ⟨rfl, rfl⟩
    go_wp2_with fail
    go_ret
    exact ⟨rfl, hb.out⟩
  have hs : 1 ≤ s := by omega
  have cT := Lib.hid (turn_any t s ⟨by omega, by omega⟩ hs b4)
  obtain ⟨q1, q2⟩ := quot_bounds t s hs (by omega) (by omega)
  obtain ⟨m1, m2⟩ := tmod_bounds t s hs
  have hdm := Int.mul_ediv_add_emod t s
  rcases div_parts t s hs with ⟨h, e1, e2⟩ | ⟨h, e1, e2⟩
  · have hq : (t - (t.tmod s + s)).tdiv s = t / s := by
      rw [e1, show t - t % s = s * (t / s) by omega, Int.mul_tdiv_cancel_left _ (by omega)]
    have k1 := fl_self (t.tmod s + s) (by omega) (by omega)
    have k2 := fl_self (t / s) (by omega) (by omega)
    rw [← e1] at cT
    clear e1 e2 hdm
    obtain ⟨m, hm⟩ : ∃ m, t.tmod s = m := ⟨_, rfl⟩
    rw [hm] at h hq k1 m1 m2
    have cT2 : Hid (∀ W, Calls Try.prog 20 #[.int .i64 t, .int .i64 s] W fun e w' => e = .returned (.complex .f64 (floatOfInt .f64 (m + s)) (floatOfInt .f64 (t / s))) ∧ ∃ n, w' = W.drewN n) := by
      rw [← hm]; exact cT
    clear cT
    generalize t / s = q at *
    go_enter Try.func4, Try.ntmps4
    go_wp2_with fail
    refine hk.out.mono ?_
    rintro e w2 ⟨rfl, hb⟩
    replace hb := Lib.hid hb
    go_wp2_with fail
    refine (cT2.out _).mono ?_
    rintro e w3 ⟨rfl, n, rfl⟩
    go_wp2_with fail
    go_ret
    exact ⟨rfl, Below.drewN hb.out n⟩
  · have hq : (t - t.tmod s).tdiv s = t / s := by
      rw [e1, show t - t % s = s * (t / s) by omega, Int.mul_tdiv_cancel_left _ (by omega)]
    have k1 := fl_self (t.tmod s) (by omega) (by omega)
    have k2 := fl_self (t / s) (by omega) (by omega)
    rw [← e1] at cT
    clear e1 e2 hdm
    obtain ⟨m, hm⟩ : ∃ m, t.tmod s = m := ⟨_, rfl⟩
    rw [hm] at h hq k1 m1 m2
    have cT2 : Hid (∀ W, Calls Try.prog 20 #[.int .i64 t, .int .i64 s] W fun e w' => e = .returned (.complex .f64 (floatOfInt .f64 m) (floatOfInt .f64 (t / s))) ∧ ∃ n, w' = W.drewN n) := by
      rw [← hm]; exact cT
    clear cT
    generalize t / s = q at *
    go_enter Try.func4, Try.ntmps4
    go_wp2_with fail
    refine hk.out.mono ?_
    rintro e w2 ⟨rfl, hb⟩
    replace hb := Lib.hid hb
    go_wp2_with fail
    refine (cT2.out _).mono ?_
    rintro e w3 ⟨rfl, n, rfl⟩
    go_wp2_with fail
    go_ret
    exact ⟨rfl, Below.drewN hb.out n⟩
end Go.Proofs.Ytldocgpnmfmnaaa
