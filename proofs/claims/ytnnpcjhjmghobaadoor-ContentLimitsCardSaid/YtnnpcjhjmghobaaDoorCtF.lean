/- The known case of layer 9; ContentLimits. -/
import Derived.Test.YtnnpcjhjmghobaaDoorCtE
namespace Go.Proofs.YtnnpcjhjmghobaaDoor
open Go.RowKit
set_option linter.unusedVariables false

theorem readc_to {l : List UInt8} {R : Red} (h : readC l = R) (hl : l.length ≤ maxLen) (w : World) (hT : Widths w.heap.size w) : Calls Tryd.prog 11 #[tx l] w (ReadCR w R) := h ▸ readc_any hl w hT
theorem bytesc_to {s p t : Int} {l : List UInt8} (h : bytesC s p t = l) (w : World) (hT : Widths w.heap.size w) : Calls Tryd.prog 8 #[ctV s p t] w fun e w' => e = .returned (tx l) ∧ Below w.heap.size w w' := h ▸ bytesc_any s p t w hT

set_option maxHeartbeats 4000000 in
theorem known9_true (w : World) (hT : Widths w.heap.size w) : Calls Tryd.prog 5 #[] w fun e w' => e = .returned (.bool true) ∧ Below w.heap.size w w' := by
  have hW : Hid (∀ w', Below w.heap.size w w' → Widths w'.heap.size w') := Lib.hid fun w' hb => hT.on hb
  have hb0 := new_below w (ctO 3 1 500)
  have hX := Lib.hid (Tri.start (Below.refl w.heap.size w) (.int .i64 3) (.int .i64 1) (.int .i64 500) 23)
  have c1 := Lib.hid (bytesc_to (s := 3) (p := 1) (t := 500) (l := [0, 0, 0, 3, 1, 0, 0, 1, 244]) (by decide +kernel))
  have c2 := Lib.hid (readc_to (l := [0, 0, 0, 3, 1, 0, 0, 1, 244]) (R := ((3, 1, 500), 0)) (by decide +kernel) (by decide))
  have c3 := Lib.hid (readc_to (l := [0, 0, 0, 3, 1, 0, 0, 1, 244, 120]) (R := ((0, 0, 0), 502)) (by decide +kernel) (by decide))
  have c4 := Lib.hid (isc_b 3 1 500)
  rw [show isC 3 1 500 = true by decide] at c4
  have c5 := Lib.hid (isc_b 201 0 0)
  rw [show isC 201 0 0 = false by decide] at c5
  have c6 := Lib.hid (bytesc_to (s := -1) (p := 0) (t := 0) (l := []) (by decide +kernel))
  have hadd := fun W => run_string_add_lists (P := Tryd.prog) W [0, 0, 0, 3, 1, 0, 0, 1, 244] [120] (by decide) (by decide)
  replace hb0 := Lib.hid hb0
  clear hT
  go_enter Tryd.func5, Tryd.ntmps5
  go_wp2_with fail
  refine (c1.out _ (hW.out _ hb0.out)).mono ?_
  rintro e w1 ⟨rfl, hb⟩
  replace hX := Lib.hid (hX.out.step hb)
  clear hb c1
  go_wp2_with fail
  refine (c2.out _ (hW.out _ hX.out.below)).mono ?_
  rintro e w2 ⟨rfl, hb⟩
  have hY := Lib.hid (Tri.start (bel hX.out.below hb) (.int .i64 3) (.int .i64 1) (.int .i64 500) 23)
  replace hX := Lib.hid ((hX.out.step hb).step (new_below w2 (ctO 3 1 500)))
  clear hb c2
  go_wp2_with fail
  refine (c3.out _ (hW.out _ hX.out.below)).mono ?_
  rintro e w3 ⟨rfl, hb⟩
  replace hX := Lib.hid ((hX.out.step hb).step (new_below w3 (ctO 0 0 0)))
  replace hY := Lib.hid ((hY.out.step hb).step (new_below w3 (ctO 0 0 0)))
  have q0 := hX.out.c0
  have q1 := hX.out.c1
  have q2 := hX.out.c2
  clear hb c3
  go_wp2_with fail
  refine (c4.out _).mono ?_
  rintro e w4 ⟨rfl, hb⟩
  replace hX := Lib.hid (hX.out.step hb)
  replace hY := Lib.hid (hY.out.step hb)
  clear hb c4 q0 q1 q2
  go_wp2_with fail
  refine (c5.out _).mono ?_
  rintro e w5 ⟨rfl, hb⟩
  replace hX := Lib.hid (hX.out.step hb)
  replace hY := Lib.hid (hY.out.step hb)
  have q0 := hX.out.c0
  have q1 := hX.out.c1
  have q2 := hX.out.c2
  have p0 := hY.out.c0
  have p1 := hY.out.c1
  have p2 := hY.out.c2
  clear hb c5
  go_wp2_with fail
  refine (c6.out _ (hW.out _ hX.out.below)).mono ?_
  rintro e w6 ⟨rfl, hb⟩
  replace hX := Lib.hid (hX.out.step hb)
  clear hb c6 q0 q1 q2 p0 p1 p2
  go_wp2_with fail
  go_ret
  exact ⟨rfl, hX.out.below⟩

/-! ### ContentLimits -/
set_option maxHeartbeats 4000000 in
set_option maxRecDepth 100000 in
theorem limits9_nat {a b z : Nat} (ha : a ≤ 255) (hb : b ≤ 255) (hz : z ≤ 65535) {w : World} (hT : Widths w.heap.size w) :
    Calls Tryd.prog 4 #[.int .u8 a, .int .u8 b, .int .u16 z] w fun e w' => e = .returned (.bool true) ∧ Below w.heap.size w w' := by
  have hW : Hid (∀ w', Below w.heap.size w w' → Widths w'.heap.size w') := Lib.hid fun w' hb => hT.on hb
  have c1 := Lib.hid (known9_true w hT)
  obtain ⟨p, hp⟩ : ∃ p, p = a % 3 := ⟨_, rfl⟩
  obtain ⟨q, hq⟩ : ∃ q, q = b % 3 := ⟨_, rfl⟩
  obtain ⟨r, hr⟩ : ∃ r, r = z % 300 := ⟨_, rfl⟩
  have hp3 : (p : Int) < 3 := by omega
  have hq3 : (q : Int) < 3 := by omega
  have hr3 : (r : Int) < 300 := by omega
  have hp0 : (0 : Int) ≤ p := by omega
  have hq0 : (0 : Int) ≤ q := by omega
  have hr0 : (0 : Int) ≤ r := by omega
  have hp1 : (a : Int) % 3 = p := by omega
  have hq1 : (b : Int) % 3 = q := by omega
  have hr1 : (z : Int) % 300 = r := by omega
  have hC : isC (199 + (p : Int)) r (9999 + (q : Int)) = decide ((p : Int) ≤ 1 ∧ (r : Int) ≤ 255 ∧ (q : Int) ≤ 1) := by
    rw [← Bool.coe_iff_coe]
    rw [isC_iff, decide_eq_true_iff]
    omega
  have c2 := Lib.hid (fun w => bytesc_any (199 + (p : Int)) r (9999 + (q : Int)) w)
  have c3 := Lib.hid (isc_b (199 + (p : Int)) r (9999 + (q : Int)))
  have hRd : readC (bytesC (199 + (p : Int)) r (9999 + (q : Int))) = if isC (199 + (p : Int)) r (9999 + (q : Int)) = true then ((199 + (p : Int), (r : Int), 9999 + (q : Int)), 0) else badC := by
    unfold bytesC
    split
    · rename_i h; exact readC_raw h
    · exact readC_nil
  have hBl : (bytesC (199 + (p : Int)) r (9999 + (q : Int))).length ≤ maxLen := by
    unfold bytesC
    split
    · rw [rawC_len]; decide
    · decide
  have hX0 := Lib.hid (fun w1 (hb : Below w.heap.size w w1) => Tri.start hb (.int .i64 (199 + (p : Int))) (.int .i64 r) (.int .i64 (9999 + (q : Int))) 23)
  generalize bytesC (199 + (p : Int)) r (9999 + (q : Int)) = B at *
  clear hT hp hq hr
  by_cases hok : (p : Int) ≤ 1 ∧ (r : Int) ≤ 255 ∧ (q : Int) ≤ 1
  · rw [hC, decide_eq_true hok, if_pos rfl] at hRd
    rw [hC, decide_eq_true hok] at c3
    have c4 := Lib.hid (readc_to hRd hBl)
    obtain ⟨o1, o2, o3⟩ := hok
    have o4 : decide (9999 + (q : Int) ≤ 10000) = true := decide_eq_true (by omega)
    clear hC hRd hBl
    go_enter Tryd.func4, Tryd.ntmps4
    go_wp2_with fail
    refine c1.out.mono ?_
    rintro e w1 ⟨rfl, hb⟩
    have hX := Lib.hid (hX0.out _ hb)
    clear hb c1 hX0
    go_wp2_with fail
    refine (c2.out _ (hW.out _ hX.out.below)).mono ?_
    rintro e w2 ⟨rfl, hb⟩
    replace hX := Lib.hid (hX.out.step hb)
    clear hb c2
    go_wp2_with fail
    refine (c4.out _ (hW.out _ hX.out.below)).mono ?_
    rintro e w3 ⟨rfl, hb⟩
    have hY := Lib.hid (Tri.start (bel hX.out.below hb) (.int .i64 (199 + (p : Int))) (.int .i64 r) (.int .i64 (9999 + (q : Int))) 23)
    replace hX := Lib.hid ((hX.out.step hb).step (new_below w3 (ctO (199 + (p : Int)) r (9999 + (q : Int)))))
    have q0 := hX.out.c0
    have q1 := hX.out.c1
    have q2 := hX.out.c2
    clear hb c4
    go_wp2_with fail
    refine (c3.out _).mono ?_
    rintro e w4 ⟨rfl, hb⟩
    clear q0 q1 q2
    replace hX := Lib.hid (hX.out.step hb)
    replace hY := Lib.hid (hY.out.step hb)
    have q0 := hX.out.c0
    have q1 := hX.out.c1
    have q2 := hX.out.c2
    have p0 := hY.out.c0
    have p1 := hY.out.c1
    have p2 := hY.out.c2
    clear hb c3
    go_wp2_with fail
    go_ret
    exact ⟨ret_bool (by simp), hX.out.below⟩
  · rw [hC, decide_eq_false hok, if_neg Bool.false_ne_true] at hRd
    rw [hC, decide_eq_false hok] at c3
    have c4 := Lib.hid (readc_to (R := ((0, 0, 0), 502)) hRd hBl)
    have hor : (¬ 199 + (p : Int) ≤ 200) ∨ ((p : Int) ≤ 1 ∧ ¬ (r : Int) ≤ 255) ∨ ((p : Int) ≤ 1 ∧ (r : Int) ≤ 255 ∧ decide (9999 + (q : Int) ≤ 10000) = false) := by
      rcases Classical.em ((p : Int) ≤ 1) with h1 | h1
      · rcases Classical.em ((r : Int) ≤ 255) with h2 | h2
        · exact .inr (.inr ⟨h1, h2, decide_eq_false (by omega)⟩)
        · exact .inr (.inl ⟨h1, h2⟩)
      · exact .inl (by omega)
    clear hC hRd hBl hok
    rcases hor with o1 | ⟨o1, o2⟩ | ⟨o1, o2, o3⟩
    all_goals
      go_enter Tryd.func4, Tryd.ntmps4
      go_wp2_with fail
      refine c1.out.mono ?_
      rintro e w1 ⟨rfl, hb⟩
      have hX := Lib.hid (hX0.out _ hb)
      clear hb c1 hX0
      go_wp2_with fail
      refine (c2.out _ (hW.out _ hX.out.below)).mono ?_
      rintro e w2 ⟨rfl, hb⟩
      replace hX := Lib.hid (hX.out.step hb)
      clear hb c2
      go_wp2_with fail
      refine (c4.out _ (hW.out _ hX.out.below)).mono ?_
      rintro e w3 ⟨rfl, hb⟩
      replace hX := Lib.hid ((hX.out.step hb).step (new_below w3 (ctO 0 0 0)))
      have q0 := hX.out.c0
      have q1 := hX.out.c1
      have q2 := hX.out.c2
      clear hb c4
      go_wp2_with fail
      refine (c3.out _).mono ?_
      rintro e w4 ⟨rfl, hb⟩
      clear q0 q1 q2
      replace hX := Lib.hid (hX.out.step hb)
      clear hb c3
      go_wp2_with fail
      go_ret
      exact ⟨rfl, hX.out.below⟩

theorem limits9_row {a b z : Int} {w : World} (hT : Widths w.heap.size w) (r0 : Read Tryd.prog w 5 [.int .u8 a]) (r1 : Read Tryd.prog w 5 [.int .u8 b]) (r2 : Read Tryd.prog w 30 [.int .u16 z]) :
    Calls Tryd.prog 4 #[.int .u8 a, .int .u8 b, .int .u16 z] w fun e w' => e = .returned (.bool true) ∧ Below w.heap.size w w' := by
  obtain ⟨x, hx, wf⟩ := r0.int (by kernel_rfl : Tryd.prog.underlying 5 = some (.int .u8))
  obtain ⟨y, hy, wf2⟩ := r1.int (by kernel_rfl : Tryd.prog.underlying 5 = some (.int .u8))
  obtain ⟨u, hu, wf3⟩ := r2.int (by kernel_rfl : Tryd.prog.underlying 30 = some (.int .u16))
  simp only [List.cons.injEq, Value.int.injEq, true_and, and_true] at hx hy hu
  subst hx hy hu
  obtain ⟨h1, h2⟩ := bounds_u8 wf
  obtain ⟨h3, h4⟩ := bounds_u8 wf2
  obtain ⟨h5, h6⟩ := bounds_u16 wf3
  obtain ⟨a, rfl⟩ := Int.eq_ofNat_of_zero_le h1
  obtain ⟨b, rfl⟩ := Int.eq_ofNat_of_zero_le h3
  obtain ⟨z, rfl⟩ := Int.eq_ofNat_of_zero_le h5
  exact limits9_nat (by omega) (by omega) (by omega) hT
end Go.Proofs.YtnnpcjhjmghobaaDoor
