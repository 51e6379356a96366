/- MethodLimits. -/
import Derived.Test.YtipinglchpmgaaaDoorMdL
import Derived.Test.YtipinglchpmgaaaDoorArgs
namespace Go.Proofs.YtipinglchpmgaaaDoor
open Go.RowKit
set_option linter.unusedVariables false

def mL (p : Nat) (R : List UInt8) : Meth := ⟨7, [R], [4294967294 + (p : Int)], 0⟩
theorem isM_L {p q : Nat} {R : List UInt8} (hR : R.length = 254 + q) (hp : p < 3) (hq : q < 3) : isM (mL p R) = decide (p ≤ 1 ∧ q ≤ 1) := by
  have h1 : okT [R] = decide (q ≤ 1) := by
    unfold okT
    rw [List.all_cons, List.all_nil, Bool.and_true]
    exact decide_eq_decide.2 (by omega)
  have h2 : okN [4294967294 + (p : Int)] = decide (p ≤ 1) := by
    unfold okN okN1
    rw [List.all_cons, List.all_nil, Bool.and_true, decide_eq_true (by omega), Bool.true_and]
    exact decide_eq_decide.2 (by omega)
  have h3 : isM (mL p R) = (okT [R] && (okN [4294967294 + (p : Int)] && true)) := rfl
  rw [h3, h1, h2, Bool.and_true]
  by_cases a : p ≤ 1 <;> by_cases b : q ≤ 1 <;> simp [a, b]
theorem rawM_L {p q : Nat} {R : List UInt8} (hR : R.length = 254 + q) : (rawM (mL p R)).length = 261 + q := by
  have h1 := low_length 2 7
  have h2 := low_length 4 (4294967294 + (p : Int))
  simp only [rawM, mL, rawT, rawN, List.flatMap_cons, List.flatMap_nil, List.append_nil, List.length_append, List.length_cons, low_length, hR]
  have h3 : (rawB (shB 7) 0).length = 0 := rfl
  rw [h3]
  omega

theorem box4_below (w : World) (a b c d : Obj) : Below w.heap.size w ((((w.alloc a).alloc b).alloc c).alloc d) := bel (bel (bel (new_below w a) (new_below _ b)) (new_below _ c)) (new_below _ d)
theorem limits_mem (w1 : World) (OR : Obj) (R : List UInt8) (p : Nat) (hR : R.length ≤ maxLen) :
    RdM ((((w1.alloc OR).alloc (.cells #[tx R] 9)).alloc (.cells #[.int .i64 (4294967294 + (p : Int))] 3)).alloc (mO 7 (.slice (some ⟨w1.heap.size + 1, 0, none⟩) 1 1) (.slice (some ⟨w1.heap.size + 1 + 1, 0, none⟩) 1 1) 0)) (.agg #[.int .i64 7, .slice (some ⟨w1.heap.size + 1, 0, none⟩) 1 1, .slice (some ⟨w1.heap.size + 1 + 1, 0, none⟩) 1 1, .int .i64 0]) (mL p R) ∧
    MdHeld (((w1.alloc OR).alloc (.cells #[tx R] 9)).alloc (.cells #[.int .i64 (4294967294 + (p : Int))] 3)) ((((w1.alloc OR).alloc (.cells #[tx R] 9)).alloc (.cells #[.int .i64 (4294967294 + (p : Int))] 3)).alloc (mO 7 (.slice (some ⟨w1.heap.size + 1, 0, none⟩) 1 1) (.slice (some ⟨w1.heap.size + 1 + 1, 0, none⟩) 1 1) 0)) (w1.heap.size + 1 + 1 + 1) 7 (.slice (some ⟨w1.heap.size + 1, 0, none⟩) 1 1) (.slice (some ⟨w1.heap.size + 1 + 1, 0, none⟩) 1 1) 0 := by
  have hst := ((((St.start w1).alloc OR).alloc (.cells #[tx R] 9)).alloc (.cells #[.int .i64 (4294967294 + (p : Int))] 3)).alloc (mO 7 (.slice (some ⟨w1.heap.size + 1, 0, none⟩) 1 1) (.slice (some ⟨w1.heap.size + 1 + 1, 0, none⟩) 1 1) 0)
  simp only [World.size_alloc] at hst
  refine ⟨⟨_, _, rfl, ⟨_, 1, rfl, Nat.le_refl _, by decide, fun i x hi => ?_⟩, ⟨_, 1, rfl, Nat.le_refl _, by decide, fun i x hi => ?_⟩⟩, ?_⟩
  · match i, hi with
    | 0, hi =>
      obtain rfl : R = x := by simpa [mL] using hi
      exact ⟨hR, w1.heap.size + 1, 0, rfl, hst.cell (b := w1.heap.size + 1) (.tail _ (.tail _ (.head _))) rfl⟩
    | i + 1, hi => simp [mL] at hi
  · match i, hi with
    | 0, hi =>
      obtain rfl : 4294967294 + (p : Int) = x := by simpa [mL] using hi
      exact ⟨w1.heap.size + 1 + 1, 0, rfl, hst.cell (b := w1.heap.size + 1 + 1) (.tail _ (.head _)) rfl⟩
    | i + 1, hi => simp [mL] at hi
  · have := MdHeld.start (((w1.alloc OR).alloc (.cells #[tx R] 9)).alloc (.cells #[.int .i64 (4294967294 + (p : Int))] 3)) 7 (.slice (some ⟨w1.heap.size + 1, 0, none⟩) 1 1) (.slice (some ⟨w1.heap.size + 1 + 1, 0, none⟩) 1 1) 0
    simp only [World.size_alloc] at this
    exact this

set_option maxHeartbeats 8000000 in
set_option maxRecDepth 100000 in
theorem limits8_nat {n l : Nat} (hn : n ≤ 255) (hl : l ≤ 65535) {w : World} (hT : Kinds w.heap.size w) :
    Calls Tryd.prog 7 #[.int .u8 n, .int .u16 l] w fun e w' => e = .returned (.bool true) ∧ Below w.heap.size w w' := by
  have hK : Hid (∀ w', Below w.heap.size w w' → Kinds w'.heap.size w') := Lib.hid fun w' hb => (hT.below hb).mono hb.size
  have c1 := Lib.hid (known8_true w hT)
  obtain ⟨p, hp⟩ : ∃ p, p = n % 3 := ⟨_, rfl⟩
  obtain ⟨q, hq⟩ : ∃ q, q = l % 3 := ⟨_, rfl⟩
  have hp3 : p < 3 := by omega
  have hq3 : q < 3 := by omega
  have hp1 : (n : Int) % 3 = p := by omega
  have hq1 : (l : Int) % 3 = q := by omega
  have mk : ∀ W : World, (Instr.makeSlice 41 (.int .i64 (254 + (q : Int))) (.int .i64 (254 + (q : Int)))).run Tryd.prog W = .ok (.slice (some ⟨W.heap.size, 0, none⟩) (254 + q) (254 + q)) (W.alloc (rowOf (List.replicate (254 + q) 0))) := fun W => by
    have := mk_row W (254 + q) (by omega)
    rwa [show ((254 + q : Nat) : Int) = 254 + (q : Int) by omega] at this
  have cv := fun W : World => zeros_conv W (254 + q)
  have hRl : (List.replicate (254 + q) (0 : UInt8)).length = 254 + q := by simp
  have hI := Lib.hid (isM_L (p := p) hRl hp3 hq3)
  have hraw := Lib.hid (rawM_L (p := p) hRl)
  generalize rowOf (List.replicate (254 + q) 0) = OR at *
  generalize List.replicate (254 + q) (0 : UInt8) = R at *
  have hp0 : (0 : Int) ≤ p := by omega
  have hq0 : (0 : Int) ≤ q := by omega
  have hp2 : (p : Int) < 3 := by omega
  have hq2 : (q : Int) < 3 := by omega
  clear hT hp hq
  replace hRl := Lib.hid hRl
  by_cases hok : p ≤ 1 ∧ q ≤ 1
  · obtain ⟨o1, o2⟩ := hok
    rw [decide_eq_true ⟨o1, o2⟩] at hI
    have o1' : (p : Int) ≤ 1 := by omega
    have o2' : (q : Int) ≤ 1 := by omega
    have o3 : decide (254 + (q : Int) ≤ 255) = true := decide_eq_true (by omega)
    have hM := isM_iff.1 hI.out
    have hread := readM_raw hM
    have hB : bytesM (mL p R) = rawM (mL p R) := bytesM_of hM
    have hBe : (rawM (mL p R)).isEmpty = false := by
      have := hraw.out
      cases h : rawM (mL p R) with
      | nil => rw [h, List.length_nil] at this; omega
      | cons => rfl
    have hBl := Lib.hid hraw.out
    clear hM
    go_enter Tryd.func7, Tryd.ntmps7
    go_wp2_with fail
    refine c1.out.mono ?_
    rintro e w1 ⟨rfl, hb⟩
    have hbW := Lib.hid (bel hb (box4_below w1 OR (.cells #[tx R] 9) (.cells #[.int .i64 (4294967294 + (p : Int))] 3) (mO 7 (.slice (some ⟨w1.heap.size + 1, 0, none⟩) 1 1) (.slice (some ⟨w1.heap.size + 1 + 1, 0, none⟩) 1 1) 0)))
    obtain ⟨hRd, hHd⟩ := limits_mem w1 OR R p (by have := hRl.out; unfold maxLen; omega)
    replace hRd := Lib.hid hRd
    replace hHd := Lib.hid hHd
    clear c1 hb
    go_wp2_with fail
    refine (bytesM_any (hK.out _ hbW.out) hRd.out).mono ?_
    rintro e w2 ⟨rfl, hb2⟩
    replace hRd := Lib.hid (hRd.out.below hb2)
    replace hHd := Lib.hid (hHd.out.step hb2)
    replace hbW := Lib.hid (bel hbW.out hb2)
    rw [hB]
    clear hb2
    have q0 := hHd.out.c0
    have q1 := hHd.out.c1
    have q2 := hHd.out.c2
    have q3 := hHd.out.c3
    have cI := Lib.hid (is_any (hK.out _ hbW.out) hRd.out)
    rw [hI.out] at cI
    go_wp2_with fail
    refine cI.out.mono ?_
    rintro e w3 ⟨rfl, hb3⟩
    replace hRd := Lib.hid (hRd.out.below hb3)
    replace hHd := Lib.hid (hHd.out.step hb3)
    replace hbW := Lib.hid (bel hbW.out hb3)
    clear hb3 cI q0 q1 q2 q3
    go_wp2_with fail
    refine (read_b hread (by have := hraw.out; omega) w3 (hK.out _ hbW.out)).mono ?_
    rintro e w4 ⟨sx, cx, nx, dx, rfl, hx, hb4⟩
    have hX := Lib.hid (MdHeld.start w4 (mL p R).kind (.slice sx (mL p R).S.length cx) (.slice nx (mL p R).N.length dx) (mL p R).bits)
    have hnew := new_below w4 (mO (mL p R).kind (.slice sx (mL p R).S.length cx) (.slice nx (mL p R).N.length dx) (mL p R).bits)
    replace hb4 := bel hb4 hnew
    replace hx := Lib.hid (hx.below hnew)
    replace hRd := Lib.hid (hRd.out.below hb4)
    replace hHd := Lib.hid (hHd.out.step hb4)
    replace hbW := Lib.hid (bel hbW.out hb4)
    clear hnew hb4
    have q0 := hHd.out.c0
    have q1 := hHd.out.c1
    have q2 := hHd.out.c2
    have q3 := hHd.out.c3
    have p0 := hX.out.c0
    have p1 := hX.out.c1
    have p2 := hX.out.c2
    have p3 := hX.out.c3
    have cS := Lib.hid (same_any hx.out hRd.out)
    rw [sameM_self] at cS
    go_wp2_with fail
    refine cS.out.mono ?_
    rintro e w5 ⟨rfl, hb5⟩
    replace hbW := Lib.hid (bel hbW.out hb5)
    clear hb5 cS q0 q1 q2 q3 p0 p1 p2 p3
    go_wp2_with fail
    go_ret
    exact ⟨ret_bool (by have := hBl.out; simp; omega), hbW.out⟩
  · rw [decide_eq_false hok] at hI
    have hB : bytesM (mL p R) = [] := bytesM_none hI.out
    by_cases o1 : p ≤ 1
    · have o2 : ¬ q ≤ 1 := fun h => hok ⟨o1, h⟩
      have o1' : (p : Int) ≤ 1 := by omega
      have o2' : ¬ (q : Int) ≤ 1 := by omega
      have o3 : decide (254 + (q : Int) ≤ 255) = false := decide_eq_false (by omega)
      clear hok
      go_enter Tryd.func7, Tryd.ntmps7
      go_wp2_with fail
      refine c1.out.mono ?_
      rintro e w1 ⟨rfl, hb⟩
      have hbW := Lib.hid (bel hb (box4_below w1 OR (.cells #[tx R] 9) (.cells #[.int .i64 (4294967294 + (p : Int))] 3) (mO 7 (.slice (some ⟨w1.heap.size + 1, 0, none⟩) 1 1) (.slice (some ⟨w1.heap.size + 1 + 1, 0, none⟩) 1 1) 0)))
      obtain ⟨hRd, hHd⟩ := limits_mem w1 OR R p (by have := hRl.out; unfold maxLen; omega)
      replace hRd := Lib.hid hRd
      replace hHd := Lib.hid hHd
      clear c1 hb
      go_wp2_with fail
      refine (bytesM_any (hK.out _ hbW.out) hRd.out).mono ?_
      rintro e w2 ⟨rfl, hb2⟩
      replace hRd := Lib.hid (hRd.out.below hb2)
      replace hHd := Lib.hid (hHd.out.step hb2)
      replace hbW := Lib.hid (bel hbW.out hb2)
      rw [hB]
      clear hb2
      have q0 := hHd.out.c0
      have q1 := hHd.out.c1
      have q2 := hHd.out.c2
      have q3 := hHd.out.c3
      have cI := Lib.hid (is_any (hK.out _ hbW.out) hRd.out)
      rw [hI.out] at cI
      go_wp2_with fail
      refine cI.out.mono ?_
      rintro e w3 ⟨rfl, hb3⟩
      replace hRd := Lib.hid (hRd.out.below hb3)
      replace hHd := Lib.hid (hHd.out.step hb3)
      replace hbW := Lib.hid (bel hbW.out hb3)
      clear hb3 cI q0 q1 q2 q3
      go_wp2_with fail
      go_ret
      exact ⟨rfl, hbW.out⟩
    · have o1' : ¬ (p : Int) ≤ 1 := by omega
      clear hok
      go_enter Tryd.func7, Tryd.ntmps7
      go_wp2_with fail
      refine c1.out.mono ?_
      rintro e w1 ⟨rfl, hb⟩
      have hbW := Lib.hid (bel hb (box4_below w1 OR (.cells #[tx R] 9) (.cells #[.int .i64 (4294967294 + (p : Int))] 3) (mO 7 (.slice (some ⟨w1.heap.size + 1, 0, none⟩) 1 1) (.slice (some ⟨w1.heap.size + 1 + 1, 0, none⟩) 1 1) 0)))
      obtain ⟨hRd, hHd⟩ := limits_mem w1 OR R p (by have := hRl.out; unfold maxLen; omega)
      replace hRd := Lib.hid hRd
      replace hHd := Lib.hid hHd
      clear c1 hb
      go_wp2_with fail
      refine (bytesM_any (hK.out _ hbW.out) hRd.out).mono ?_
      rintro e w2 ⟨rfl, hb2⟩
      replace hRd := Lib.hid (hRd.out.below hb2)
      replace hHd := Lib.hid (hHd.out.step hb2)
      replace hbW := Lib.hid (bel hbW.out hb2)
      rw [hB]
      clear hb2
      have q0 := hHd.out.c0
      have q1 := hHd.out.c1
      have q2 := hHd.out.c2
      have q3 := hHd.out.c3
      have cI := Lib.hid (is_any (hK.out _ hbW.out) hRd.out)
      rw [hI.out] at cI
      go_wp2_with fail
      refine cI.out.mono ?_
      rintro e w3 ⟨rfl, hb3⟩
      replace hRd := Lib.hid (hRd.out.below hb3)
      replace hHd := Lib.hid (hHd.out.step hb3)
      replace hbW := Lib.hid (bel hbW.out hb3)
      clear hb3 cI q0 q1 q2 q3
      go_wp2_with fail
      go_ret
      exact ⟨rfl, hbW.out⟩

theorem limits8_row {n l : Int} {w : World} (hT : Kinds w.heap.size w) (r0 : Read Tryd.prog w 5 [.int .u8 n]) (r1 : Read Tryd.prog w 39 [.int .u16 l]) :
    Calls Tryd.prog 7 #[.int .u8 n, .int .u16 l] w fun e w' => e = .returned (.bool true) ∧ Below w.heap.size w w' := by
  obtain ⟨x, hx, wf⟩ := r0.int (by kernel_rfl : Tryd.prog.underlying 5 = some (.int .u8))
  obtain ⟨y, hy, wf2⟩ := r1.int (by kernel_rfl : Tryd.prog.underlying 39 = some (.int .u16))
  simp only [List.cons.injEq, Value.int.injEq, true_and, and_true] at hx hy
  subst hx hy
  obtain ⟨h1, h2⟩ := bounds_u8 wf
  obtain ⟨h3, h4⟩ := bounds_u16 wf2
  obtain ⟨n, rfl⟩ := Int.eq_ofNat_of_zero_le h1
  obtain ⟨l, rfl⟩ := Int.eq_ofNat_of_zero_le h3
  exact limits8_nat (by omega) (by omega) hT
end Go.Proofs.YtipinglchpmgaaaDoor
