/- ParcelWrong: what comes out of turn. -/
import Derived.Test.YtaolpcmecfhgnaaPaK
import Derived.Test.YtaolpcmecfhgnaaArgs
namespace Go.Proofs.Ytaolpcmecfhgnaa
open Go.RowKit
open Go.ChangeMaps (setBlock)
set_option linter.unusedVariables false
set_option linter.unusedSectionVars false
set_option linter.unusedSimpArgs false
set_option maxRecDepth 100000

theorem mk_row' (w : World) (n : Nat) {z : Int} (hz : z = n) (hn : n ≤ 140737488351232) :
    (Instr.makeSlice 47 (.int .i64 z) (.int .i64 z)).run Try.prog w = .ok (.slice (some ⟨w.heap.size, 0, none⟩) n n) (w.alloc (rowOf (List.replicate n 0))) := by
  subst hz
  exact mk_row w n hn
section
variable {w : World}
set_option maxHeartbeats 4000000 in
set_option maxHeartbeats 4000000 in
theorem wrong21_walk {wh n : Nat} (hw : wh ≤ 255) (hn : n ≤ 255) : Calls Try.prog 5 #[.int .u8 wh, .int .u8 n] w fun e w' => e = .returned (.bool true) ∧ Below w.heap.size w w' := by
  have c1 := Lib.hid (known21_true w)
  obtain ⟨q, hq⟩ : ∃ q, q = n % 50 := ⟨_, rfl⟩
  obtain ⟨t, ht⟩ : ∃ t, t = wh % 3 := ⟨_, rfl⟩
  have hqi : (n : Int) % 50 = q := by omega
  have hti : (wh : Int) % 3 = t := by omega
  have hq49 : (q : Int) ≤ 49 := by omega
  have hq0 : (0 : Int) ≤ q := by omega
  have ht3 : t = 0 ∨ t = 1 ∨ t = 2 := by omega
  replace ht3 := Lib.hid ht3
  clear hq ht hw hn
  go_enter Try.func5, Try.ntmps5
  go_wp2_with fail
  refine c1.out.mono ?_
  rintro e w1 ⟨rfl, hb⟩
  have c2 : Hid (Calls Try.prog 7 #[] w1 fun r w' => ∃ pb, r = .returned (pptr pb) ∧ PaIs w.heap.size w w' pb z0P []) := Lib.hid ((pa_new ((St.start w).grow hb)).mono fun r w' h => ⟨_, h⟩)
  clear c1 hb
  go_wp2_with fail
  refine c2.out.mono ?_
  rintro e w2 ⟨pb, rfl, h⟩
  have c := pa_begin h [120] [107] 0 (by simp) (by simp)
  rw [show beginP z0P [120] [107] 0 = (0, ⟨1, [120], [107], 0, 0, 0, [], 0⟩) from rfl] at c
  replace c := Lib.hid c
  clear c2 h
  go_wp2_with fail
  refine c.out.mono ?_
  rintro e w3 ⟨rfl, h⟩
  clear c
  have c := pa_head h (by simp) ((q : Int) + 2) 0 0
  rw [show headP ⟨1, [120], [107], 0, 0, 0, [], 0⟩ ((q : Int) + 2) 0 0 = ((false, 0), ⟨2, [120], [107], (q : Int) + 2, 0, 0, [], 0⟩) by
    unfold headP weighP
    rw [if_pos rfl, if_neg (by simp; omega)]] at c
  replace c := Lib.hid c
  clear h
  go_wp2_with fail
  refine c.out.mono ?_
  rintro e w4 ⟨rfl, h⟩
  clear c
  have c := pa_body h [97] (by simp)
  rw [show bodyP ⟨2, [120], [107], (q : Int) + 2, 0, 0, [], 0⟩ [97] = ((false, 0), ⟨2, [120], [107], (q : Int) + 2, 0, 0, [97], 0⟩) by
    unfold bodyP weighP
    rw [if_pos ⟨rfl, by simp; omega⟩, if_neg (by simp; omega)]
    rfl] at c
  replace c := Lib.hid c
  clear h
  go_wp2_with fail
  refine c.out.mono ?_
  rintro e w5 ⟨rfl, h⟩
  clear c
  go_upto_block 0 with fail
  simp only [hti]
  go_cut [11] (fun v11 wx => v11 = .int .i64 505 ∧ Hid (PaIs w.heap.size w wx pb ⟨2, [120], [107], (q : Int) + 2, 0, 0, [97], 0⟩ []))
  case first =>
    rcases ht3.out with e | e | e
    · have e0 : ((t : Int) == 0) = true := by rw [e]; rfl
      clear e
      have c := pa_begin h [121] [] 0 (by simp) (by simp)
      rw [show beginP ⟨2, [120], [107], (q : Int) + 2, 0, 0, [97], 0⟩ [121] [] 0 = (505, ⟨2, [120], [107], (q : Int) + 2, 0, 0, [97], 0⟩) from rfl] at c
      replace c := Lib.hid c
      clear h
      go_wp2_with fail
      refine c.out.mono ?_
      rintro e w6 ⟨rfl, h⟩
      replace h := Lib.hid h
      clear c
      go_wp2_with fail
      go_meet
      case rel => exact ⟨rfl, h⟩
    · have e0 : ((t : Int) == 0) = false := by rw [e]; rfl
      have e1 : ((t : Int) == 1) = true := by rw [e]; rfl
      clear e
      have c := pa_head h (by simp) 1 0 0
      rw [show headP ⟨2, [120], [107], (q : Int) + 2, 0, 0, [97], 0⟩ 1 0 0 = ((false, 505), ⟨2, [120], [107], (q : Int) + 2, 0, 0, [97], 0⟩) from rfl] at c
      replace c := Lib.hid c
      clear h
      go_wp2_with fail
      refine c.out.mono ?_
      rintro e w6 ⟨rfl, h⟩
      replace h := Lib.hid h
      clear c
      go_wp2_with fail
      go_meet
      case rel => exact ⟨rfl, h⟩
    · have e0 : ((t : Int) == 0) = false := by rw [e]; rfl
      have e1 : ((t : Int) == 1) = false := by rw [e]; rfl
      clear e
      have c : Hid (∀ o, Calls Try.prog 12 #[pptr pb, tx (List.replicate (q + 2) 0)] (w5.alloc o) (ComeR w.heap.size w pb ((false, 505), ⟨2, [120], [107], (q : Int) + 2, 0, 0, [97], 0⟩) [])) := Lib.hid fun o => by
        have := pa_body (h.grow (new_below w5 o)) (List.replicate (q + 2) 0) (by simp; omega)
        rwa [show bodyP ⟨2, [120], [107], (q : Int) + 2, 0, 0, [97], 0⟩ (List.replicate (q + 2) 0) = ((false, 505), ⟨2, [120], [107], (q : Int) + 2, 0, 0, [97], 0⟩) by
          unfold bodyP
          rw [if_neg (fun h => by have := h.2; simp at this; omega)]] at this
      have m1 := mk_row' w5 (q + 2) (z := (q : Int) + 2) (by omega) (by omega)
      have m2 := zeros_conv w5 (q + 2)
      clear h
      generalize q + 2 = k at *
      generalize List.replicate k (0 : UInt8) = zs at *
      go_wp2_with fail
      refine (c.out _).mono ?_
      rintro e w6 ⟨rfl, h⟩
      replace h := Lib.hid h
      clear c m1 m2
      go_wp2_with fail
      go_meet
      case rel => exact ⟨rfl, h⟩
  case rest =>
    clear h hti ht3 hqi
    obtain ⟨rfl, h⟩ := hcut
    have c := pa_take h.out
    rw [show takeP ⟨2, [120], [107], (q : Int) + 2, 0, 0, [97], 0⟩ = ((z0E, [], 0), ⟨2, [120], [107], (q : Int) + 2, 0, 0, [97], 0⟩) from rfl] at c
    replace c := Lib.hid c
    clear h
    go_wp2_with fail
    refine c.out.mono ?_
    rintro e w7 ⟨rfl, h⟩
    clear c
    obtain ⟨zs, hzs⟩ : ∃ zs : List UInt8, zs = List.replicate (q + 1) 0 := ⟨_, rfl⟩
    obtain ⟨W, hW⟩ : ∃ W, W = w7.alloc (enO z0E) := ⟨_, rfl⟩
    have hW2 := h.grow (new_below w7 (enO z0E))
    rw [← hW] at hW2
    have c : Hid (∀ o, Calls Try.prog 12 #[pptr pb, tx zs] (W.alloc o) (ComeR w.heap.size w pb ((true, 0), ⟨3, [120], [107], (q : Int) + 2, 0, 0, 97 :: zs, 0⟩) [])) := Lib.hid fun o => by
      have := pa_body (hW2.grow (new_below W o)) zs (by rw [hzs]; simp; omega)
      rwa [show bodyP ⟨2, [120], [107], (q : Int) + 2, 0, 0, [97], 0⟩ zs = ((true, 0), ⟨3, [120], [107], (q : Int) + 2, 0, 0, 97 :: zs, 0⟩) by
        unfold bodyP weighP
        rw [if_pos ⟨rfl, by rw [hzs]; simp; omega⟩, if_pos (by rw [hzs]; simp; omega)]
        rfl] at this
    have m1 := mk_row' W (q + 1) (z := (q : Int) + 2 - 1) (by omega) (by omega)
    have m2 := zeros_conv W (q + 1)
    rw [← hzs] at m1 m2
    have hzl : Hid ((zs.length : Int) + 1 = (q : Int) + 2) := Lib.hid (by rw [hzs]; simp; omega)
    clear h hW2 hzs
    generalize q + 1 = k at *
    have hW3 := Lib.hid hW
    clear hW
    go_upto_region 21 with fail
    rw [← hW3.out]
    clear hW3
    have hl0 : ((zs.length : Int) + 1 == (q : Int) + 2) = true := beq_iff_eq.2 hzl.out
    go_wp2_with fail
    refine (c.out _).mono ?_
    rintro e w8 ⟨rfl, h⟩
    clear c m1 m2 hzl
    have c := pa_take h
    rw [show takeP ⟨3, [120], [107], (q : Int) + 2, 0, 0, 97 :: zs, 0⟩ = ((⟨0, 0, (q : Int) + 2, [120], [107], 0, 0, 0, false, 0⟩, 97 :: zs, 0), z0P) from rfl] at c
    replace c := Lib.hid c
    clear h
    go_wp2_with fail
    refine c.out.mono ?_
    rintro e w9 ⟨rfl, h⟩
    clear c
    have c : Hid (Calls Try.prog 12 #[pptr pb, tx [122]] (w9.alloc (enO ⟨0, 0, (q : Int) + 2, [120], [107], 0, 0, 0, false, 0⟩)) (ComeR w.heap.size w pb ((false, 505), z0P) [(w9.heap.size, enO ⟨0, 0, (q : Int) + 2, [120], [107], 0, 0, 0, false, 0⟩)])) := by
      have := pa_body (h.alloc (enO ⟨0, 0, (q : Int) + 2, [120], [107], 0, 0, 0, false, 0⟩)) [122] (by simp)
      rw [show bodyP z0P [122] = ((false, 505), z0P) from rfl] at this
      exact Lib.hid this
    clear h
    go_wp2_with fail
    refine c.out.mono ?_
    rintro e w10 ⟨rfl, h⟩
    have fin := Lib.hid h.below
    have k3 : w10.cell? ⟨w9.heap.size, 3, none⟩ = some (tx [120]) := h.cell List.mem_cons_self rfl
    clear c h
    go_wp2_with fail
    go_ret
    exact ⟨rfl, fin.out⟩
end
theorem uU8_21 : Try.prog.underlying 5 = some (.int .u8) := by kernel_rfl
theorem wrong21_row {a b : Int} {w : World} (r0 : Read Try.prog w 5 [.int .u8 a]) (r1 : Read Try.prog w 5 [.int .u8 b]) :
    Calls Try.prog 5 #[.int .u8 a, .int .u8 b] w fun e w' => e = .returned (.bool true) ∧ Below w.heap.size w w' := by
  obtain ⟨y, hy, wf⟩ := r0.int uU8_21
  obtain ⟨z, hz, wz⟩ := r1.int uU8_21
  simp only [List.cons.injEq, Value.int.injEq, true_and, and_true] at hy hz
  subst hy hz
  obtain ⟨h1, h2⟩ := bounds_u8 wf
  obtain ⟨h3, h4⟩ := bounds_u8 wz
  obtain ⟨m, rfl⟩ := Int.eq_ofNat_of_zero_le h1
  obtain ⟨n, rfl⟩ := Int.eq_ofNat_of_zero_le h3
  exact wrong21_walk (by omega) (by omega)
end Go.Proofs.Ytaolpcmecfhgnaa
