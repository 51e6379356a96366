/- PatternNames. -/
import Derived.Test.YtpplpcpdoghifaaPtH
namespace Go.Proofs.Ytpplpcpdoghifaa
open Go.RowKit
set_option linter.unusedVariables false

theorem nm_ns (k : Nat) : isNm (List.replicate (k + 1) 110) = decide (k ≤ 11) := by
  have h : (List.replicate (k + 1) (110 : UInt8)).all inNm = true := by
    rw [List.all_eq_true]
    intro x hx
    rw [List.eq_of_mem_replicate hx]
    rfl
  rw [isNm, h, List.length_replicate, decide_eq_true (show 1 ≤ k + 1 by omega), Bool.true_and, Bool.and_true]
  exact decide_eq_decide.2 (by omega)
theorem nm_set {k j : Nat} (hj : j ≤ k) (c : UInt8) : isNm ((List.replicate (k + 1) 110).set j c) = (inNm c && decide (k ≤ 11)) := by
  have h : ((List.replicate (k + 1) (110 : UInt8)).set j c).all inNm = inNm c := by
    cases hc : inNm c with
    | true =>
      rw [List.all_eq_true]
      intro x hx
      rcases List.mem_or_eq_of_mem_set hx with hx | rfl
      · rw [List.eq_of_mem_replicate hx]
        rfl
      · exact hc
    | false =>
      apply Bool.eq_false_iff.2
      intro ha
      rw [List.all_eq_true] at ha
      rw [ha c (List.mem_iff_getElem?.2 ⟨j, by rw [List.getElem?_set_self (by simpa using (show j < k + 1 by omega))]⟩)] at hc
      cases hc
  rw [isNm, h, List.length_set, List.length_replicate, decide_eq_true (show 1 ≤ k + 1 by omega), Bool.true_and, Bool.and_comm]
  congr 1
  exact decide_eq_decide.2 (by omega)

/-- A row of bytes of one's own. -/
def RowAt (w wr : World) (b : Nat) (L : List UInt8) : Prop := St w.heap.size w wr [(b, rowOf L)]
section
variable {w wr : World} {b : Nat} {L : List UInt8}
theorem RowAt.cell (h : RowAt w wr b L) {i : Nat} {c : UInt8} (hi : L[i]? = some c) : wr.cell? ⟨b, i, none⟩ = some (.int .u8 c.toNat) := St.cell (b := b) h List.mem_cons_self (by simp [Lib.byteCells, hi])
theorem RowAt.soft (h : RowAt w wr b L) (i : Nat) : wr.frozen? ⟨b, i, none⟩ = false := St.soft (b := b) h List.mem_cons_self i
theorem RowAt.set (h : RowAt w wr b L) (i : Nat) (c : UInt8) : RowAt w (wr.setCell ⟨b, i, none⟩ (.int .u8 c.toNat)) b (L.set i c) := by
  have := St.set0 h i (.int .u8 c.toNat)
  unfold RowAt rowOf
  unfold Lib.byteCells at this ⊢
  rw [List.map_set, ← List.setIfInBounds_toArray]
  exact this
theorem RowAt.conv (h : RowAt w wr b L) {n : Nat} (hn : L.length = n) (cap : Nat) : (convert 31 9 (.slice (some ⟨b, 0, none⟩) n cap)).run Try.prog wr = .ok (tx L) wr :=
  run_conv_bytes hn fun i c hi => by
    rw [Nat.zero_add]
    exact h.cell hi
theorem RowAt.grow {w' : World} (h : RowAt w wr b L) (hb : Below wr.heap.size wr w') : RowAt w w' b L := St.grow h hb
end

set_option maxHeartbeats 8000000 in
set_option maxRecDepth 100000 in
theorem names_nat {n at_ : Nat} {c : UInt8} (hn : n ≤ 255) (ha : at_ ≤ 255) (w : World) :
    Calls Try.prog 5 #[.int .u8 n, .int .u8 at_, .int .u8 c.toNat] w fun e w' => e = .returned (.bool true) ∧ Below w.heap.size w w' := by
  have c1 := Lib.hid (known10_true w)
  have hm : (n : Int) % 16 = ((n % 16 : Nat) : Int) := by omega
  have hm16 : n % 16 < 16 := by omega
  have hq : (n : Int) % 50 = ((n % 50 : Nat) : Int) := by omega
  have hq50 : n % 50 < 50 := by omega
  generalize n % 16 = m at *
  generalize n % 50 = q at *
  have hj : (at_ : Int) % ((m : Int) + 1) = ((at_ % (m + 1) : Nat) : Int) := by simp
  have hjm : at_ % (m + 1) ≤ m := by have := Nat.mod_lt at_ (show 0 < m + 1 by omega); omega
  generalize at_ % (m + 1) = j at *
  have hm0 : (0 : Int) ≤ m := by omega
  have hm1 : (m : Int) < 16 := by omega
  have hq0 : (0 : Int) ≤ q := by omega
  have hq1 : (q : Int) < 50 := by omega
  have hj0 : (0 : Int) ≤ j := by omega
  have hj1 : (j : Int) ≤ m := by omega
  have ha0 : (0 : Int) ≤ at_ := by omega
  have mk : ∀ W : World, (Instr.makeSlice 31 (.int .i64 ((m : Int) + 1)) (.int .i64 ((m : Int) + 1))).run Try.prog W = .ok (.slice (some ⟨W.heap.size, 0, none⟩) (m + 1) (m + 1)) (W.alloc (rowOf (List.replicate (m + 1) 0))) := fun W => by
    have := mk_row W (m + 1) (by omega)
    rwa [show ((m + 1 : Nat) : Int) = (m : Int) + 1 by omega] at this
  have mk2 : ∀ W : World, (Instr.makeSlice 31 (.int .i64 (q : Int)) (.int .i64 (q : Int))).run Try.prog W = .ok (.slice (some ⟨W.heap.size, 0, none⟩) q q) (W.alloc (rowOf (List.replicate q 0))) := fun W => mk_row W q (by omega)
  have cv2 := fun W : World => zeros_conv W q
  go_enter Try.func5, Try.ntmps5
  go_wp2_with fail
  refine c1.out.mono ?_
  rintro e w1 ⟨rfl, hb⟩
  replace hb := Lib.hid hb
  have h0 : RowAt w1 (w1.alloc (rowOf (List.replicate (m + 1) 0))) w1.heap.size (List.replicate 0 110 ++ List.replicate (m + 1 - 0) 0) := (St.start w1).alloc _
  replace h0 := Lib.hid h0
  clear c1
  go_wp2_with fail
  generalize w1.heap.size = b at *
  generalize w1.alloc (rowOf (List.replicate (m + 1) 0)) = w2 at *
  go_loopg [9] (m + 1) (fun g v9 wr => ∃ i : Nat, v9 = .int .i64 i ∧ i + g = m + 1 ∧ Hid (RowAt w1 wr b (List.replicate i 110 ++ List.replicate (m + 1 - i) 0)))
  case atStart => exact ⟨0, rfl, by omega, h0⟩
  case round =>
    clear h0
    obtain ⟨i, rfl, hi, hR⟩ := hrel
    have hi0 : (0 : Int) ≤ i := by omega
    by_cases hlt : i < m + 1
    · have hi1 : (i : Int) < (m : Int) + 1 := by omega
      have hsf := hR.out.soft i
      have hcl := hR.out.cell (i := i) (c := 0) (by
        rw [List.getElem?_append_right (by simp), List.length_replicate, Nat.sub_self, List.getElem?_replicate, if_pos (by omega)])
      have hR2 := hR.out.set i 110
      have e : (List.replicate i (110 : UInt8) ++ List.replicate (m + 1 - i) 0).set i 110 = List.replicate (i + 1) 110 ++ List.replicate (m + 1 - (i + 1)) 0 := by
        rw [show m + 1 - i = (m + 1 - (i + 1)) + 1 by omega, List.replicate_succ, List.set_append_right _ _ (by simp), List.length_replicate, Nat.sub_self, List.set_cons_zero, List.replicate_succ', List.append_assoc]
        rfl
      rw [e] at hR2
      replace hR2 := Lib.hid hR2
      clear hR e
      go_wp2_with fail
      go_roundg (m + 1 - (i + 1))
      case measure => omega
      case rel => exact ⟨i + 1, by go_num, by omega, hR2⟩
    · obtain rfl : i = m + 1 := by omega
      have hR1 : RowAt w1 wr b (List.replicate (m + 1) 110) := by
        have := hR.out
        rwa [Nat.sub_self, List.replicate_zero, List.append_nil] at this
      have hcv := hR1.conv (n := m + 1) (by simp) (m + 1)
      have hsf := hR1.soft j
      have hcl := hR1.cell (i := j) (c := 110) (by rw [List.getElem?_replicate, if_pos (by omega)])
      have hR2 := hR1.set j c
      have hcv2 := hR2.conv (n := m + 1) (by simp) (m + 1)
      have a1 := Lib.hid (isname_is (nm_ns m) wr)
      have a2 := Lib.hid (isname_is (nm_set hjm c))
      have a3 := Lib.hid (iskey_any (List.replicate q 0))
      rw [List.length_replicate] at a3
      have hb2 := Lib.hid (bel hb.out (St.below hR2))
      have hif := inNm_iff c
      clear hR hR1 hR2
      generalize List.replicate (m + 1) (110 : UInt8) = L at *
      generalize L.set j c = L2 at *
      have hcv3 := cv2 (wr.setCell ⟨b, j, none⟩ (.int .u8 c.toNat))
      rw [World.size_setCell] at hcv3
      replace hb2 := Lib.hid (bel hb2.out (new_below _ (rowOf (List.replicate q 0))))
      generalize List.replicate q (0 : UInt8) = Z at *
      have hint : ((c.toNat : Int) < 45 ∨ (45 < (c.toNat : Int) ∧ (c.toNat : Int) < 48) ∨ (57 < (c.toNat : Int) ∧ (c.toNat : Int) < 65) ∨ (90 < (c.toNat : Int) ∧ (c.toNat : Int) < 97) ∨ 122 < (c.toNat : Int)) ∨
          ((45 ≤ (c.toNat : Int) ∧ (c.toNat : Int) ≤ 45) ∨ (48 ≤ (c.toNat : Int) ∧ (c.toNat : Int) ≤ 57) ∨ (65 ≤ (c.toNat : Int) ∧ (c.toNat : Int) ≤ 90) ∨ (97 ≤ (c.toNat : Int) ∧ (c.toNat : Int) ≤ 122)) := by omega
      rcases hint with h | h
      · have hf : inNm c = false := by
          cases hb : inNm c with
          | false => rfl
          | true =>
            have := hif.1 hb
            omega
        have hne : (((c.toNat : Nat) : Int) == 45) = false := by
          rw [beq_eq_false_iff_ne]
          omega
        rw [hf] at a2
        clear hif hf
        rcases h with h | ⟨h, h'⟩ | ⟨h, h'⟩ | ⟨h, h'⟩ | h
        all_goals
          go_wp2_with fail
          refine a1.out.mono ?_
          rintro e w3 ⟨rfl, rfl⟩
          go_wp2_with fail
          refine (a2.out _).mono ?_
          rintro e w4 ⟨rfl, rfl⟩
          go_wp2_with fail
          refine (a3.out _).mono ?_
          rintro e w5 ⟨rfl, rfl⟩
          go_wp2_with fail
          go_ret
          exact ⟨ret_bool (by simp; omega), hb2.out⟩
      · have hf := hif.2 (by omega)
        rw [hf] at a2
        clear hif hf
        rcases h with ⟨h, h'⟩ | ⟨h, h'⟩ | ⟨h, h'⟩ | ⟨h, h'⟩
        · have hne : (((c.toNat : Nat) : Int) == 45) = true := by
            rw [beq_iff_eq]
            omega
          go_wp2_with fail
          refine a1.out.mono ?_
          rintro e w3 ⟨rfl, rfl⟩
          go_wp2_with fail
          refine (a2.out _).mono ?_
          rintro e w4 ⟨rfl, rfl⟩
          go_wp2_with fail
          refine (a3.out _).mono ?_
          rintro e w5 ⟨rfl, rfl⟩
          go_wp2_with fail
          go_ret
          exact ⟨ret_bool (by simp; omega), hb2.out⟩
        all_goals
          go_wp2_with fail
          refine a1.out.mono ?_
          rintro e w3 ⟨rfl, rfl⟩
          go_wp2_with fail
          refine (a2.out _).mono ?_
          rintro e w4 ⟨rfl, rfl⟩
          go_wp2_with fail
          refine (a3.out _).mono ?_
          rintro e w5 ⟨rfl, rfl⟩
          go_wp2_with fail
          go_ret
          exact ⟨ret_bool (by simp; omega), hb2.out⟩

theorem names10_row {a b c : Int} {w : World} (r0 : Read Try.prog w 5 [.int .u8 a]) (r1 : Read Try.prog w 5 [.int .u8 b]) (r2 : Read Try.prog w 5 [.int .u8 c]) :
    Calls Try.prog 5 #[.int .u8 a, .int .u8 b, .int .u8 c] w fun e w' => e = .returned (.bool true) ∧ Below w.heap.size w w' := by
  obtain ⟨x, hx, wf⟩ := r0.int (by kernel_rfl : Try.prog.underlying 5 = some (.int .u8))
  obtain ⟨y, hy, wf2⟩ := r1.int (by kernel_rfl : Try.prog.underlying 5 = some (.int .u8))
  obtain ⟨z, hz, wf3⟩ := r2.int (by kernel_rfl : Try.prog.underlying 5 = some (.int .u8))
  simp only [List.cons.injEq, Value.int.injEq, true_and, and_true] at hx hy hz
  subst hx hy hz
  obtain ⟨h1, h2⟩ := bounds_u8 wf
  obtain ⟨h3, h4⟩ := bounds_u8 wf2
  obtain ⟨h5, h6⟩ := bounds_u8 wf3
  obtain ⟨a, rfl⟩ := Int.eq_ofNat_of_zero_le h1
  obtain ⟨b, rfl⟩ := Int.eq_ofNat_of_zero_le h3
  obtain ⟨c, rfl⟩ := Int.eq_ofNat_of_zero_le h5
  have e : (UInt8.ofNat c).toNat = c := by
    rw [UInt8.toNat_ofNat']
    omega
  have := names_nat (n := a) (at_ := b) (c := UInt8.ofNat c) (by omega) (by omega) w
  rwa [e] at this
end Go.Proofs.Ytpplpcpdoghifaa
