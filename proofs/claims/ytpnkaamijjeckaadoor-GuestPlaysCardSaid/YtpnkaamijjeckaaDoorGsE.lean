/- Guests: one taken out of a row in place; room given back. -/
import Derived.Test.YtpnkaamijjeckaaDoorGsD
import Derived.StillTailTactics
namespace Go.Proofs.YtpnkaamijjeckaaDoor
open Go.RowKit
set_option linter.unusedVariables false
set_option linter.unusedSectionVars false
set_option maxRecDepth 100000

theorem infG : ∃ i z, Tryd.prog.info? 31 = some i ∧ i.zero = some z ∧ i.size = 6 ∧ i.bytes = 48 ∧ z.cells.size = 6 := apG.info
theorem zeroG (w : World) : (zeroValue 31).run Tryd.prog w = .ok (gsV z0G) w := by kernel_rfl
section
variable {B : Nat} {w0 w w' : World} {gb b c T k g off n cap i j : Nat} {M L : List Gst} {a : Option Addr} {v : Value} {S R F F' X : List (Nat × Obj)} {x y : Gst}
theorem gcut3 (h1 : i ≤ j) (h2 : j ≤ n) (h3 : n ≤ cap) (h4 : i < n) : ∀ w, (Instr.slice 27 (.slice (some ⟨g, off, none⟩) n cap) (some (.int .i64 i)) (some (.int .i64 j)) (some (.int .i64 n))).run Tryd.prog w = .ok (.slice (some ⟨g, off + i * 6, none⟩) (j - i) (n - i)) w := by
  obtain ⟨i0, z, hi, hz0, hz1, hz2, -⟩ := infG
  intro w
  have e3 : ¬ n = i := by omega
  simp [Instr.slice, run_underlying uGuestR, Instr.sliceBounds, Instr.sliceBound, asIntOf, h1, h2, h3, e3, sizeOf, typeInfo, hi, hz1, Go.WideShapes.add_plain]
theorem gcut_to (h1 : i ≤ cap) : ∀ w, (Instr.slice 27 (.slice (some ⟨g, off, none⟩) n cap) none (some (.int .i64 i)) none).run Tryd.prog w = .ok (.slice (some ⟨g, off, none⟩) i cap) w := by
  obtain ⟨i0, z, hi, hz0, hz1, hz2, -⟩ := infG
  intro w
  simp [Instr.slice, run_underlying uGuestR, Instr.sliceBounds, Instr.sliceBound, asIntOf, h1, sizeOf, typeInfo, hi, Go.WideShapes.add_plain]
theorem gcut_from (h1 : j ≤ n) (h2 : n ≤ cap) : ∃ o, (j < n → o = off + j * 6) ∧ ∀ w, (Instr.slice 27 (.slice (some ⟨g, off, none⟩) n cap) (some (.int .i64 j)) none none).run Tryd.prog w = .ok (.slice (some ⟨g, o, none⟩) (n - j) (cap - j)) w := by
  obtain ⟨i0, z, hi, hz0, hz1, hz2, -⟩ := infG
  by_cases h : cap = j
  · exact ⟨off, fun _ => by omega, fun w => by simp [Instr.slice, run_underlying uGuestR, Instr.sliceBounds, Instr.sliceBound, asIntOf, h1, h, sizeOf, typeInfo, hi]⟩
  · exact ⟨off + j * 6, fun _ => rfl, fun w => by simp [Instr.slice, run_underlying uGuestR, Instr.sliceBounds, Instr.sliceBound, asIntOf, h1, h, sizeOf, typeInfo, hi, hz1, Go.WideShapes.add_plain]⟩
theorem gcut_one (h1 : i < cap) (h2 : j = i + 1) : ∀ w, (Instr.slice 27 (.slice (some ⟨g, off, none⟩) i cap) (some (.int .i64 i)) (some (.int .i64 j)) none).run Tryd.prog w = .ok (.slice (some ⟨g, off + i * 6, none⟩) 1 (cap - i)) w := by
  obtain ⟨i0, z, hi, hz0, hz1, hz2, -⟩ := infG
  intro w
  have e1 : j ≤ cap := by omega
  have e2 : i ≤ j := by omega
  have e3 : ¬ cap = i := by omega
  have e4 : j - i = 1 := by omega
  simp [Instr.slice, run_underlying uGuestR, Instr.sliceBounds, Instr.sliceBound, asIntOf, e1, e2, e3, e4, sizeOf, typeInfo, hi, hz1, Go.WideShapes.add_plain]
theorem zeroG_one : ∀ u ∈ (gsV z0G).cells.toList, u.oneCell' = true := gcells_one z0G
theorem erase_sp {L xs : List Value} {a b N m : Nat} (hab : a ≤ b) (hb : b ≤ N) (hm : m + b = a + N) (hl : off + N ≤ L.length) (hx : (L.drop off).take N = xs) {c : List Value} (hc : m + c.length = N) :
    (((splice (splice L (off + a) (xs.drop b)) (off + m) c).drop off).take m) = xs.take a ++ xs.drop b := by
  have hxl : xs.length = N := by rw [← hx, List.length_take, List.length_drop]; omega
  have hdl : (xs.drop b).length = N - b := by rw [List.length_drop, hxl]
  have hl1 : (splice L (off + a) (xs.drop b)).length = L.length := length_splice _ _ _ (by omega)
  rw [drop_splice_ahead (by omega) (by omega), Nat.add_sub_cancel_left, take_splice (by omega) (by simp only [List.length_drop]; omega), drop_splice_ahead (by omega) (by omega), Nat.add_sub_cancel_left,
    show m = a + (xs.drop b).length by omega, splice1 (by simp only [List.length_drop] at hxl ⊢; omega), ← hx, List.take_take, Nat.min_eq_left (by omega)]

def CutGR (B : Nat) (w0 : World) (X : List (Nat × Obj)) (L : List Gst) (e : Ending) (w' : World) : Prop := ∃ a c S', e = .returned (.slice a L.length c) ∧ GssIs (.slice a L.length c) L S' ∧ St B w0 w' (X ++ S')
set_option maxHeartbeats 2000000 in
theorem gdelete_any (hs : GssIs v M R) (hst : St B w0 w (X ++ R)) (hi : i < M.length) (hn : M.length ≤ 100000) :
    Calls Tryd.prog 24 #[v, .int .i64 i, .int .i64 ((i : Int) + 1)] w (CutGR B w0 X (M.eraseIdx i)) := by
  obtain ⟨a, cap, rfl, -, -, ha⟩ := SlIs.form hs
  obtain ⟨g, off, rfl⟩ := ha i hi
  obtain ⟨i0, z0, hi0, hz0, hz1, hz2, hz3⟩ := infG
  have hs1 := hs
  obtain ⟨L, rfl, hnc, hcm, hLl, hLx⟩ := SlIs.block hs
  have hxl := gssV_len M
  obtain ⟨n, hnM⟩ : ∃ n, n = M.length := ⟨_, rfl⟩
  obtain ⟨j, hj⟩ : ∃ j, j = i + 1 := ⟨_, rfl⟩
  have hji : ((i : Int) + 1) = (j : Int) := by omega
  have r1 := gcut3 (g := g) (off := off) (n := n) (cap := cap) (i := i) (j := j) (by omega) (by omega) (by omega) (by omega)
  have r2 := gcut_to (g := g) (off := off) (n := n) (cap := cap) (i := i) (by omega)
  obtain ⟨o2, ho2, r3⟩ := gcut_from (g := g) (off := off) (n := n) (cap := cap) (j := j) (by omega) (by omega)
  have hdl : ((gssV M).drop (j * 6)).length = (n - j) * 6 := by rw [List.length_drop, hxl]; omega
  have hcap : n * 6 ≤ cap * 6 := Nat.mul_le_mul_right _ (by omega)
  have hrd : Reads w.drew (.slice (some ⟨g, o2, none⟩) (n - j) (cap - j)) (n - j) 6 ((gssV M).drop (j * 6)) := by
    refine ⟨hdl, .inr ⟨_, _, rfl, fun k u hk => ?_⟩⟩
    have hk' := (List.getElem?_eq_some_iff.1 hk).1
    rw [Go.WideShapes.add_plain, ho2 (by omega), Nat.add_assoc]
    rw [List.getElem?_drop] at hk
    exact SlIs.cellAt hs1 hst.drew hk
  obtain ⟨W1, hr1, hst1⟩ := run_append_room_st (P := Tryd.prog) (w := w.drew) (off := off) (sLen := i) (sCap := cap) 27 0 31 i0 uGuestR hi0 hz1 hst.drew hrd (fun u hu => gssV_one M u (List.mem_of_mem_drop hu)) (by omega) (by rw [hdl]; omega)
  obtain ⟨m, hm⟩ : ∃ m, m = n - 1 := ⟨_, rfl⟩
  rw [show i + (n - j) = m by omega] at hr1
  have r4 := gcut_one (g := g) (off := off) (cap := cap) (i := m) (j := n) (by omega) (by omega)
  obtain ⟨W2, c, hr2, hcl, hst2⟩ := run_clear_st (P := Tryd.prog) (k := 1) (cap := cap - m) (dp := some ⟨g, off + m * 6, none⟩) (off := off + m * 6) 27 0 31 uGuestR zeroG (size := 6) rfl zeroG_one hst1 (fun _ => rfl) (by rw [length_splice _ _ _ (by omega)]; omega)
  have eM : (gssV M).take (i * 6) ++ (gssV M).drop (j * 6) = gssV (M.eraseIdx i) := by rw [gssV_take, gssV_drop, ← gssV_app, List.eraseIdx_eq_take_drop_succ, hj]
  have el : (M.eraseIdx i).length = m := by rw [List.length_eraseIdx, if_pos hi]; omega
  have fin : Hid (CutGR B w0 X (M.eraseIdx i) (.returned (.slice (some ⟨g, off, none⟩) m cap)) W2) := Lib.hid (by
    unfold CutGR
    rw [el]
    refine ⟨_, _, _, rfl, ?_, hst2⟩
    show SlIs _ _ _ (M.eraseIdx i).length _ _
    rw [el]
    refine SlIs.of (by omega) hcm ?_ ?_
    · rw [length_splice _ _ _ (by rw [length_splice _ _ _ (by omega)]; omega), length_splice _ _ _ (by omega)]; omega
    · rw [← eM]
      exact erase_sp (a := i * 6) (b := j * 6) (N := M.length * 6) (m := m * 6) (by omega) (by omega) (by omega) (by omega) hLx (by omega))
  rw [← hnM] at hi hn ⊢
  rw [hji]
  have hz3 : ((i : Int) == (j : Int)) = false := by rw [beq_eq_false_iff_ne]; omega
  clear hs hs1 hst hrd hst1 hst2 hz0 hz1 hz2 hi0 hLx hLl hcm hnc hi hn ho2 hcl hj hm hxl hdl hji ha hcap eM el hnM
  go_enter Tryd.func24, Tryd.ntmps24
  go_wp2_with fail
  go_still_tail 6, (by kernel_rfl)
  change wpList _ _ _ _ _ w.drew
  generalize w.drew = w4 at *
  go_wp2_with (first | refine wpList_append_go rfl (.tmp 22) (.tmp 25) 27 27 rfl _ _ rfl rfl hr1 ?_ | refine wpList_clear_go rfl (.tmp 31) 27 rfl _ rfl hr2 ?_)
  go_ret
  exact fin.out

/-! ### room that isn't needed any more -/
set_option maxHeartbeats 1000000 in
theorem ggive_any (h : GuAt B w0 w gb v M T S F) (hl : M.length ≤ 100000) : Calls Tryd.prog 27 #[gup gb] w fun e w' => e = .returned (.tuple #[]) ∧ ∃ v' S', GuAt B w0 w' gb v' M T S' F := by
  have c0 := h.c0
  have stay := Lib.hid (fun n => (show GuAt B w0 (w.drewN n) gb v M T S F from ⟨h.sl, h.st.drewN n⟩))
  have hp : ∀ S : List (Nat × Obj), (gb, gusO v (seatV (T % 64) (T / 64))) :: (F ++ S) = ((gb, gusO v (seatV (T % 64) (T / 64))) :: F) ++ S := fun S => rfl
  have go := Lib.hid (fun n => gclone_any h.sl (hp S ▸ h.st.drewN n) hl)
  obtain ⟨a, cap, rfl, hc1, hc2, -⟩ := SlIs.form h.sl
  have hcm : (cap : Int) ≤ 9223372036854775807 := by unfold maxLen at hc2; omega
  have hcp : (0 : Int) ≤ cap := by omega
  have hl0 : (0 : Int) ≤ M.length := by omega
  clear h hc1 hc2 hl hp
  by_cases h8 : (8 : Int) < cap
  · by_cases hq : (M.length : Int) ≤ (cap : Int) / 4
    · go_enter Tryd.func27, Tryd.ntmps27
      go_wp2_with fail
      go_quiet (fail)
      go_wp2_with fail
      refine (go.out _).mono ?_
      rintro e w1 ⟨a', cap', S', rfl, h1, h2⟩
      have k0 : w1.frozen? ⟨gb, 0, none⟩ = false := St.soft h2 (b := gb) List.mem_cons_self 0
      have k1 : w1.cell? ⟨gb, 0, none⟩ = some (.slice a M.length cap) := h2.cell (b := gb) (i := 0) List.mem_cons_self rfl
      have h3 : GuAt B w0 (w1.setCell ⟨gb, 0, none⟩ (.slice a' M.length cap')) gb (.slice a' M.length cap') M T S' F := by
        refine ⟨h1, ?_⟩
        have h4 := (h2.sub (H' := (gb, gusO (.slice a M.length cap) (seatV (T % 64) (T / 64))) :: (F ++ S')) (((List.sublist_append_left F S).append (List.Sublist.refl S')).cons_cons _)).set0 0 (.slice a' M.length cap')
        exact h4
      replace h3 := Lib.hid h3
      clear h1 h2 go stay c0
      go_wp2_with fail
      exact bodyPost_end (results_none rfl _ _ _) rfl ⟨rfl, _, _, h3.out⟩
    · have hq' : decide ((M.length : Int) ≤ (cap : Int) / 4) = false := by simpa using hq
      clear hq go
      go_enter Tryd.func27, Tryd.ntmps27
      go_wp2_with fail
      go_quiet (fail)
      go_wp2_with fail
      exact bodyPost_end (results_none rfl _ _ _) rfl ⟨rfl, _, _, stay.out _⟩
  · have h8' : decide ((8 : Int) < cap) = false := by simpa using h8
    clear h8 go
    go_enter Tryd.func27, Tryd.ntmps27
    go_wp2_with fail
    go_quiet (fail)
    go_wp2_with fail
    exact bodyPost_end (results_none rfl _ _ _) rfl ⟨rfl, _, _, stay.out _⟩
end
end Go.Proofs.YtpnkaamijjeckaaDoor
