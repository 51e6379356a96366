/- slices.Replace in place, and what slices.Replace does at all. -/
import Derived.Test.YtdkchcbmhmlhnaaRgsK
namespace Go.Proofs.Ytdkchcbmhmlhnaa
open Go.RowKit
set_option linter.unusedVariables false

section
variable {B : Nat} {w0 w : World} {F S Sx A : List (Nat × Obj)} {n m g off cap gx ox cx i j : Nat} {ax : Option Addr} {xs news : List Value}

set_option maxHeartbeats 4000000 in
set_option maxRecDepth 100000 in
/-- No more are laid in than go. -/
theorem replace_less (hs : SlIs 63 2 (.slice (some ⟨g, off, none⟩) n cap) n xs S) (hx : SlIs 63 2 (.slice ax m cx) m news Sx) (hst : St B w0 w ((A ++ Sx) ++ S)) (hij : i < j) (hjn : j < n) (hn : i + m ≤ j) (hnm : n + m ≤ 4000000)
    (h1x : ∀ u ∈ xs, u.oneCell' = true) (h1n : ∀ u ∈ news, u.oneCell' = true) :
    Calls Try.prog 39 #[.slice (some ⟨g, off, none⟩) n cap, .int .i64 i, .int .i64 j, .slice ax m cx] w (EditR B w0 (A ++ Sx) (i + m + (n - j)) (xs.take (i * 2) ++ news ++ xs.drop (j * 2))) := by
  obtain ⟨L, rfl, hnc, hcm, hLl, hLx⟩ := hs.block
  have hxl := hs.len
  have hnl := hx.len
  obtain ⟨q, hq⟩ : ∃ q, q = i + m := ⟨_, rfl⟩
  obtain ⟨t, ht⟩ : ∃ t, t = i + m + (n - j) := ⟨_, rfl⟩
  have hdl : (xs.drop (j * 2)).length = (n - j) * 2 := by rw [List.length_drop, hxl]; omega
  have hmin1 : Nat.min m (t - i) = m := by show min _ _ = _; omega
  have hmin2 : Nat.min (n - j) (t - q) = n - j := by show min _ _ = _; omega
  have hax : news ≠ [] → ∃ ad, ax = some ad := fun h => by
    obtain ⟨a, c, e, _, _, ha⟩ := hx.form
    cases e
    obtain ⟨g', o', e⟩ := ha 0 (by
      rcases Nat.eq_zero_or_pos m with h0 | h0
      · exact absurd (List.eq_nil_of_length_eq_zero (by omega)) h
      · exact h0)
    exact ⟨_, e⟩
  obtain ⟨W1, hc1, hst1⟩ := run_copy_st (P := Try.prog) (w := w.drew) (g := g) (o := off + i * 2) (dLen := t - i) (dCap := cap - i) (sLen := m) (sCap := cx) (dp := some ⟨g, off + i * 2, none⟩) (sp := ax) (cs := news)
    64 64 0 63 uRows szPair hst.drew (by rw [hmin1, hnl]) (fun _ => rfl) hax
    (fun ad j' u had hj => by
      subst had
      obtain ⟨gx', ox', spot⟩ := ad
      obtain ⟨a, c, e, _, _, ha⟩ := hx.form
      cases e
      obtain ⟨g', o', e⟩ := ha 0 (by
        have := (List.getElem?_eq_some_iff.1 hj).1
        omega)
      cases e
      rw [Go.WideShapes.add_plain]
      exact hx.cellAt (hst.drew.perm (H' := (A ++ [(g, .cells L.toArray 63 (0, 0))]) ++ Sx) (by simp only [List.append_assoc]; exact List.perm_append_comm.append_left A)) hj)
    (by omega) h1n
  have hl1 : (splice L (off + i * 2) news).length = L.length := length_splice _ _ _ (by omega)
  obtain ⟨W2, hc2, hst2⟩ := run_copy_st (P := Try.prog) (w := W1.drew) (g := g) (o := off + q * 2) (dLen := t - q) (dCap := cap - q) (sLen := n - j) (sCap := cap - j) (dp := some ⟨g, off + q * 2, none⟩) (sp := some ⟨g, off + j * 2, none⟩) (cs := xs.drop (j * 2))
    64 64 0 63 uRows szPair hst1.drew (by rw [hmin2, hdl]) (fun _ => rfl) (fun _ => ⟨_, rfl⟩)
    (fun ad j' u had hj => by
      cases had
      rw [Go.WideShapes.add_plain]
      refine hst1.drew.cellL ?_
      rw [getElem_splice_out (by omega) (by omega)]
      rw [← hLx, List.drop_take, List.getElem?_take, List.getElem?_drop, List.getElem?_drop] at hj
      split at hj
      · rw [← hj]; congr 1; omega
      · cases hj)
    (by omega) (fun u hu => h1x u (List.mem_of_mem_drop hu))
  have hl2 : (splice (splice L (off + i * 2) news) (off + q * 2) (xs.drop (j * 2))).length = L.length := (length_splice _ _ _ (by omega)).trans hl1
  obtain ⟨o3, ho3, r6⟩ := run_cut_open (g := g) (off := off) (n := n) (cap := cap) t (by omega) hnc
  obtain ⟨W3, c, hr3, hcl, hst3⟩ := run_clear_st (P := Try.prog) (k := n - t) (cap := cap - t) (dp := some ⟨g, o3, none⟩) (off := off + t * 2) 64 0 63 uRows zeroPair (size := 2) rfl oneZero hst2 (fun _ => by rw [ho3 (by omega)]) (by omega)
  rw [hmin1] at hc1
  rw [hmin2] at hc2
  rw [← ht]
  generalize hys : xs.take (i * 2) ++ news ++ xs.drop (j * 2) = ys
  have fin : EditR B w0 (A ++ Sx) t ys (.returned (.slice (some ⟨g, off, none⟩) t cap)) W3 := by
    refine ⟨_, _, rfl, SlIs.of (by omega) hcm ?_ ?_, hst3⟩
    · rw [length_splice _ _ _ (by omega)]; omega
    · rw [← hys, drop_splice_ahead (by omega) (by omega), take_splice (by omega) (by rw [List.length_drop]; omega)]
      have h := edit_low (off := off) (L := L) (p := i * 2) (q := q * 2) (c := news) (d := xs.drop (j * 2)) (by omega) (by omega)
      rw [hdl, show q * 2 + (n - j) * 2 = t * 2 by omega] at h
      rw [h, ← hLx, List.take_take, Nat.min_eq_left (by omega)]
  have r0 := run_cut (g := g) (off := off) (n := n) (cap := cap) i j (by omega) (by omega) (by omega)
  have r1 := run_cut_from (g := g) (off := off) (n := n) (cap := cap) j (by omega) (by omega)
  have r2 := run_cut_to (g := g) (off := off) (n := n) (cap := cap) i (by omega)
  have r3 := run_cut_to (g := g) (off := off) (n := n) (cap := cap) t (by omega)
  have r4 := run_cut_from (g := g) (off := off) (n := t) (cap := cap) i (by omega) (by omega)
  have r5 := run_cut_from (g := g) (off := off) (n := t) (cap := cap) q (by omega) (by omega)
  replace fin := Lib.hid fin
  have hz3 : ((i : Int) == (j : Int)) = false := by rw [beq_eq_false_iff_ne]; omega
  have hz4 : ((j : Int) == (n : Int)) = false := by rw [beq_eq_false_iff_ne]; omega
  have hz5 : decide (cap < t) = false := by simp; omega
  have hz6 : decide ((i : Int) + m ≤ j) = true := by simp; omega
  have hz7 : decide (i + m ≤ j) = true := by simp; omega
  have hi1 : (i : Int) ≤ 4000000 := by omega
  have hi2 : (0 : Int) ≤ i := by omega
  have hm1 : (m : Int) ≤ 4000000 := by omega
  have hm2 : (0 : Int) ≤ m := by omega
  have ht1 : (t : Int) ≤ 12000000 := by omega
  have ht2 : (0 : Int) ≤ t := by omega
  have hw : Hid (IntKind.i64.wrap ((i : Int) + m) = q ∧ IntKind.i64.wrap ((q : Int) + ((n - j : Nat) : Int)) = t) := Lib.hid (by rw [IntWalk.i64_in _ (by omega), IntWalk.i64_in _ (by omega)]; omega)
  have hik : Hid (j ≤ n ∧ i ≤ t ∧ (0 : Int) ≤ q ∧ (q : Int) ≤ t ∧ ¬ cap = q ∧ ¬ cap = i ∧ q ≤ t ∧ ¬ cap = j ∧ i ≤ cap ∧ t ≤ cap) := Lib.hid (by omega)
  clear hst hst1 hst2 hst3 hLx hLl hcm hxl hnl hdl hmin1 hmin2 hnc hs hx h1x h1n hij hjn hnm hn hq ht hys hl1 hl2 hcl ho3 hax
  obtain ⟨e1, e2, e3, e4, e5, e6, e7, e8, e9, e10⟩ := hik.out
  go_enter Try.func39, Try.ntmps39
  go_wp2_with fail
  obtain ⟨hw1, hw2⟩ := hw.out
  go_still_tail 12, (by kernel_rfl)
  change wpList _ _ _ _ _ w.drew
  clear hw1 hw2
  go_wp2_with (refine wpList_copy_go rfl (.tmp 95) (.tmp 96) 64 64 rfl _ _ rfl rfl hc1 ?_)
  have hw1 := hw.out.1
  go_still_tail 9, (by kernel_rfl)
  change wpList _ _ _ _ _ W1.drew
  refine wpList_copy_go rfl (.tmp 103) (.tmp 106) 64 64 rfl _ _ rfl rfl hc2 ?_
  clear hc2 hw1
  go_wp2_with (refine wpList_clear_go rfl (.tmp 110) 64 rfl _ rfl hr3 ?_)
  go_ret
  exact fin.out

set_option maxHeartbeats 4000000 in
set_option maxRecDepth 100000 in
/-- More are laid in than go, and there is room. -/
theorem replace_more (hs : SlIs 63 2 (.slice (some ⟨g, off, none⟩) n cap) n xs S) (hx : SlIs 63 2 (.slice (some ⟨gx, ox, none⟩) m cx) m news Sx) (hst : St B w0 w ((A ++ Sx) ++ S)) (hij : i < j) (hjn : j < n) (hn : j < i + m) (hroom : i + m + (n - j) ≤ cap) (hnm : n + m ≤ 4000000)
    (h1x : ∀ u ∈ xs, u.oneCell' = true) (h1n : ∀ u ∈ news, u.oneCell' = true) :
    Calls Try.prog 39 #[.slice (some ⟨g, off, none⟩) n cap, .int .i64 i, .int .i64 j, .slice (some ⟨gx, ox, none⟩) m cx] w (EditR B w0 (A ++ Sx) (i + m + (n - j)) (xs.take (i * 2) ++ news ++ xs.drop (j * 2))) := by
  obtain ⟨L, rfl, hnc, hcm, hLl, hLx⟩ := hs.block
  obtain ⟨Lx, hSx, hcx1, hcx2, hLxl, -⟩ := hx.block
  have hxl := hs.len
  have hnl := hx.len
  obtain ⟨q, hq⟩ : ∃ q, q = i + m := ⟨_, rfl⟩
  obtain ⟨t, ht⟩ : ∃ t, t = i + m + (n - j) := ⟨_, rfl⟩
  have hdl : (xs.drop (j * 2)).length = (n - j) * 2 := by rw [List.length_drop, hxl]; omega
  have hne : gx ≠ g := by
    rw [hSx] at hst
    exact hst.two
  have ov : ∀ o1 la ca o2 lb cb, (callFunc 46 #[.slice (some ⟨g, o1, none⟩) la ca, .slice (some ⟨gx, o2, none⟩) lb cb]).run Try.prog w.drew = .ok (.value (.bool false)) w.drew :=
    overlaps_no hst.drew (c1 := L.toArray) (T1 := 63) (c2 := Lx.toArray) (T2 := 63) (by simp) (by rw [hSx]; simp) (Ne.symm hne) (by simp; omega)
  have hmin1 : Nat.min m (t - i) = m := by show min _ _ = _; omega
  have hmin2 : Nat.min (n - j) (t - q) = n - j := by show min _ _ = _; omega
  obtain ⟨W1, hc1, hst1⟩ := run_copy_st (P := Try.prog) (w := w.drew.drew) (g := g) (o := off + q * 2) (dLen := t - q) (dCap := cap - q) (sLen := n - j) (sCap := cap - j) (dp := some ⟨g, off + q * 2, none⟩) (sp := some ⟨g, off + j * 2, none⟩) (cs := xs.drop (j * 2))
    64 64 0 63 uRows szPair hst.drew.drew (by rw [hmin2, hdl]) (fun _ => rfl) (fun _ => ⟨_, rfl⟩)
    (fun ad j' u had hj => by
      cases had
      rw [Go.WideShapes.add_plain]
      refine hst.drew.drew.cellL ?_
      rw [← hLx, List.drop_take, List.getElem?_take, List.getElem?_drop, List.getElem?_drop] at hj
      split at hj
      · rw [← hj]; congr 1; omega
      · cases hj)
    (by omega) (fun u hu => h1x u (List.mem_of_mem_drop hu))
  have hl1 : (splice L (off + q * 2) (xs.drop (j * 2))).length = L.length := length_splice _ _ _ (by omega)
  obtain ⟨W2, hc2, hst2⟩ := run_copy_st (P := Try.prog) (w := W1) (g := g) (o := off + i * 2) (dLen := t - i) (dCap := cap - i) (sLen := m) (sCap := cx) (dp := some ⟨g, off + i * 2, none⟩) (sp := some ⟨gx, ox, none⟩) (cs := news)
    64 64 0 63 uRows szPair hst1 (by rw [hmin1, hnl]) (fun _ => rfl) (fun _ => ⟨_, rfl⟩)
    (fun ad j' u had hj => by
      cases had
      rw [Go.WideShapes.add_plain]
      exact hx.cellAt (hst1.perm (H' := (A ++ [(g, .cells (splice L (off + q * 2) (xs.drop (j * 2))).toArray 63 (0, 0))]) ++ Sx) (by simp only [List.append_assoc]; exact List.perm_append_comm.append_left A)) hj)
    (by omega) h1n
  rw [hmin1] at hc2
  rw [hmin2] at hc1
  rw [← ht]
  generalize hys : xs.take (i * 2) ++ news ++ xs.drop (j * 2) = ys
  have fin : EditR B w0 (A ++ Sx) t ys (.returned (.slice (some ⟨g, off, none⟩) t cap)) W2 := by
    refine ⟨_, _, rfl, SlIs.of (by omega) hcm ?_ ?_, hst2⟩
    · rw [length_splice _ _ _ (by omega)]; omega
    · rw [← hys]
      have h := edit_high (off := off) (L := L) (p := i * 2) (q := q * 2) (c := news) (d := xs.drop (j * 2)) (by omega) (by omega)
      rw [hdl, show q * 2 + (n - j) * 2 = t * 2 by omega] at h
      rw [h, ← hLx, List.take_take, Nat.min_eq_left (by omega)]
  have r0 := run_cut (g := g) (off := off) (n := n) (cap := cap) i j (by omega) (by omega) (by omega)
  have r1 := run_cut_from (g := g) (off := off) (n := n) (cap := cap) j (by omega) (by omega)
  have r2 := run_cut_to (g := g) (off := off) (n := n) (cap := cap) i (by omega)
  have r3 := run_cut_to (g := g) (off := off) (n := n) (cap := cap) t (by omega)
  have r4 := run_cut_from (g := g) (off := off) (n := t) (cap := cap) i (by omega) (by omega)
  have r5 := run_cut_from (g := g) (off := off) (n := t) (cap := cap) q (by omega) (by omega)
  have r6 := r5
  rw [show (q : Int) = (i : Int) + m by omega] at r6
  replace fin := Lib.hid fin
  have hz3 : ((i : Int) == (j : Int)) = false := by rw [beq_eq_false_iff_ne]; omega
  have hz4 : ((j : Int) == (n : Int)) = false := by rw [beq_eq_false_iff_ne]; omega
  have hz5 : decide (cap < t) = false := by simp; omega
  have hz6 : decide ((i : Int) + m ≤ j) = false := by simp; omega
  have hz7 : decide (i + m ≤ j) = false := by simp; omega
  have hi1 : (i : Int) ≤ 4000000 := by omega
  have hi2 : (0 : Int) ≤ i := by omega
  have hm1 : (m : Int) ≤ 4000000 := by omega
  have hm2 : (0 : Int) ≤ m := by omega
  have ht1 : (t : Int) ≤ 12000000 := by omega
  have ht2 : (0 : Int) ≤ t := by omega
  have hw : Hid (IntKind.i64.wrap ((i : Int) + m) = q ∧ IntKind.i64.wrap ((q : Int) + ((n - j : Nat) : Int)) = t) := Lib.hid (by rw [IntWalk.i64_in _ (by omega), IntWalk.i64_in _ (by omega)]; omega)
  have hik : Hid (j ≤ n ∧ i ≤ t ∧ (0 : Int) ≤ q ∧ (q : Int) ≤ t ∧ ¬ cap = q ∧ ¬ cap = i ∧ q ≤ t ∧ ¬ cap = j ∧ i ≤ cap ∧ t ≤ cap) := Lib.hid (by omega)
  clear hst hst1 hst2 hLx hLl hcm hxl hnl hdl hmin1 hmin2 hnc hs hx h1x h1n hij hjn hnm hn hq ht hys hl1 hSx hne hcx1 hcx2 hLxl
  obtain ⟨e1, e2, e3, e4, e5, e6, e7, e8, e9, e10⟩ := hik.out
  go_enter Try.func39, Try.ntmps39
  go_wp2_with fail
  obtain ⟨hw1, hw2⟩ := hw.out
  go_still_tail 12, (by kernel_rfl)
  change wpList _ _ _ _ _ w.drew
  clear hw1 hw2
  go_wp2_with (simp only [ov])
  have hw1 := hw.out.1
  clear r6
  go_still_tail 9, (by kernel_rfl)
  change wpList _ _ _ _ _ w.drew.drew
  refine wpList_copy_go rfl (.tmp 126) (.tmp 129) 64 64 rfl _ _ rfl rfl hc1 ?_
  clear hc1 hw1
  go_wp2_with (refine wpList_copy_go rfl (.tmp 133) (.tmp 134) 64 64 rfl _ _ rfl rfl hc2 ?_)
  go_ret
  exact fin.out

set_option maxHeartbeats 1000000 in
set_option maxRecDepth 100000 in
theorem replace_same {s : Value} (hs : SlIs 63 2 s n xs S) (hx : SlIs 63 2 (.slice ax m cx) m news Sx) (hst : St B w0 w ((A ++ Sx) ++ S)) (hi : i ≤ n) (hnm : n + m ≤ 4000000)
    (h1x : ∀ u ∈ xs, u.oneCell' = true) (h1n : ∀ u ∈ news, u.oneCell' = true) :
    Calls Try.prog 39 #[s, .int .i64 i, .int .i64 i, .slice ax m cx] w (EditR B w0 (A ++ Sx) (n + m) (xs.take (i * 2) ++ news ++ xs.drop (i * 2))) := by
  have ci := Lib.hid (insert_any hs hx hst hi hnm h1x h1n)
  generalize xs.take (i * 2) ++ news ++ xs.drop (i * 2) = ys at *
  obtain ⟨i0, hi0, hz0, hz1, hz2⟩ := info_parts infPair
  obtain ⟨v', -, hrun, -, -⟩ := run_piece (P := Try.prog) uRows hi0 hz1 hs i i (Nat.le_refl _) hi
  obtain ⟨a, cap, rfl, -, -, -⟩ := hs.form
  clear hs hx hst hnm h1x h1n hz0 hz1 hz2 hi0
  go_enter Try.func39, Try.ntmps39
  go_wp2_with fail
  refine ci.out.mono ?_
  rintro e w' ⟨s', S', rfl, h1, h2⟩
  replace h1 := Lib.hid h1
  replace h2 := Lib.hid h2
  go_wp2_with fail
  go_ret
  exact ⟨s', S', rfl, h1.out, h2.out⟩

/-- s[i:j] goes, news is laid in its place. -/
theorem replace_any {s x : Value} (hs : SlIs 63 2 s n xs S) (hx : SlIs 63 2 x m news Sx) (hst : St B w0 w ((A ++ Sx) ++ S)) (hij : i ≤ j) (hjn : j ≤ n) (hnm : n + m ≤ 4000000)
    (h1x : ∀ u ∈ xs, u.oneCell' = true) (h1n : ∀ u ∈ news, u.oneCell' = true) :
    Calls Try.prog 39 #[s, .int .i64 i, .int .i64 j, x] w (EditR B w0 (A ++ Sx) (i + m + (n - j)) (xs.take (i * 2) ++ news ++ xs.drop (j * 2))) := by
  have hxl := hs.len
  have hnl := hx.len
  obtain ⟨a, cap, rfl, hcap, hcm, ha⟩ := hs.form
  obtain ⟨ax, cx, rfl, hcx, hcxm, hax⟩ := hx.form
  by_cases h0 : i = j
  · subst h0
    rw [show i + m + (n - i) = n + m by omega]
    exact replace_same hs hx hst hjn hnm h1x h1n
  · obtain ⟨g, off, rfl⟩ := ha i (by omega)
    by_cases h1 : j = n
    · subst h1
      rw [Nat.sub_self, Nat.add_zero, List.drop_of_length_le (by omega), List.append_nil]
      by_cases h2 : i + m < j
      · exact replace_end_less hs hx hst (by omega) h2 hnm h1n
      · exact replace_end hs hx hst (by omega) (by omega) hnm h1n
    · by_cases h2 : i + m ≤ j
      · exact replace_less hs hx hst (by omega) (by omega) h2 hnm h1x h1n
      · obtain ⟨gx, ox, rfl⟩ := hax 0 (by omega)
        by_cases h3 : i + m + (n - j) ≤ cap
        · exact replace_more hs hx hst (by omega) (by omega) (by omega) h3 hnm h1x h1n
        · exact replace_grow hs hx hst (by omega) (by omega) (by omega) hnm h1x h1n
end
end Go.Proofs.Ytdkchcbmhmlhnaa
