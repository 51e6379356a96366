/- slices.Replace at rows of numbers, where what is laid in lies apart. -/
import Derived.Test.YtdkchcbmhmlhnaaRgsJ
namespace Go.Proofs.Ytdkchcbmhmlhnaa
open Go.RowKit
set_option linter.unusedVariables false

section
variable {B : Nat} {w0 w : World} {F S Sx A : List (Nat × Obj)} {n m g off cap gx ox cx i j : Nat} {ax : Option Addr} {xs news : List Value}

theorem run_cut_open (lo : Nat) (h1 : lo ≤ n) (h2 : n ≤ cap) : ∃ o, (lo < n → o = off + lo * 2) ∧ ∀ w, (Instr.slice 64 (.slice (some ⟨g, off, none⟩) n cap) (some (.int .i64 lo)) none none).run Try.prog w = .ok (.slice (some ⟨g, o, none⟩) (n - lo) (cap - lo)) w := by
  obtain ⟨i0, hi, hz0, hz1, hz2⟩ := info_parts infPair
  by_cases h : cap = lo
  · exact ⟨off, fun _ => by omega, fun w => by simp [Instr.slice, run_underlying uRows, Instr.sliceBounds, Instr.sliceBound, asIntOf, h1, h, sizeOf, typeInfo, hi]⟩
  · exact ⟨off + lo * 2, fun _ => rfl, fun w => run_cut_from lo h1 (by omega) w⟩

theorem oneZero : ∀ u ∈ (Value.agg #[.int .i64 0, .int .i64 0]).cells.toList, u.oneCell' = true := by
  intro u hu
  rw [show (Value.agg #[.int .i64 0, .int .i64 0]).cells = #[.int .i64 0, .int .i64 0] from rfl] at hu
  simp at hu
  subst hu
  rfl

set_option maxHeartbeats 4000000 in
set_option maxRecDepth 100000 in
/-- Up to the end, and as many or more are laid in. -/
theorem replace_end (hs : SlIs 63 2 (.slice (some ⟨g, off, none⟩) n cap) n xs S) (hx : SlIs 63 2 (.slice ax m cx) m news Sx) (hst : St B w0 w ((A ++ Sx) ++ S)) (hi : i < n) (hn : n ≤ i + m) (hnm : n + m ≤ 4000000) (h1n : ∀ u ∈ news, u.oneCell' = true) :
    Calls Try.prog 39 #[.slice (some ⟨g, off, none⟩) n cap, .int .i64 i, .int .i64 n, .slice ax m cx] w (EditR B w0 (A ++ Sx) (i + m) (xs.take (i * 2) ++ news)) := by
  obtain ⟨i0, hi0, hz0, hz1, hz2⟩ := info_parts infPair
  obtain ⟨L, rfl, hnc, hcm, hLl, hLx⟩ := hs.block
  have hsi : SlIs 63 2 (.slice (some ⟨g, off, none⟩) i cap) i (xs.take (i * 2)) [(g, .cells L.toArray 63 (0, 0))] :=
    SlIs.of (by omega) hcm hLl (by rw [← hLx, List.take_take, Nat.min_eq_left (by omega)])
  have hrd := hx.reads (A := A ++ [(g, .cells L.toArray 63 (0, 0))]) (hst.perm (by simp only [List.append_assoc]; exact List.perm_append_comm.append_left A))
  obtain ⟨v2, W2, F2, hr2, hs2, hst2⟩ := run_append_sl (P := Try.prog) 64 0 63 i0 _ 2 16 uRows hi0 hz0 hz1 hz2 rfl hsi hst hrd h1n (by unfold maxLen; omega) (by omega)
  obtain ⟨a2, c2, rfl, -, -, -⟩ := hs2.form
  have fin : EditR B w0 (A ++ Sx) (i + m) (xs.take (i * 2) ++ news) (.returned (.slice a2 (i + m) c2)) W2 := ⟨_, F2, rfl, hs2, hst2⟩
  generalize xs.take (i * 2) ++ news = ys at *
  replace fin := Lib.hid fin
  have r1 := run_cut (g := g) (off := off) (n := n) (cap := cap) i n (by omega) (by omega) (by omega)
  have r2 := run_cut_to (g := g) (off := off) (n := n) (cap := cap) i (by omega)
  have hz3 : ((i : Int) == (n : Int)) = false := by rw [beq_eq_false_iff_ne]; omega
  have hz4 : decide ((i : Int) + m < n) = false := by simp; omega
  have hz5 : decide (i + m < n) = false := by simp; omega
  clear hs hx hst hrd hsi hs2 hst2 hz0 hz1 hz2 hi0 hLx hLl hcm hnm h1n hnc hi hn
  go_enter Try.func39, Try.ntmps39
  go_wp2_with (refine wpList_append_go rfl (.tmp 32) (.tmp 33) 64 64 rfl _ _ rfl rfl hr2 ?_)
  go_ret
  exact fin.out

set_option maxHeartbeats 4000000 in
set_option maxRecDepth 100000 in
/-- Up to the end, and fewer are laid in. -/
theorem replace_end_less (hs : SlIs 63 2 (.slice (some ⟨g, off, none⟩) n cap) n xs S) (hx : SlIs 63 2 (.slice ax m cx) m news Sx) (hst : St B w0 w ((A ++ Sx) ++ S)) (hi : i < n) (hn : i + m < n) (hnm : n + m ≤ 4000000) (h1n : ∀ u ∈ news, u.oneCell' = true) :
    Calls Try.prog 39 #[.slice (some ⟨g, off, none⟩) n cap, .int .i64 i, .int .i64 n, .slice ax m cx] w (EditR B w0 (A ++ Sx) (i + m) (xs.take (i * 2) ++ news)) := by
  obtain ⟨i0, hi0, hz0, hz1, hz2⟩ := info_parts infPair
  obtain ⟨L, rfl, hnc, hcm, hLl, hLx⟩ := hs.block
  have hnl := hx.len
  have hrd := hx.reads (A := A ++ [(g, .cells L.toArray 63 (0, 0))]) (hst.perm (by simp only [List.append_assoc]; exact List.perm_append_comm.append_left A))
  obtain ⟨W1, hr1, hst1⟩ := run_append_room_st (P := Try.prog) (off := off) (sLen := i) (sCap := cap) 64 0 63 i0 uRows hi0 hz1 hst hrd h1n (by omega) (by omega)
  obtain ⟨q, hq⟩ : ∃ q, q = i + m := ⟨_, rfl⟩
  obtain ⟨o2, ho2, r3⟩ := run_cut_open (g := g) (off := off) (n := n) (cap := cap) q (by omega) hnc
  obtain ⟨W2, c, hr2, hcl, hst2⟩ := run_clear_st (P := Try.prog) (k := n - q) (cap := cap - q) (dp := some ⟨g, o2, none⟩) (off := off + q * 2) 64 0 63 uRows zeroPair (size := 2) rfl oneZero hst1 (fun _ => by rw [ho2 (by omega)]) (by rw [length_splice _ _ _ (by omega)]; omega)
  have fin : EditR B w0 (A ++ Sx) q (xs.take (i * 2) ++ news) (.returned (.slice (some ⟨g, off, none⟩) q cap)) W2 := by
    have hl1 : (splice L (off + i * 2) news).length = L.length := length_splice _ _ _ (by omega)
    refine ⟨_, _, rfl, SlIs.of (by omega) hcm ?_ ?_, hst2⟩
    · rw [length_splice _ _ _ (by omega)]; omega
    · rw [drop_splice_ahead (by omega) (by omega), take_splice (by omega) (by rw [List.length_drop]; omega), drop_splice_ahead (by omega) (by omega), Nat.add_sub_cancel_left,
        show q * 2 = i * 2 + news.length by omega, splice1 (by rw [List.length_drop]; omega), ← hLx, List.take_take, Nat.min_eq_left (by omega)]
  rw [← hq] at hr1 ⊢
  generalize xs.take (i * 2) ++ news = ys at *
  replace fin := Lib.hid fin
  have r1 := run_cut (g := g) (off := off) (n := n) (cap := cap) i n (by omega) (by omega) (by omega)
  have r2 := run_cut_to (g := g) (off := off) (n := n) (cap := cap) i (by omega)
  have hz3 : ((i : Int) == (n : Int)) = false := by rw [beq_eq_false_iff_ne]; omega
  have hz4 : decide (q < n) = true := by simp; omega
  clear hs hx hst hrd hst1 hst2 hz0 hz1 hz2 hi0 hLx hLl hcm hnm h1n hnc hi hn ho2 hcl hnl hq
  go_enter Try.func39, Try.ntmps39
  go_wp2_with (first | refine wpList_append_go rfl (.tmp 32) (.tmp 33) 64 64 rfl _ _ rfl rfl hr1 ?_ | refine wpList_clear_go rfl (.tmp 43) 64 rfl _ rfl hr2 ?_)
  go_ret
  exact fin.out

set_option maxHeartbeats 4000000 in
set_option maxRecDepth 100000 in
/-- There is no room. -/
theorem replace_grow (hs : SlIs 63 2 (.slice (some ⟨g, off, none⟩) n cap) n xs S) (hx : SlIs 63 2 (.slice (some ⟨gx, ox, none⟩) m cx) m news Sx) (hst : St B w0 w ((A ++ Sx) ++ S)) (hij : i < j) (hjn : j < n) (hn : cap < i + m + (n - j)) (hnm : n + m ≤ 4000000)
    (h1x : ∀ u ∈ xs, u.oneCell' = true) (h1n : ∀ u ∈ news, u.oneCell' = true) :
    Calls Try.prog 39 #[.slice (some ⟨g, off, none⟩) n cap, .int .i64 i, .int .i64 j, .slice (some ⟨gx, ox, none⟩) m cx] w (EditR B w0 (A ++ Sx) (i + m + (n - j)) (xs.take (i * 2) ++ news ++ xs.drop (j * 2))) := by
  obtain ⟨i0, hi0, hz0, hz1, hz2⟩ := info_parts infPair
  have hsb := hs
  obtain ⟨L, rfl, hnc, hcm, hLl, hLx⟩ := hs.block
  have hxl := hs.len
  have hnl := hx.len
  obtain ⟨q, hq⟩ : ∃ q, q = i + m := ⟨_, rfl⟩
  obtain ⟨t, ht⟩ : ∃ t, t = i + m + (n - j) := ⟨_, rfl⟩
  obtain ⟨k, hk⟩ : ∃ k, t = i + k := ⟨t - i, by omega⟩
  have hdl : (xs.drop (j * 2)).length = (n - j) * 2 := by rw [List.length_drop, hxl]; omega
  have hsi : SlIs 63 2 (.slice (some ⟨g, off, none⟩) i cap) i (xs.take (i * 2)) [(g, .cells L.toArray 63 (0, 0))] :=
    SlIs.of (by omega) hcm hLl (by rw [← hLx, List.take_take, Nat.min_eq_left (by omega)])
  obtain ⟨W1, L1, cap1, hc1, hcap1, hcm1, hL1, hL1x, hst1⟩ := run_append_zeros_st (P := Try.prog) (k := k) 64 3 0 63 i0 (.agg #[.int .i64 0, .int .i64 0]) .i64 uRows Try.underlying3 hi0 hz0 hz1 (by omega) rfl hz2 hsi hst.drew (by omega) (by omega) (by omega) (by omega)
  generalize hg1 : w.drew.heap.size = g1 at *
  have hmin1 : Nat.min m k = m := by show min _ _ = _; omega
  have hmin2 : Nat.min (n - j) (i + k - q) = n - j := by show min _ _ = _; omega
  obtain ⟨W2, hc2, hst2⟩ := run_copy_st (P := Try.prog) (w := W1) (g := g1) (o := i * 2) (dLen := k) (dCap := cap1 - i) (sLen := m) (sCap := cx) (dp := some ⟨g1, i * 2, none⟩) (sp := some ⟨gx, ox, none⟩) (cs := news)
    64 64 0 63 uRows szPair hst1 (by rw [hmin1, hnl]) (fun _ => rfl) (fun _ => ⟨_, rfl⟩)
    (fun ad j u had hj => by
      cases had
      rw [Go.WideShapes.add_plain]
      exact hx.cellAt (hst1.perm (H' := (A ++ ([(g, .cells L.toArray 63 (0, 0))] ++ [(g1, .cells L1.toArray 63 (0, 0))])) ++ Sx) (by simp only [List.append_assoc]; exact (List.perm_append_comm (l₁ := Sx)).append_left A |>.trans (by simp))) hj)
    (by omega) h1n
  obtain ⟨W3, hc3, hst3⟩ := run_copy_st (P := Try.prog) (w := W2.drew) (g := g1) (o := q * 2) (dLen := i + k - q) (dCap := cap1 - q) (sLen := n - j) (sCap := cap - j) (dp := some ⟨g1, q * 2, none⟩) (sp := some ⟨g, off + j * 2, none⟩) (cs := xs.drop (j * 2))
    64 64 0 63 uRows szPair hst2.drew (by rw [hmin2, hdl]) (fun _ => rfl) (fun _ => ⟨_, rfl⟩)
    (fun ad j' u had hj => by
      cases had
      rw [Go.WideShapes.add_plain, Nat.add_assoc]
      exact hsb.cellAt (hst2.drew.perm (H' := ((A ++ Sx) ++ [(g1, .cells (splice L1 (i * 2) news).toArray 63 (0, 0))]) ++ [(g, .cells L.toArray 63 (0, 0))]) (by simp only [List.append_assoc]; exact ((List.perm_append_comm).append_left Sx).append_left A)) (by rw [← List.getElem?_drop]; exact hj))
    (by rw [length_splice _ _ _ (by omega)]; omega) (fun u hu => h1x u (List.mem_of_mem_drop hu))
  rw [hmin1] at hc2
  rw [hmin2] at hc3
  rw [← ht]
  generalize hys : xs.take (i * 2) ++ news ++ xs.drop (j * 2) = ys
  have fin : EditR B w0 (A ++ Sx) t ys (.returned (.slice (some ⟨g1, 0, none⟩) (i + k) cap1)) W3 := by
    rw [hk]
    refine ⟨_, _, rfl, SlIs.of (L := splice (splice L1 (i * 2) news) (q * 2) (xs.drop (j * 2))) hcap1 hcm1 ?_ ?_, hst3.sub ?_⟩
    · rw [length_splice _ _ _ (by rw [length_splice _ _ _ (by omega)]; omega), length_splice _ _ _ (by omega)]
      omega
    · rw [← hys]
      have h := edit_low (off := 0) (L := L1) (p := i * 2) (q := q * 2) (c := news) (d := xs.drop (j * 2)) (by omega) (by omega)
      rw [hdl, show q * 2 + (n - j) * 2 = (i + k) * 2 by omega] at h
      simp only [Nat.zero_add, List.drop_zero] at h ⊢
      rw [h, hL1x]
    · exact (List.sublist_append_left _ _).append (List.Sublist.refl _)
  have r0 := run_cut (g := g) (off := off) (n := n) (cap := cap) i j (by omega) (by omega) (by omega)
  have r1 := run_cut_from (g := g) (off := off) (n := n) (cap := cap) j (by omega) (by omega)
  have r2 := run_cut_to (g := g) (off := off) (n := n) (cap := cap) i (by omega)
  have r3 := run_cut_from (g := g1) (off := 0) (n := i + k) (cap := cap1) i (by omega) (by omega)
  have r4 := run_cut_from (g := g1) (off := 0) (n := i + k) (cap := cap1) q (by omega) (by omega)
  rw [Nat.zero_add] at r3 r4
  rw [Nat.add_sub_cancel_left] at r3
  replace fin := Lib.hid fin
  have hz3 : ((i : Int) == (j : Int)) = false := by rw [beq_eq_false_iff_ne]; omega
  have hz4 : ((j : Int) == (n : Int)) = false := by rw [beq_eq_false_iff_ne]; omega
  have hz5 : decide (cap < t) = true := by simp; omega
  have hi1 : (i : Int) ≤ 4000000 := by omega
  have hi2 : (0 : Int) ≤ i := by omega
  have ht1 : (t : Int) ≤ 12000000 := by omega
  have ht2 : (0 : Int) ≤ t := by omega
  have hsum : Hid ((t : Int) - i = k) := Lib.hid (by omega)
  have hw : Hid (IntKind.i64.wrap ((i : Int) + m) = q ∧ IntKind.i64.wrap ((q : Int) + ((n - j : Nat) : Int)) = t) := Lib.hid (by rw [IntWalk.i64_in _ (by omega), IntWalk.i64_in _ (by omega)]; omega)
  have hik : Hid (j ≤ n ∧ i ≤ i + k ∧ (0 : Int) ≤ q ∧ (q : Int) ≤ (i : Int) + k ∧ ¬ cap1 = q ∧ ¬ cap1 = i ∧ ¬ cap = i ∧ q ≤ i + k ∧ ¬ cap = j ∧ i ≤ cap) := Lib.hid (by omega)
  clear hst hst1 hst2 hst3 hLx hLl hcm hxl hnl hdl hmin1 hmin2 hnc hs hsb hsi hx h1x h1n hL1 hL1x hcm1 hcap1 hij hjn hnm hn hq hk ht hz0 hz1 hz2 hi0 hg1 hys
  obtain ⟨e1, e2, e3, e4, e5, e6, e7, e8, e9, e10⟩ := hik.out
  go_enter Try.func39, Try.ntmps39
  go_wp2_with fail
  obtain ⟨hw1, hw2⟩ := hw.out
  go_still_tail 12, (by kernel_rfl)
  change wpList _ _ _ _ _ w.drew
  clear hw1 hw2
  go_wp2_with (first | refine wpList_append_go rfl (.tmp 63) (.tmp 66) 64 3 rfl _ _ rfl (congrArg (Value.int .i64) hsum.out) hc1 ?_ | refine wpList_copy_go rfl (.tmp 70) (.tmp 71) 64 64 rfl _ _ rfl rfl hc2 ?_)
  have hw1 := hw.out.1
  go_still_tail 9, (by kernel_rfl)
  change wpList _ _ _ _ _ W2.drew
  refine wpList_copy_go rfl (.tmp 78) (.tmp 81) 64 64 rfl _ _ rfl rfl hc3 ?_
  clear hc3 hw1
  go_wp2_with fail
  go_ret
  exact fin.out
end
end Go.Proofs.Ytdkchcbmhmlhnaa
