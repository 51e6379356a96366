/- slices.Insert where there is no room, and what slices.Insert does at all. -/
import Derived.Test.YtdkchcbmhmlhnaaRgsI
namespace Go.Proofs.Ytdkchcbmhmlhnaa
open Go.RowKit
set_option linter.unusedVariables false

section
variable {B : Nat} {w0 w : World} {F S Sx A : List (Nat × Obj)} {n m g off cap gx ox cx : Nat} {xs news : List Value}

set_option maxHeartbeats 4000000 in
set_option maxRecDepth 100000 in
/-- There is no room, and it isn't the end. -/
theorem insert_grow (hs : SlIs 63 2 (.slice (some ⟨g, off, none⟩) n cap) n xs S) (hx : SlIs 63 2 (.slice (some ⟨gx, ox, none⟩) m cx) m news Sx) (hst : St B w0 w ((A ++ Sx) ++ S)) {i : Nat} (hi : i < n) (hm : 0 < m)
    (hn1 : n + m ≤ 4000000) (hroom : cap < n + m) (h1x : ∀ u ∈ xs, u.oneCell' = true) (h1n : ∀ u ∈ news, u.oneCell' = true) :
    Calls Try.prog 45 #[.slice (some ⟨g, off, none⟩) n cap, .int .i64 i, .slice (some ⟨gx, ox, none⟩) m cx] w (EditR B w0 (A ++ Sx) (n + m) (xs.take (i * 2) ++ news ++ xs.drop (i * 2))) := by
  obtain ⟨i0, hi0, hz0, hz1, hz2⟩ := info_parts infPair
  have hsb := hs
  obtain ⟨L, rfl, hnc, hcm, hLl, hLx⟩ := hs.block
  have hxl := hs.len
  have hnl := hx.len
  obtain ⟨q, hq⟩ : ∃ q, q = i + m := ⟨_, rfl⟩
  obtain ⟨k, hk⟩ : ∃ k, n + m = i + k := ⟨n + m - i, by omega⟩
  have hdl : (xs.drop (i * 2)).length = (n - i) * 2 := by rw [List.length_drop, hxl]; omega
  have hsi : SlIs 63 2 (.slice (some ⟨g, off, none⟩) i cap) i (xs.take (i * 2)) [(g, .cells L.toArray 63 (0, 0))] :=
    SlIs.of (by omega) hcm hLl (by rw [← hLx, List.take_take, Nat.min_eq_left (by omega)])
  obtain ⟨W1, L1, cap1, hc1, hcap1, hcm1, hL1, hL1x, hst1⟩ := run_append_zeros_st (P := Try.prog) (k := k) 64 3 0 63 i0 (.agg #[.int .i64 0, .int .i64 0]) .i64 uRows Try.underlying3 hi0 hz0 hz1 (by omega) rfl hz2 hsi hst (by omega) (by omega) (by omega) (by omega)
  generalize hg1 : w.heap.size = g1 at *
  have hmin1 : Nat.min m k = m := by show min _ _ = _; omega
  have hmin2 : Nat.min (n - i) (i + k - q) = n - i := by show min _ _ = _; omega
  obtain ⟨W2, hc2, hst2⟩ := run_copy_st (P := Try.prog) (w := W1) (g := g1) (o := i * 2) (dLen := k) (dCap := cap1 - i) (sLen := m) (sCap := cx) (dp := some ⟨g1, i * 2, none⟩) (sp := some ⟨gx, ox, none⟩) (cs := news)
    64 64 0 63 uRows szPair hst1 (by rw [hmin1, hnl]) (fun _ => rfl) (fun _ => ⟨_, rfl⟩)
    (fun ad j u had hj => by
      cases had
      rw [Go.WideShapes.add_plain]
      exact hx.cellAt (hst1.perm (H' := (A ++ ([(g, .cells L.toArray 63 (0, 0))] ++ [(g1, .cells L1.toArray 63 (0, 0))])) ++ Sx) (by simp only [List.append_assoc]; exact (List.perm_append_comm (l₁ := Sx)).append_left A |>.trans (by simp))) hj)
    (by omega) h1n
  obtain ⟨W3, hc3, hst3⟩ := run_copy_st (P := Try.prog) (w := W2.drew) (g := g1) (o := q * 2) (dLen := i + k - q) (dCap := cap1 - q) (sLen := n - i) (sCap := cap - i) (dp := some ⟨g1, q * 2, none⟩) (sp := some ⟨g, off + i * 2, none⟩) (cs := xs.drop (i * 2))
    64 64 0 63 uRows szPair hst2.drew (by rw [hmin2, hdl]) (fun _ => rfl) (fun _ => ⟨_, rfl⟩)
    (fun ad j u had hj => by
      cases had
      rw [Go.WideShapes.add_plain, Nat.add_assoc]
      exact hsb.cellAt (hst2.drew.perm (H' := ((A ++ Sx) ++ [(g1, .cells (splice L1 (i * 2) news).toArray 63 (0, 0))]) ++ [(g, .cells L.toArray 63 (0, 0))]) (by simp only [List.append_assoc]; exact ((List.perm_append_comm).append_left Sx).append_left A)) (by rw [← List.getElem?_drop]; exact hj))
    (by rw [length_splice _ _ _ (by omega)]; omega) (fun u hu => h1x u (List.mem_of_mem_drop hu))
  rw [hmin1] at hc2
  rw [hmin2] at hc3
  generalize hys : xs.take (i * 2) ++ news ++ xs.drop (i * 2) = ys
  have fin : EditR B w0 (A ++ Sx) (n + m) ys (.returned (.slice (some ⟨g1, 0, none⟩) (i + k) cap1)) W3 := by
    rw [hk]
    refine ⟨_, _, rfl, SlIs.of (L := splice (splice L1 (i * 2) news) (q * 2) (xs.drop (i * 2))) hcap1 hcm1 ?_ ?_, hst3.sub ?_⟩
    · rw [length_splice _ _ _ (by rw [length_splice _ _ _ (by omega)]; omega), length_splice _ _ _ (by omega)]
      omega
    · rw [← hys]
      have h := edit_low (off := 0) (L := L1) (p := i * 2) (q := q * 2) (c := news) (d := xs.drop (i * 2)) (by omega) (by omega)
      rw [hdl, show q * 2 + (n - i) * 2 = (i + k) * 2 by omega] at h
      simp only [Nat.zero_add, List.drop_zero] at h ⊢
      rw [h, hL1x]
    · exact (List.sublist_append_left _ _).append (List.Sublist.refl _)
  have r1 := run_cut_from (g := g) (off := off) (n := n) (cap := cap) i (by omega) (by omega)
  have r2 := run_cut_to (g := g) (off := off) (n := n) (cap := cap) i (by omega)
  have r3 := run_cut_from (g := g1) (off := 0) (n := i + k) (cap := cap1) i (by omega) (by omega)
  have r4 := run_cut_from (g := g1) (off := 0) (n := i + k) (cap := cap1) q (by omega) (by omega)
  rw [Nat.zero_add] at r3 r4
  rw [Nat.add_sub_cancel_left] at r3
  replace fin := Lib.hid fin
  have hm2 : ((m : Int) == 0) = false := by rw [beq_eq_false_iff_ne]; omega
  have hz4 : ((i : Int) == (n : Int)) = false := by rw [beq_eq_false_iff_ne]; omega
  have hz5 : decide ((cap : Int) < (n : Int) + m) = true := by simp; omega
  have hi1 : (i : Int) ≤ 4000000 := by omega
  have hi2 : (0 : Int) ≤ i := by omega
  have hm0 : (0 : Int) ≤ m := by omega
  have hm1 : (m : Int) ≤ 4000000 := by omega
  have hn0 : (0 : Int) ≤ n := by omega
  have hn2 : (n : Int) ≤ 4000000 := by omega
  have hsum : Hid ((n : Int) + m - i = k) := Lib.hid (by omega)
  have hw : Hid (IntKind.i64.wrap ((i : Int) + m) = q) := Lib.hid (by rw [IntWalk.i64_in _ (by omega)]; omega)
  have hik : Hid (i ≤ n ∧ i ≤ i + k ∧ (0 : Int) ≤ q ∧ (q : Int) ≤ (i : Int) + k ∧ ¬ cap1 = q ∧ ¬ cap1 = i ∧ ¬ cap = i ∧ q ≤ i + k) := Lib.hid (by omega)
  have hcn : Hid (i ≤ cap) := Lib.hid (by omega)
  clear hst hst1 hst2 hst3 hLx hLl hcm hxl hnl hdl hmin1 hmin2 hnc hs hsb hsi hx h1x h1n hL1 hL1x hcm1 hcap1 hi hm hn1 hroom hq hk hz0 hz1 hz2 hi0 hg1 hys
  have hcn := hcn.out
  obtain ⟨e1, e2, e3, e4, e5, e6, e7, e8⟩ := hik.out
  go_enter Try.func45, Try.ntmps45
  go_wp2_with (first | refine wpList_append_go rfl (.tmp 34) (.tmp 39) 64 3 rfl _ _ rfl (congrArg (Value.int .i64) hsum.out) hc1 ?_ | refine wpList_copy_go rfl (.tmp 43) (.tmp 44) 64 64 rfl _ _ rfl rfl hc2 ?_)
  have hw := hw.out
  go_still_tail 8, (by kernel_rfl)
  change wpList _ _ _ _ _ W2.drew
  refine wpList_copy_go rfl (.tmp 50) (.tmp 53) 64 64 rfl _ _ rfl rfl hc3 ?_
  clear hc3 hw
  go_wp2_with fail
  go_ret
  exact fin.out

theorem insert_any {s x : Value} (hs : SlIs 63 2 s n xs S) (hx : SlIs 63 2 x m news Sx) (hst : St B w0 w ((A ++ Sx) ++ S)) {i : Nat} (hi : i ≤ n) (hnm : n + m ≤ 4000000) (h1x : ∀ u ∈ xs, u.oneCell' = true) (h1n : ∀ u ∈ news, u.oneCell' = true) :
    Calls Try.prog 45 #[s, .int .i64 i, x] w (EditR B w0 (A ++ Sx) (n + m) (xs.take (i * 2) ++ news ++ xs.drop (i * 2))) := by
  have hxl := hs.len
  have hnl := hx.len
  obtain ⟨a, cap, rfl, hcap, hcm, ha⟩ := hs.form
  obtain ⟨ax, cx, rfl, hcx, hcxm, hax⟩ := hx.form
  rcases Nat.eq_zero_or_pos m with rfl | hm
  · obtain rfl : news = [] := List.eq_nil_of_length_eq_zero (by omega)
    rw [List.append_nil, List.take_append_drop]
    exact insert_none hs hst hi (by omega)
  · by_cases hin : i = n
    · subst hin
      rw [List.take_of_length_le (by omega), List.drop_of_length_le (by omega), List.append_nil]
      exact insert_end hs hx hst hm hnm h1n
    · obtain ⟨g, off, rfl⟩ := ha i (by omega)
      obtain ⟨gx, ox, rfl⟩ := hax 0 hm
      by_cases hroom : n + m ≤ cap
      · exact insert_room hs hx hst (by omega) hm hnm hroom h1x h1n
      · exact insert_grow hs hx hst (by omega) hm hnm (by omega) h1x h1n
end
end Go.Proofs.Ytdkchcbmhmlhnaa
