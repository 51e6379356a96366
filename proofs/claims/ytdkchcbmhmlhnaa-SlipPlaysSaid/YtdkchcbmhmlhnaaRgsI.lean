/- slices.Insert and slices.Replace at rows of numbers, where what is laid in lies apart. -/
import Derived.Test.YtdkchcbmhmlhnaaRgsC
import Derived.Deep.RegionLaw
import Derived.StillTailTactics
namespace Go.Proofs.Ytdkchcbmhmlhnaa
open Go.RowKit
set_option linter.unusedVariables false

section
variable {B : Nat} {w0 w : World} {F S Sx A : List (Nat × Obj)} {n m g off cap gx ox cx : Nat} {xs news : List Value}

def EditR (B : Nat) (w0 : World) (A : List (Nat × Obj)) (n' : Nat) (ys : List Value) (e : Ending) (w' : World) : Prop :=
  ∃ s' S', e = .returned s' ∧ SlIs 63 2 s' n' ys S' ∧ St B w0 w' (A ++ S')

theorem edit_high {L : List Value} {p q : Nat} {c d : List Value} (hq : q = p + c.length) (hl : off + q + d.length ≤ L.length) : ((splice (splice L (off + q) d) (off + p) c).drop off).take (q + d.length) = (L.drop off).take p ++ c ++ d := by
  have hl1 : (splice L (off + q) d).length = L.length := length_splice _ _ _ hl
  rw [drop_splice_ahead (by omega) (by omega), drop_splice_ahead (by omega) (by omega), Nat.add_sub_cancel_left, Nat.add_sub_cancel_left]
  exact splice2_high hq (by rw [List.length_drop]; omega)
theorem edit_low {L : List Value} {p q : Nat} {c d : List Value} (hq : q = p + c.length) (hl : off + q + d.length ≤ L.length) : ((splice (splice L (off + p) c) (off + q) d).drop off).take (q + d.length) = (L.drop off).take p ++ c ++ d := by
  have hl1 : (splice L (off + p) c).length = L.length := length_splice _ _ _ (by omega)
  rw [drop_splice_ahead (by omega) (by omega), drop_splice_ahead (by omega) (by omega), Nat.add_sub_cancel_left, Nat.add_sub_cancel_left]
  exact splice2_low hq (by rw [List.length_drop]; omega)

theorem szPair : (Try.prog.info? 63).map (·.size) = some 2 := by kernel_rfl
theorem sizePair (w : World) : (Go.sizeOf 63).run Try.prog w = .ok 2 w := by kernel_rfl

/-- 's[lo:hi]', hi up to the capacity, lo below it. -/
theorem run_cut (lo hi' : Nat) (h1 : lo ≤ hi') (h2 : hi' ≤ cap) (h3 : lo < cap) (w : World) :
    (Instr.slice 64 (.slice (some ⟨g, off, none⟩) n cap) (some (.int .i64 lo)) (some (.int .i64 hi')) none).run Try.prog w = .ok (.slice (some ⟨g, off + lo * 2, none⟩) (hi' - lo) (cap - lo)) w := by
  obtain ⟨i0, hi, hz0, hz1, hz2⟩ := info_parts infPair
  have h4 : ¬ cap = lo := by omega
  simp [Instr.slice, run_underlying uRows, Instr.sliceBounds, Instr.sliceBound, asIntOf, h1, h2, h4, sizeOf, typeInfo, hi, hz1, Go.WideShapes.add_plain]
theorem run_cut_to (hi' : Nat) (h2 : hi' ≤ cap) (w : World) :
    (Instr.slice 64 (.slice (some ⟨g, off, none⟩) n cap) none (some (.int .i64 hi')) none).run Try.prog w = .ok (.slice (some ⟨g, off, none⟩) hi' cap) w := by
  obtain ⟨i0, hi, hz0, hz1, hz2⟩ := info_parts infPair
  simp [Instr.slice, run_underlying uRows, Instr.sliceBounds, Instr.sliceBound, asIntOf, h2, sizeOf, typeInfo, hi, Go.WideShapes.add_plain]
theorem run_cut_from (lo : Nat) (h1 : lo ≤ n) (h3 : lo < cap) (w : World) :
    (Instr.slice 64 (.slice (some ⟨g, off, none⟩) n cap) (some (.int .i64 lo)) none none).run Try.prog w = .ok (.slice (some ⟨g, off + lo * 2, none⟩) (n - lo) (cap - lo)) w := by
  obtain ⟨i0, hi, hz0, hz1, hz2⟩ := info_parts infPair
  have h4 : ¬ cap = lo := by omega
  simp [Instr.slice, run_underlying uRows, Instr.sliceBounds, Instr.sliceBound, asIntOf, h1, h4, sizeOf, typeInfo, hi, hz1, Go.WideShapes.add_plain]

theorem overlaps_no {H : List (Nat × Obj)} {c1 c2 : Array Value} {T1 T2 : TypeId} (hst : St B w0 w H) (h1 : (gx, .cells c1 T1) ∈ H) (h2 : (g, .cells c2 T2) ∈ H) (hne : gx ≠ g) (hc : 0 < c2.size) (o1 la ca o2 lb cb : Nat) :
    (callFunc 46 #[.slice (some ⟨gx, o1, none⟩) la ca, .slice (some ⟨g, o2, none⟩) lb cb]).run Try.prog w = .ok (.value (.bool false)) w := by
  rw [run_callFunc_extern Try.func46 (by kernel_rfl) (by kernel_rfl) (by kernel_rfl) (e := Extern.SlicesOverlaps.overlaps #[64, 64] #[4]) (by kernel_rfl),
    run_overlaps_st uRows sizePair hst h1 h2 hne hc]
  rfl

theorem St.two {a b : Nat} {o o' : Obj} (h : St B w0 w ((A ++ [(a, o)]) ++ [(b, o')])) : a ≠ b := by
  have := h.nodup
  simp only [List.map_append, List.map_cons, List.map_nil] at this
  exact (List.nodup_append.1 this).2.2 a (by simp) b (by simp)

/-! ### slices.Insert -/
set_option maxHeartbeats 4000000 in
set_option maxRecDepth 100000 in
/-- There is room, and it isn't the end. -/
theorem insert_room (hs : SlIs 63 2 (.slice (some ⟨g, off, none⟩) n cap) n xs S) (hx : SlIs 63 2 (.slice (some ⟨gx, ox, none⟩) m cx) m news Sx) (hst : St B w0 w ((A ++ Sx) ++ S)) {i : Nat} (hi : i < n) (hm : 0 < m)
    (hn1 : n + m ≤ 4000000) (hroom : n + m ≤ cap) (h1x : ∀ u ∈ xs, u.oneCell' = true) (h1n : ∀ u ∈ news, u.oneCell' = true) :
    Calls Try.prog 45 #[.slice (some ⟨g, off, none⟩) n cap, .int .i64 i, .slice (some ⟨gx, ox, none⟩) m cx] w (EditR B w0 (A ++ Sx) (n + m) (xs.take (i * 2) ++ news ++ xs.drop (i * 2))) := by
  obtain ⟨L, rfl, hnc, hcm, hLl, hLx⟩ := hs.block
  obtain ⟨Lx, hSx, -⟩ := hx.block
  have hxl := hs.len
  have hnl := hx.len
  obtain ⟨q, hq⟩ : ∃ q, q = i + m := ⟨_, rfl⟩
  have r1 := run_cut_from (g := g) (off := off) (n := n) (cap := cap) i (by omega) (by omega)
  have r2 := run_cut_to (g := g) (off := off) (n := n) (cap := cap) (n + m) hroom
  have r3 := run_cut_from (g := g) (off := off) (n := n + m) (cap := cap) q (by omega) (by omega)
  have r4 := run_cut_from (g := g) (off := off) (n := n + m) (cap := cap) i (by omega) (by omega)
  simp only [Int.natCast_add] at r2
  have hne : gx ≠ g := by
    rw [hSx] at hst
    exact hst.two
  have hov : ∀ W, St B w0 W ((A ++ Sx) ++ [(g, .cells L.toArray 63 (0, 0))]) → ∀ o1 la ca o2 lb cb, (callFunc 46 #[.slice (some ⟨gx, o1, none⟩) la ca, .slice (some ⟨g, o2, none⟩) lb cb]).run Try.prog W = .ok (.value (.bool false)) W := fun W h =>
    overlaps_no h (c1 := Lx.toArray) (T1 := 63) (c2 := L.toArray) (T2 := 63) (by rw [hSx]; simp) (by simp) hne (by simp; omega)
  have ov := hov w hst
  have hz1 : ((m : Int) == 0) = false := by rw [beq_eq_false_iff_ne]; omega
  have hz2 : ((i : Int) == (n : Int)) = false := by rw [beq_eq_false_iff_ne]; omega
  have hz3 : decide ((cap : Int) < (n : Int) + m) = false := by simp; omega
  have hi0 : (0 : Int) ≤ i := by omega
  have hi1 : (i : Int) ≤ 4000000 := by omega
  have hm0 : (0 : Int) ≤ m := by omega
  have hm1 : (m : Int) ≤ 4000000 := by omega
  have hn0 : (0 : Int) ≤ n := by omega
  have hn2 : (n : Int) ≤ 4000000 := by omega
  clear hov
  have hdl : (xs.drop (i * 2)).length = (n - i) * 2 := by rw [List.length_drop, hxl]; omega
  generalize hys : xs.take (i * 2) ++ news ++ xs.drop (i * 2) = ys
  replace hys := Lib.hid hys
  replace hSx := Lib.hid hSx
  have hmin1 : Nat.min (n + m - i) (n + m - q) = n - i := by show min _ _ = _; omega
  have hmin2 : Nat.min m (n + m - i) = m := by show min _ _ = _; omega
  obtain ⟨W1, hc1, hst1⟩ := run_copy_st (P := Try.prog) (w := w.drew) (g := g) (o := off + q * 2) (dLen := n + m - q) (dCap := cap - q) (sLen := n + m - i) (sCap := cap - i) (dp := some ⟨g, off + q * 2, none⟩) (sp := some ⟨g, off + i * 2, none⟩) (L := L) (cs := xs.drop (i * 2))
    64 64 0 63 uRows szPair hst.drew (by rw [hmin1, hdl]) (fun _ => rfl) (fun _ => ⟨_, rfl⟩)
    (fun ad j u had hj => by
      cases had
      rw [Go.WideShapes.add_plain]
      refine hst.drew.cellL ?_
      rw [← hLx, List.drop_take, List.getElem?_take, List.getElem?_drop, List.getElem?_drop] at hj
      split at hj
      · rw [← hj]; congr 1; omega
      · cases hj)
    (by omega) (fun u hu => h1x u (List.mem_of_mem_drop hu))
  obtain ⟨W2, hc2, hst2⟩ := run_copy_st (P := Try.prog) (w := W1) (g := g) (o := off + i * 2) (dLen := n + m - i) (dCap := cap - i) (sLen := m) (sCap := cx) (dp := some ⟨g, off + i * 2, none⟩) (sp := some ⟨gx, ox, none⟩) (cs := news)
    64 64 0 63 uRows szPair hst1 (by rw [hmin2, hnl]) (fun _ => rfl) (fun _ => ⟨_, rfl⟩)
    (fun ad j u had hj => by
      cases had
      rw [Go.WideShapes.add_plain]
      exact hx.cellAt (hst1.perm (H' := (A ++ [(g, .cells (splice L (off + q * 2) (xs.drop (i * 2))).toArray 63 (0, 0))]) ++ Sx) (by simp only [List.append_assoc]; exact List.perm_append_comm.append_left A)) hj)
    (by rw [length_splice _ _ _ (by omega)]; omega) h1n
  rw [hmin1] at hc1
  rw [hmin2] at hc2
  have fin : EditR B w0 (A ++ Sx) (n + m) ys (.returned (.slice (some ⟨g, off, none⟩) (n + m) cap)) W2 := by
    refine ⟨_, _, rfl, SlIs.of hroom hcm ?_ ?_, hst2⟩
    · rw [length_splice _ _ _ (by rw [length_splice _ _ _ (by omega)]; omega), length_splice _ _ _ (by omega)]
      exact hLl
    · rw [← hys.out]
      have h := edit_high (off := off) (L := L) (p := i * 2) (q := q * 2) (c := news) (d := xs.drop (i * 2)) (by omega) (by omega)
      rw [hdl, show q * 2 + (n - i) * 2 = (n + m) * 2 by omega] at h
      rw [h, ← hLx, List.take_take, Nat.min_eq_left (by omega)]
  replace fin := Lib.hid fin
  have hw1 : (0 : Int) ≤ q := by omega
  have hw2 : (q : Int) ≤ (n : Int) + m := by omega
  have hw3 : ¬ cap = q := by omega
  have hw6 : ¬ cap = i + m := by omega
  have hw7 : (0 : Int) ≤ (i : Int) + m := by omega
  have hw8 : i ≤ n := by omega
  have hw4 : (i : Int) ≤ (n : Int) + m := by omega
  have hw5 : ¬ cap = i := by omega
  clear hst hst1 hst2 hLx hLl hcm hxl hnl hdl hmin1 hmin2 hnc hs hx h1x h1n
  have hw : Hid (IntKind.i64.wrap ((i : Int) + m) = q) := Lib.hid (by rw [IntWalk.i64_in _ (by omega)]; omega)
  clear hn1 hroom hi hm hq
  go_enter Try.func45, Try.ntmps45
  go_wp2_with (simp only [ov])
  clear hw6
  have hw := hw.out
  go_still_tail 8, (by kernel_rfl)
  change wpList _ _ _ _ _ w.drew
  refine wpList_copy_go rfl (.tmp 73) (.tmp 76) 64 64 rfl _ _ rfl rfl hc1 ?_
  clear hc1
  go_wp2_with (refine wpList_copy_go rfl (.tmp 80) (.tmp 81) 64 64 rfl _ _ rfl rfl hc2 ?_)
  go_ret
  exact fin.out

theorem zeroPair (w : World) : (zeroValue 63).run Try.prog w = .ok (.agg #[.int .i64 0, .int .i64 0]) w := by kernel_rfl

set_option maxHeartbeats 1000000 in
/-- Nothing is laid in. -/
theorem insert_none {s : Value} {ax : Option Addr} (hs : SlIs 63 2 s n xs S) (hst : St B w0 w (A ++ S)) {i : Nat} (hi : i ≤ n) (hn : n ≤ 4000000) :
    Calls Try.prog 45 #[s, .int .i64 i, .slice ax 0 cx] w (EditR B w0 A n xs) := by
  obtain ⟨i0, hi0, hz0, hz1, hz2⟩ := info_parts infPair
  obtain ⟨v', -, -, hrun, -⟩ := run_piece (P := Try.prog) uRows hi0 hz1 hs i n hi (Nat.le_refl _)
  replace hrun := hrun rfl
  have fin : EditR B w0 A n xs (.returned s) w := ⟨s, S, rfl, hs, hst⟩
  obtain ⟨a, cap, rfl, -, -, -⟩ := hs.form
  replace fin := Lib.hid fin
  clear hs hst hz0 hz1 hz2
  go_enter Try.func45, Try.ntmps45
  go_wp2_with fail
  go_ret
  exact fin.out

set_option maxHeartbeats 1000000 in
/-- Behind the last one. -/
theorem insert_end {s x : Value} (hs : SlIs 63 2 s n xs S) (hx : SlIs 63 2 x m news Sx) (hst : St B w0 w ((A ++ Sx) ++ S)) (hm : 0 < m) (hnm : n + m ≤ 4000000) (h1n : ∀ u ∈ news, u.oneCell' = true) :
    Calls Try.prog 45 #[s, .int .i64 n, x] w (EditR B w0 (A ++ Sx) (n + m) (xs ++ news)) := by
  obtain ⟨i0, hi0, hz0, hz1, hz2⟩ := info_parts infPair
  obtain ⟨v', -, -, hrun, -⟩ := run_piece (P := Try.prog) uRows hi0 hz1 hs n n (Nat.le_refl _) (Nat.le_refl _)
  replace hrun := hrun rfl
  have hrd := hx.reads (A := A ++ S) (hst.perm (by simp only [List.append_assoc]; exact List.perm_append_comm.append_left A))
  obtain ⟨v2, w2, F2, hr2, hs2, hst2⟩ := run_append_sl (P := Try.prog) 64 0 63 i0 _ 2 16 uRows hi0 hz0 hz1 hz2 rfl hs hst hrd h1n (by unfold maxLen; omega) (by omega)
  have fin : EditR B w0 (A ++ Sx) (n + m) (xs ++ news) (.returned v2) w2 := ⟨v2, F2, rfl, hs2, hst2⟩
  generalize xs ++ news = ys at *
  obtain ⟨a, cap, rfl, -, -, -⟩ := hs.form
  obtain ⟨ax, cx, rfl, -, -, -⟩ := hx.form
  have hz1 : ((m : Int) == 0) = false := by rw [beq_eq_false_iff_ne]; omega
  have hm2 : ¬ m = 0 := by omega
  replace fin := Lib.hid fin
  clear hs hx hst hrd hs2 hst2 hz0 hz2 hm h1n hi0
  go_enter Try.func45, Try.ntmps45
  go_wp2_with (refine wpList_append_go rfl (.tmp 23) (.tmp 24) 64 64 rfl _ _ rfl rfl hr2 ?_)
  go_ret
  exact fin.out

end
end Go.Proofs.Ytdkchcbmhmlhnaa
