/- FrameTells. -/
import Derived.Test.YtjeejflmkdncpaaFmJ
namespace Go.Proofs.Ytjeejflmkdncpaa
open Go.RowKit
set_option linter.unusedVariables false

def SplitB (w : World) (l : List Frm) (e : Ending) (w' : World) : Prop := ∃ v, e = .returned v ∧ ReadFrames w' v l ∧ Below w.heap.size w w'
theorem split_b (w : World) (k c : Int) (d : List UInt8) (most : Int) (hd : d.length ≤ 50000) : Calls Try.prog 13 #[.int .i64 k, .int .i64 c, tx d, .int .i64 most] w (SplitB w (splitL k c d most)) := by
  refine (fr_split (St.start w) k c d most hd).mono ?_
  rintro e w' ⟨v, S, rfl, hs, hst⟩
  exact ⟨v, rfl, hs.read hst, hst.below⟩
theorem rsplit_b (w : World) (k c : Int) (d : List UInt8) (most : Int) (hd : d.length ≤ 50000) : Calls Try.prog 14 #[.int .i64 k, .int .i64 c, tx d, .int .i64 most] w (SplitB w (splitL k c d most)) := by
  refine (rp_split (St.start w) k c d most hd).mono ?_
  rintro e w' ⟨v, S, rfl, hs, hst⟩
  exact ⟨v, rfl, hs.read hst, hst.below⟩
theorem splitL_len {k c : Int} {d : List UInt8} {most : Int} (hd : d.length ≤ 50000) : (splitL k c d most).length ≤ 50000 := by
  have hm := heldM_bd most
  unfold splitL
  rw [List.length_map]
  exact Nat.le_trans (cutsL_len (by omega) _ d (Nat.le_refl _)) hd

theorem nextL_len (M : Nat) (bad : Bool) (L : List UInt8) : (nextL M bad L).2.2.2.2.length ≤ L.length := by
  unfold nextL
  cases bad with
  | true => simp
  | false =>
    simp only [Bool.false_eq_true, if_false]
    cases stepL M L <;> simp
set_option maxHeartbeats 4000000 in
theorem tells_walk (k c kind ch : Int) (d data : List UInt8) (most : Int) (w : World) :
    Calls Try.prog 3 #[frV k c d, .int .i64 kind, .int .i64 ch, tx data, .int .i64 most] w fun e w' => e = .returned (.bool true) ∧ Below w.heap.size w w' := by
  have c1 := Lib.hid known7_true
  by_cases h1 : 300 < d.length
  · have h1' : (300 : Int) < d.length := by omega
    go_enter Try.func3, Try.ntmps3
    go_wp2_with fail
    refine (c1.out _).mono ?_
    rintro e w1 ⟨rfl, hb⟩
    have q2 := hb.cell (p := ⟨w.heap.size, 2, none⟩) (by simp)
    replace hb := Lib.hid (((Below.refl _ w).alloc (Nat.le_refl _) (frO k c d)).trans (hb.mono (by simp)))
    go_wp2_with fail
    go_ret
    exact ⟨rfl, hb.out⟩
  have h1' : ¬ (300 : Int) < d.length := by omega
  by_cases h2 : 1000 < data.length
  · have h2' : (1000 : Int) < data.length := by omega
    go_enter Try.func3, Try.ntmps3
    go_wp2_with fail
    refine (c1.out _).mono ?_
    rintro e w1 ⟨rfl, hb⟩
    have q2 := hb.cell (p := ⟨w.heap.size, 2, none⟩) (by simp)
    replace hb := Lib.hid (((Below.refl _ w).alloc (Nat.le_refl _) (frO k c d)).trans (hb.mono (by simp)))
    go_wp2_with fail
    go_ret
    exact ⟨rfl, hb.out⟩
  have h2' : ¬ (1000 : Int) < data.length := by omega
  have c2 := Lib.hid (fun w => bytes_to (k := k) (c := c) (d := d) rfl (by omega) w)
  have c3 := Lib.hid (fun w => rbytes_to (k := k) (c := c) (d := d) rfl (by omega) w)
  have c4 := Lib.hid (fun w => split_b w kind ch data most (by omega))
  have c5 := Lib.hid (fun w => rsplit_b w kind ch data most (by omega))
  have hlen : (splitL kind ch data most).length ≤ 1073741824 := Nat.le_trans (splitL_len (by omega)) (by decide)
  have hs0 := Lib.hid (fun w1 (hb : Below (w.alloc (frO k c d)).heap.size (w.alloc (frO k c d)) w1) => frHold (w0 := w) (b := w.heap.size) (x := .int .i64 k) (y := .int .i64 c) (z := tx d) (wa := w.alloc (frO k c d)) (wb := w1) ⟨⟨alloc_below _ _, by simp⟩, by simp, by simp, by simp⟩ hb)
  have c6 : Hid (∀ (w : World) (v1 v2 : Value), ReadFrames w v1 (splitL kind ch data most) → ReadFrames w v2 (splitL kind ch data most) → Calls Try.prog 12 #[v1, v2] w fun e w' => e = .returned (.bool true) ∧ Below w.heap.size w w') := Lib.hid fun w v1 v2 r1 r2 => (sameFrames_true r1 r2 hlen).mono fun e w' ⟨h, n, e'⟩ => ⟨h, e' ▸ drewN_below w n⟩
  generalize frBytes k c d = R at *
  generalize splitL kind ch data most = T at *
  go_enter Try.func3, Try.ntmps3
  go_wp2_with fail
  refine (c1.out _).mono ?_
  rintro e w1 ⟨rfl, hb⟩
  have hH := hs0.out _ hb
  have q2 := hH.2.2.2
  have hH0 := Lib.hid (frHold hH (drew_below _))
  clear hb hH hs0
  go_wp2_with fail
  go_region_held3 (fun wr => (Below w.heap.size w wr ∧ w.heap.size < wr.heap.size) ∧ wr.cell? ⟨w.heap.size, 0, none⟩ = some (.int .i64 k) ∧ wr.cell? ⟨w.heap.size, 1, none⟩ = some (.int .i64 c) ∧ wr.cell? ⟨w.heap.size, 2, none⟩ = some (tx d)) (first | exact frHold (by assumption) hb | exact hH0.out) ((first | (go_at_call 10; refine (c2.out _).mono ?_; rintro e w'' ⟨rfl, hb⟩) | (go_at_call 11; refine (c3.out _).mono ?_; rintro e w'' ⟨rfl, hb⟩) | (go_at_call 13; refine (c4.out _).mono ?_; rintro e w'' ⟨v1, rfl, hr1, hb⟩) | (go_at_call 14; refine (c5.out _).mono ?_; rintro e w'' ⟨v2, rfl, hr2, hb⟩; have hr1 := hr1.below hb) | (go_at_call 12; refine (c6.out _ _ _ hr1 hr2).mono ?_; rintro e w'' ⟨rfl, hb⟩)))
  rename_i hH
  have hH := Lib.hid hH.1.1
  go_wp2_with fail
  go_ret
  exact ⟨rfl, hH.out⟩

/-! ### frames that came in -/
theorem frame_of {w : World} {cs : List Value} (h : Read Try.prog w 23 cs) : ∃ (k c : Int) (d : List UInt8), cs = [.int .i64 k, .int .i64 c, tx d] ∧ (Lit.int .i64 k).wf = true ∧ (Lit.int .i64 c).wf = true := by
  have hu : Try.prog.underlying 23 = some (.struct (Try.prog.fieldsOf 23)) := by kernel_rfl
  obtain ⟨h1, h2⟩ := h.struct hu
  have hc : Try.prog.cellsOf 23 = 3 := by kernel_rfl
  have hi : Try.prog.cellsOf 3 = 1 := by kernel_rfl
  have hs : Try.prog.cellsOf 9 = 1 := by kernel_rfl
  rw [hc] at h1
  have f0 : ((Try.prog.fieldsOf 23)[0]?).map (fun f => (f.type, f.offset)) = some (3, 0) := by kernel_rfl
  have f1 : ((Try.prog.fieldsOf 23)[1]?).map (fun f => (f.type, f.offset)) = some (3, 1) := by kernel_rfl
  have f2 : ((Try.prog.fieldsOf 23)[2]?).map (fun f => (f.type, f.offset)) = some (9, 2) := by kernel_rfl
  simp only [Option.map_eq_some_iff, Prod.mk.injEq] at f0 f1 f2
  obtain ⟨g0, e0, t0, o0⟩ := f0
  obtain ⟨g1, e1, t1, o1⟩ := f1
  obtain ⟨g2, e2, t2, o2⟩ := f2
  have r0 := h2 0 g0 e0
  have r1 := h2 1 g1 e1
  have r2 := h2 2 g2 e2
  rw [t0, o0, hi] at r0
  rw [t1, o1, hi] at r1
  rw [t2, o2, hs] at r2
  match cs, h1 with
  | [x, y, z], _ =>
    have uInt : Try.prog.underlying 3 = some (.int .i64) := by kernel_rfl
    obtain ⟨k, hk, wk⟩ := r0.int uInt
    obtain ⟨c, hc', wc⟩ := r1.int uInt
    obtain ⟨d, hd, -⟩ := r2.string uStr6
    simp at hk hc' hd
    subst hk hc' hd
    exact ⟨k, c, d.data.toList, rfl, wk, wc⟩

theorem tells7_row {kind ch most : Int} {cs : Array Value} {s : ByteArray} {w : World} (rf : Read Try.prog w 23 cs.toList) :
    Calls Try.prog 3 #[.agg cs, .int .i64 kind, .int .i64 ch, .string s, .int .i64 most] w fun e w' => e = .returned (.bool true) ∧ Below w.heap.size w w' := by
  obtain ⟨k, c, d, hcs, -, -⟩ := frame_of rf
  obtain rfl : cs = #[.int .i64 k, .int .i64 c, tx d] := by
    apply Array.toList_inj.1
    rw [hcs]
  exact tells_walk k c kind ch d s.data.toList most w
end Go.Proofs.Ytjeejflmkdncpaa
