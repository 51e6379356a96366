/- ContentTells. -/
import Derived.Test.YtnnpcjhjmghobaaDoorCtF
import Derived.Test.YtnnpcjhjmghobaaDoorByt
namespace Go.Proofs.YtnnpcjhjmghobaaDoor
open Go.RowKit
set_option linter.unusedVariables false

theorem tells9_begin (x y z : Int) (l : List UInt8) (n m : Int) (w : World) (hT : Widths w.heap.size w) (h50 : 50 < l.length) :
    Calls Tryd.prog 3 #[ctV x y z, tx l, .int .u8 n, .int .u8 m] w fun e w' => e = .returned (.bool true) ∧ Below w.heap.size w w' := by
  have hX := Lib.hid (Tri.start (Below.refl w.heap.size w) (.int .i64 x) (.int .i64 y) (.int .i64 z) 23)
  have c1 := Lib.hid (fun h => known9_true (w.alloc (ctO x y z)) h)
  have h1 : (50 : Int) < l.length := by omega
  have hT' := Lib.hid (hT.on (new_below w (ctO x y z)))
  clear hT h50
  go_enter Tryd.func3, Tryd.ntmps3
  go_wp2_with fail
  refine (c1.out hT'.out).mono ?_
  rintro e w1 ⟨rfl, hb⟩
  replace hX := Lib.hid (hX.out.step hb)
  clear hb
  go_wp2_with fail
  go_ret
  exact ⟨rfl, hX.out.below⟩

set_option maxHeartbeats 8000000 in
set_option maxRecDepth 100000 in
theorem tells9_nat (x y z : Int) (l : List UInt8) (n : Nat) (m : Int) (hn : n ≤ 255) (hm : (Lit.int .u8 m).wf = true) (w : World) (hT : Widths w.heap.size w) (h50 : ¬ 50 < l.length) :
    Calls Tryd.prog 3 #[ctV x y z, tx l, .int .u8 n, .int .u8 m] w fun e w' => e = .returned (.bool true) ∧ Below w.heap.size w w' := by
  have hlm : l.length ≤ maxLen := by unfold maxLen; omega
  have hX := Lib.hid (Tri.start (Below.refl w.heap.size w) (.int .i64 x) (.int .i64 y) (.int .i64 z) 23)
  have hW : Hid (∀ w', Below w.heap.size w w' → Widths w'.heap.size w') := Lib.hid fun w' hb => hT.on hb
  have c1 := Lib.hid (fun h => known9_true (w.alloc (ctO x y z)) h)
  have h1 : ¬ (50 : Int) < l.length := by omega
  have c2 : Hid (∀ wr, TriS w wr w.heap.size (.int .i64 x) (.int .i64 y) (.int .i64 z) → Calls Tryd.prog 6 #[ctV x y z] wr fun e w' => e = .returned (.bool (isC x y z)) ∧ Below wr.heap.size wr w') := Lib.hid fun wr _ => isc_b x y z wr
  have c3 : Hid (∀ wr, TriS w wr w.heap.size (.int .i64 x) (.int .i64 y) (.int .i64 z) → Calls Tryd.prog 7 #[ctV x y z] wr fun e w' => e = .returned (.bool (isC x y z)) ∧ Below wr.heap.size wr w') := Lib.hid fun wr _ => risc_b x y z wr
  have c4 : Hid (∀ wr, TriS w wr w.heap.size (.int .i64 x) (.int .i64 y) (.int .i64 z) → Calls Tryd.prog 8 #[ctV x y z] wr fun e w' => e = .returned (tx (bytesC x y z)) ∧ Below wr.heap.size wr w') := Lib.hid fun wr h => bytesc_any x y z wr (hT.on h.1.1)
  have c5 : Hid (∀ wr, TriS w wr w.heap.size (.int .i64 x) (.int .i64 y) (.int .i64 z) → Calls Tryd.prog 9 #[ctV x y z] wr fun e w' => e = .returned (tx (bytesC x y z)) ∧ Below wr.heap.size wr w') := Lib.hid fun wr h => rbytesc_any x y z wr
  have c6 : Hid (∀ wr, TriS w wr w.heap.size (.int .i64 x) (.int .i64 y) (.int .i64 z) → Calls Tryd.prog 10 #[tx l] wr fun e w' => e = .returned (.bool true) ∧ Below wr.heap.size wr w') := Lib.hid fun wr h => reads_any hlm wr (hT.on h.1.1)
  have c7 := Lib.hid (fun (L : List UInt8) (hL : L.length ≤ maxLen) wr hb => reads_any hL wr (hW.out wr hb))
  have hB : isC x y z = true → (bytesC x y z).length = 9 := fun h => by unfold bytesC; rw [if_pos h, rawC_len]
  generalize bytesC x y z = B at *
  generalize isC x y z = K at *
  clear hT h50 hlm
  have tr : ∀ wr, Tri w wr w.heap.size (.int .i64 x) (.int .i64 y) (.int .i64 z) → TriS w wr w.heap.size (.int .i64 x) (.int .i64 y) (.int .i64 z) := fun wr h => ⟨⟨h.below, h.lt⟩, h.c0, h.c1, h.c2⟩
  replace tr := Lib.hid tr
  have hq : (n : Int) % 9 = ((n % 9 : Nat) : Int) := by omega
  have hq9 : n % 9 < 9 := Nat.mod_lt _ (by decide)
  generalize n % 9 = q at *
  have hq0 : (0 : Int) ≤ q := by omega
  have hq1 : (q : Int) < 9 := by omega
  replace hq9 := Lib.hid hq9
  replace hn := Lib.hid hn
  replace hB := Lib.hid hB
  go_enter Tryd.func3, Tryd.ntmps3
  go_wp2_with fail
  refine (c1.out (hW.out _ hX.out.below)).mono ?_
  rintro e w1 ⟨rfl, hb⟩
  have hS := triHold (tr.out _ hX.out) hb
  have hS0 := Lib.hid (triHold hS (drew_below _))
  clear hb c1 hX hS
  go_wp2_with fail
  go_region_held3 (fun wr => (Below w.heap.size w wr ∧ w.heap.size < wr.heap.size) ∧ wr.cell? ⟨w.heap.size, 0, none⟩ = some (.int .i64 x) ∧ wr.cell? ⟨w.heap.size, 1, none⟩ = some (.int .i64 y) ∧ wr.cell? ⟨w.heap.size, 2, none⟩ = some (.int .i64 z)) (first | exact triHold (by assumption) hb | exact hS0.out) (first
    | (go_at_call 6; refine (c2.out _ (by assumption)).mono ?_; rintro e w'' ⟨rfl, hb⟩)
    | (go_at_call 7; refine (c3.out _ (by assumption)).mono ?_; rintro e w'' ⟨rfl, hb⟩)
    | (go_at_call 8; refine (c4.out _ (by assumption)).mono ?_; rintro e w'' ⟨rfl, hb⟩)
    | (go_at_call 9; refine (c5.out _ (by assumption)).mono ?_; rintro e w'' ⟨rfl, hb⟩)
    | (go_at_call 10; refine (c6.out _ (by assumption)).mono ?_; rintro e w'' ⟨rfl, hb⟩))
  rename_i hHeld
  have hS := Lib.hid hHeld
  clear hHeld hb hS0 c2 c5 c6
  have q0 := hS.out.2.1
  have q1' := hS.out.2.2.1
  have q2 := hS.out.2.2.2
  rename_i w2
  cases K with
  | false =>
    go_wp2_with fail
    refine (c3.out _ hS.out).mono ?_
    rintro e w3 ⟨rfl, hb⟩
    replace hS := Lib.hid (triHold hS.out hb)
    clear hb c3 q0 q1' q2
    go_wp2_with fail
    go_ret
    exact ⟨rfl, hS.out.1.1⟩
  | true =>
    have hB9 := hB.out rfl
    go_wp2_with fail
    refine (c3.out _ hS.out).mono ?_
    rintro e w3 ⟨rfl, hb⟩
    replace hS := Lib.hid (triHold hS.out hb)
    clear hb c3 q0 q1' q2
    have q0 := hS.out.2.1
    have q1' := hS.out.2.2.1
    have q2 := hS.out.2.2.2
    go_wp2_with fail
    refine (c4.out _ hS.out).mono ?_
    rintro e w4 ⟨rfl, hb⟩
    replace hS := Lib.hid (triHold hS.out hb)
    clear hb c4 q0 q1' q2
    obtain ⟨cap, W, hrun, hBy⟩ := bytes_of w4 B (by rw [hB9]; decide)
    rw [hB9] at hrun hBy
    have hcap : (9 : Int) ≤ cap := by have := hBy.le; omega
    have hbW := Lib.hid (bel hS.out.1.1 hBy.below)
    have v1 := hBy.whole cap
    replace hBy := Lib.hid hBy
    have r1 := Lib.hid (c7.out B (by rw [hB9]; decide) W hbW.out)
    have r2 := Lib.hid (c7.out (B.take q) (by rw [List.length_take, hB9]; unfold maxLen; omega))
    obtain ⟨c, hc⟩ : ∃ c, B[q]? = some c := ⟨_, List.getElem?_eq_getElem (by rw [hB9]; exact hq9.out)⟩
    obtain ⟨y', hxor⟩ := byte_xor c hm
    have r3 := Lib.hid (c7.out (B.set q y') (by rw [List.length_set, hB9]; decide))
    replace hc := Lib.hid hc
    replace hB9 := Lib.hid hB9
    clear c7 hB
    go_wp2_with fail
    refine r1.out.mono ?_
    rintro e w5 ⟨rfl, hb⟩
    replace hBy := Lib.hid (hBy.out.grow hb)
    replace hbW := Lib.hid (bel hbW.out hb)
    have v2 := fun c' => hBy.out.conv (k := q) (Nat.le_of_lt hq9.out) c'
    clear hb v1 r1
    go_wp2_with fail
    refine (r2.out _ hbW.out).mono ?_
    rintro e w6 ⟨rfl, hb⟩
    replace hBy := Lib.hid (hBy.out.grow hb)
    replace hbW := Lib.hid (bel hbW.out hb)
    have u1 := hBy.out.cell hc.out
    have u2 := hBy.out.soft hq9.out
    have hBy2 := hBy.out.set hq9.out y'
    have v3 := fun c' => hBy2.whole c'
    clear hb v2 r2
    have hbW2 := Lib.hid ((hS.out.1.1.trans (hBy2.below.mono hS.out.1.1.size)))
    replace hBy2 := Lib.hid hBy2
    go_wp2_with fail
    refine (r3.out _ hbW2.out).mono ?_
    rintro e w7 ⟨rfl, hb⟩
    replace hbW2 := Lib.hid (bel hbW2.out hb)
    clear hb v3 u1 u2
    go_wp2_with fail
    go_ret
    exact ⟨rfl, hbW2.out⟩

/-! ### heads that came in -/
theorem content_of {w : World} {cs : List Value} (h : Read Tryd.prog w 23 cs) : ∃ x y z : Int, cs = [.int .i64 x, .int .i64 y, .int .i64 z] := by
  have hu : Tryd.prog.underlying 23 = some (.struct (Tryd.prog.fieldsOf 23)) := by kernel_rfl
  obtain ⟨h1, h2⟩ := h.struct hu
  have hc : Tryd.prog.cellsOf 23 = 3 := by kernel_rfl
  have hi : Tryd.prog.cellsOf 3 = 1 := by kernel_rfl
  rw [hc] at h1
  have f0 : ((Tryd.prog.fieldsOf 23)[0]?).map (fun f => (f.type, f.offset)) = some (3, 0) := by kernel_rfl
  have f1 : ((Tryd.prog.fieldsOf 23)[1]?).map (fun f => (f.type, f.offset)) = some (3, 1) := by kernel_rfl
  have f2 : ((Tryd.prog.fieldsOf 23)[2]?).map (fun f => (f.type, f.offset)) = some (3, 2) := by kernel_rfl
  simp only [Option.map_eq_some_iff, Prod.mk.injEq] at f0 f1 f2
  obtain ⟨g0, e0, t0, o0⟩ := f0
  obtain ⟨g1, e1, t1, o1⟩ := f1
  obtain ⟨g2, e2, t2, o2⟩ := f2
  have r0 := h2 0 g0 e0
  have r1 := h2 1 g1 e1
  have r2 := h2 2 g2 e2
  rw [t0, o0, hi] at r0
  rw [t1, o1, hi] at r1
  rw [t2, o2, hi] at r2
  match cs, h1 with
  | [x, y, z], _ =>
    have uInt : Tryd.prog.underlying 3 = some (.int .i64) := by kernel_rfl
    obtain ⟨k, hk, wk⟩ := r0.int uInt
    obtain ⟨c, hc', wc⟩ := r1.int uInt
    obtain ⟨d, hd, wd⟩ := r2.int uInt
    simp at hk hc' hd
    subst hk hc' hd
    exact ⟨k, c, d, rfl⟩

theorem tells9_row {n m : Int} {cs : Array Value} {s : ByteArray} {w : World} (hT : Widths w.heap.size w) (rc : Read Tryd.prog w 23 cs.toList) (rn : Read Tryd.prog w 5 [.int .u8 n]) (rm : Read Tryd.prog w 5 [.int .u8 m]) :
    Calls Tryd.prog 3 #[.agg cs, .string s, .int .u8 n, .int .u8 m] w fun e w' => e = .returned (.bool true) ∧ Below w.heap.size w w' := by
  obtain ⟨x, y, z, hcs⟩ := content_of rc
  obtain rfl : cs = #[.int .i64 x, .int .i64 y, .int .i64 z] := by
    apply Array.toList_inj.1
    rw [hcs]
  obtain ⟨n', hn, wn⟩ := rn.int (by kernel_rfl : Tryd.prog.underlying 5 = some (.int .u8))
  obtain ⟨m', hm, wm⟩ := rm.int (by kernel_rfl : Tryd.prog.underlying 5 = some (.int .u8))
  simp only [List.cons.injEq, Value.int.injEq, true_and, and_true] at hn hm
  subst hn hm
  obtain ⟨h1, h2⟩ := bounds_u8 wn
  obtain ⟨n, rfl⟩ := Int.eq_ofNat_of_zero_le h1
  by_cases h50 : 50 < s.data.toList.length
  · exact tells9_begin x y z s.data.toList n m w hT h50
  · exact tells9_nat x y z s.data.toList n m (by omega) wm w hT h50
end Go.Proofs.YtnnpcjhjmghobaaDoor
