/- Heads that are read, by the document's own; both ways alike. -/
import Derived.Test.YtnnpcjhjmghobaaDoorCtD
import Derived.Laws.StructEq
namespace Go.Proofs.YtnnpcjhjmghobaaDoor
open Go.RowKit
set_option linter.unusedVariables false

theorem ret_rct {w : World} {rb : Nat} {tmps : Array Value} {x y z : Int} {e : Value} (h2 : tmps[2]? = some (.pointer (some ⟨rb, 0, none⟩))) (h3 : tmps[3]? = some e) (q0 : w.cell? ⟨rb, 0, none⟩ = some (.int .i64 x)) (q1 : w.cell? ⟨rb, 1, none⟩ = some (.int .i64 y)) (q2 : w.cell? ⟨rb, 2, none⟩ = some (.int .i64 z)) :
    (results Tryd.f15 tmps).run Tryd.prog w = .ok (.tuple #[ctV x y z, e]) w := by
  simp [results, Tryd.results15, go_sem, h2, h3, q0, q1, q2]
def okC (R : Red) : Bool := R.2 == 0
def RReadCR (w : World) (R : Red) (e : Ending) (w' : World) : Prop := e = .returned (.tuple #[ctV R.1.1 R.1.2.1 R.1.2.2, .bool (okC R)]) ∧ Below w.heap.size w w'

set_option maxHeartbeats 4000000 in
theorem rreadc_any {l : List UInt8} (hl : l.length ≤ maxLen) (w : World) : Calls Tryd.prog 15 #[tx l] w (RReadCR w (readC l)) := by
  have hst := (St.start w).alloc (ctO 0 0 0)
  rw [readC_eq]
  by_cases h9 : l.length = 9
  rotate_left
  · have h9' : ¬ (l.length : Int) = 9 := by omega
    rw [if_neg (fun h => h9 h.1)]
    have z2 := hst.cell (b := w.heap.size) (i := 0) List.mem_cons_self rfl
    have z3 := hst.cell (b := w.heap.size) (i := 1) List.mem_cons_self rfl
    have z4 := hst.cell (b := w.heap.size) (i := 2) List.mem_cons_self rfl
    have fin : Hid (RReadCR w badC (.returned (.tuple #[ctV 0 0 0, .bool false])) _) := Lib.hid ⟨rfl, hst.below⟩
    clear hst
    go_enter Tryd.func15, Tryd.ntmps15
    go_wp2_with fail
    refine bodyPost_ret (ret_rct (x := 0) (y := 0) (z := 0) rfl rfl z2 z3 z4) rfl fin.out
  · have hx1 := take4_ok (l := l) (by omega)
    have hx2 := take1_ok (l := l.drop 4) (by rw [List.length_drop]; omega)
    have hx3 := take4_ok (l := l.drop 5) (by rw [List.length_drop]; omega)
    have t1 := Lib.hid (rtake_b hx1 hl)
    have t2 := Lib.hid (rtake_b hx2 (by rw [List.length_drop]; omega))
    have t3 := Lib.hid (rtake_b hx3 (by rw [List.length_drop]; omega))
    have ex1 : (⟨l.toArray⟩ : ByteArray).extract 4 l.length = ⟨(l.drop 4).toArray⟩ := by
      rw [ByteArray.extract_mk, List.take_of_length_le (by rw [List.length_drop]; omega)]
    have ex2 : (⟨l.toArray⟩ : ByteArray).extract 5 l.length = ⟨(l.drop 5).toArray⟩ := by
      rw [ByteArray.extract_mk, List.take_of_length_le (by rw [List.length_drop]; omega)]
    have h9' : (l.length : Int) = 9 := by omega
    have hA := h9
    simp only [h9, true_and]
    clear hx1 hx2 hx3
    generalize num (l.take 4) = a at *
    generalize num ((l.drop 4).take 1) = b at *
    generalize num ((l.drop 5).take 4) = c at *
    have c1 := Lib.hid (risc_b a b c)
    generalize hR : (if isC a b c = true then (((a : Int), (b : Int), (c : Int)), (0 : Int)) else badC) = R at *
    replace hR := Lib.hid hR
    replace hA := Lib.hid hA
    replace hst := Lib.hid hst
    clear h9 hl
    go_enter Tryd.func15, Tryd.ntmps15
    go_wp2_with fail
    refine (t1.out _).mono ?_
    rintro e w1 ⟨rfl, hb⟩
    replace hst := Lib.hid (hst.out.grow hb)
    clear hb
    go_wp2_with fail
    refine (t2.out _).mono ?_
    rintro e w2 ⟨rfl, hb⟩
    replace hst := Lib.hid (hst.out.grow hb)
    clear hb
    go_wp2_with fail
    refine (t3.out _).mono ?_
    rintro e w3 ⟨rfl, hb⟩
    replace hst := Lib.hid ((hst.out.grow hb).alloc (ctO a b c))
    clear hb t1 t2 t3
    cases hC : isC a b c with
    | false =>
      rw [hC] at c1 hR
      clear hC
      go_wp2_with fail
      refine (c1.out _).mono ?_
      rintro e w4 ⟨rfl, hb⟩
      have hst1 := (hst.out.grow hb).sub (List.sublist_cons_self _ _)
      have z2 := hst1.cell (b := w.heap.size) (i := 0) List.mem_cons_self rfl
      have z3 := hst1.cell (b := w.heap.size) (i := 1) List.mem_cons_self rfl
      have z4 := hst1.cell (b := w.heap.size) (i := 2) List.mem_cons_self rfl
      have s0 := St.soft (b := w.heap.size) hst1 List.mem_cons_self 0
      have s1 := St.soft (b := w.heap.size) hst1 List.mem_cons_self 1
      have s2 := St.soft (b := w.heap.size) hst1 List.mem_cons_self 2
      obtain ⟨y0, y2, y3, y4⟩ := ct_done hst1 0 0 0 _ (Lib.hid rfl)
      have fin : Hid (RReadCR w R (.returned (.tuple #[ctV 0 0 0, .bool false])) _) := Lib.hid (by rw [← hR.out]; exact ⟨rfl, y0⟩)
      clear hb hst hst1 y0
      go_wp2_with fail
      refine bodyPost_ret (ret_rct (x := 0) (y := 0) (z := 0) rfl rfl y2 y3 y4) rfl fin.out
    | true =>
      rw [hC] at c1 hR
      clear hC
      go_wp2_with fail
      refine (c1.out _).mono ?_
      rintro e w4 ⟨rfl, hb⟩
      have hst0 := hst.out.grow hb
      have u0 := hst0.cell (b := w3.heap.size) (i := 0) List.mem_cons_self rfl
      have u1 := hst0.cell (b := w3.heap.size) (i := 1) List.mem_cons_self rfl
      have u2 := hst0.cell (b := w3.heap.size) (i := 2) List.mem_cons_self rfl
      have hst1 := hst0.sub (List.sublist_cons_self _ _)
      have z2 := hst1.cell (b := w.heap.size) (i := 0) List.mem_cons_self rfl
      have z3 := hst1.cell (b := w.heap.size) (i := 1) List.mem_cons_self rfl
      have z4 := hst1.cell (b := w.heap.size) (i := 2) List.mem_cons_self rfl
      have s0 := St.soft (b := w.heap.size) hst1 List.mem_cons_self 0
      have s1 := St.soft (b := w.heap.size) hst1 List.mem_cons_self 1
      have s2 := St.soft (b := w.heap.size) hst1 List.mem_cons_self 2
      obtain ⟨y0, y2, y3, y4⟩ := ct_done hst1 a b c _ (Lib.hid rfl)
      have fin : Hid (RReadCR w R (.returned (.tuple #[ctV a b c, .bool true])) _) := Lib.hid (by rw [← hR.out]; exact ⟨rfl, y0⟩)
      clear hb hst hst1 hst0 y0
      go_wp2_with fail
      refine bodyPost_ret (ret_rct rfl rfl y2 y3 y4) rfl fin.out

/-! ### whether both read alike -/
set_option maxHeartbeats 4000000 in
theorem reads_any {l : List UInt8} (hl : l.length ≤ maxLen) (w : World) (hT : Widths w.heap.size w) : Calls Tryd.prog 10 #[tx l] w fun e w' => e = .returned (.bool true) ∧ Below w.heap.size w w' := by
  have c1 := Lib.hid (readc_any hl w hT)
  have c2 := Lib.hid (fun w => rreadc_any hl w)
  have hen := readC_en l
  generalize readC l = R at *
  obtain ⟨⟨x, y, z⟩, en⟩ := R
  have hok : Hid (okC ((x, y, z), en) = (en == 0)) := Lib.hid rfl
  have hen' : en = 0 ∨ en = 502 := by
    rcases hen with h | h
    · exact .inl h
    · exact .inr (congrArg Prod.snd h)
  clear hen hT
  generalize hokk : okC ((x, y, z), en) = ok at *
  go_enter Tryd.func10, Tryd.ntmps10
  go_wp2_with fail
  refine c1.out.mono ?_
  rintro e w1 ⟨rfl, hb⟩
  have hX := Lib.hid (Tri.start hb (.int .i64 x) (.int .i64 y) (.int .i64 z) 23)
  clear c1 hb
  go_wp2_with fail
  refine (c2.out _).mono ?_
  rintro e w2 ⟨rfl, hb⟩
  have hX1 := hX.out.step hb
  have hX2 := hX1.step (new_below w2 (ctO x y z))
  have q0 := hX2.c0
  have q1 := hX2.c1
  have q2 := hX2.c2
  replace hX2 := Lib.hid hX2
  clear hb hX hX1 c2
  rw [hokk]
  rcases hen' with rfl | rfl
  · rw [show ((0 : Int) == 0) = true from rfl] at hok
    obtain rfl := hok.out
    go_wp2_with fail
    go_ret
    exact ⟨rfl, hX2.out.below⟩
  · rw [show ((502 : Int) == 0) = false from rfl] at hok
    obtain rfl := hok.out
    go_wp2_with fail
    go_ret
    exact ⟨rfl, hX2.out.below⟩
end Go.Proofs.YtnnpcjhjmghobaaDoor
