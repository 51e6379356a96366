/- Octets: Text, strings.Clone, TakeText. -/
import Derived.Test.YtecifdbakkpcaaaOcB
import Derived.Laws.MakeOwn
import Derived.Lib.BufferWrite
import Derived.Deep.RegionHeld3
namespace Go.Proofs.Ytecifdbakkpcaaa
open Go.RowKit
set_option linter.unusedVariables false

theorem tx_add (a b : List UInt8) : (⟨a.toArray⟩ : ByteArray) ++ (⟨b.toArray⟩ : ByteArray) = ⟨(a ++ b).toArray⟩ := ByteArray.mk_append_mk a b

theorem text_to {l r : List UInt8} {en : Int} (hx : textL l = (r, en)) (hl : l.length ≤ 16777216) (w : World) :
    Calls Try.prog 12 #[tx l] w fun e w' => e = .returned (.tuple #[tx r, .int .i64 en]) ∧ Below w.heap.size w w' := by
  unfold textL at hx
  have c1 := num_any (l.length : Int) 1
  rw [show heldN 1 = 1 from rfl, low_one] at c1
  generalize oct (l.length : Int) = o at *
  replace c1 := Lib.hid c1
  go_enter Try.func12, Try.ntmps12
  by_cases hs : 255 < l.length
  · rw [if_pos hs] at hx
    simp only [Prod.mk.injEq] at hx
    obtain ⟨rfl, rfl⟩ := hx
    have hs' : (255 : Int) < l.length := by omega
    go_wp2_with fail
    go_ret2
    exact ⟨rfl, Below.refl _ _⟩
  · rw [if_neg hs] at hx
    simp only [Prod.mk.injEq] at hx
    obtain ⟨rfl, rfl⟩ := hx
    have hs' : ¬ (255 : Int) < l.length := by omega
    go_wp2_with fail
    refine (c1.out _).mono ?_
    rintro e w1 ⟨rfl, hb⟩
    replace hb := Lib.hid hb
    have ha : (Op.stringOp .add ⟨[o].toArray⟩ ⟨l.toArray⟩).run Try.prog w1 = .ok (tx (o :: l)) w1 := by
      rw [run_string_add_lists w1 [o] l (by simp) (by omega)]
      rfl
    go_wp2_with fail
    go_ret2
    exact ⟨rfl, hb.out⟩

/-! ### strings.Clone -/
theorem infU86 : (Try.prog.info? 5).map (fun i => (i.zero, i.size, i.bytes)) = some (some (.int .u8 0), 1, 1) := by kernel_rfl
theorem uPu8 : Try.prog.underlying 46 = some (.pointer 5) := by kernel_rfl

def rowOf (l : List UInt8) : Obj := .cells (Lib.byteCells l).toArray 5
theorem mk_row (w : World) (n : Nat) (hn : n ≤ 16777216) :
    (Instr.makeSlice 42 (.int .i64 (n : Int)) (.int .i64 (n : Int))).run Try.prog w = .ok (.slice (some ⟨w.heap.size, 0, none⟩) n n) (w.alloc (rowOf (List.replicate n 0))) := by
  obtain ⟨i0, hi, hz0, hz1, hz2⟩ := info_parts infU86
  have h := run_make (P := Try.prog) w 42 5 i0 (.int .u8 0) uBytes6 hi hz0 .i64 .i64 n n (by omega) (Int.le_refl _) (by rw [hz2]; omega) (by omega)
  rw [h, Int.toNat_natCast]
  congr 2
  unfold rowOf
  congr 1
  apply Array.toList_inj.1
  rw [hz1, Nat.mul_one, show (Value.int .u8 0).cells = #[Value.int .u8 0] from rfl, toList_madeCells_one]
  simp [Lib.byteCells]

/-- The row with the text in it. -/
abbrev laidW (w : World) (l : List UInt8) : World := (w.alloc (rowOf (List.replicate l.length 0))).setRow w.heap.size (Lib.byteCells l).toArray
theorem laid_at (w : World) (l : List UInt8) : (laidW w l).heap[w.heap.size]? = some (.cells (Lib.byteCells l).toArray 5 (0, 0)) :=
  setRow_heap _ _ _ _ _ (0, 0) (heap_alloc_new w _)
theorem laid_below (w : World) (l : List UInt8) : Below w.heap.size w (laidW w l) :=
  ((Below.refl _ w).alloc (Nat.le_refl _) _).trans ⟨rfl, rfl, rfl, by simp, fun k hk => setRow_other _ _ _ _ (by omega)⟩
theorem run_lay (w : World) (l : List UInt8) (ty : TypeId) :
    (Builtin.copy_ #[42, 9] ty #[.slice (some ⟨w.heap.size, 0, none⟩) l.length l.length, tx l]).run Try.prog (w.alloc (rowOf (List.replicate l.length 0))) = .ok (goInt l.length) (laidW w l) := by
  have h := Lib.run_copy_row_string (P := Try.prog) (w.alloc (rowOf (List.replicate l.length 0))) 42 9 ty 5 w.heap.size 0 l.length l.length ⟨l.toArray⟩ (Lib.byteCells (List.replicate l.length 0)).toArray 5 uBytes6
    (by obtain ⟨i0, hi, hz0, hz1, hz2⟩ := info_parts infU86; rw [hi]; simp [hz1]) (heap_alloc_new w _) (Nat.le_refl _) (by simp [Lib.byteCells, ByteArray.size])
  rw [h]
  simp [Lib.byteCells, ByteArray.size, laidW]
theorem run_told (w : World) (l : List UInt8) (ty : TypeId) (h0 : l ≠ []) (hl : l.length ≤ 16777216) :
    (Builtin.unsafeString_ #[46, 3] ty #[.pointer (some ⟨w.heap.size, 0, none⟩), .int .i64 l.length]).run Try.prog (laidW w l) = .ok (tx l) ((laidW w l).freeze ⟨w.heap.size, 0, none⟩ l.length) := by
  obtain ⟨i0, hi, hz0, hz1, hz2⟩ := info_parts infU86
  refine Lib.run_unsafeString_row (P := Try.prog) (laidW w l) 46 3 ty 5 uPu8 (by simp [Program.cellsOf, hi, hz1]) w.heap.size l.length ?_ l h0 (Nat.le_refl _) (by omega) fun j x hx => ?_
  · unfold World.shape?
    rw [laid_at]
    simp [Lib.byteCells]
  · rw [Go.WideShapes.add_plain]
    have e : (laidW w l).cell? ⟨w.heap.size, 0 + j, none⟩ = (Lib.byteCells l).toArray[0 + j]? := by
      unfold World.cell?
      simp only [laid_at]
      rfl
    rw [e]
    simp [Lib.byteCells, hx]

theorem sclone_any (l : List UInt8) (w : World) (hl : l.length ≤ 16777216) : Calls Try.prog 18 #[tx l] w fun e w' => e = .returned (tx l) ∧ Below w.heap.size w w' := by
  by_cases h0 : l = []
  · subst h0
    go_enter Try.func18, Try.ntmps18
    go_wp2_with fail
    go_ret
    exact ⟨rfl, Below.refl _ _⟩
  · have hpos : (0 : Int) < l.length := by
      have := List.length_pos_iff.2 h0
      omega
    have h1 := mk_row w l.length hl
    have h2 := run_lay w l 3
    have h3 := run_told w l 9 h0 hl
    have hb := Lib.hid (Lib.below_freeze (laid_below w l) (p := ⟨w.heap.size, 0, none⟩) (Nat.le_refl _) l.length)
    generalize laidW w l = w2 at *
    generalize w2.freeze ⟨w.heap.size, 0, none⟩ l.length = w3 at *
    go_enter Try.func18, Try.ntmps18
    go_wp2_with fail
    go_ret
    exact ⟨rfl, hb.out⟩

theorem clone_any (l : List UInt8) (w : World) (hl : l.length ≤ 16777216) : Calls Try.prog 17 #[tx l] w fun e w' => e = .returned (tx l) ∧ Below w.heap.size w w' := by
  have c1 := Lib.hid (fun w => sclone_any l w hl)
  go_enter Try.func17, Try.ntmps17
  go_wp2_with fail
  refine (c1.out _).mono ?_
  rintro e w1 ⟨rfl, hb⟩
  replace hb := Lib.hid hb
  go_wp2_with fail
  go_ret
  exact ⟨rfl, hb.out⟩

/-! ### TakeText -/
theorem drewN_below (w : World) (n : Nat) : Below w.heap.size w (w.drewN n) := ⟨rfl, rfl, rfl, Nat.le_refl _, fun _ _ => rfl⟩
theorem takeL_nil1 : takeL [] 1 = (0, [], 11) := by decide
theorem takeL_cons1 (b : UInt8) (r : List UInt8) : takeL (b :: r) 1 = (b.toNat, r, 0) := by
  unfold takeL
  rw [show heldN 1 = 1 from rfl, if_neg (by simp)]
  simp [num]

set_option maxHeartbeats 1000000 in
theorem taketext_to {l t r : List UInt8} {most en : Int} (hx : takeTextL l most = (t, r, en)) (hl : l.length ≤ 16777216) (w : World) :
    Calls Try.prog 10 #[tx l, .int .i64 most] w fun e w' => e = .returned (.tuple #[tx t, tx r, .int .i64 en]) ∧ Below w.heap.size w w' := by
  have hm : l.length ≤ maxLen := by unfold maxLen; omega
  cases l with
  | nil =>
    simp only [takeTextL, Prod.mk.injEq] at hx
    obtain ⟨rfl, rfl, rfl⟩ := hx
    have c1 := Lib.hid (take_to takeL_nil1 hm)
    go_enter Try.func10, Try.ntmps10
    go_wp2_with fail
    refine (c1.out _).mono ?_
    rintro e w1 ⟨rfl, n, rfl⟩
    go_wp2_with fail
    go_ret3
    exact ⟨rfl, drewN_below w _⟩
  | cons b q =>
    have c1 := Lib.hid (take_to (takeL_cons1 b q) hm)
    simp only [takeTextL] at hx
    have hb := u8_lt b
    by_cases h1 : most < b.toNat
    · rw [if_pos h1] at hx
      simp only [Prod.mk.injEq] at hx
      obtain ⟨rfl, rfl, rfl⟩ := hx
      go_enter Try.func10, Try.ntmps10
      go_wp2_with fail
      refine (c1.out _).mono ?_
      rintro e w1 ⟨rfl, n, rfl⟩
      go_wp2_with fail
      go_ret3
      exact ⟨rfl, drewN_below w _⟩
    · rw [if_neg h1] at hx
      by_cases h2 : q.length < b.toNat
      · rw [if_pos h2] at hx
        simp only [Prod.mk.injEq] at hx
        obtain ⟨rfl, rfl, rfl⟩ := hx
        have h2' : (q.length : Int) < b.toNat := by omega
        go_enter Try.func10, Try.ntmps10
        go_wp2_with fail
        refine (c1.out _).mono ?_
        rintro e w1 ⟨rfl, n, rfl⟩
        go_wp2_with fail
        go_ret3
        exact ⟨rfl, drewN_below w _⟩
      · rw [if_neg h2] at hx
        simp only [Prod.mk.injEq] at hx
        obtain ⟨rfl, rfl, rfl⟩ := hx
        have h2' : ¬ (q.length : Int) < b.toNat := by omega
        have h3 : (b.toNat : Int) ≤ q.length := by omega
        have h4 : (0 : Int) ≤ b.toNat := by omega
        have c2 := Lib.hid (fun w => clone_any (q.take b.toNat) w (by simp at hl ⊢; omega))
        generalize b.toNat = k at *
        go_enter Try.func10, Try.ntmps10
        go_wp2_with fail
        refine (c1.out _).mono ?_
        rintro e w1 ⟨rfl, n, rfl⟩
        go_wp2_with fail
        have ex : (⟨q.toArray⟩ : ByteArray).extract 0 k = ⟨(q.take k).toArray⟩ := by
          rw [ByteArray.extract_mk]
          simp
        have ey : (⟨q.toArray⟩ : ByteArray).extract k q.length = ⟨(q.drop k).toArray⟩ := by
          rw [ByteArray.extract_mk, List.take_of_length_le (by rw [List.length_drop]; omega)]
        go_region_held3 (fun _ => True) (trivial) ((go_at_call 17; refine (c2.out _).mono ?_; rintro e w2 ⟨rfl, hb2⟩))
        replace hb2 := Lib.hid hb2
        go_wp2_with fail
        go_ret3
        exact ⟨rfl, (drewN_below w _).trans hb2.out⟩
end Go.Proofs.Ytecifdbakkpcaaa
