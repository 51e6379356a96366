/- strings.Clone. -/
import Derived.Test.YtaolpcmecfhgnaaTxB
import Derived.Test.YtaolpcmecfhgnaaTxP
import Derived.Laws.MakeOwn
import Derived.Lib.BufferWrite
import Derived.Deep.RegionHeld3
namespace Go.Proofs.Ytaolpcmecfhgnaa
open Go.RowKit
set_option linter.unusedVariables false
set_option maxRecDepth 100000

/-! ### strings.Clone -/
theorem uPu8 : Try.prog.underlying 57 = some (.pointer 5) := by kernel_rfl

/-- The row with the text in it. -/
abbrev laidW (w : World) (l : List UInt8) : World := (w.alloc (rowOf (List.replicate l.length 0))).setRow w.heap.size (Lib.byteCells l).toArray
theorem laid_at (w : World) (l : List UInt8) : (laidW w l).heap[w.heap.size]? = some (.cells (Lib.byteCells l).toArray 5 (0, 0)) :=
  setRow_heap _ _ _ _ _ (0, 0) (heap_alloc_new w _)
theorem laid_below (w : World) (l : List UInt8) : Below w.heap.size w (laidW w l) :=
  ((Below.refl _ w).alloc (Nat.le_refl _) _).trans ⟨rfl, rfl, rfl, by simp, fun k hk => setRow_other _ _ _ _ (by omega)⟩
theorem run_lay (w : World) (l : List UInt8) (ty : TypeId) :
    (Builtin.copy_ #[47, 9] ty #[.slice (some ⟨w.heap.size, 0, none⟩) l.length l.length, tx l]).run Try.prog (w.alloc (rowOf (List.replicate l.length 0))) = .ok (goInt l.length) (laidW w l) := by
  have h := Lib.run_copy_row_string (P := Try.prog) (w.alloc (rowOf (List.replicate l.length 0))) 47 9 ty 5 w.heap.size 0 l.length l.length ⟨l.toArray⟩ (Lib.byteCells (List.replicate l.length 0)).toArray 5 uBytes6
    (by obtain ⟨i0, hi, hz0, hz1, hz2⟩ := info_parts infU86; rw [hi]; simp [hz1]) (heap_alloc_new w _) (Nat.le_refl _) (by simp [Lib.byteCells, ByteArray.size])
  rw [h]
  simp [Lib.byteCells, ByteArray.size, laidW]
theorem run_told (w : World) (l : List UInt8) (ty : TypeId) (h0 : l ≠ []) (hl : l.length ≤ 140737488351232) :
    (Builtin.unsafeString_ #[57, 3] ty #[.pointer (some ⟨w.heap.size, 0, none⟩), .int .i64 l.length]).run Try.prog (laidW w l) = .ok (tx l) ((laidW w l).freeze ⟨w.heap.size, 0, none⟩ l.length) := by
  obtain ⟨i0, hi, hz0, hz1, hz2⟩ := info_parts infU86
  refine Lib.run_unsafeString_row (P := Try.prog) (laidW w l) 57 3 ty 5 uPu8 (by simp [Program.cellsOf, hi, hz1]) w.heap.size l.length ?_ l h0 (Nat.le_refl _) (by omega) fun j x hx => ?_
  · unfold World.shape?
    rw [laid_at]
    simp [Lib.byteCells]
  · rw [Go.WideShapes.add_plain]
    have e : (laidW w l).cell? ⟨w.heap.size, 0 + j, none⟩ = (Lib.byteCells l).toArray[0 + j]? := by
      unfold World.cell?
      simp only [laid_at]
      rfl
    rw [e]
    simp [Lib.byteCells, hx]

set_option maxRecDepth 100000 in
theorem sclone_any (l : List UInt8) (w : World) (hl : l.length ≤ 140737488351232) : Calls Try.prog 21 #[tx l] w fun e w' => e = .returned (tx l) ∧ Below w.heap.size w w' := by
  by_cases h0 : l = []
  · subst h0
    go_enter Try.func21, Try.ntmps21
    go_wp2_with fail
    go_ret
    exact ⟨rfl, Below.refl _ _⟩
  · have hpos : (0 : Int) < l.length := by
      have := List.length_pos_iff.2 h0
      omega
    have h1 := mk_row w l.length hl
    have h2 := run_lay w l 3
    have h3 := run_told w l 9 h0 hl
    have hb := Lib.hid (Lib.below_freeze (laid_below w l) (p := ⟨w.heap.size, 0, none⟩) (Nat.le_refl _) l.length)
    clear hl
    generalize laidW w l = w2 at *
    generalize w2.freeze ⟨w.heap.size, 0, none⟩ l.length = w3 at *
    go_enter Try.func21, Try.ntmps21
    go_wp2_with fail
    go_ret
    exact ⟨rfl, hb.out⟩

set_option maxRecDepth 100000 in
theorem clone_any (l : List UInt8) (w : World) (hl : l.length ≤ 140737488351232) : Calls Try.prog 20 #[tx l] w fun e w' => e = .returned (tx l) ∧ Below w.heap.size w w' := by
  have c1 := Lib.hid (fun w => sclone_any l w hl)
  clear hl
  go_enter Try.func20, Try.ntmps20
  go_wp2_with fail
  refine (c1.out _).mono ?_
  rintro e w1 ⟨rfl, hb⟩
  replace hb := Lib.hid hb
  go_wp2_with fail
  go_ret
  exact ⟨rfl, hb.out⟩

end Go.Proofs.Ytaolpcmecfhgnaa
