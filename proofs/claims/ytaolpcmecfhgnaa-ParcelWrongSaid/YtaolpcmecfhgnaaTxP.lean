/- What of texts stands alone: two of them as one, a row of bytes that is made, one letter taken. -/
import Derived.Test.YtaolpcmecfhgnaaTxB
import Derived.Laws.MakeOwn
import Derived.Lib.BufferWrite
namespace Go.Proofs.Ytaolpcmecfhgnaa
open Go.RowKit
set_option linter.unusedVariables false
set_option maxRecDepth 100000

theorem tx_add (a b : List UInt8) : (⟨a.toArray⟩ : ByteArray) ++ (⟨b.toArray⟩ : ByteArray) = ⟨(a ++ b).toArray⟩ := ByteArray.mk_append_mk a b

theorem infU86 : (Try.prog.info? 5).map (fun i => (i.zero, i.size, i.bytes)) = some (some (.int .u8 0), 1, 1) := by kernel_rfl

def rowOf (l : List UInt8) : Obj := .cells (Lib.byteCells l).toArray 5
theorem mk_row (w : World) (n : Nat) (hn : n ≤ 140737488351232) :
    (Instr.makeSlice 47 (.int .i64 (n : Int)) (.int .i64 (n : Int))).run Try.prog w = .ok (.slice (some ⟨w.heap.size, 0, none⟩) n n) (w.alloc (rowOf (List.replicate n 0))) := by
  obtain ⟨i0, hi, hz0, hz1, hz2⟩ := info_parts infU86
  have h := run_make (P := Try.prog) w 47 5 i0 (.int .u8 0) uBytes6 hi hz0 .i64 .i64 n n (by omega) (Int.le_refl _) (by rw [hz2]; omega) (by omega)
  rw [h, Int.toNat_natCast]
  congr 2
  unfold rowOf
  congr 1
  apply Array.toList_inj.1
  rw [hz1, Nat.mul_one, show (Value.int .u8 0).cells = #[Value.int .u8 0] from rfl, toList_madeCells_one]
  simp [Lib.byteCells]

theorem drewN_below (w : World) (n : Nat) : Below w.heap.size w (w.drewN n) := ⟨rfl, rfl, rfl, Nat.le_refl _, fun _ _ => rfl⟩
theorem takeL_nil1 : takeL [] 1 = (0, [], 11) := by decide
theorem takeL_cons1 (b : UInt8) (r : List UInt8) : takeL (b :: r) 1 = (b.toNat, r, 0) := by
  unfold takeL
  rw [show heldN 1 = 1 from rfl, if_neg (by simp)]
  simp [num]
/-- What is new to one is new to who came ahead. -/
theorem bel {a b c : World} (h : Below a.heap.size a b) (k : Below b.heap.size b c) : Below a.heap.size a c := h.trans (k.mono h.size)

theorem zeros_conv (w : World) (k : Nat) : (convert 47 9 (.slice (some ⟨w.heap.size, 0, none⟩) k k)).run Try.prog (w.alloc (rowOf (List.replicate k 0))) = .ok (tx (List.replicate k 0)) (w.alloc (rowOf (List.replicate k 0))) :=
  run_conv_bytes (by simp) fun i c hi => by
    rw [Nat.zero_add, rowOf, World.cell?_alloc_mark]
    show ((List.replicate k (0 : UInt8)).map _).toArray[i]? = _
    rw [List.getElem?_toArray, List.getElem?_map, hi]
    rfl
/-- One byte read as a text. -/
theorem conv_byte10 {w : World} {b : Nat} {z : Int} (h : w.cell? ⟨b, 0, none⟩ = some (.int .u8 z)) (h0 : 0 ≤ z) (h1 : z ≤ 255) : (convert 47 9 (.slice (some ⟨b, 0, none⟩) 1 1)).run Try.prog w = .ok (tx [oct z]) w :=
  run_conv_bytes (l := [oct z]) rfl fun i c hi => by
    have hi0 : i = 0 := by
      have := (List.getElem?_eq_some_iff.1 hi).1
      simp at this
      omega
    subst hi0
    simp only [List.getElem?_cons_zero, Option.some.injEq] at hi
    subst hi
    rw [oct_nat, Nat.add_zero, h]
    congr 2
    omega
end Go.Proofs.Ytaolpcmecfhgnaa
