/- Num, Take as a law takes them up: all that turns is new. -/
import Derived.Test.YtnnpcjhjmghobaaDoorOcR
import Derived.Test.YtnnpcjhjmghobaaDoorArgs
namespace Go.Proofs.YtnnpcjhjmghobaaDoor
open Go.RowKit
set_option linter.unusedVariables false

/-! ### what a law's walk takes up: all that turns is new -/
theorem num_b (n k : Int) (w : World) {l : List UInt8} (h : low (heldN k) n = l) : Calls Tryd.prog 13 #[.int .i64 n, .int .i64 k] w fun e w' => e = .returned (tx l) ∧ Below w.heap.size w w' := h ▸ num_any n k w
theorem take_b {l r : List UInt8} {k : Int} {m : Nat} {en : Int} (hx : takeL l k = (m, r, en)) (hl : l.length ≤ maxLen) (w : World) :
    Calls Tryd.prog 16 #[tx l, .int .i64 k] w fun e w' => e = .returned (.tuple #[.int .i64 m, tx r, .int .i64 en]) ∧ Below w.heap.size w w' := by
  refine (take_to hx hl w).mono ?_
  rintro e w' ⟨rfl, n, rfl⟩
  exact ⟨rfl, drewN_below _ _⟩
theorem rtake_b {l r : List UInt8} {k : Int} {m : Nat} {en : Int} (hx : takeL l k = (m, r, en)) (hl : l.length ≤ maxLen) (w : World) :
    Calls Tryd.prog 18 #[tx l, .int .i64 k] w fun e w' => e = .returned (.tuple #[.int .i64 m, tx r, .int .i64 en]) ∧ Below w.heap.size w w' := by
  refine (rtake_to hx hl w).mono ?_
  rintro e w' ⟨rfl, n, rfl⟩
  exact ⟨rfl, drewN_below _ _⟩
/-- What is new to one is new to who came ahead. -/
theorem bel {a b c : World} (h : Below a.heap.size a b) (k : Below b.heap.size b c) : Below a.heap.size a c := h.trans (k.mono h.size)

theorem zeros_conv (w : World) (k : Nat) : (convert 28 9 (.slice (some ⟨w.heap.size, 0, none⟩) k k)).run Tryd.prog (w.alloc (rowOf (List.replicate k 0))) = .ok (tx (List.replicate k 0)) (w.alloc (rowOf (List.replicate k 0))) :=
  run_conv_bytes (by simp) fun i c hi => by
    rw [Nat.zero_add, rowOf, World.cell?_alloc_mark]
    show ((List.replicate k (0 : UInt8)).map _).toArray[i]? = _
    rw [List.getElem?_toArray, List.getElem?_map, hi]
    rfl
end Go.Proofs.YtnnpcjhjmghobaaDoor
