/- What the row's condition on the library's table gives a walk. -/
import Derived.Test.YtpnkaamijjeckaaDoorBmC
import Derived.Lib.LaidTab
import Derived.LaidMore
import Derived.MakeChecks
namespace Go.Proofs.YtpnkaamijjeckaaDoor
open Go.RowKit

theorem gTab : Tryd.prog.globalNamed "math/bits.deBruijn64tab" = some 0 := by kernel_rfl
theorem tTab : (Tryd.prog.globals[0]?).map (·.type) = some 83 := by kernel_rfl
theorem uTab : Tryd.prog.underlying 83 = some (.array 64 5) := by kernel_rfl
theorem uU8T : Tryd.prog.underlying 5 = some (.int .u8) := by kernel_rfl

def laidT : List (String × DataW Unit) := [("math/bits.deBruijn64tab", Rows.laid_math_bits_deBruijn64tab)]
theorem laidT_is : laidT = [("math/bits.deBruijn64tab", Lib.tabData .u8 (Lib.deBruijn64tab.map fun n : Nat => (n : Int)))] := rfl

theorem tab_of_laid {W : World} (h : laidMetH Tryd.prog laidT W) : Tab W.heap.size W := by
  rw [MakeChecks.laidMetH_plain _ _ _ (by kernel_rfl), laidT_is] at h
  have ht := Lib.tabIs_of_head gTab tTab uTab uU8T (by kernel_rfl) (by kernel_rfl) h
  have key : TabAt W := fun j hj => by
    have := ht.cell gTab j (by simpa [Lib.deBruijn64tab] using hj)
    rw [this]
    congr 2
    rw [List.getD_eq_getElem?_getD, List.getD_eq_getElem?_getD, List.getElem?_map]
    cases Lib.deBruijn64tab[j]? <;> rfl
  exact ⟨World.block_lt_of_cell? W _ (key 0 (by decide)), key⟩

/-- The door's own heap meets the condition. -/
theorem door_met (os : Os) (args : Array Value) : laidMetH Tryd.prog laidT ((World.doorLaid Tryd.prog 14 os).forCall (fun _ _ => 0) ⟨#[], args, []⟩).memory :=
  laidMetH_of_parts3 (fuel := 8) (laidMet_of_run' 8 (by kernel_rfl) (by kernel_rfl)) (by kernel_rfl) (by kernel_rfl)
end Go.Proofs.YtpnkaamijjeckaaDoor
