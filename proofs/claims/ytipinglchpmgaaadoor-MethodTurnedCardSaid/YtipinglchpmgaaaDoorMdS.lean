/- MethodTurned, of whatever came in. -/
import Derived.Test.YtipinglchpmgaaaDoorMdR
import Derived.Test.YtipinglchpmgaaaDoorMdZ
namespace Go.Proofs.YtipinglchpmgaaaDoor
open Go.RowKit
set_option linter.unusedVariables false

theorem turned8_row {ca : Array Value} {c n : Int} {w : World} (hT : Kinds w.heap.size w) (ra : Read Tryd.prog w 25 ca.toList) (rc : Read Tryd.prog w 39 [.int .u16 c]) (rn : Read Tryd.prog w 5 [.int .u8 n]) :
    Calls Tryd.prog 5 #[.agg ca, .int .u16 c, .int .u8 n] w fun e w' => e = .returned (.bool true) ∧ Below w.heap.size w w' := by
  obtain ⟨a, sa, c1, na, d1, ea, ha⟩ := meth_of ra
  rw [ea]
  obtain ⟨x, hx, wf⟩ := rc.int (by kernel_rfl : Tryd.prog.underlying 39 = some (.int .u16))
  obtain ⟨y, hy, wf2⟩ := rn.int (by kernel_rfl : Tryd.prog.underlying 5 = some (.int .u8))
  simp only [List.cons.injEq, Value.int.injEq, true_and, and_true] at hx hy
  subst hx hy
  obtain ⟨h1, h2⟩ := bounds_u16 wf
  obtain ⟨k, rfl⟩ := Int.eq_ofNat_of_zero_le h1
  exact turned8_walk (by omega) wf2 hT ha
end Go.Proofs.YtipinglchpmgaaaDoor
