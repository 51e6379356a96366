/- MethodBack, of whatever came in. -/
import Derived.Test.YtipinglchpmgaaaDoorMdO
import Derived.Test.YtipinglchpmgaaaDoorMdZ
namespace Go.Proofs.YtipinglchpmgaaaDoor
open Go.RowKit
set_option linter.unusedVariables false

theorem back8_row {ca cb : Array Value} {c : Int} {s : ByteArray} {w : World} (hT : Kinds w.heap.size w) (ra : Read Tryd.prog w 25 ca.toList) (rb : Read Tryd.prog w 25 cb.toList) (rc : Read Tryd.prog w 39 [.int .u16 c]) :
    Calls Tryd.prog 4 #[.agg ca, .agg cb, .int .u16 c, .string s] w fun e w' => e = .returned (.bool true) ∧ Below w.heap.size w w' := by
  obtain ⟨a, sa, c1, na, d1, ea, ha⟩ := meth_of ra
  obtain ⟨b, sb, c2, nb, d2, eb, hb⟩ := meth_of rb
  rw [ea, eb]
  obtain ⟨x, hx, wf⟩ := rc.int (by kernel_rfl : Tryd.prog.underlying 39 = some (.int .u16))
  simp only [List.cons.injEq, Value.int.injEq, true_and, and_true] at hx
  subst hx
  obtain ⟨h1, h2⟩ := bounds_u16 wf
  obtain ⟨k, rfl⟩ := Int.eq_ofNat_of_zero_le h1
  exact back8_walk (more := s.data.toList) (by omega) hT ha hb
end Go.Proofs.YtipinglchpmgaaaDoor
