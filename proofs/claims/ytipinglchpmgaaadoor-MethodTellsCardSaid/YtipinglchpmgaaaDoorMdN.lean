/- MethodTells, of whatever came in. -/
import Derived.Test.YtipinglchpmgaaaDoorMdM
import Derived.Test.YtipinglchpmgaaaDoorMdZ
namespace Go.Proofs.YtipinglchpmgaaaDoor
open Go.RowKit
set_option linter.unusedVariables false

theorem tells8_row {ca cb : Array Value} {s : ByteArray} {kind : Int} {w : World} (hT : Kinds w.heap.size w) (ra : Read Tryd.prog w 25 ca.toList) (rb : Read Tryd.prog w 25 cb.toList) :
    Calls Tryd.prog 3 #[.agg ca, .agg cb, .string s, .int .i64 kind] w fun e w' => e = .returned (.bool true) ∧ Below w.heap.size w w' := by
  obtain ⟨a, sa, c1, na, d1, ea, ha⟩ := meth_of ra
  obtain ⟨b, sb, c2, nb, d2, eb, hb⟩ := meth_of rb
  rw [ea, eb]
  exact tells8_walk (s := s.data.toList) hT ha hb
end Go.Proofs.YtipinglchpmgaaaDoor
