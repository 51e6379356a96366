/- The walk of RangesPlay, said of what the row's step hands over. -/
import Derived.Test.YtkahncfhphdkfaaRgsX
namespace Go.Proofs.Ytkahncfhphdkfaa
open Go.RowKit

theorem plays3_row {a : Option Addr} {len cap : Nat} {n : Int} {w : World} (r0 : Read Try.prog w 22 [.slice a len cap]) :
    Calls Try.prog 3 #[.slice a len cap, .int .i64 n] w fun e w' => e = .returned (.bool true) ∧ Below w.heap.size w w' := by
  obtain ⟨rd, hl⟩ := Read.slice Try.underlying22 (by rw [show Try.prog.cellsOf 31 = 3 by kernel_rfl]; decide) r0
  exact plays3_walk a len cap rd n w hl
end Go.Proofs.Ytkahncfhphdkfaa
