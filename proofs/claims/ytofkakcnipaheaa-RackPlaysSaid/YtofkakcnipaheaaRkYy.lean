/- RackPlays: what came in. -/
import Derived.Test.YtofkakcnipaheaaRkY
namespace Go.Proofs.Ytofkakcnipaheaa
open Go.RowKit
set_option maxRecDepth 100000

theorem plays15_row {a0 : Option Addr} {n cap : Nat} {w : World} (r0 : ReadS Try.prog w 22 [.slice a0 n cap]) :
    Calls Try.prog 3 #[.slice a0 n cap] w fun e w' => e = .returned (.bool true) ∧ Below w.heap.size w w' := by
  obtain ⟨rd, hr⟩ := r0.slice (by kernel_rfl : Try.prog.underlying 22 = some (.slice 30)) (by decide +kernel)
  obtain ⟨G, hG⟩ := Stp15.of hr
  exact plays15_walk hG
end Go.Proofs.Ytofkakcnipaheaa
