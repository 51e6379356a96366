/- GuestPlays' row. -/
import Derived.Test.YtpnkaamijjeckaaDoorGsW
namespace Go.Proofs.YtpnkaamijjeckaaDoor
open Go.RowKit
set_option maxRecDepth 100000
theorem plays18_row {a0 : Option Addr} {n cap : Nat} {w : World} (hT : Tab w.heap.size w) (r0 : ReadS Tryd.prog w 22 [.slice a0 n cap]) :
    Calls Tryd.prog 3 #[.slice a0 n cap] w fun e w' => e = .returned (.bool true) ∧ Below w.heap.size w w' := by
  obtain ⟨rd, hr⟩ := r0.slice (by kernel_rfl : Tryd.prog.underlying 22 = some (.slice 34)) (by decide +kernel)
  obtain ⟨G, hG⟩ := Stp18.of hr
  exact plays18_walk hG hT
end Go.Proofs.YtpnkaamijjeckaaDoor
