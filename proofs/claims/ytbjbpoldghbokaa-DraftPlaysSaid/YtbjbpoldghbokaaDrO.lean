/- DraftPlays: what came in. -/
import Derived.Test.YtbjbpoldghbokaaDrN
namespace Go.Proofs.Ytbjbpoldghbokaa
open Go.RowKit
set_option maxRecDepth 100000

theorem plays20_row {a0 : Option Addr} {n cap : Nat} {w : World} (r0 : ReadS Try.prog w 22 [.slice a0 n cap]) :
    Calls Try.prog 3 #[.slice a0 n cap] w fun e w' => e = .returned (.bool true) ∧ Below w.heap.size w w' := by
  obtain ⟨rd, hr⟩ := r0.slice (by kernel_rfl : Try.prog.underlying 22 = some (.slice 32)) (by decide +kernel)
  obtain ⟨G, hG⟩ := Stp20.of hr
  exact plays20_walk hG
end Go.Proofs.Ytbjbpoldghbokaa
