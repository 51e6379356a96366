/- GuestFair's row. -/
import Derived.Test.YtpnkaamijjeckaaDoorGsP
import Derived.Test.YtpnkaamijjeckaaDoorGsOo
namespace Go.Proofs.YtpnkaamijjeckaaDoor
open Go.RowKit
set_option maxRecDepth 100000
theorem uU16g : Tryd.prog.underlying 44 = some (.int .u16) := by kernel_rfl
theorem fair18_row {z0 : Int} {a : Option Addr} {n cap : Nat} {w : World} (hT : Tab w.heap.size w) (r0 : Read Tryd.prog w 5 [.int .u8 z0]) (r1 : Read Tryd.prog w 43 [.slice a n cap]) :
    Calls Tryd.prog 4 #[.int .u8 z0, .slice a n cap] w fun e w' => e = .returned (.bool true) ∧ Below w.heap.size w w' := by
  obtain ⟨n0, rfl, h0⟩ := read_u8 r0
  obtain ⟨rd, hr⟩ := r1.slice (by kernel_rfl : Tryd.prog.underlying 43 = some (.slice 44)) (by decide +kernel)
  obtain ⟨zs, hz⟩ := IntsAt.rows uU16g (by kernel_rfl) hr
  exact fair_walk hz h0 hT
end Go.Proofs.YtpnkaamijjeckaaDoor
