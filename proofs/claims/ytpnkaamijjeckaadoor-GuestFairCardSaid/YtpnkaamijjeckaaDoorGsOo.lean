/- GuestDrops' row. -/
import Derived.Test.YtpnkaamijjeckaaDoorGsO
namespace Go.Proofs.YtpnkaamijjeckaaDoor
open Go.RowKit
set_option maxRecDepth 100000
theorem uU8g : Tryd.prog.underlying 5 = some (.int .u8) := by kernel_rfl
theorem read_u8 {z : Int} {w : World} (r : Read Tryd.prog w 5 [.int .u8 z]) : ∃ n : Nat, z = n ∧ n < 256 := by
  obtain ⟨y, hy, wf⟩ := r.int uU8g
  simp only [List.cons.injEq, Value.int.injEq, true_and, and_true] at hy
  subst hy
  obtain ⟨h1, h2⟩ := bounds_u8 wf
  obtain ⟨t, rfl⟩ := Int.eq_ofNat_of_zero_le h1
  exact ⟨t, rfl, by omega⟩
theorem drops18_row {z0 z1 z2 : Int} {w : World} (hT : Tab w.heap.size w) (r0 : Read Tryd.prog w 5 [.int .u8 z0]) (r1 : Read Tryd.prog w 5 [.int .u8 z1]) (r2 : Read Tryd.prog w 5 [.int .u8 z2]) :
    Calls Tryd.prog 6 #[.int .u8 z0, .int .u8 z1, .int .u8 z2] w fun e w' => e = .returned (.bool true) ∧ Below w.heap.size w w' := by
  obtain ⟨n0, rfl, h0⟩ := read_u8 r0
  obtain ⟨n1, rfl, h1⟩ := read_u8 r1
  obtain ⟨n2, rfl, h2⟩ := read_u8 r2
  exact drops_walk h0 h1 h2 hT
end Go.Proofs.YtpnkaamijjeckaaDoor
