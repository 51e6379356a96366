/- The statement of layer 15 about those whose time is over: what came in. -/
import Derived.Test.YtofkakcnipaheaaRkV
import Derived.Test.YtofkakcnipaheaaRkSs
namespace Go.Proofs.Ytofkakcnipaheaa
open Go.RowKit
set_option maxRecDepth 100000

theorem gone15_row {a0 : Option Addr} {n cap : Nat} {t : Int} {w : World} (r0 : Read Try.prog w 47 [.slice a0 n cap]) (r1 : Read Try.prog w 5 [.int .u8 t]) :
    Calls Try.prog 6 #[.slice a0 n cap, .int .u8 t] w fun e w' => e = .returned (.bool true) ∧ Below w.heap.size w w' := by
  obtain ⟨rd, hr⟩ := r0.slice uBytes15 (by decide +kernel)
  obtain ⟨zs, hz⟩ := IntsAt.rows uU815 (by kernel_rfl) hr
  obtain ⟨y, hy, wf⟩ := r1.int uU815
  simp only [List.cons.injEq, Value.int.injEq, true_and, and_true] at hy
  subst hy
  obtain ⟨h1, h2⟩ := bounds_u8 wf
  obtain ⟨t, rfl⟩ := Int.eq_ofNat_of_zero_le h1
  exact gone_walk (t := t) hz (by omega)
end Go.Proofs.Ytofkakcnipaheaa
