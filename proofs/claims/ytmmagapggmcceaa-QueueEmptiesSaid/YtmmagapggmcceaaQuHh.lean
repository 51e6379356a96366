/- The statement of layer 16 about who goes: what came in. -/
import Derived.Test.YtmmagapggmcceaaQuH
namespace Go.Proofs.Ytmmagapggmcceaa
open Go.RowKit
set_option maxRecDepth 100000

theorem uBytes16 : Try.prog.underlying 22 = some (.slice 5) := by kernel_rfl
theorem uU816 : Try.prog.underlying 5 = some (.int .u8) := by kernel_rfl
theorem drops16_row {a0 : Option Addr} {n cap : Nat} {t : Int} {w : World} (r0 : Read Try.prog w 22 [.slice a0 n cap]) (r1 : Read Try.prog w 5 [.int .u8 t]) :
    Calls Try.prog 4 #[.slice a0 n cap, .int .u8 t] w fun e w' => e = .returned (.bool true) ∧ Below w.heap.size w w' := by
  obtain ⟨rd, hr⟩ := r0.slice uBytes16 (by decide +kernel)
  obtain ⟨zs, hz⟩ := IntsAt.rows uU816 (by kernel_rfl) hr
  obtain ⟨y, hy, wf⟩ := r1.int uU816
  simp only [List.cons.injEq, Value.int.injEq, true_and, and_true] at hy
  subst hy
  obtain ⟨h1, h2⟩ := bounds_u8 wf
  obtain ⟨t, rfl⟩ := Int.eq_ofNat_of_zero_le h1
  exact drops_walk (t := t) hz (by omega)
end Go.Proofs.Ytmmagapggmcceaa
