/- The statement of layer 16 about what comes back: what came in. -/
import Derived.Test.YtmmagapggmcceaaQuN
import Derived.Test.YtmmagapggmcceaaQuO
import Derived.Test.YtmmagapggmcceaaInR
namespace Go.Proofs.Ytmmagapggmcceaa
open Go.RowKit
set_option maxRecDepth 100000

theorem uU816b : Try.prog.underlying 5 = some (.int .u8) := by kernel_rfl
theorem backs16_row {t : Int} {b : Bool} {w : World} (r0 : Read Try.prog w 5 [.int .u8 t]) :
    Calls Try.prog 5 #[.int .u8 t, .bool b] w fun e w' => e = .returned (.bool true) ∧ Below w.heap.size w w' := by
  obtain ⟨y, hy, wf⟩ := r0.int uU816b
  simp only [List.cons.injEq, Value.int.injEq, true_and, and_true] at hy
  subst hy
  obtain ⟨h1, h2⟩ := bounds_u8 wf
  obtain ⟨t, rfl⟩ := Int.eq_ofNat_of_zero_le h1
  cases b with
  | true => exact backs_true (by omega) rfl
  | false => exact backs_false (by omega) rfl
end Go.Proofs.Ytmmagapggmcceaa
