/- The statement of layer 16 about a queue that is emptied: what came in. -/
import Derived.Test.YtmmagapggmcceaaQuR
import Derived.Test.YtmmagapggmcceaaQuHh
namespace Go.Proofs.Ytmmagapggmcceaa
open Go.RowKit
set_option maxRecDepth 100000

theorem empties16_row {a0 : Option Addr} {n cap : Nat} {t u : Int} {w : World} (r0 : Read Try.prog w 22 [.slice a0 n cap]) (r1 : Read Try.prog w 5 [.int .u8 t]) (r2 : Read Try.prog w 5 [.int .u8 u]) :
    Calls Try.prog 6 #[.slice a0 n cap, .int .u8 t, .int .u8 u] w fun e w' => e = .returned (.bool true) ∧ Below w.heap.size w w' := by
  obtain ⟨rd, hr⟩ := r0.slice uBytes16 (by decide +kernel)
  obtain ⟨zs, hz⟩ := IntsAt.rows uU816 (by kernel_rfl) hr
  obtain ⟨y, hy, wf⟩ := r1.int uU816
  simp only [List.cons.injEq, Value.int.injEq, true_and, and_true] at hy
  subst hy
  obtain ⟨h1, h2⟩ := bounds_u8 wf
  obtain ⟨t, rfl⟩ := Int.eq_ofNat_of_zero_le h1
  obtain ⟨y, hy, wf⟩ := r2.int uU816
  simp only [List.cons.injEq, Value.int.injEq, true_and, and_true] at hy
  subst hy
  obtain ⟨h3, h4⟩ := bounds_u8 wf
  obtain ⟨u, rfl⟩ := Int.eq_ofNat_of_zero_le h3
  exact empties_walk hz (by omega) rfl (by omega)
end Go.Proofs.Ytmmagapggmcceaa
