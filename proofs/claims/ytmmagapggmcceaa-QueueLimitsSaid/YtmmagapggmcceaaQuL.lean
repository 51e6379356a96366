/- The statement of layer 16 about limits: what came in. -/
import Derived.Test.YtmmagapggmcceaaQuJ
import Derived.Test.YtmmagapggmcceaaQuK
import Derived.Test.YtmmagapggmcceaaQuHh
namespace Go.Proofs.Ytmmagapggmcceaa
open Go.RowKit
set_option maxRecDepth 100000

theorem limits16_row {a0 : Option Addr} {n cap : Nat} {t : Int} {b : Bool} {w : World} (r0 : Read Try.prog w 5 [.int .u8 t]) (r1 : Read Try.prog w 22 [.slice a0 n cap]) :
    Calls Try.prog 3 #[.int .u8 t, .slice a0 n cap, .bool b] w fun e w' => e = .returned (.bool true) ∧ Below w.heap.size w w' := by
  obtain ⟨rd, hr⟩ := r1.slice uBytes16 (by decide +kernel)
  obtain ⟨zs, hz⟩ := IntsAt.rows uU816 (by kernel_rfl) hr
  obtain ⟨y, hy, wf⟩ := r0.int uU816
  simp only [List.cons.injEq, Value.int.injEq, true_and, and_true] at hy
  subst hy
  obtain ⟨h1, h2⟩ := bounds_u8 wf
  obtain ⟨t, rfl⟩ := Int.eq_ofNat_of_zero_le h1
  obtain ⟨lim, hlim⟩ : ∃ lim, t % 61 = 0 ∧ lim = 60 ∨ 0 < t % 61 ∧ lim = t % 61 := by
    by_cases h : t % 61 = 0
    · exact ⟨60, .inl ⟨h, rfl⟩⟩
    · exact ⟨t % 61, .inr ⟨by omega, rfl⟩⟩
  cases b with
  | true => exact limits_true hz (by omega) rfl hlim
  | false => exact limits_false hz (by omega) rfl hlim
end Go.Proofs.Ytmmagapggmcceaa
