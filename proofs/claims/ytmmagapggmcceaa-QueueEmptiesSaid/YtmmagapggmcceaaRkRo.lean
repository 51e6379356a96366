/- Entries of an ID, a Prio, a time, put into a rack. -/
import Derived.Test.YtmmagapggmcceaaRkQ
namespace Go.Proofs.Ytmmagapggmcceaa
open Go.RowKit
open Go.ChangeMaps (setBlock)
set_option linter.unusedVariables false
set_option linter.unusedSectionVars false
set_option linter.unusedSimpArgs false
set_option maxRecDepth 100000

/-- An entry of an ID, a Prio, a time. -/
abbrev oE (n p t : Int) : Ent := ⟨n, 0, 0, [], [], p, 0, t, false, 0⟩
abbrev oV (n p t : Int) : Value := .agg #[.int .i64 n, .int .i64 0, .int .i64 0, tx [], tx [], .int .i64 p, .int .i64 0, .int .i64 t, .bool false, .int .i64 0]
section
variable {B : Nat} {w0 w : World} {rk : Nat} {M N : List Ent} {F : List (Nat × Obj)} {ok : Bool}
theorem put_to {n p t : Int} (hok : putOk M (oE n p t) = ok) (hN : putM M (oE n p t) = N) (h : RackIs B w0 w rk M F) (hl : M.length < 100000) : Calls Try.prog 20 #[rptr rk, oV n p t] w fun r w' => r = .returned (.bool ok) ∧ RackIs B w0 w' rk N F := by
  subst hok hN
  exact rk_put (e := oE n p t) h (by simp) (by simp) hl

end
end Go.Proofs.Ytmmagapggmcceaa
