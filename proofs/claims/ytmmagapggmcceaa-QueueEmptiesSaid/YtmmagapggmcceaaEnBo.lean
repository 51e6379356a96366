/- Options: what is told by numbers alone. -/
import Derived.Test.YtmmagapggmcceaaEnB
import Derived.Test.YtmmagapggmcceaaEnO
namespace Go.Proofs.Ytmmagapggmcceaa
open Go.RowKit
set_option linter.unusedVariables false
set_option maxRecDepth 100000

theorem limit_any (o : Opt) (w : World) : Calls Try.prog 21 #[opV o] w fun r w' => r = .returned (.int .i64 (limitO o)) ∧ Below w.heap.size w w' := by
  have hb := Lib.hid (new_below w (opO o))
  by_cases h1 : o.maxLen < 1
  · have f : limitO o = 60 := by unfold limitO; rw [if_neg (by omega)]
    rw [f]
    clear f
    go_enter Try.func21, Try.ntmps21
    go_wp2_with fail
    go_ret
    exact ⟨rfl, hb.out⟩
  by_cases h2 : o.maxLen > 60
  · have f : limitO o = 60 := by unfold limitO; rw [if_neg (by omega)]
    rw [f]
    clear f
    go_enter Try.func21, Try.ntmps21
    go_wp2_with fail
    go_ret
    exact ⟨rfl, hb.out⟩
  have f : limitO o = o.maxLen := by unfold limitO; rw [if_pos (by omega)]
  rw [f]
  clear f
  go_enter Try.func21, Try.ntmps21
  go_wp2_with fail
  go_ret
  exact ⟨rfl, hb.out⟩

end Go.Proofs.Ytmmagapggmcceaa
