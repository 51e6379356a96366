/- The document's racks: two rows of entries are the same. -/
import Derived.Test.YtbjbpoldghbokaaEnF
import Derived.WalkKit
import Derived.Deep.QuietTactic
import Derived.BigQuiet
import Derived.Deep.LoopGhost
import Derived.Lib.Hide
namespace Go.Proofs.Ytbjbpoldghbokaa
open Go.RowKit
open Go.ChangeMaps (setBlock)
set_option linter.unusedVariables false
set_option linter.unusedSectionVars false
set_option linter.unusedSimpArgs false
set_option maxRecDepth 100000

section
variable {w : World} {L : List Ent} {a : Option Addr} {c : Nat}
set_option maxHeartbeats 1000000 in
theorem rsame_any {a2 : Option Addr} {c2 : Nat} (hr : ReadEs w a L) (hr2 : ReadEs w a2 L) (hl : L.length ≤ 100000) : Calls Try.prog 12 #[.slice a L.length c, .slice a2 L.length c2] w fun r w' => r = .returned (.bool true) ∧ ∃ n, w' = w.drewN n := by
  have hr' : Hid (∀ m, ReadEs (w.drewN m) a L) := Lib.hid fun m => hr.below (drewN_below _ m)
  have hr2' : Hid (∀ m, ReadEs (w.drewN m) a2 L) := Lib.hid fun m => hr2.below (drewN_below _ m)
  have hl0 : (L.length : Int) ≤ 100000 := by omega
  clear hr hr2
  go_enter Try.func12, Try.ntmps12
  go_wp2_with fail
  go_loopg [5] L.length (fun g v5 wr => ∃ i m : Nat, v5 = .int .i64 i ∧ i + g = L.length ∧ wr = w.drewN m)
  case atStart => exact ⟨0, 0, rfl, by omega, rfl⟩
  case round =>
    obtain ⟨i, m, rfl, hi, rfl⟩ := hrel
    have i0 : (0 : Int) ≤ i := by omega
    by_cases hlt : i < L.length
    · have i1 : (i : Int) < L.length := by omega
      obtain ⟨x, hx⟩ : ∃ x, L[i]? = some x := ⟨_, List.getElem?_eq_getElem hlt⟩
      obtain ⟨b1, o1, rfl, x0, x1, x2, x3, x4, x5, x6, x7, x8, x9⟩ := hr'.out m i x hx
      obtain ⟨b2, o2, rfl, y0, y1, y2, y3, y4, y5, y6, y7, y8, y9⟩ := hr2'.out m i x hx
      clear hx hr' hr2'
      generalize hV : w.drewN m = V at *
      replace hV := Lib.hid hV
      go_wp2_with fail
      go_quiet (fail)
      go_wp2_with fail
      go_roundg (L.length - (i + 1))
      case measure => omega
      case rel => exact ⟨i + 1, _, by go_num, by omega, by rw [← hV.out]; exact drew_drew _ _ _⟩
    · clear hr' hr2'
      go_wp2_with fail
      go_ret
      exact ⟨rfl, m, rfl⟩
end
end Go.Proofs.Ytbjbpoldghbokaa
