/- SameTexts of equal ones. -/
import Derived.Test.YtpogfbnaendfoaaTss
import Derived.Deep.LoopGhost
import Derived.Deep.QuietTactic
import Derived.BigQuiet
import Derived.Lib.Hide
namespace Go.Proofs.Ytpogfbnaendfoaa
open Go.RowKit
set_option linter.unusedVariables false

set_option maxHeartbeats 1000000 in
theorem sameTexts_true {w : World} {v1 v2 : Value} {l : List (List UInt8)} (h1 : ReadTs w v1 l) (h2 : ReadTs w v2 l) (hl : l.length ≤ 1073741824) : Calls Try.prog 12 #[v1, v2] w fun e w' => e = .returned (.bool true) ∧ Below w.heap.size w w' := by
  obtain ⟨a1, c1, rfl, h1⟩ := h1
  obtain ⟨a2, c2, rfl, h2⟩ := h2
  replace h1 := Lib.hid h1
  replace h2 := Lib.hid h2
  go_enter Try.func12, Try.ntmps12
  go_wp2_with fail
  go_loopg [5] l.length (fun g i wt => ∃ p : Nat, i = .int .i64 p ∧ p + g = l.length ∧ ∃ m, wt = w.drewN m)
  case atStart => exact ⟨0, rfl, by omega, 0, rfl⟩
  case round =>
    obtain ⟨p, rfl, hp, m, rfl⟩ := hrel
    have hp0 : (0 : Int) ≤ p := by omega
    by_cases hlt : p < l.length
    · have hx : l[p]? = some l[p] := List.getElem?_eq_getElem hlt
      generalize l[p] = x at hx
      obtain ⟨-, b1, o1, rfl, k1⟩ := h1.out.at_ p x hx
      obtain ⟨-, b2, o2, rfl, k2⟩ := h2.out.at_ p x hx
      have hp1 : (p : Int) < l.length := by omega
      clear hx
      go_wp2_with fail
      go_quiet (fail)
      go_wp2_with fail
      go_roundg (l.length - (p + 1))
      case measure => omega
      case rel => exact ⟨p + 1, by go_num, by omega, _, rfl⟩
    · go_wp2_with fail
      go_ret
      exact ⟨rfl, drewN_below _ _⟩
end Go.Proofs.Ytpogfbnaendfoaa
