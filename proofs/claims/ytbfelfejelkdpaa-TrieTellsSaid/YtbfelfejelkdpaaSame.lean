/- Two slices of ints that read as the same row: SameInts (package mailcoachref1) answers true. -/
import Derived.Test.YtbfelfejelkdpaaRows
import Derived.Test.YtbfelfejelkdpaaSl
import Derived.Deep.QuietTactic
import Derived.BigQuiet
import Derived.Deep.LoopGhost
import Derived.Lib.Hide
namespace Go.Proofs.Ytbfelfejelkdpaa
open Go.RowKit
set_option maxRecDepth 100000

/-- The slice value reads as the integers l in w, wherever it lies. -/
def ReadInts (w : World) (v : Value) (l : List Int) : Prop :=
  ∃ a cap, v = .slice a l.length cap ∧ ∀ i x, l[i]? = some x → ∃ b off, a = some ⟨b, off, none⟩ ∧ w.cell? ⟨b, off + i, none⟩ = some (.int .i64 x)

theorem SlIs.readInts {T : TypeId} {v : Value} {l : List Int} {B : Nat} {w0 w : World} {A F : List (Nat × Obj)} (h : SlIs T 1 v l.length (l.map (Value.int .i64)) F) (hst : St B w0 w (A ++ F)) : ReadInts w v l := by
  obtain ⟨a, cap, rfl, _, _, ha⟩ := h.form
  refine ⟨a, cap, rfl, fun i x hx => ?_⟩
  obtain ⟨g, off, rfl⟩ := ha i (List.getElem?_eq_some_iff.1 hx).1
  exact ⟨g, off, rfl, h.cellAt hst (by simp [hx])⟩

set_option maxHeartbeats 1000000 in
theorem sameInts_true {w : World} {v1 v2 : Value} {l : List Int} (h1 : ReadInts w v1 l) (h2 : ReadInts w v2 l) (hl : l.length ≤ 1073741824) :
    Calls Try.prog 11 #[v1, v2] w fun e w' => e = .returned (.bool true) ∧ ∃ n, w' = w.drewN n := by
  obtain ⟨a1, c1, rfl, h1⟩ := h1
  obtain ⟨a2, c2, rfl, h2⟩ := h2
  replace h1 := Lib.hid h1
  replace h2 := Lib.hid h2
  go_enter Try.func11, Try.ntmps11
  go_wp2_with fail
  go_loopg [5] l.length (fun g i wt => ∃ p : Nat, i = .int .i64 p ∧ p + g = l.length ∧ ∃ m, wt = w.drewN m)
  case atStart => exact ⟨0, rfl, by omega, 0, rfl⟩
  case round =>
    obtain ⟨p, rfl, hp, m, rfl⟩ := hrel
    by_cases hlt : p < l.length
    · have hx : l[p]? = some l[p] := List.getElem?_eq_getElem hlt
      generalize l[p] = x at hx
      obtain ⟨b1, o1, rfl, k1⟩ := h1.out p x hx
      obtain ⟨b2, o2, rfl, k2⟩ := h2.out p x hx
      have hp1 : (p : Int) < l.length := by omega
      clear hx
      go_wp2_with fail
      go_quiet (fail)
      go_wp2_with fail
      go_roundg (l.length - (p + 1))
      case measure => omega
      case rel => exact ⟨p + 1, by go_num, by omega, _, rfl⟩
    · go_wp2_with fail
      go_ret
      exact ⟨rfl, _, rfl⟩
end Go.Proofs.Ytbfelfejelkdpaa
