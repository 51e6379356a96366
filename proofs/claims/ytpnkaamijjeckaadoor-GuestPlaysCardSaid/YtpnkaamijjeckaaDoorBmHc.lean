/- The calls of a bitmap, each with what it answers written out. -/
import Derived.Test.YtpnkaamijjeckaaDoorBmG
import Derived.OpenShut
namespace Go.Proofs.YtpnkaamijjeckaaDoor
open Go.RowKit
set_option linter.unusedVariables false

theorem Tab.below {w w' : World} (h : Tab w.heap.size w) (hb : Below w.heap.size w w') : Tab w'.heap.size w' := by
  refine ⟨Nat.lt_of_lt_of_le h.1 hb.size, fun j hj => ?_⟩
  have := h.2 j hj
  exact (hb.cell (p := ⟨0, j, none⟩) h.1).trans this

section
variable {B : Nat} {w0 w : World} {bb k : Nat} {F : List (Nat × Obj)} {s : Nat → Bool}

theorem BmIs.below (h : BmIs B w0 w bb s k F) : Below B w0 w := by
  obtain ⟨-, -, L, ov, oF, -, -, h⟩ := h
  exact h.st.below

/-! The calls, each with what it answers written out. -/
theorem bm_next (h : BmIs B w0 w bb s k F) (i : Int) (hi : i ≤ 9223372036854775807) {r : Option Nat} (hr : nextAt s k i.toNat = r) :
    Calls Tryd.prog 33 #[bptr bb, .int .i64 i] w fun e w' => e = .returned (.tuple #[.int .i64 ((r.getD 0 : Nat) : Int), .bool r.isSome]) ∧ BmIs B w0 w' bb s k F :=
  (next_any h i hi).mono fun e w' ⟨h1, h2⟩ => ⟨by rw [h1, hr]; rfl, h.drews h2⟩
theorem bm_set (h : BmIs B w0 w bb s k F) (i : Int) (on : Bool) {t : Nat → Bool} (ht : setB s k i on = t) :
    Calls Tryd.prog 35 #[bptr bb, .int .i64 i, .bool on] w fun e w' => e = .returned (.tuple #[]) ∧ BmIs B w0 w' bb t k F :=
  (set_any h i on).mono fun e w' ⟨h1, h2⟩ => ⟨h1, ht ▸ h2⟩
theorem bm_has (h : BmIs B w0 w bb s k F) (i : Int) {b : Bool} (hb : hasB s k i = b) :
    Calls Tryd.prog 38 #[bptr bb, .int .i64 i] w fun e w' => e = .returned (.bool b) ∧ BmIs B w0 w' bb s k F :=
  (has_any h i).mono fun e w' ⟨h1, h2⟩ => ⟨by rw [h1, hb], h.drews h2⟩
def none0 : Nat → Bool := fun _ => false
theorem bm_new (hT : Tab B w0) (hst : St B w0 w F) (hk : k ≤ 5000) :
    Calls Tryd.prog 34 #[.int .i64 k] w fun e w' => ∃ bb, e = .returned (bptr bb) ∧ BmIs B w0 w' bb none0 k F :=
  new_any hT hst k k hk (.inr (.inl rfl))
end
end Go.Proofs.YtpnkaamijjeckaaDoor
