/- A bitmap's memory, and its leaves: which bit of its word a place is; the lowest bit of a word. -/
import Derived.Test.YtpnkaamijjeckaaDoorRows
import Derived.Test.YtpnkaamijjeckaaDoorSl
import Derived.Test.YtpnkaamijjeckaaDoorBmA
import Derived.Deep.QuietTactic
import Derived.BigQuiet
import Derived.Deep.RegionHeld3
import Derived.Laws.MakeOwn
import Derived.IntWalk
import Derived.Lib.Hide
import Derived.Laws.Bits64b
namespace Go.Proofs.YtpnkaamijjeckaaDoor
open Go.RowKit

abbrev bptr (b : Nat) : Value := .pointer (some ⟨b, 0, none⟩)

/-- The library's table, where it lies. -/
def TabAt (w : World) : Prop := ∀ j, j < 64 → w.cell? ⟨0, j, none⟩ = some (.int .u8 (Lib.deBruijn64tab.getD j 0))

/-! ### the leaves -/
set_option maxHeartbeats 1000000 in
theorem tz64_core (x k idx : Nat) (w : World) (hx0 : ((x : Int) == 0) = false)
    (key : IntKind.u64.wrap (bits BinOp.and IntKind.u64 (x : Int) (IntKind.u64.wrap (-(x : Int))) * 285870213051353865) / 288230376151711744 = (idx : Int))
    (hi : idx < 64) (hk : k < 64) (hcell : w.cell? ⟨0, idx, none⟩ = some (.int .u8 k)) :
    Calls Tryd.prog 42 #[.int .u64 x] w fun e w' => e = .returned (.int .i64 k) ∧ w = w' := by
  go_enter Tryd.func42, Tryd.ntmps42
  go_wp2_with (simp only [key])
  go_ret
  exact ⟨rfl, rfl⟩

theorem tz64_key (x a : Nat) (hx : x < 18446744073709551616) (hx0 : x ≠ 0) (hlow : x &&& (18446744073709551616 - x) = a) :
    IntKind.u64.wrap (bits BinOp.and IntKind.u64 (x : Int) (IntKind.u64.wrap (-(x : Int))) * 285870213051353865) / 288230376151711744 = ((a * 285870213051353865 % 18446744073709551616 / 288230376151711744 : Nat) : Int) := by
  have e1 : IntKind.u64.wrap (-(x : Int)) = ((18446744073709551616 - x : Nat) : Int) := by rw [IntKind.wrap_u64]; omega
  rw [e1, bits_and_u64_nat x _ hx (by omega), hlow, IntKind.wrap_u64]
  omega

/-- The lowest bit of a word that has one. -/
theorem tz64_any {x : Nat} (hx0 : x ≠ 0) (hx : x < 2 ^ 64) {w : World} (hT : TabAt w) :
    Calls Tryd.prog 42 #[.int .u64 x] w fun e w' => e = .returned (.int .i64 (Lib.ctz 64 x : Nat)) ∧ w = w' := by
  obtain ⟨hlow, hk⟩ := Lib.lowest_bit 64 x hx0 hx
  obtain ⟨hi, htab⟩ := Lib.deBruijn64_at _ hk
  have hc := hT _ hi
  rw [htab] at hc
  exact tz64_core x _ _ w (by rw [beq_eq_false_iff_ne]; omega) (tz64_key x _ hx hx0 hlow) hi hk hc

set_option maxHeartbeats 1000000 in
theorem bitOf_any (i : Nat) (w : World) (h : (i : Int) ≤ 9223372036854775807) :
    Calls Tryd.prog 41 #[.int .i64 i] w fun e w' => e = .returned (.int .u64 ((2 ^ (i % 64) : Nat) : Int)) ∧ w = w' := by
  have hp := pow_lt_64 (i % 64) (Nat.mod_lt _ (by decide))
  have e : Hid (IntKind.u64.wrap (2 ^ (i % 64)) = ((2 ^ (i % 64) : Nat) : Int)) := by
    refine Lib.hid ?_
    rw [IntKind.wrap_u64]
    have : ((2 : Int) ^ (i % 64)) = ((2 ^ (i % 64) : Nat) : Int) := by push_cast; rfl
    rw [this]
    generalize 2 ^ (i % 64) = q at hp ⊢
    omega
  clear hp
  go_enter Tryd.func41, Tryd.ntmps41
  go_wp2
  go_ret
  exact ⟨by simp [e.out], rfl⟩
end Go.Proofs.YtpnkaamijjeckaaDoor
