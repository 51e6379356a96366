/- Turns as complex numbers: Spin; texts of one letter, bools that tell who has spare. -/
import Derived.Test.YtpnkaamijjeckaaDoorGsJ
import Derived.Laws.ComplexArith
import Derived.Laws.BitsAllLaws
namespace Go.Proofs.YtpnkaamijjeckaaDoor
open Go.RowKit
set_option linter.unusedVariables false
set_option linter.unusedSectionVars false
set_option maxRecDepth 100000

theorem and3g (n : Int) : bits .and .i64 n 3 = n % 4 := by
  have h : (BitVec.ofInt 64 3).toNat = 2 ^ 2 - 1 := by decide
  show IntKind.i64.wrap ((BitVec.ofInt 64 n &&& BitVec.ofInt 64 3).toNat : Nat) = n % 4
  rw [BitVec.toNat_and, BitVec.toNat_ofInt, h, Nat.and_two_pow_sub_one_eq_mod, IntKind.wrap_i64]
  omega
/-- i to the power of q, as bits. -/
def cRe (q : Nat) : Nat := if q = 0 then 4607182418800017408 else if q = 2 then 13830554455654793216 else 0
def cIm (q : Nat) : Nat := if q = 1 then 4607182418800017408 else if q = 3 then 13830554455654793216 else 0
abbrev cV (q : Nat) : Value := .complex .f64 (cRe q) (cIm q)
/-- What Spin's power is. -/
def spn (z n : Int) : Nat := (z % 4 * (4 / n) % 4).toNat

set_option maxHeartbeats 2000000 in
theorem spin_any (z n : Int) (hn : n = 1 ∨ n = 2 ∨ n = 4) (w : World) : Calls Tryd.prog 20 #[.int .i64 z, .int .i64 n] w fun e w' => e = .returned (cV (spn z n)) ∧ w' = w := by
  have h3 := and3g z
  have b0 : bits .and .i64 0 3 = 0 := by decide
  have b1 : bits .and .i64 1 3 = 1 := by decide
  have b2 : bits .and .i64 2 3 = 2 := by decide
  have b3 : bits .and .i64 3 3 = 3 := by decide
  have b4 : bits .and .i64 4 3 = 0 := by decide
  have b6 : bits .and .i64 6 3 = 2 := by decide
  have b8 : bits .and .i64 8 3 = 0 := by decide
  have b12 : bits .and .i64 12 3 = 0 := by decide
  obtain ⟨m, hm⟩ : ∃ m, m = z % 4 := ⟨_, rfl⟩
  have hm4 : m = 0 ∨ m = 1 ∨ m = 2 ∨ m = 3 := by omega
  unfold spn
  rw [← hm] at h3 ⊢
  clear hm
  rcases hn with rfl | rfl | rfl
  all_goals
    rcases hm4 with rfl | rfl | rfl | rfl
    all_goals
      go_enter Tryd.func20, Tryd.ntmps20
      go_wp2_with fail
      go_ret
      exact ⟨rfl, rfl⟩
set_option maxHeartbeats 400000 in
theorem spin_no (z n : Int) (h1 : n ≠ 1) (h2 : n ≠ 2) (h4 : n ≠ 4) (w : World) : Calls Tryd.prog 20 #[.int .i64 z, .int .i64 n] w fun e w' => e = .returned (.complex .f64 0 0) ∧ w' = w := by
  have k1 : (n != 1) = true := by simpa using h1
  have k2 : (n != 2) = true := by simpa using h2
  have k4 : (n != 4) = true := by simpa using h4
  clear h1 h2 h4
  go_enter Tryd.func20, Tryd.ntmps20
  go_wp2_with fail
  go_ret
  exact ⟨rfl, rfl⟩

/-! ### who has spare, told by bools in a block -/
abbrev boolsO (l : List Bool) : Obj := .cells (l.map Value.bool).toArray 4
theorem GuIs.spare {B : Nat} {w0 w : World} {gb b T : Nat} {M : List Gst} {F : List (Nat × Obj)} {l : List Bool} (h : GuIs B w0 w gb M T F) (hm : (b, boolsO l) ∈ F) (hl : l.length ≤ 1000000) : SpAt w (some ⟨b, 0, none⟩) l.length (fun k => l.getD k false) := by
  obtain ⟨S, h1, -⟩ := h.beside
  refine ⟨by unfold maxLen; omega, fun k hk => ⟨b, 0, rfl, h1.cell (b := b) (c := (l.map Value.bool).toArray) (T := 4) (fr := (0, 0)) (List.mem_append_right _ hm) ?_⟩⟩
  rw [Nat.zero_add, List.getElem?_toArray, List.getElem?_map, List.getElem?_eq_getElem hk, Option.map_some, List.getD_eq_getElem?_getD, List.getElem?_eq_getElem hk]
  rfl
end Go.Proofs.YtpnkaamijjeckaaDoor
