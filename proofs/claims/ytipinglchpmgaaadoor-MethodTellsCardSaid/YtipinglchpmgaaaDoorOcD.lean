/- The document's own Text, TakeText. -/
import Derived.Test.YtipinglchpmgaaaDoorOcC
import Derived.Test.YtipinglchpmgaaaDoorOcR
namespace Go.Proofs.YtipinglchpmgaaaDoor
open Go.RowKit
set_option linter.unusedVariables false

theorem rtext_to {l r : List UInt8} {en : Int} (hx : textL l = (r, en)) (hl : l.length ≤ 8388608) (w : World) :
    Calls Tryd.prog 33 #[tx l] w fun e w' => e = .returned (tx r) ∧ Below w.heap.size w w' := by
  unfold textL at hx
  have cv := conv_one
  have ha := add_one (oct (l.length : Int)) l hl
  go_enter Tryd.func33, Tryd.ntmps33
  by_cases hs : 255 < l.length
  · rw [if_pos hs] at hx
    simp only [Prod.mk.injEq] at hx
    obtain ⟨rfl, rfl⟩ := hx
    have hs' : (255 : Int) < l.length := by omega
    go_wp2_with fail
    go_ret
    exact ⟨rfl, Below.refl _ _⟩
  · rw [if_neg hs] at hx
    simp only [Prod.mk.injEq] at hx
    obtain ⟨rfl, rfl⟩ := hx
    have hs' : ¬ (255 : Int) < l.length := by omega
    have cv' := conv_one (l.length : Int) w
    rw [show (l.length : Int) % 256 = l.length by omega] at cv'
    clear cv
    go_wp2_with fail
    go_ret
    exact ⟨rfl, (Below.refl _ w).alloc (Nat.le_refl _) _⟩

set_option maxHeartbeats 1000000 in
theorem rtaketext_to {l t r : List UInt8} {most en : Int} (hx : takeTextL l most = (t, r, en)) (hl : l.length ≤ 16777216) (w : World) :
    Calls Tryd.prog 26 #[tx l, .int .i64 most] w fun e w' => e = .returned (.tuple #[tx t, tx r, .int .i64 en]) ∧ ∃ n, w' = w.drewN n := by
  cases l with
  | nil =>
    simp only [takeTextL, Prod.mk.injEq] at hx
    obtain ⟨rfl, rfl, rfl⟩ := hx
    go_enter Tryd.func26, Tryd.ntmps26
    go_wp2_with fail
    go_ret3
    exact ⟨rfl, 0, rfl⟩
  | cons b q =>
    simp only [takeTextL] at hx
    have hb := u8_lt b
    have e0 : ((⟨(b :: q).toArray⟩ : ByteArray)[0]'(by show 0 < (b :: q).length; simp)) = b := rfl
    have hw : wrap64 ((b.toNat : Nat) : Int) = b.toNat := by
      unfold wrap64
      omega
    have hlen : (b :: q).length = q.length + 1 := rfl
    obtain ⟨L, hL⟩ : ∃ L, L = b :: q := ⟨_, rfl⟩
    rw [← hL] at hlen hl ⊢
    have hL0 : (0 : Int) < L.length := by omega
    by_cases h1 : most < b.toNat
    · rw [if_pos h1] at hx
      simp only [Prod.mk.injEq] at hx
      obtain ⟨rfl, rfl, rfl⟩ := hx
      go_enter Tryd.func26, Tryd.ntmps26
      go_wp2_with fail
      go_ret3
      exact ⟨by subst hL; rfl, 0, rfl⟩
    · rw [if_neg h1] at hx
      by_cases h2 : q.length < b.toNat
      · rw [if_pos h2] at hx
        simp only [Prod.mk.injEq] at hx
        obtain ⟨rfl, rfl, rfl⟩ := hx
        have h2' : (q.length : Int) < b.toNat := by omega
        go_enter Tryd.func26, Tryd.ntmps26
        go_wp2_with fail
        go_ret3
        exact ⟨by subst hL; rfl, 0, rfl⟩
      · rw [if_neg h2] at hx
        simp only [Prod.mk.injEq] at hx
        obtain ⟨rfl, rfl, rfl⟩ := hx
        have h2' : ¬ (q.length : Int) < b.toNat := by omega
        have h3 : (1 : Int) + b.toNat ≤ L.length := by omega
        have h4 : (0 : Int) ≤ b.toNat := by omega
        have ex : (⟨(b :: q).toArray⟩ : ByteArray).extract 1 (1 + b.toNat) = ⟨(q.take b.toNat).toArray⟩ := by
          rw [ByteArray.extract_mk]
          simp
        have ey : (⟨(b :: q).toArray⟩ : ByteArray).extract (1 + b.toNat) (q.length + 1) = ⟨(q.drop b.toNat).toArray⟩ := by
          rw [ByteArray.extract_mk, List.take_of_length_le (by rw [List.length_drop, List.length_cons]; omega), Nat.add_comm]
          rfl
        replace ex := Lib.hid ex
        replace ey := Lib.hid ey
        go_enter Tryd.func26, Tryd.ntmps26
        go_wp2_with fail
        go_quiet (fail)
        go_wp2_with fail
        go_ret3
        refine ⟨?_, _, rfl⟩
        show Ending.returned (.tuple #[.string ((⟨(b :: q).toArray⟩ : ByteArray).extract 1 (1 + b.toNat)), .string ((⟨(b :: q).toArray⟩ : ByteArray).extract (1 + b.toNat) (q.length + 1)), .int .i64 0]) = _
        rw [ex.out, ey.out]
end Go.Proofs.YtipinglchpmgaaaDoor
