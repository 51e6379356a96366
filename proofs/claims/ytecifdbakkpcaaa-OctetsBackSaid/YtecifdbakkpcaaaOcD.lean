/- The document's own Num, Take, Text, TakeText. -/
import Derived.Test.YtecifdbakkpcaaaOcC
import Derived.Deep.LoopGhost
import Derived.Deep.CutBlock
import Derived.Deep.DeepCutAuto
namespace Go.Proofs.Ytecifdbakkpcaaa
open Go.RowKit
set_option linter.unusedVariables false

/-- A slice of one byte, read as a text. -/
theorem conv_one (z : Int) (W : World) : (convert 42 9 (.slice (some ⟨W.heap.size, 0, none⟩) 1 1)).run Try.prog (W.alloc (.cells #[.int .u8 (z % 256)] 5)) = .ok (tx [oct z]) (W.alloc (.cells #[.int .u8 (z % 256)] 5)) :=
  run_conv_bytes (l := [oct z]) rfl fun i c hi => by
    have h0 : i = 0 := by
      have := (List.getElem?_eq_some_iff.1 hi).1
      simp at this
      omega
    subst h0
    simp only [List.getElem?_cons_zero, Option.some.injEq] at hi
    subst hi
    rw [oct_nat, World.cell?_alloc_mark]
    rfl
theorem add_one (o : UInt8) (l : List UInt8) (hl : l.length ≤ 8388608) (W : World) : (Op.stringOp .add ⟨[o].toArray⟩ ⟨l.toArray⟩).run Try.prog W = .ok (tx (o :: l)) W := by
  rw [run_string_add_lists W [o] l (by simp) (by omega)]
  rfl
theorem low_step (n : Int) (i : Nat) : oct (n / 2 ^ (8 * i)) :: low i n = low (i + 1) n := by
  rw [low, Int.pow_mul]
  rfl

set_option maxHeartbeats 1000000 in
theorem rnum_any (n k : Int) (w : World) : Calls Try.prog 14 #[.int .i64 n, .int .i64 k] w fun e w' => e = .returned (tx (low (heldN k) n)) ∧ Below w.heap.size w w' := by
  have hk : k < 0 ∧ heldN k = 0 ∨ (0 ≤ k ∧ k < 7) ∧ (heldN k : Int) = k ∨ 7 ≤ k ∧ heldN k = 7 := by unfold heldN; omega
  have hq := heldN_le k
  generalize heldN k = q at *
  have cv := conv_one
  go_enter Try.func14, Try.ntmps14
  go_wp2_with fail
  go_loopg [5, 6] q (fun g v5 v6 wr => ∃ i : Nat, v5 = tx (low i n) ∧ v6 = .int .i64 i ∧ i + g = q ∧ Hid (Below w.heap.size w wr))
  case atStart => exact ⟨0, rfl, rfl, by omega, Lib.hid (Below.refl _ _)⟩
  case round =>
    obtain ⟨i, rfl, rfl, hi, hb⟩ := hrel
    have ha := fun o => add_one o (low i n) (by rw [low_length]; omega)
    have hi0 : (0 : Int) ≤ i := by omega
    by_cases hlt : i < q
    · have hi7 : (i : Int) < 7 := by omega
      have hik : (i : Int) < k := by omega
      have hs := Lib.hid (low_step n i)
      have hbA := Lib.hid (fun o => hb.out.alloc hb.out.size o)
      rcases hk with ⟨h1, h2⟩ | ⟨⟨h1, h2⟩, h3⟩ | ⟨h1, h2⟩
      · omega
      all_goals
        clear hb
        go_wp2_with fail
        all_goals
          go_roundg (q - (i + 1))
          case measure => omega
          case rel => exact ⟨i + 1, by rw [hs.out], by go_num, by omega, Lib.hid (hbA.out _)⟩
    · obtain rfl : i = q := by omega
      rcases hk with ⟨h1, h2⟩ | ⟨⟨h1, h2⟩, h3⟩ | ⟨h1, h2⟩
      · subst h2
        go_wp2_with fail
        all_goals
          go_ret
          exact ⟨rfl, hb.out⟩
      · replace h3 := Lib.hid h3
        have h4 : (i : Int) ≤ k := by rw [h3.out]; omega
        have h5 : ¬ (i : Int) < k := by rw [h3.out]; omega
        go_wp2_with fail
        all_goals
          go_ret
          exact ⟨rfl, hb.out⟩
      · subst h2
        go_wp2_with fail
        all_goals
          go_ret
          exact ⟨rfl, hb.out⟩

set_option maxHeartbeats 1000000 in
theorem rtake_to {l r : List UInt8} {k : Int} {m : Nat} {en : Int} (hx : takeL l k = (m, r, en)) (hl : l.length ≤ maxLen) (w : World) :
    Calls Try.prog 9 #[tx l, .int .i64 k] w fun e w' => e = .returned (.tuple #[.int .i64 m, tx r, .int .i64 en]) ∧ ∃ n, w' = w.drewN n := by
  have hk : k < 0 ∧ heldN k = 0 ∨ (0 ≤ k ∧ k < 7) ∧ k = (heldN k : Int) ∨ 7 ≤ k ∧ heldN k = 7 := by unfold heldN; omega
  have hq := heldN_le k
  unfold takeL at hx
  generalize heldN k = q at *
  go_enter Try.func9, Try.ntmps9
  go_upto_region 1 with fail
  go_cut [7] (fun v7 wx => v7 = .int .i64 q ∧ wx = w)
  case first =>
    clear hx
    rcases hk with ⟨h1, h2⟩ | ⟨⟨h1, h2⟩, h3⟩ | ⟨h1, h2⟩
    · subst h2
      go_wp2_with fail
      all_goals
        go_meet
        case rel => exact ⟨by go_num, rfl⟩
    · subst h3
      go_wp2_with fail
      all_goals
        go_meet
        case rel => exact ⟨by go_num, rfl⟩
    · subst h2
      go_wp2_with fail
      all_goals
        go_meet
        case rel => exact ⟨by go_num, rfl⟩
  case rest =>
    obtain ⟨rfl, rfl⟩ := hcut
    clear hk
    by_cases hs : l.length < q
    · rw [if_pos hs] at hx
      simp only [Prod.mk.injEq] at hx
      obtain ⟨rfl, rfl, rfl⟩ := hx
      go_wp2_with fail
      go_ret3
      exact ⟨rfl, 0, rfl⟩
    · rw [if_neg hs] at hx
      simp only [Prod.mk.injEq] at hx
      obtain ⟨rfl, rfl, rfl⟩ := hx
      go_wp2_with fail
      go_loopg [8, 9] q (fun g v8 v9 wr => ∃ i : Nat, v8 = .int .i64 (num (l.take i)) ∧ v9 = .int .i64 i ∧ i + g = q ∧ wr = wc)
      case atStart => exact ⟨0, rfl, rfl, by omega, rfl⟩
      case round =>
        obtain ⟨i, rfl, rfl, hi, rfl⟩ := hrel
        by_cases hlt : i < q
        · have hg : l[i]? = some l[i] := List.getElem?_eq_getElem (by omega)
          have hn := num_take hg
          have hb2 : num (l.take i) < 256 ^ 6 := Nat.lt_of_lt_of_le (num_lt _) (Nat.pow_le_pow_right (by decide) (by rw [List.length_take]; omega))
          have hu := u8_lt l[i]
          have hi0 : (0 : Int) ≤ i := by omega
          have hi1 : (i : Int) < l.length := by omega
          have hi2 : (i : Int) < 7 := by omega
          have hw : wrap64 ((l[i].toNat : Nat) : Int) = l[i].toNat := by
            unfold wrap64
            omega
          have e : wrap64 ((num (l.take i) : Int) * 256 + wrap64 ((⟨l.toArray⟩ : ByteArray)[i]'(by show i < l.length; omega)).toNat) = (num (l.take (i + 1)) : Nat) := by
            show wrap64 ((num (l.take i) : Int) * 256 + wrap64 (l[i].toNat : Nat)) = _
            rw [hw, hn]
            unfold wrap64
            omega
          replace hn := Lib.hid hn
          replace e := Lib.hid e
          clear hw
          go_wp2_with fail
          go_roundg (q - (i + 1))
          case measure => omega
          case rel => exact ⟨i + 1, by rw [← e.out], by go_num, by omega, rfl⟩
        · obtain rfl : i = q := by omega
          have hi0 : (0 : Int) ≤ i := by omega
          have hi1 : (i : Int) ≤ l.length := by omega
          have ex : (⟨l.toArray⟩ : ByteArray).extract i l.length = ⟨(l.drop i).toArray⟩ := by
            rw [ByteArray.extract_mk, List.take_of_length_le (by rw [List.length_drop]; omega)]
          go_wp2_with fail
          go_quiet (fail)
          go_wp2_with fail
          go_ret3
          exact ⟨rfl, _, rfl⟩

theorem rtext_to {l r : List UInt8} {en : Int} (hx : textL l = (r, en)) (hl : l.length ≤ 8388608) (w : World) :
    Calls Try.prog 15 #[tx l] w fun e w' => e = .returned (tx r) ∧ Below w.heap.size w w' := by
  unfold textL at hx
  have cv := conv_one
  have ha := add_one (oct (l.length : Int)) l hl
  go_enter Try.func15, Try.ntmps15
  by_cases hs : 255 < l.length
  · rw [if_pos hs] at hx
    simp only [Prod.mk.injEq] at hx
    obtain ⟨rfl, rfl⟩ := hx
    have hs' : (255 : Int) < l.length := by omega
    go_wp2_with fail
    go_ret
    exact ⟨rfl, Below.refl _ _⟩
  · rw [if_neg hs] at hx
    simp only [Prod.mk.injEq] at hx
    obtain ⟨rfl, rfl⟩ := hx
    have hs' : ¬ (255 : Int) < l.length := by omega
    have cv' := conv_one (l.length : Int) w
    rw [show (l.length : Int) % 256 = l.length by omega] at cv'
    clear cv
    go_wp2_with fail
    go_ret
    exact ⟨rfl, (Below.refl _ w).alloc (Nat.le_refl _) _⟩

set_option maxHeartbeats 1000000 in
theorem rtaketext_to {l t r : List UInt8} {most en : Int} (hx : takeTextL l most = (t, r, en)) (hl : l.length ≤ 16777216) (w : World) :
    Calls Try.prog 11 #[tx l, .int .i64 most] w fun e w' => e = .returned (.tuple #[tx t, tx r, .int .i64 en]) ∧ ∃ n, w' = w.drewN n := by
  cases l with
  | nil =>
    simp only [takeTextL, Prod.mk.injEq] at hx
    obtain ⟨rfl, rfl, rfl⟩ := hx
    go_enter Try.func11, Try.ntmps11
    go_wp2_with fail
    go_ret3
    exact ⟨rfl, 0, rfl⟩
  | cons b q =>
    simp only [takeTextL] at hx
    have hb := u8_lt b
    have e0 : ((⟨(b :: q).toArray⟩ : ByteArray)[0]'(by show 0 < (b :: q).length; simp)) = b := rfl
    have hw : wrap64 ((b.toNat : Nat) : Int) = b.toNat := by
      unfold wrap64
      omega
    have hlen : (b :: q).length = q.length + 1 := rfl
    obtain ⟨L, hL⟩ : ∃ L, L = b :: q := ⟨_, rfl⟩
    rw [← hL] at hlen hl ⊢
    have hL0 : (0 : Int) < L.length := by omega
    by_cases h1 : most < b.toNat
    · rw [if_pos h1] at hx
      simp only [Prod.mk.injEq] at hx
      obtain ⟨rfl, rfl, rfl⟩ := hx
      go_enter Try.func11, Try.ntmps11
      go_wp2_with fail
      go_ret3
      exact ⟨by subst hL; rfl, 0, rfl⟩
    · rw [if_neg h1] at hx
      by_cases h2 : q.length < b.toNat
      · rw [if_pos h2] at hx
        simp only [Prod.mk.injEq] at hx
        obtain ⟨rfl, rfl, rfl⟩ := hx
        have h2' : (q.length : Int) < b.toNat := by omega
        go_enter Try.func11, Try.ntmps11
        go_wp2_with fail
        go_ret3
        exact ⟨by subst hL; rfl, 0, rfl⟩
      · rw [if_neg h2] at hx
        simp only [Prod.mk.injEq] at hx
        obtain ⟨rfl, rfl, rfl⟩ := hx
        have h2' : ¬ (q.length : Int) < b.toNat := by omega
        have h3 : (1 : Int) + b.toNat ≤ L.length := by omega
        have h4 : (0 : Int) ≤ b.toNat := by omega
        have ex : (⟨(b :: q).toArray⟩ : ByteArray).extract 1 (1 + b.toNat) = ⟨(q.take b.toNat).toArray⟩ := by
          rw [ByteArray.extract_mk]
          simp
        have ey : (⟨(b :: q).toArray⟩ : ByteArray).extract (1 + b.toNat) (q.length + 1) = ⟨(q.drop b.toNat).toArray⟩ := by
          rw [ByteArray.extract_mk, List.take_of_length_le (by rw [List.length_drop, List.length_cons]; omega), Nat.add_comm]
          rfl
        replace ex := Lib.hid ex
        replace ey := Lib.hid ey
        go_enter Try.func11, Try.ntmps11
        go_wp2_with fail
        go_quiet (fail)
        go_wp2_with fail
        go_ret3
        refine ⟨?_, _, rfl⟩
        show Ending.returned (.tuple #[.string ((⟨(b :: q).toArray⟩ : ByteArray).extract 1 (1 + b.toNat)), .string ((⟨(b :: q).toArray⟩ : ByteArray).extract (1 + b.toNat) (q.length + 1)), .int .i64 0]) = _
        rw [ex.out, ey.out]
end Go.Proofs.Ytecifdbakkpcaaa
