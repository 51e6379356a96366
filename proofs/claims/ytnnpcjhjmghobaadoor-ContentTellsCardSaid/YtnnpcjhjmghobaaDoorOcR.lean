/- The document's own Num, Take. -/
import Derived.Test.YtnnpcjhjmghobaaDoorTxP
import Derived.Deep.LoopGhost
import Derived.Deep.CutBlock
import Derived.Deep.DeepCutAuto
namespace Go.Proofs.YtnnpcjhjmghobaaDoor
open Go.RowKit
set_option linter.unusedVariables false

/-- A slice of one byte, read as a text. -/
theorem conv_one (z : Int) (W : World) : (convert 28 9 (.slice (some ⟨W.heap.size, 0, none⟩) 1 1)).run Tryd.prog (W.alloc (.cells #[.int .u8 (z % 256)] 5)) = .ok (tx [oct z]) (W.alloc (.cells #[.int .u8 (z % 256)] 5)) :=
  run_conv_bytes (l := [oct z]) rfl fun i c hi => by
    have h0 : i = 0 := by
      have := (List.getElem?_eq_some_iff.1 hi).1
      simp at this
      omega
    subst h0
    simp only [List.getElem?_cons_zero, Option.some.injEq] at hi
    subst hi
    rw [oct_nat, World.cell?_alloc_mark]
    rfl
theorem add_one (o : UInt8) (l : List UInt8) (hl : l.length ≤ 8388608) (W : World) : (Op.stringOp .add ⟨[o].toArray⟩ ⟨l.toArray⟩).run Tryd.prog W = .ok (tx (o :: l)) W := by
  rw [run_string_add_lists W [o] l (by simp) (by omega)]
  rfl
theorem low_step (n : Int) (i : Nat) : oct (n / 2 ^ (8 * i)) :: low i n = low (i + 1) n := by
  rw [low, Int.pow_mul]
  rfl

set_option maxHeartbeats 1000000 in
theorem rnum_any (n k : Int) (w : World) : Calls Tryd.prog 14 #[.int .i64 n, .int .i64 k] w fun e w' => e = .returned (tx (low (heldN k) n)) ∧ Below w.heap.size w w' := by
  have hk : k < 0 ∧ heldN k = 0 ∨ (0 ≤ k ∧ k < 7) ∧ (heldN k : Int) = k ∨ 7 ≤ k ∧ heldN k = 7 := by unfold heldN; omega
  have hq := heldN_le k
  generalize heldN k = q at *
  have cv := conv_one
  go_enter Tryd.func14, Tryd.ntmps14
  go_wp2_with fail
  go_loopg [5, 6] q (fun g v5 v6 wr => ∃ i : Nat, v5 = tx (low i n) ∧ v6 = .int .i64 i ∧ i + g = q ∧ Hid (Below w.heap.size w wr))
  case atStart => exact ⟨0, rfl, rfl, by omega, Lib.hid (Below.refl _ _)⟩
  case round =>
    obtain ⟨i, rfl, rfl, hi, hb⟩ := hrel
    have ha := fun o => add_one o (low i n) (by rw [low_length]; omega)
    have hi0 : (0 : Int) ≤ i := by omega
    by_cases hlt : i < q
    · have hi7 : (i : Int) < 7 := by omega
      have hik : (i : Int) < k := by omega
      have hs := Lib.hid (low_step n i)
      have hbA := Lib.hid (fun o => hb.out.alloc hb.out.size o)
      rcases hk with ⟨h1, h2⟩ | ⟨⟨h1, h2⟩, h3⟩ | ⟨h1, h2⟩
      · omega
      all_goals
        clear hb
        go_wp2_with fail
        all_goals
          go_roundg (q - (i + 1))
          case measure => omega
          case rel => exact ⟨i + 1, by rw [hs.out], by go_num, by omega, Lib.hid (hbA.out _)⟩
    · obtain rfl : i = q := by omega
      rcases hk with ⟨h1, h2⟩ | ⟨⟨h1, h2⟩, h3⟩ | ⟨h1, h2⟩
      · subst h2
        go_wp2_with fail
        all_goals
          go_ret
          exact ⟨rfl, hb.out⟩
      · replace h3 := Lib.hid h3
        have h4 : (i : Int) ≤ k := by rw [h3.out]; omega
        have h5 : ¬ (i : Int) < k := by rw [h3.out]; omega
        go_wp2_with fail
        all_goals
          go_ret
          exact ⟨rfl, hb.out⟩
      · subst h2
        go_wp2_with fail
        all_goals
          go_ret
          exact ⟨rfl, hb.out⟩

set_option maxHeartbeats 1000000 in
theorem rtake_to {l r : List UInt8} {k : Int} {m : Nat} {en : Int} (hx : takeL l k = (m, r, en)) (hl : l.length ≤ maxLen) (w : World) :
    Calls Tryd.prog 18 #[tx l, .int .i64 k] w fun e w' => e = .returned (.tuple #[.int .i64 m, tx r, .int .i64 en]) ∧ ∃ n, w' = w.drewN n := by
  have hk : k < 0 ∧ heldN k = 0 ∨ (0 ≤ k ∧ k < 7) ∧ k = (heldN k : Int) ∨ 7 ≤ k ∧ heldN k = 7 := by unfold heldN; omega
  have hq := heldN_le k
  unfold takeL at hx
  generalize heldN k = q at *
  go_enter Tryd.func18, Tryd.ntmps18
  go_upto_region 1 with fail
  go_cut [7] (fun v7 wx => v7 = .int .i64 q ∧ wx = w)
  case first =>
    clear hx
    rcases hk with ⟨h1, h2⟩ | ⟨⟨h1, h2⟩, h3⟩ | ⟨h1, h2⟩
    · subst h2
      go_wp2_with fail
      all_goals
        go_meet
        case rel => exact ⟨by go_num, rfl⟩
    · subst h3
      go_wp2_with fail
      all_goals
        go_meet
        case rel => exact ⟨by go_num, rfl⟩
    · subst h2
      go_wp2_with fail
      all_goals
        go_meet
        case rel => exact ⟨by go_num, rfl⟩
  case rest =>
    obtain ⟨rfl, rfl⟩ := hcut
    clear hk
    by_cases hs : l.length < q
    · rw [if_pos hs] at hx
      simp only [Prod.mk.injEq] at hx
      obtain ⟨rfl, rfl, rfl⟩ := hx
      go_wp2_with fail
      go_ret3
      exact ⟨rfl, 0, rfl⟩
    · rw [if_neg hs] at hx
      simp only [Prod.mk.injEq] at hx
      obtain ⟨rfl, rfl, rfl⟩ := hx
      go_wp2_with fail
      go_loopg [8, 9] q (fun g v8 v9 wr => ∃ i : Nat, v8 = .int .i64 (num (l.take i)) ∧ v9 = .int .i64 i ∧ i + g = q ∧ wr = wc)
      case atStart => exact ⟨0, rfl, rfl, by omega, rfl⟩
      case round =>
        obtain ⟨i, rfl, rfl, hi, rfl⟩ := hrel
        by_cases hlt : i < q
        · have hg : l[i]? = some l[i] := List.getElem?_eq_getElem (by omega)
          have hn := num_take hg
          have hb2 : num (l.take i) < 256 ^ 6 := Nat.lt_of_lt_of_le (num_lt _) (Nat.pow_le_pow_right (by decide) (by rw [List.length_take]; omega))
          have hu := u8_lt l[i]
          have hi0 : (0 : Int) ≤ i := by omega
          have hi1 : (i : Int) < l.length := by omega
          have hi2 : (i : Int) < 7 := by omega
          have hw : wrap64 ((l[i].toNat : Nat) : Int) = l[i].toNat := by
            unfold wrap64
            omega
          have e : wrap64 ((num (l.take i) : Int) * 256 + wrap64 ((⟨l.toArray⟩ : ByteArray)[i]'(by show i < l.length; omega)).toNat) = (num (l.take (i + 1)) : Nat) := by
            show wrap64 ((num (l.take i) : Int) * 256 + wrap64 (l[i].toNat : Nat)) = _
            rw [hw, hn]
            unfold wrap64
            omega
          replace hn := Lib.hid hn
          replace e := Lib.hid e
          clear hw
          go_wp2_with fail
          go_roundg (q - (i + 1))
          case measure => omega
          case rel => exact ⟨i + 1, by rw [← e.out], by go_num, by omega, rfl⟩
        · obtain rfl : i = q := by omega
          have hi0 : (0 : Int) ≤ i := by omega
          have hi1 : (i : Int) ≤ l.length := by omega
          have ex : (⟨l.toArray⟩ : ByteArray).extract i l.length = ⟨(l.drop i).toArray⟩ := by
            rw [ByteArray.extract_mk, List.take_of_length_le (by rw [List.length_drop]; omega)]
          go_wp2_with fail
          go_quiet (fail)
          go_wp2_with fail
          go_ret3
          exact ⟨rfl, _, rfl⟩
end Go.Proofs.YtnnpcjhjmghobaaDoor
