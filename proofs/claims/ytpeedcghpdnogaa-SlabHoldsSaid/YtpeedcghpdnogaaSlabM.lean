/- The statement of layer 1 that holds and drops one body so often. -/
import Derived.Test.YtpeedcghpdnogaaSlabK
namespace Go.Proofs.Ytpeedcghpdnogaa
open Go.RowKit

def HV (l : List UInt8) (j : Int) : SV := ⟨1000 - cls l.length, 1, [(1, j, l)]⟩
def HE : SV := ⟨1000, 1, []⟩

theorem HV_put (l : List UInt8) (h : l.length ≤ 256) : (SV.new 1000).put l = ((1, 0), HV l 1) := by
  have hc := cls_le l.length
  unfold SV.put SV.new HV
  rw [if_neg (by omega), if_neg]
  · simp
    omega
  · simp
    omega
theorem HV_hold (l : List UInt8) (j : Int) : (HV l j).hold 1 = (0, HV l (j + 1)) := rfl
theorem HV_count (l : List UInt8) (j : Int) : (HV l j).count 1 = j := rfl
theorem HV_get (l : List UInt8) (j : Int) : (HV l j).get 1 = (l, 0) := rfl
theorem HV_drop (l : List UInt8) (j : Int) (h : 1 < j) : (HV l j).drop 1 = ((false, 0), HV l (j - 1)) := by
  show (if 1 < j then _ else _) = _
  rw [if_pos h]
  rfl
theorem HV_drop' (l : List UInt8) (j : Int) (h : 0 < j) : (HV l (j + 1)).drop 1 = ((false, 0), HV l j) := by
  rw [HV_drop l (j + 1) (by omega), Int.add_sub_cancel]
theorem HV_last (l : List UInt8) : (HV l 1).drop 1 = ((true, 0), HE) := by
  have h : (HV l 1).drop 1 = ((true, 0), (⟨1000 - cls l.length + cls l.length, 1, []⟩ : SV)) := rfl
  rw [h, Int.sub_add_cancel]
  rfl
theorem HE_drop : HE.drop 1 = ((false, 13), HE) := rfl
theorem HV_few {l : List UInt8} {j : Int} (h : j < 9223372036854775807) : ∀ x ∈ (HV l j).bs, x.2.1 < 9223372036854775807 := by
  intro x hx
  obtain rfl := List.mem_singleton.1 hx
  exact h

theorem bstr_self (s : ByteArray) : bstr s.data.toList = .string s := rfl

set_option maxRecDepth 100000 in
set_option maxHeartbeats 4000000 in
theorem holds_walk (n : Int) (hn0 : 0 ≤ n) (hn1 : n ≤ 255) (b : ByteArray) (hb : b.size ≤ maxLen) (w : World) :
    Calls Try.prog 7 #[.int .u8 n, .string b] w fun e w' => e = .returned (.bool true) ∧ Below w.heap.size w w' := by
  have hk := Lib.hid (known_true w)
  have hz : b.data.toList.length = b.size := by simp
  have hbm : (b.size : Int) ≤ 9223372036854775807 := by unfold maxLen at hb; omega
  have hb := Lib.hid hb
  have hz := Lib.hid hz
  by_cases hl : 256 < (b.size : Int)
  · go_enter Try.func7, Try.ntmps7
    go_wp2_with fail
    refine hk.out.mono ?_
    rintro e w1 ⟨rfl, hw1⟩
    have hw1 := Lib.hid hw1
    go_wp2_with fail
    go_ret
    exact ⟨rfl, hw1.out⟩
  · have hl' : (b.size : Int) ≤ 256 := by omega
    clear hl
    go_enter Try.func7, Try.ntmps7
    go_wp2_with fail
    refine hk.out.mono ?_
    rintro e w1 ⟨rfl, hw1⟩
    have hw1 := Lib.hid hw1
    have c1 := Lib.hid (new_is (St.start w1) 1000)
    go_wp2_with fail
    refine c1.out.mono ?_
    rintro e w2 ⟨rfl, h2⟩
    have c2 := Lib.hid (put_to h2 b hb.out (by decide) (HV_put _ (by rw [hz.out]; omega)))
    go_wp2_with fail
    refine c2.out.mono ?_
    rintro e w3 ⟨rfl, h3⟩
    have h3 := Lib.hid h3
    clear c1 c2 h2
    go_wp2_with fail
    go_loopw [8] (fun v wr => ∃ i : Int, v = .int .i64 i ∧ 0 ≤ i ∧ i ≤ n ∧ SlabIs w1.heap.size w1 wr w1.heap.size (HV b.data.toList (i + 1)) []) (fun v _ => (n - intOf v).toNat)
    case atStart => exact ⟨0, rfl, by omega, hn0, h3.out⟩
    case round =>
      obtain ⟨i, rfl, hi0, hi1, hi⟩ := hrel
      have c1 := Lib.hid (hold_to hi 1 (HV_few (by omega)) (HV_hold _ _))
      have hi := Lib.hid hi
      by_cases hlt : i < n
      · go_wp2_with fail
        refine c1.out.mono ?_
        rintro e w4 ⟨rfl, h4⟩
        have c2 := Lib.hid (count_to h4 1 (HV_count _ _))
        have h4 := Lib.hid h4
        go_wp2_with fail
        refine c2.out.mono ?_
        rintro e w5 ⟨rfl, rfl⟩
        go_wp2_with fail
        go_roundw
        case rel => exact ⟨i + 1, rfl, by omega, by omega, h4.out⟩
        case measure => simp [intOf]; omega
      · have hin : i = n := by omega
        subst hin
        clear c1
        go_wp2_with fail
        go_loopw [9] (fun v wr => ∃ j : Int, v = .int .i64 j ∧ 0 ≤ j ∧ j ≤ i ∧ SlabIs w1.heap.size w1 wr w1.heap.size (HV b.data.toList (j + 1)) []) (fun v _ => (intOf v).toNat)
        case atStart => exact ⟨i, rfl, by omega, by omega, hi.out⟩
        case round =>
          obtain ⟨j, rfl, hj0, hj1, hj⟩ := hrel
          clear hi
          by_cases hlt : 0 < j
          · have c1 := Lib.hid (drop_to hj 1 (HV_few (by omega)) (HV_drop' _ _ hlt))
            clear hj
            go_wp2_with fail
            refine c1.out.mono ?_
            rintro e w4 ⟨rfl, h4⟩
            have c2 := Lib.hid (count_to h4 1 (HV_count _ _))
            have h4 := Lib.hid h4
            go_wp2_with fail
            refine c2.out.mono ?_
            rintro e w5 ⟨rfl, rfl⟩
            go_wp2_with fail
            go_roundw
            case rel => exact ⟨j - 1, rfl, by omega, by omega, by rw [Int.sub_add_cancel]; exact h4.out⟩
            case measure => simp [intOf]; omega
          · have hj0' : j = 0 := by omega
            subst hj0'
            have c1 : Hid (Calls Try.prog 20 #[ptr w1.heap.size, .int .i64 1] _ fun e w' => e = .returned (.tuple #[.string b, .int .i64 0]) ∧ SlabIs w1.heap.size w1 w' w1.heap.size (HV b.data.toList (0 + 1)) []) := get_to hj 1 (HV_get _ _)
            clear hj
            go_wp2_with fail
            refine c1.out.mono ?_
            rintro e w4 ⟨rfl, h4⟩
            have c2 := Lib.hid (drop_to h4 1 (HV_few (by decide)) (HV_last _))
            clear h4
            go_wp2_with fail
            refine c2.out.mono ?_
            rintro e w5 ⟨rfl, h5⟩
            have c3 := Lib.hid (drop_to h5 1 (by decide) HE_drop)
            clear h5
            go_wp2_with fail
            refine c3.out.mono ?_
            rintro e w6 ⟨rfl, h6⟩
            have c4 : Hid (Calls Try.prog 17 #[ptr w1.heap.size] w6 fun e w' => e = .returned (.int .i64 1000) ∧ w6 = w') := free_is h6
            have h6 := Lib.hid h6
            go_wp2_with fail
            refine c4.out.mono ?_
            rintro e w7 ⟨rfl, rfl⟩
            go_wp2_with fail
            go_ret
            exact ⟨rfl, hw1.out.trans (h6.out.below.mono hw1.out.size)⟩
end Go.Proofs.Ytpeedcghpdnogaa
