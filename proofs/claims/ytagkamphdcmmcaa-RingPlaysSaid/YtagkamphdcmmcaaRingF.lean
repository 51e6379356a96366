/- The statement of layer 2 about both ends. -/
import Derived.Test.YtagkamphdcmmcaaRingE
import Derived.Test.YtagkamphdcmmcaaArgs
namespace Go.Proofs.Ytagkamphdcmmcaa
open Go.RowKit

def fillR (front : Bool) (l : List Int) (i : Nat) : List Int := if front then (l.take i).reverse else l.take i
theorem fillR_zero (front : Bool) (l : List Int) : fillR front l 0 = [] := by cases front <;> simp [fillR]
theorem fillR_front {l : List Int} {i : Nat} {x : Int} (h : l[i]? = some x) : x :: fillR true l i = fillR true l (i + 1) := by
  simp [fillR, List.take_add_one, h]
theorem fillR_back {l : List Int} {i : Nat} {x : Int} (h : l[i]? = some x) : fillR false l i ++ [x] = fillR false l (i + 1) := by
  simp [fillR, List.take_add_one, h]
theorem fillR_len {front : Bool} {l : List Int} {i : Nat} (h : i ≤ l.length) : (fillR front l i).length = i := by
  cases front <;> simp [fillR] <;> omega

/-- What is left behind i takes: from the front, or from the back. -/
def leftR (front same : Bool) (l : List Int) (i : Nat) : List Int := if front = same then (fillR front l l.length).drop i else (fillR front l l.length).take (l.length - i)
theorem leftR_zero (front same : Bool) (l : List Int) : leftR front same l 0 = fillR front l l.length := by
  unfold leftR
  split
  · simp
  · rw [List.take_of_length_le (by rw [fillR_len (Nat.le_refl _)]; omega)]
def wantR (same : Bool) (l : List Int) (i : Nat) : Int := if same then l.getD (l.length - 1 - i) 0 else l.getD i 0

theorem full_at (front : Bool) {l : List Int} {i : Nat} (h : i < l.length) : (fillR front l l.length)[i]? = some (if front then l.getD (l.length - 1 - i) 0 else l.getD i 0) := by
  have h2 : l.length - 1 - i < l.length := by omega
  cases front
  · simp [fillR, h]
  · simp only [fillR, List.take_length, if_true]
    rw [List.getElem?_reverse h]
    simp [h2]

theorem left_shift {front : Bool} {l : List Int} {i : Nat} (h : i < l.length) : shiftR (leftR front front l i) = .tuple #[.int .i64 (wantR front l i), .bool true] ∧ (leftR front front l i).tail = leftR front front l (i + 1) := by
  unfold leftR shiftR
  simp only [if_true]
  refine ⟨?_, by rw [List.tail_drop]⟩
  rw [List.head?_drop, full_at front h]
  rfl
theorem left_pop {front same : Bool} {l : List Int} {i : Nat} (hne : front ≠ same) (h : i < l.length) : popR (leftR front same l i) = .tuple #[.int .i64 (wantR same l i), .bool true] ∧ (leftR front same l i).dropLast = leftR front same l (i + 1) := by
  unfold leftR popR
  simp only [if_neg hne]
  have hl := fillR_len (front := front) (Nat.le_refl l.length)
  have hlen : ((fillR front l l.length).take (l.length - i)).length = l.length - i := by rw [List.length_take, hl]; omega
  constructor
  · rw [List.getLast?_eq_getElem?, hlen, List.getElem?_take, if_pos (by omega), full_at front (by omega)]
    have e1 : l.length - i - 1 = l.length - 1 - i := by omega
    have e2 : l.length - 1 - (l.length - i - 1) = i := by omega
    cases front <;> cases same <;> simp_all [wantR]
  · rw [List.dropLast_eq_take, hlen, List.take_take]
    congr 1
    omega

theorem leftR_end (front same : Bool) (l : List Int) : leftR front same l l.length = [] := by
  have hl := fillR_len (front := front) (Nat.le_refl l.length)
  unfold leftR
  split
  · exact List.drop_of_length_le (by omega)
  · simp

theorem wantR_at {l : List Int} {i : Nat} (h : i < l.length) (same : Bool) : l[if same then l.length - 1 - i else i]? = some (wantR same l i) := by
  have h2 : l.length - 1 - i < l.length := by omega
  cases same <;> simp [wantR, h, h2]

set_option maxRecDepth 100000 in
set_option maxHeartbeats 4000000 in
theorem ends_walk (a : Option Addr) (len cap : Nat) (l : List Int) (front same : Bool) (w : World) (hl : IntsAt .i64 w a len l) :
    Calls Try.prog 5 #[.slice a len cap, .bool front, .bool same] w fun e w' => e = .returned (.bool true) ∧ Below w.heap.size w w' := by
  have hk := Lib.hid (known2_true w)
  by_cases hlong : (100 : Int) < len
  · clear hl
    go_enter Try.func5, Try.ntmps5
    go_wp2_with fail
    refine hk.out.mono ?_
    rintro e w1 ⟨rfl, hb⟩
    replace hb := Lib.hid hb
    go_wp2_with fail
    go_ret
    exact ⟨rfl, hb.out⟩
  · have hlen : len ≤ 100 := by omega
    clear hlong
    have hlong : decide ((100 : Int) < len) = false := by simp; omega
    replace hl := Lib.hid hl
    go_enter Try.func5, Try.ntmps5
    go_wp2_with fail
    refine hk.out.mono ?_
    rintro e w1 ⟨rfl, hb⟩
    have c1 := Lib.hid (ring_new (St.start w1))
    replace hb := Lib.hid hb
    clear hk
    go_wp2_with fail
    refine c1.out.mono ?_
    rintro e w2 ⟨rfl, h2⟩
    replace h2 := Lib.hid h2
    clear c1
    -- what each element reads as, in a later world
    have hcell : Hid (∀ w', Below w1.heap.size w1 w' → ∀ i n, l[i]? = some n → ∃ b off, a = some ⟨b, off, none⟩ ∧ w'.cell? ⟨b, off + i, none⟩ = some (.int .i64 n)) := fun w' hw i n hn =>
      (hl.out.below (hb.out.trans (hw.mono hb.out.size))).at_ i n hn
    obtain ⟨hll, -, hwf, -⟩ := hl.out
    subst hll
    replace hwf := Lib.hid hwf
    go_wp2_with fail
    go_loopw [8] (fun i wr => ∃ j : Nat, i = .int .i64 j ∧ j ≤ l.length ∧ RingIs w1.heap.size w1 wr w1.heap.size (fillR front l j) []) (fun i _ => l.length - (intOf i).toNat)
    case atStart => exact ⟨0, rfl, Nat.zero_le _, by rw [fillR_zero]; exact h2.out⟩
    case round =>
      obtain ⟨j, rfl, hj, hs⟩ := hrel
      clear h2
      by_cases hlt : j < l.length
      · have hx : l[j]? = some l[j] := List.getElem?_eq_getElem hlt
        obtain ⟨b, off, ea, hc⟩ := hcell.out _ hs.below _ _ hx
        have hjl : (fillR front l j).length < 536870912 := by rw [fillR_len hj]; omega
        generalize l[j] = x at *
        cases front
        · have cp := Lib.hid (ring_push_to hs hjl x (fillR_back hx))
          subst ea
          clear hs hx
          go_wp2_with fail
          refine cp.out.mono ?_
          rintro e w4 ⟨rfl, h4⟩
          replace h4 := Lib.hid h4
          go_wp2_with fail
          go_roundw
          case rel => exact ⟨j + 1, by go_num, by omega, h4.out⟩
          case measure => simp [intOf]; omega
        · have cp := ring_unshift hs hjl x
          rw [fillR_front hx] at cp
          replace cp := Lib.hid cp
          subst ea
          clear hs hx
          go_wp2_with fail
          refine cp.out.mono ?_
          rintro e w4 ⟨rfl, h4⟩
          replace h4 := Lib.hid h4
          go_wp2_with fail
          go_roundw
          case rel => exact ⟨j + 1, by go_num, by omega, h4.out⟩
          case measure => simp [intOf]; omega
      · obtain rfl : j = l.length := by omega
        rw [← leftR_zero front same] at hs
        replace hs := Lib.hid hs
        clear hlt
        go_wp2_with fail
        go_loopw [9] (fun i wr => ∃ j : Nat, i = .int .i64 j ∧ j ≤ l.length ∧ RingIs w1.heap.size w1 wr w1.heap.size (leftR front same l j) []) (fun i _ => l.length - (intOf i).toNat)
        case atStart => exact ⟨0, rfl, Nat.zero_le _, hs.out⟩
        case round =>
          obtain ⟨j, rfl, hj, hs2⟩ := hrel
          clear hs
          by_cases hlt : j < l.length
          · obtain ⟨b, off, ea, hc⟩ := hcell.out _ hs2.below _ _ (wantR_at hlt false)
            obtain ⟨b', off', ea', hc2⟩ := hcell.out _ hs2.below _ _ (wantR_at hlt same)
            subst ea
            cases ea'
            simp only [Bool.false_eq_true, if_false] at hc
            generalize hwant : wantR same l j = want at *
            generalize wantR false l j = want0 at *
            have cs : front = same → ∀ wz, wz = wr → Calls Try.prog 11 #[rptr w1.heap.size] wz fun e w' => e = .returned (.tuple #[.int .i64 want, .bool true]) ∧ RingIs w1.heap.size w1 w' w1.heap.size (leftR front same l (j + 1)) [] := by
              rintro rfl _ rfl
              have := left_shift (front := front) hlt
              rw [hwant] at this
              exact ring_shift_to hs2 this.1 this.2
            have cp : front ≠ same → ∀ wz, wz = wr → Calls Try.prog 10 #[rptr w1.heap.size] wz fun e w' => e = .returned (.tuple #[.int .i64 want, .bool true]) ∧ RingIs w1.heap.size w1 w' w1.heap.size (leftR front same l (j + 1)) [] := by
              rintro hne _ rfl
              have := left_pop hne hlt
              rw [hwant] at this
              exact ring_pop_to hs2 this.1 this.2
            replace cs := Lib.hid cs
            replace cp := Lib.hid cp
            have hk0 : (0 : Int) ≤ (l.length : Int) - 1 - j := by omega
            have hk1 : (l.length : Int) - 1 - j < l.length := by omega
            have he : ((l.length : Int) - 1 - j).toNat = l.length - 1 - j := by omega
            clear hs2 hwant
            cases same
            · simp only [Bool.false_eq_true, if_false] at hc2
              clear hc
              cases front
              all_goals
                go_wp2_with fail
                first | refine (cs.out (by decide) _ rfl).mono ?_ | refine (cp.out (by decide) _ rfl).mono ?_
                rintro e w4 ⟨rfl, h4⟩
                replace h4 := Lib.hid h4
                go_wp2_with fail
                go_roundw
                case rel => exact ⟨j + 1, by go_num, by omega, h4.out⟩
                case measure => simp [intOf]; omega
            · simp only [if_true] at hc2
              cases front
              all_goals
                go_wp2_with fail
                first | refine (cs.out (by decide) _ rfl).mono ?_ | refine (cp.out (by decide) _ rfl).mono ?_
                rintro e w4 ⟨rfl, h4⟩
                replace h4 := Lib.hid h4
                go_wp2_with fail
                go_roundw
                case rel => exact ⟨j + 1, by go_num, by omega, h4.out⟩
                case measure => simp [intOf]; omega
          · obtain rfl : j = l.length := by omega
            rw [leftR_end] at hs2
            have cl := Lib.hid (ring_len_to hs2 (n := 0) rfl)
            replace hs2 := Lib.hid hs2
            go_wp2_with fail
            refine cl.out.mono ?_
            rintro e w4 ⟨rfl, rfl⟩
            go_wp2_with fail
            go_ret
            exact ⟨rfl, hb.out.trans (hs2.out.below.mono hb.out.size)⟩
end Go.Proofs.Ytagkamphdcmmcaa
