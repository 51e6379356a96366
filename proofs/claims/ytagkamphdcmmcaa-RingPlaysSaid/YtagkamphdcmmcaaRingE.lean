/- The known case with which each statement of layer 2 begins answers true, in whatever world, and turns nothing that was there; and the statement that goes round. -/
import Derived.Test.YtagkamphdcmmcaaRingD
import Derived.Deep.LoopGhost
namespace Go.Proofs.Ytagkamphdcmmcaa
open Go.RowKit

section
variable {B : Nat} {w0 w : World} {rb : Nat} {F : List (Nat × Obj)} {l : List Int}

theorem ring_pop_to (h : RingIs B w0 w rb l F) {v : Value} {l' : List Int} (hv : popR l = v) (hl : l.dropLast = l') : Calls Try.prog 10 #[rptr rb] w fun e w' => e = .returned v ∧ RingIs B w0 w' rb l' F := by
  subst hv hl; exact ring_pop h
theorem ring_shift_to (h : RingIs B w0 w rb l F) {v : Value} {l' : List Int} (hv : shiftR l = v) (hl : l.tail = l') : Calls Try.prog 11 #[rptr rb] w fun e w' => e = .returned v ∧ RingIs B w0 w' rb l' F := by
  subst hv hl; exact ring_shift h
theorem ring_at_to (h : RingIs B w0 w rb l F) (i : Int) {v : Value} (hv : atR l i = v) : Calls Try.prog 12 #[rptr rb, .int .i64 i] w fun e w' => e = .returned v ∧ RingIs B w0 w' rb l F := by
  subst hv
  exact (ring_at h i).mono fun _ _ ⟨he, n, hw⟩ => ⟨he, hw ▸ h.drewN n⟩
theorem ring_push_to (h : RingIs B w0 w rb l F) (hl : l.length < 536870912) (n : Int) {l' : List Int} (hl' : l ++ [n] = l') : Calls Try.prog 8 #[rptr rb, .int .i64 n] w fun e w' => e = .returned (.tuple #[]) ∧ RingIs B w0 w' rb l' F := by
  subst hl'; exact ring_push h hl n
theorem ring_len_to (h : RingIs B w0 w rb l F) {n : Int} (hn : (l.length : Int) = n) : Calls Try.prog 15 #[rptr rb] w fun e w' => e = .returned (.int .i64 n) ∧ w = w' := by
  subst hn; exact ring_len h
end

set_option maxRecDepth 100000 in
set_option maxHeartbeats 2000000 in
theorem known2_true (w : World) : Calls Try.prog 6 #[] w fun e w' => e = .returned (.bool true) ∧ Below w.heap.size w w' := by
  have c1 := Lib.hid (ring_new (St.start w))
  go_enter Try.func6, Try.ntmps6
  go_wp2_with fail
  refine c1.out.mono ?_
  rintro e w1 ⟨rfl, h1⟩
  have c2 := Lib.hid (ring_pop_to h1 (v := .tuple #[.int .i64 0, .bool false]) rfl rfl)
  clear c1 h1
  go_wp2_with fail
  refine c2.out.mono ?_
  rintro e w2 ⟨rfl, h2⟩
  have c3 := Lib.hid (ring_push h2 (by decide) 1)
  clear c2 h2
  go_wp2_with fail
  refine c3.out.mono ?_
  rintro e w3 ⟨rfl, h3⟩
  have c4 := Lib.hid (ring_unshift h3 (by decide) 2)
  clear c3 h3
  go_wp2_with fail
  refine c4.out.mono ?_
  rintro e w4 ⟨rfl, h4⟩
  have c5 := Lib.hid (ring_push h4 (by decide) 3)
  clear c4 h4
  go_wp2_with fail
  refine c5.out.mono ?_
  rintro e w5 ⟨rfl, h5⟩
  have c6 := Lib.hid (ring_at_to h5 1 (v := .tuple #[.int .i64 1, .bool true]) rfl)
  clear c5 h5
  go_wp2_with fail
  refine c6.out.mono ?_
  rintro e w6 ⟨rfl, h6⟩
  have c7 := Lib.hid (ring_shift_to h6 (v := .tuple #[.int .i64 2, .bool true]) (l' := [1, 3]) rfl rfl)
  clear c6 h6
  go_wp2_with fail
  refine c7.out.mono ?_
  rintro e w7 ⟨rfl, h7⟩
  have c8 := Lib.hid (ring_pop_to h7 (v := .tuple #[.int .i64 3, .bool true]) (l' := [1]) rfl rfl)
  clear c7 h7
  go_wp2_with fail
  refine c8.out.mono ?_
  rintro e w8 ⟨rfl, h8⟩
  have c9 := Lib.hid (ring_len_to h8 (n := 1) rfl)
  have c10 := Lib.hid (ring_all h8)
  clear c8 h8
  go_wp2_with fail
  refine c9.out.mono ?_
  rintro e w9 ⟨rfl, rfl⟩
  go_wp2_with fail
  refine c10.out.mono ?_
  rintro e w9 ⟨v, A, rfl, hs, h9⟩
  obtain ⟨a, cap, rfl, hc1, hc2, -⟩ := SlIs.form hs
  replace h9 := Lib.hid h9
  clear hs
  go_wp2_with fail
  go_ret
  exact ⟨rfl, h9.out.below⟩

def ups (k : Nat) : List Int := (List.range k).map fun (i : Nat) => (i : Int)
def turned (k r : Nat) : List Int := (List.range k).map fun (i : Nat) => (((i + r) % k : Nat) : Int)
theorem ups_succ (k : Nat) : ups k ++ [(k : Int)] = ups (k + 1) := by simp [ups, List.range_succ]
theorem turned_zero (k : Nat) : turned k 0 = ups k := by
  unfold turned ups
  refine List.map_congr_left fun i hi => ?_
  rw [Nat.add_zero, Nat.mod_eq_of_lt (List.mem_range.1 hi)]
theorem turned_len (k r : Nat) : (turned k r).length = k := by simp [turned]
theorem ups_len (k : Nat) : (ups k).length = k := by simp [ups]
theorem turned_at {k r i : Nat} (h : i < k) : (turned k r)[i]? = some ((((i + r) % k : Nat) : Int)) := by simp [turned, h]
theorem turned_head {k r : Nat} (h : 0 < k) : shiftR (turned k r) = .tuple #[.int .i64 ((r : Int) % k), .bool true] := by
  unfold shiftR
  rw [List.head?_eq_getElem?, turned_at h, Nat.zero_add]
  rfl
theorem turned_next {k r : Nat} (h : 0 < k) : (turned k r).tail ++ [(r : Int) % k] = turned k (r + 1) := by
  apply List.ext_getElem?
  intro i
  by_cases hi : i + 1 < k
  · rw [List.getElem?_append_left (by rw [List.length_tail, turned_len]; omega), List.getElem?_tail, turned_at hi, turned_at (by omega)]
    rw [show i + 1 + r = i + (r + 1) by omega]
  · by_cases hi2 : i + 1 = k
    · rw [List.getElem?_append_right (by rw [List.length_tail, turned_len]; omega), List.length_tail, turned_len, turned_at (by omega)]
      rw [show i - (k - 1) = 0 by omega, show i + (r + 1) = r + k by omega, Nat.add_mod_right]
      rfl
    · rw [List.getElem?_eq_none (by rw [List.length_append, List.length_tail, turned_len]; simp; omega), List.getElem?_eq_none (by rw [turned_len]; omega)]

set_option maxRecDepth 100000 in
set_option maxHeartbeats 2000000 in
theorem turns_walk (n r : Int) (hn0 : 0 ≤ n) (hn1 : n ≤ 255) (hr0 : 0 ≤ r) (hr1 : r ≤ 255) (w : World) :
    Calls Try.prog 4 #[.int .u8 n, .int .u8 r] w fun e w' => e = .returned (.bool true) ∧ Below w.heap.size w w' := by
  have hk := Lib.hid (known2_true w)
  have hkk : 1 ≤ n % 100 + 1 ∧ n % 100 + 1 ≤ 100 := by omega
  obtain ⟨k, hke⟩ : ∃ k : Nat, n % 100 + 1 = k := ⟨(n % 100 + 1).toNat, by omega⟩
  obtain ⟨q, rfl⟩ : ∃ q : Nat, r = q := ⟨r.toNat, by omega⟩
  have hk1 : 1 ≤ k := by omega
  have hk2 : k ≤ 100 := by omega
  clear hkk
  replace hke := Lib.hid hke
  go_enter Try.func4, Try.ntmps4
  go_wp2_with fail
  refine hk.out.mono ?_
  rintro e w1 ⟨rfl, hb⟩
  replace hb := Lib.hid hb
  have c1 := Lib.hid (ring_new (St.start w1))
  clear hk
  go_wp2_with fail
  refine c1.out.mono ?_
  rintro e w2 ⟨rfl, h2⟩
  replace h2 := Lib.hid h2
  clear c1
  go_wp2_with fail
  rw [hke.out]
  go_loopw [7] (fun i wr => ∃ j : Nat, i = .int .i64 j ∧ j ≤ k ∧ RingIs w1.heap.size w1 wr w1.heap.size (ups j) []) (fun i _ => k - (intOf i).toNat)
  case atStart => exact ⟨0, rfl, Nat.zero_le _, h2.out⟩
  case round =>
    obtain ⟨j, rfl, hj, hs⟩ := hrel
    clear h2
    by_cases hlt : j < k
    · have cp := Lib.hid (ring_push_to hs (by rw [ups_len]; omega) j (ups_succ j))
      clear hs
      go_wp2_with fail
      refine cp.out.mono ?_
      rintro e w4 ⟨rfl, h4⟩
      replace h4 := Lib.hid h4
      go_wp2_with fail
      go_roundw
      case rel => exact ⟨j + 1, by go_num, by omega, h4.out⟩
      case measure => simp [intOf]; omega
    · obtain rfl : j = k := by omega
      rw [← turned_zero] at hs
      replace hs := Lib.hid hs
      go_wp2_with fail
      go_loopw [8] (fun i wr => ∃ t : Nat, i = .int .i64 t ∧ t ≤ q ∧ RingIs w1.heap.size w1 wr w1.heap.size (turned j t) []) (fun i _ => q - (intOf i).toNat)
      case atStart => exact ⟨0, rfl, Nat.zero_le _, hs.out⟩
      case round =>
        obtain ⟨t, rfl, ht, hs2⟩ := hrel
        clear hs
        by_cases hlt2 : t < q
        · have cs := Lib.hid (ring_shift_to hs2 (turned_head (by omega)) rfl)
          clear hs2
          go_wp2_with fail
          refine cs.out.mono ?_
          rintro e w4 ⟨rfl, h4⟩
          have cp := Lib.hid (ring_push_to h4 (by rw [List.length_tail, turned_len]; omega) _ (turned_next (by omega)))
          clear h4
          go_wp2_with fail
          refine cp.out.mono ?_
          rintro e w5 ⟨rfl, h5⟩
          replace h5 := Lib.hid h5
          go_wp2_with fail
          go_roundw
          case rel => exact ⟨t + 1, by go_num, by omega, h5.out⟩
          case measure => simp [intOf]; omega
        · obtain rfl : t = q := by omega
          have ca := ring_all hs2
          rw [turned_len] at ca
          replace ca := Lib.hid ca
          clear hs2
          go_wp2_with fail
          refine ca.out.mono ?_
          rintro e w4 ⟨v, A, rfl, hs, h4⟩
          obtain ⟨a, cap, rfl, hc1, hc2, ha⟩ := SlIs.form hs
          replace ha := Lib.hid ha
          obtain ⟨X, hst, -⟩ := h4.st
          replace h4 := Lib.hid h4
          have hst' : Hid (St w1.heap.size w1 w4 (X ++ A)) := by rw [List.append_nil] at hst; exact hst
          replace hs := Lib.hid hs
          clear hst
          go_wp2_with fail
          go_loopg [12] j (fun g i wt => ∃ p : Nat, i = .int .i64 p ∧ p + g = j ∧ ∃ m, wt = w4.drewN m)
          case atStart => exact ⟨0, rfl, by omega, 0, rfl⟩
          case round =>
            obtain ⟨p, rfl, hp, m, rfl⟩ := hrel
            by_cases hlt3 : p < j
            · obtain ⟨g1, off, rfl⟩ := ha.out p hlt3
              have hc : w4.cell? ⟨g1, off + p, none⟩ = some (.int .i64 (((p : Int) + t) % j)) := hs.out.cellAt hst'.out (ints_at (turned_at hlt3))
              go_wp2_with fail
              go_quiet (fail)
              go_wp2_with fail
              go_roundg (j - (p + 1))
              case measure => omega
              case rel => exact ⟨p + 1, by go_num, by omega, _, rfl⟩
            · go_wp2_with fail
              go_ret
              exact ⟨rfl, hb.out.trans ((h4.out.drewN _).below.mono hb.out.size)⟩
end Go.Proofs.Ytagkamphdcmmcaa
