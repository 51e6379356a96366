/- The statement of layer 3 about sets, number by number. -/
import Derived.Test.YtkahncfhphdkfaaRgsO
import Derived.Test.YtkahncfhphdkfaaArgs
import Derived.Deep.RegionHeld3
import Derived.Deep.RegionHeld3
namespace Go.Proofs.Ytkahncfhphdkfaa
open Go.RowKit
set_option linter.unusedVariables false

/-- Which numbers below 300 are in, as cells. -/
def tab (p : Nat → Bool) : List Value := (List.range 300).map fun k => Value.bool (p k)
theorem tab_len (p : Nat → Bool) : (tab p).length = 300 := by simp [tab]
theorem tab_at (p : Nat → Bool) {k : Nat} (h : k < 300) : (tab p)[k]? = some (.bool (p k)) := by simp [tab, h]
def upd (p : Nat → Bool) (k : Nat) (b : Bool) : Nat → Bool := fun j => if j = k then b else p j
theorem tab_set (p : Nat → Bool) (k : Nat) (b : Bool) : (tab p).set k (.bool b) = tab (upd p k b) := by
  apply List.ext_getElem
  · simp [tab]
  · intro i h1 h2
    simp only [tab, List.length_map, List.length_range] at h2
    rw [List.getElem_set]
    simp only [tab, List.getElem_map, List.getElem_range, upd]
    by_cases h : k = i
    · rw [if_pos h, if_pos h.symm]
    · rw [if_neg h, if_neg fun e => h e.symm]
def ind (b : Bool) : Int := if b = true then 1 else 0
theorem num_upd (p : Nat → Bool) (k : Nat) (b : Bool) : ∀ (n : Nat), num (fun j => upd p k b j = true) n = num (fun j => p j = true) n + if k < n then ind b - ind (p k) else 0
  | 0 => by simp [num]
  | n + 1 => by
    unfold num
    rw [num_upd p k b n]
    show _ + ind (upd p k b n) = _ + ind (p n) + _
    by_cases h : n = k
    · subst h
      have e : upd p n b n = b := by simp [upd]
      rw [if_neg (Nat.lt_irrefl n), if_pos (Nat.lt_succ_self n), e]
      omega
    · have e : upd p k b n = p n := by simp only [upd, if_neg h]
      rw [e]
      by_cases h2 : k < n
      · rw [if_pos h2, if_pos (Nat.lt_succ_of_lt h2)]; omega
      · rw [if_neg h2, if_neg (by omega)]; omega

/-- The rows and the cells say the same. -/
structure Same300 (L : List Row) (p : Nat → Bool) : Prop where
  canon : Canon L
  low : ∀ k, Inn L k → k < 300
  same : ∀ k : Nat, k < 300 → (p k = true ↔ Inn L k)
theorem Same300.cnt {L : List Row} {p : Nat → Bool} (h : Same300 L p) : cnt L = num (fun j => p j = true) 300 := by
  classical
  rw [h.canon.num 300 h.low]
  exact num_congr fun k hk => (h.same k hk).symm

theorem zero300 (w : World) : (zeroValue 46).run Try.prog w = .ok (.agg (tab fun _ => false).toArray) w := by kernel_rfl

/-- lo to k - 1 are turned. -/
def turnP (p : Nat → Bool) (lo k : Nat) (b : Bool) : Nat → Bool := fun j => if lo ≤ j ∧ j < k then b else p j
theorem turnP_zero (p : Nat → Bool) (lo : Nat) (b : Bool) : turnP p lo lo b = p := by
  funext j
  simp only [turnP]
  rw [if_neg (by omega)]
theorem turnP_succ (p : Nat → Bool) {lo k : Nat} (h : lo ≤ k) (b : Bool) : upd (turnP p lo k b) k b = turnP p lo (k + 1) b := by
  funext j
  simp only [upd, turnP]
  by_cases h1 : j = k
  · rw [if_pos h1, if_pos (by omega)]
  · rw [if_neg h1]
    by_cases h2 : lo ≤ j ∧ j < k
    · rw [if_pos h2, if_pos (by omega)]
    · rw [if_neg h2, if_neg (by omega)]
theorem turnP_at (p : Nat → Bool) {lo k : Nat} (b : Bool) : turnP p lo k b k = p k := by
  simp only [turnP]
  rw [if_neg (by omega)]
/-- How many were turned. -/
def turnedN (p : Nat → Bool) (lo k : Nat) (b : Bool) : Int := if b = true then num (fun j => turnP p lo k b j = true) 300 - num (fun j => p j = true) 300 else num (fun j => p j = true) 300 - num (fun j => turnP p lo k b j = true) 300
theorem turnedN_zero (p : Nat → Bool) (lo : Nat) (b : Bool) : turnedN p lo lo b = 0 := by
  unfold turnedN
  rw [turnP_zero]
  split <;> omega
theorem turnedN_succ (p : Nat → Bool) {lo k : Nat} (h : lo ≤ k) (hk : k < 300) (b : Bool) : turnedN p lo (k + 1) b = turnedN p lo k b + if p k = b then 0 else 1 := by
  unfold turnedN
  have h1 := num_upd (turnP p lo k b) k b 300
  rw [turnP_succ p h, if_pos hk, turnP_at] at h1
  rw [h1]
  cases b <;> cases hp : p k <;> simp [ind] <;> omega

theorem same_add {L L' : List Row} {p : Nat → Bool} (h : Same300 L p) {lo hi : Nat} (h0 : 1 ≤ lo) (h1 : hi < 300) (hc : Canon L') (hm : ∀ k, Inn L' k ↔ Inn L k ∨ (max (lo : Int) 1 ≤ k ∧ k ≤ min (hi : Int) 1000000)) : Same300 L' (turnP p lo (hi + 1) true) := by
  refine ⟨hc, fun k hk => ?_, fun k hk => ?_⟩
  · rcases (hm k).1 hk with h2 | h2
    · exact h.low k h2
    · omega
  · rw [hm]
    simp only [turnP]
    by_cases h2 : lo ≤ k ∧ k < hi + 1
    · rw [if_pos h2]; exact ⟨fun _ => .inr (by omega), fun _ => rfl⟩
    · rw [if_neg h2, h.same k hk]; exact ⟨.inl, fun h3 => h3.elim id fun h4 => absurd h4 (by omega)⟩
theorem same_cut {L L' : List Row} {p : Nat → Bool} (h : Same300 L p) {lo hi : Nat} (h0 : 1 ≤ lo) (h1 : hi < 300) (hc : Canon L') (hm : ∀ k, Inn L' k ↔ Inn L k ∧ ¬ (max (lo : Int) 1 ≤ k ∧ k ≤ min (hi : Int) 1000000)) : Same300 L' (turnP p lo (hi + 1) false) := by
  refine ⟨hc, fun k hk => h.low k ((hm k).1 hk).1, fun k hk => ?_⟩
  rw [hm]
  simp only [turnP]
  by_cases h2 : lo ≤ k ∧ k < hi + 1
  · rw [if_pos h2]; exact ⟨fun h3 => (by cases h3), fun h3 => absurd (by omega) h3.2⟩
  · rw [if_neg h2, h.same k hk]; exact ⟨fun h3 => ⟨h3, by omega⟩, fun h3 => h3.1⟩

set_option maxRecDepth 100000 in
set_option maxHeartbeats 8000000 in
theorem sets3_walk (a1 : Option Addr) (n1 m1 : Nat) (zs1 : List Int) (a2 : Option Addr) (n2 m2 : Nat) (zs2 : List Int) (w : World) (h1 : IntsAt .u8 w a1 n1 zs1) (h2 : IntsAt .u8 w a2 n2 zs2) :
    Calls Try.prog 4 #[.slice a1 n1 m1, .slice a2 n2 m2] w fun e w' => e = .returned (.bool true) ∧ Below w.heap.size w w' := by
  have hk := Lib.hid (known3_true w)
  by_cases hlong : (60 : Int) < n1
  · clear h1 h2
    go_enter Try.func4, Try.ntmps4
    go_wp2_with fail
    refine hk.out.mono ?_
    rintro e w1 ⟨rfl, hb⟩
    replace hb := Lib.hid hb
    go_wp2_with fail
    go_ret
    exact ⟨rfl, hb.out⟩
  · have g1 : decide ((60 : Int) < n1) = false := decide_eq_false hlong
    by_cases hw : n2 < n1
    · clear h1 h2 hlong
      go_enter Try.func4, Try.ntmps4
      go_wp2_with fail
      refine hk.out.mono ?_
      rintro e w1 ⟨rfl, hb⟩
      replace hb := Lib.hid hb
      go_wp2_with fail
      go_ret
      exact ⟨rfl, hb.out⟩
    · have g2 : decide (n2 < n1) = false := decide_eq_false hw
      have hl60 : n1 ≤ 60 := by omega
      have hle : n1 ≤ n2 := by omega
      replace h1 := Lib.hid h1
      replace h2 := Lib.hid h2
      clear hlong hw
      go_enter Try.func4, Try.ntmps4
      go_wp2_with fail
      refine hk.out.mono ?_
      rintro e w1 ⟨rfl, hb⟩
      replace hb := Lib.hid hb
      have c1 := Lib.hid (rgs_new (St.start w1))
      clear hk
      go_wp2_with fail
      refine c1.out.mono ?_
      rintro e w2 ⟨rfl, h3⟩
      have h4 : RgsIs w1.heap.size w1 (w2.alloc (.cells (tab fun _ => false).toArray 46)) w1.heap.size [] ((w2.heap.size, .cells (tab fun _ => false).toArray 46) :: []) := h3.alloc _
      replace h4 := Lib.hid h4
      clear c1 h3
      have hz := zero300
      go_wp2_with fail
      clear hz
      generalize w2.heap.size = ib at *
      generalize w2.alloc (Obj.cells (tab fun _ => false).toArray 46) = w3 at *
      have hcell : Hid (∀ w', Below w1.heap.size w1 w' → ∀ i, i < n1 → ∃ b1 o1 b2 o2 x y, a1 = some ⟨b1, o1, none⟩ ∧ a2 = some ⟨b2, o2, none⟩ ∧ w'.cell? ⟨b1, o1 + i, none⟩ = some (.int .u8 x) ∧ w'.cell? ⟨b2, o2 + i, none⟩ = some (.int .u8 y) ∧ (0 ≤ x ∧ x ≤ 255) ∧ (0 ≤ y ∧ y ≤ 255)) := fun w' hw' i hi => by
        have hB := hb.out.trans (hw'.mono hb.out.size)
        have q1 := h1.out.below hB
        have q2 := h2.out.below hB
        have e1 := List.getElem?_eq_getElem (l := zs1) (i := i) (by rw [q1.size]; exact hi)
        have e2 := List.getElem?_eq_getElem (l := zs2) (i := i) (by rw [q2.size]; omega)
        obtain ⟨b1, o1, r1, k1⟩ := q1.at_ i _ e1
        obtain ⟨b2, o2, r2, k2⟩ := q2.at_ i _ e2
        exact ⟨b1, o1, b2, o2, _, _, r1, r2, k1, k2, bounds_u8 (q1.wf _ (List.getElem_mem _)), bounds_u8 (q2.wf _ (List.getElem_mem _))⟩
      go_loopg [7] n1 (fun g i wr => ∃ (j : Nat) (L : List Row) (p : Nat → Bool), i = .int .i64 j ∧ j + g = n1 ∧ Hid (Same300 L p) ∧ RgsIs w1.heap.size w1 wr w1.heap.size L ((ib, .cells (tab p).toArray 46) :: []))
      case atStart => exact ⟨0, [], fun _ => false, rfl, by omega, Lib.hid ⟨canon_nil, fun k h => absurd h (inn_nil k), fun k _ => by simp [inn_nil]⟩, h4.out⟩
      case round =>
        obtain ⟨j, L, p, rfl, hj, hsm, hr⟩ := hrel
        clear h4
        by_cases hlt : j < n1
        · obtain ⟨b1, o1, b2, o2, x, y, ea1, ea2, k1, k2, ⟨x0, x1⟩, ⟨y0, y1⟩⟩ := hcell.out _ hr.below j hlt
          subst ea1 ea2
          have j0 : (0 : Int) ≤ j := by omega
          have j1 : (j : Int) < n1 := by omega
          have j2 : (j : Int) < n2 := by omega
          replace hr := Lib.hid hr
          go_wp2_with fail
          go_quiet (fail)
          go_wp2_with fail
          obtain ⟨lo, hlo⟩ : ∃ lo : Nat, x + 1 = lo := ⟨(x + 1).toNat, by omega⟩
          obtain ⟨hi, hhi⟩ : ∃ hi : Nat, (lo : Int) + y % 20 = hi := ⟨((lo : Int) + y % 20).toNat, by omega⟩
          have hb1 : 1 ≤ lo ∧ lo ≤ 256 ∧ lo ≤ hi ∧ hi ≤ 280 := by omega
          obtain ⟨hb1, hb2, hb3, hb4⟩ := hb1
          replace hlo := Lib.hid hlo
          replace hhi := Lib.hid hhi
          rw [hlo.out, hhi.out]
          clear k1 k2
          by_cases e3 : (j : Int) % 3 = 2
          · have e3' : ((j : Int) % 3 == 2) = true := by simpa using e3
            have e3'' : ((j : Int) % 3 != 2) = false := by simp [bne, e3']
            replace e3 := Lib.hid e3
            go_loopg [10, 11] (hi + 1 - lo) (fun g v10 v11 wi => ∃ k : Nat, v11 = .int .i64 k ∧ v10 = .int .i64 (turnedN p lo k false) ∧ lo ≤ k ∧ k + g = hi + 1 ∧ RgsIs w1.heap.size w1 wi w1.heap.size L ((ib, .cells (tab (turnP p lo k false)).toArray 46) :: []))
            case atStart => exact ⟨lo, rfl, by rw [turnedN_zero], Nat.le_refl _, by omega, by rw [turnP_zero]; exact hr.out.drewN _⟩
            case round =>
              clear hr
              obtain ⟨k, rfl, rfl, hk1, hk2, hr⟩ := hrel
              by_cases hkh : k ≤ hi
              · as_aux_lemma =>
                  have hk300 : k < 300 := by omega
                  have kc : wr.cell? ⟨ib, k, none⟩ = some (.bool (p k)) := hr.cell (b := ib) (c := (tab (turnP p lo k false)).toArray) (T := 46) List.mem_cons_self (by rw [List.getElem?_toArray, tab_at _ hk300, turnP_at])
                  have kf : wr.frozen? ⟨ib, k, none⟩ = false := by
                    obtain ⟨X, hx, -⟩ := hr.st
                    exact St.soft hx (b := ib) (c := (tab (turnP p lo k false)).toArray) (T := 46) (by simp) k
                  have hts := turnedN_succ p hk1 hk300 false
                  have hnx : RgsIs w1.heap.size w1 (wr.setCell ⟨ib, k, none⟩ (.bool false)) w1.heap.size L ((ib, .cells (tab (turnP p lo (k + 1) false)).toArray 46) :: []) := by
                    obtain ⟨X, hx, hback⟩ := hr.st
                    refine hback _ _ ?_
                    have h5 := hx.set (A := X) k (.bool false)
                    rw [List.setIfInBounds_toArray, tab_set, turnP_succ p hk1] at h5
                    exact h5
                  have hbd : 0 ≤ turnedN p lo k false + 400 ∧ turnedN p lo k false ≤ 300 := by
                    unfold turnedN
                    have q1 := num_nonneg (p := fun j => turnP p lo k false j = true) (n := 300)
                    have q2 := num_most (p := fun j => turnP p lo k false j = true) (n := 300)
                    have q3 := num_nonneg (p := fun j => p j = true) (n := 300)
                    have q4 := num_most (p := fun j => p j = true) (n := 300)
                    split <;> omega
                  obtain ⟨hb1, hb2⟩ := hbd
                  have kk0 : (0 : Int) ≤ k := by omega
                  have kk1 : (k : Int) < 300 := by omega
                  have kk2 : (k : Int) ≤ hi := by omega
                  replace hnx := Lib.hid hnx
                  generalize turnedN p lo k false = tn at *
                  cases hpk : p k
                  all_goals
                    rw [hpk] at kc hts
                    simp only [Bool.true_eq_false, if_true, if_false] at hts
                    replace hts := Lib.hid hts
                    replace hpk := Lib.hid hpk
                    clear hr
                    go_wp2_with fail
                    go_roundg (hi + 1 - (k + 1))
                    case measure => omega
                    case rel => exact ⟨k + 1, by go_num, congrArg (Value.int .i64) (by have := hts.out; omega), by omega, by omega, hnx.out⟩
              · obtain rfl : k = hi + 1 := by omega
                have hkh' : decide (((hi + 1 : Nat) : Int) ≤ hi) = false := decide_eq_false (by omega)
                have ca := Lib.hid (rgs_cut hr (lo : Int) (hi : Int))
                have htn : turnedN p lo (hi + 1) false = num (fun j => p j = true) 300 - num (fun j => turnP p lo (hi + 1) false j = true) 300 := rfl
                replace htn := Lib.hid htn
                generalize turnedN p lo (hi + 1) false = tn at *
                clear hr hkh
                go_wp2_with fail
                refine ca.out.mono ?_
                rintro e w6 ⟨L', rfl, hm, h6⟩
                have hs2 := same_cut hsm.out (by omega) (by omega) h6.1 hm
                have hd : cnt L - cnt L' = tn := by rw [htn.out, hs2.cnt, hsm.out.cnt]
                rw [hd]
                replace hs2 := Lib.hid hs2
                replace h6 := Lib.hid h6
                clear hm ca hd
                go_wp2_with fail
                go_roundg (n1 - (j + 1))
                case measure => omega
                case rel => exact ⟨j + 1, L', turnP p lo (hi + 1) false, by go_num, by omega, hs2, h6.out⟩
          · have e3' : ((j : Int) % 3 == 2) = false := by simpa using e3
            have e3'' : ((j : Int) % 3 != 2) = true := by simp [bne, e3']
            replace e3 := Lib.hid e3
            go_loopg [10, 11] (hi + 1 - lo) (fun g v10 v11 wi => ∃ k : Nat, v11 = .int .i64 k ∧ v10 = .int .i64 (turnedN p lo k true) ∧ lo ≤ k ∧ k + g = hi + 1 ∧ RgsIs w1.heap.size w1 wi w1.heap.size L ((ib, .cells (tab (turnP p lo k true)).toArray 46) :: []))
            case atStart => exact ⟨lo, rfl, by rw [turnedN_zero], Nat.le_refl _, by omega, by rw [turnP_zero]; exact hr.out.drewN _⟩
            case round =>
              clear hr
              obtain ⟨k, rfl, rfl, hk1, hk2, hr⟩ := hrel
              by_cases hkh : k ≤ hi
              · as_aux_lemma =>
                  have hk300 : k < 300 := by omega
                  have kc : wr.cell? ⟨ib, k, none⟩ = some (.bool (p k)) := hr.cell (b := ib) (c := (tab (turnP p lo k true)).toArray) (T := 46) List.mem_cons_self (by rw [List.getElem?_toArray, tab_at _ hk300, turnP_at])
                  have kf : wr.frozen? ⟨ib, k, none⟩ = false := by
                    obtain ⟨X, hx, -⟩ := hr.st
                    exact St.soft hx (b := ib) (c := (tab (turnP p lo k true)).toArray) (T := 46) (by simp) k
                  have hts := turnedN_succ p hk1 hk300 true
                  have hnx : RgsIs w1.heap.size w1 (wr.setCell ⟨ib, k, none⟩ (.bool true)) w1.heap.size L ((ib, .cells (tab (turnP p lo (k + 1) true)).toArray 46) :: []) := by
                    obtain ⟨X, hx, hback⟩ := hr.st
                    refine hback _ _ ?_
                    have h5 := hx.set (A := X) k (.bool true)
                    rw [List.setIfInBounds_toArray, tab_set, turnP_succ p hk1] at h5
                    exact h5
                  have hbd : 0 ≤ turnedN p lo k true + 400 ∧ turnedN p lo k true ≤ 300 := by
                    unfold turnedN
                    have q1 := num_nonneg (p := fun j => turnP p lo k true j = true) (n := 300)
                    have q2 := num_most (p := fun j => turnP p lo k true j = true) (n := 300)
                    have q3 := num_nonneg (p := fun j => p j = true) (n := 300)
                    have q4 := num_most (p := fun j => p j = true) (n := 300)
                    split <;> omega
                  obtain ⟨hb1, hb2⟩ := hbd
                  have kk0 : (0 : Int) ≤ k := by omega
                  have kk1 : (k : Int) < 300 := by omega
                  have kk2 : (k : Int) ≤ hi := by omega
                  replace hnx := Lib.hid hnx
                  generalize turnedN p lo k true = tn at *
                  cases hpk : p k
                  all_goals
                    rw [hpk] at kc hts
                    simp only [Bool.false_eq_true, if_true, if_false] at hts
                    replace hts := Lib.hid hts
                    replace hpk := Lib.hid hpk
                    clear hr
                    go_wp2_with fail
                    go_roundg (hi + 1 - (k + 1))
                    case measure => omega
                    case rel => exact ⟨k + 1, by go_num, congrArg (Value.int .i64) (by have := hts.out; omega), by omega, by omega, hnx.out⟩
              · obtain rfl : k = hi + 1 := by omega
                have hkh' : decide (((hi + 1 : Nat) : Int) ≤ hi) = false := decide_eq_false (by omega)
                have ca := Lib.hid (rgs_add hr (lo : Int) (hi : Int))
                have htn : turnedN p lo (hi + 1) true = num (fun j => turnP p lo (hi + 1) true j = true) 300 - num (fun j => p j = true) 300 := rfl
                replace htn := Lib.hid htn
                generalize turnedN p lo (hi + 1) true = tn at *
                clear hr hkh
                go_wp2_with fail
                refine ca.out.mono ?_
                rintro e w6 ⟨L', rfl, hm, h6⟩
                have hs2 := same_add hsm.out (by omega) (by omega) h6.1 hm
                have hd : cnt L' - cnt L = tn := by rw [htn.out, hs2.cnt, hsm.out.cnt]
                rw [hd]
                replace hs2 := Lib.hid hs2
                replace h6 := Lib.hid h6
                clear hm ca hd
                go_wp2_with fail
                go_roundg (n1 - (j + 1))
                case measure => omega
                case rel => exact ⟨j + 1, L', turnP p lo (hi + 1) true, by go_num, by omega, hs2, h6.out⟩
        · have hcnt := hsm.out.cnt
          have hlow := hsm.out.low
          have hsame := hsm.out.same
          have hcan := hsm.out.canon
          have hnm := num_most (p := fun j => p j = true) (n := 300)
          replace hcnt := Lib.hid hcnt
          replace hlow := Lib.hid hlow
          replace hsame := Lib.hid hsame
          replace hcan := Lib.hid hcan
          replace hr := Lib.hid hr
          clear hsm
          go_wp2_with fail
          go_loopg [13, 14] 300 (fun g v13 v14 wi => ∃ k : Nat, v14 = .int .i64 k ∧ v13 = .int .i64 (num (fun j => p j = true) k) ∧ k + g = 300 ∧ RgsIs w1.heap.size w1 wi w1.heap.size L ((ib, .cells (tab p).toArray 46) :: []))
          case atStart => exact ⟨0, rfl, rfl, by omega, hr.out⟩
          case round =>
            clear hr
            obtain ⟨k, rfl, rfl, hk2, hr⟩ := hrel
            by_cases hk300 : k < 300
            · as_aux_lemma =>
                have cellOf : ∀ W, RgsIs w1.heap.size w1 W w1.heap.size L ((ib, .cells (tab p).toArray 46) :: []) → W.cell? ⟨ib, k, none⟩ = some (.bool (p k)) := fun W hW =>
                  hW.cell (b := ib) (c := (tab p).toArray) (T := 46) List.mem_cons_self (by rw [List.getElem?_toArray, tab_at _ hk300])
                have hin : innB L k = p k := by
                  have := hsame.out k hk300
                  cases hp : p k
                  · exact innB_false fun h => by rw [← this, hp] at h; cases h
                  · exact innB_true (this.1 hp)
                have ch : ∀ q, Calls Try.prog 17 #[gptr w1.heap.size, .int .i64 k] (wr.drewN q) fun e w' => e = .returned (.bool (p k)) ∧ RgsIs w1.heap.size w1 w' w1.heap.size L ((ib, .cells (tab p).toArray 46) :: []) := fun q => by
                  rw [← hin]
                  exact rgs_has (hr.drewN q) k
                have kc := cellOf wr hr
                have hstep : num (fun j => p j = true) (k + 1) = num (fun j => p j = true) k + if p k = true then 1 else 0 := rfl
                have hn0 := num_nonneg (p := fun j => p j = true) (n := k)
                have hn1 := num_most (p := fun j => p j = true) (n := k)
                have kk0 : (0 : Int) ≤ k := by omega
                have kk1 : (k : Int) < 300 := by omega
                replace cellOf := Lib.hid cellOf
                replace ch := Lib.hid ch
                generalize num (fun j => p j = true) k = nk at *
                clear hr hin
                cases hpk : p k
                all_goals
                  rw [hpk] at kc hstep cellOf ch
                  replace hstep := Lib.hid hstep
                  replace hpk := Lib.hid hpk
                · go_wp2_with fail
                  go_region_held3 (fun w'' => w''.cell? ⟨ib, k, none⟩ = some (.bool false)) (first | exact kc | exact cellOf.out _ h5) ((go_at_call 17; refine (ch.out 1).mono ?_; rintro e w5 ⟨rfl, h5⟩))
                  have kc5 := cellOf.out _ h5
                  replace h5 := Lib.hid h5
                  go_wp2_with fail
                  go_roundg (300 - (k + 1))
                  case measure => omega
                  case rel => exact ⟨k + 1, by go_num, congrArg (Value.int .i64) (by have := hstep.out; simp at this; omega), by omega, h5.out⟩
                · go_wp2_with fail
                  go_region_held3 (fun w'' => w''.cell? ⟨ib, k, none⟩ = some (.bool true)) (first | exact kc | exact cellOf.out _ h5) ((go_at_call 17; refine (ch.out 1).mono ?_; rintro e w5 ⟨rfl, h5⟩))
                  have kc5 := cellOf.out _ h5
                  replace h5 := Lib.hid h5
                  go_wp2_with fail
                  go_roundg (300 - (k + 1))
                  case measure => omega
                  case rel => exact ⟨k + 1, by go_num, congrArg (Value.int .i64) (by have := hstep.out; simp at this; omega), by omega, h5.out⟩
            · obtain rfl : k = 300 := by omega
              have ca := Lib.hid (rgs_all hr)
              generalize hnn : num (fun j => p j = true) 300 = cn at *
              replace hnn := Lib.hid hnn
              clear hr hk300
              go_wp2_with fail
              refine ca.out.mono ?_
              rintro e w6 ⟨v, S, rfl, hs, h6⟩
              obtain ⟨X, hst, -⟩ := h6.st
              have hrd := hs.readRows (A := X ++ [(ib, .cells (tab p).toArray 46)]) (by simpa using hst)
              obtain ⟨a, cap, rfl, hrd⟩ := hrd
              have cq := Lib.hid (fun q => rgs_count (h6.drewN q))
              have cu := Lib.hid (fun q => rgs_upto (h6.drewN q) 300)
              replace hrd := Lib.hid hrd
              clear hs hst h6 ca
              have hLn := hcan.out.len_half
              go_wp2_with fail
              go_loopg [16] L.length (fun g v16 wi => ∃ k q : Nat, v16 = .int .i64 k ∧ k + g = L.length ∧ wi = w6.drewN q)
              case atStart => exact ⟨0, 0, rfl, by omega, rfl⟩
              case round =>
                obtain ⟨k, q, rfl, hk, rfl⟩ := hrel
                by_cases hkl : k < L.length
                · as_aux_lemma =>
                    have hr1 : L[k]? = some L[k] := List.getElem?_eq_getElem hkl
                    have hf1 := hcan.out.fit L[k] (List.getElem_mem _)
                    have hk0 : (0 : Int) ≤ k := by omega
                    have hk1 : (k : Int) < L.length := by omega
                    generalize L[k] = r at *
                    obtain ⟨r1, r2⟩ := r
                    obtain ⟨b, off, rfl, k1, k2⟩ := hrd.out k _ hr1
                    simp only at k1 k2 hf1
                    have hd : decide (r2 < r1) = false := decide_eq_false (by omega)
                    obtain ⟨hf2, hf3, hf4⟩ := hf1
                    by_cases hkz : k = 0
                    · have hz1 : decide ((0 : Int) < k) = false := decide_eq_false (by omega)
                      have hz2 : decide (0 < k) = false := decide_eq_false (by omega)
                      replace hkz := Lib.hid hkz
                      clear hr1
                      go_wp2_with fail
                      go_quiet (fail)
                      go_wp2_with fail
                      go_roundg (L.length - (k + 1))
                      case measure => omega
                      case rel => exact ⟨k + 1, _, by go_num, by omega, rfl⟩
                    · obtain ⟨m, hkm⟩ : ∃ m : Nat, (k : Int) - 1 = m := ⟨k - 1, by omega⟩
                      have hmk : m + 1 = k := by omega
                      have hm : m < L.length := by omega
                      have hr2 : L[m]? = some L[m] := List.getElem?_eq_getElem hm
                      have hap : L[m].2 + 1 < r1 := by
                        have h7 := List.pairwise_iff_getElem.1 hcan.out.apart m k hm hkl (by omega)
                        have h8 : L[k] = (r1, r2) := (List.getElem?_eq_some_iff.1 hr1).2
                        rw [h8] at h7
                        exact h7
                      generalize L[m] = r' at *
                      obtain ⟨r3, r4⟩ := r'
                      obtain ⟨b', off', e, k3, k4⟩ := hrd.out m _ hr2
                      cases e
                      simp only at k3 k4 hap
                      have hd2 : decide (r1 ≤ r4 + 1) = false := decide_eq_false (by omega)
                      have hz1 : (0 : Int) < k := by omega
                      have hz2 : 0 < k := by omega
                      have hm0 : (0 : Int) ≤ m := by omega
                      have hm1 : (m : Int) < L.length := by omega
                      have hr4 : r4 ≤ 1000000 := by omega
                      have hr4' : -1000000 ≤ r4 := by have := (hcan.out.fit _ (List.mem_of_getElem? hr2)).1; have := (hcan.out.fit _ (List.mem_of_getElem? hr2)).2.1; simp only at *; omega
                      have hw1 : IntKind.i64.wrap ((k : Int) - 1) = m := by rw [hkm]; exact IntWalk.i64_in _ (by omega)
                      have hmn : ((m : Int)).toNat = m := by simp
                      replace hkz := Lib.hid hkz
                      replace hmk := Lib.hid hmk
                      clear hr1 hr2
                      go_wp2_with fail
                      go_quiet (fail)
                      go_wp2_with fail
                      go_roundg (L.length - (k + 1))
                      case measure => omega
                      case rel => exact ⟨k + 1, _, by go_num, by omega, rfl⟩
                · obtain rfl : k = L.length := by omega
                  have hup : ((uptoL L 300).length : Int) = cn := by rw [upto_len hcan.out.fits (fun x hx => by have := hlow.out x hx; omega) (by rw [hcnt.out]; omega), hcnt.out]
                  have cc := cq.out q
                  rw [hcnt.out] at cc
                  replace cc := Lib.hid cc
                  clear cq
                  go_wp2_with fail
                  refine cc.out.mono ?_
                  rintro e w7 ⟨rfl, rfl⟩
                  clear cc
                  go_wp2_with fail
                  refine (cu.out q).mono ?_
                  rintro e w8 ⟨v8, S8, rfl, hs8, h8⟩
                  obtain ⟨a8, cap8, rfl, -, -, -⟩ := hs8.form
                  have hb8 := Lib.hid h8.below
                  generalize (uptoL L 300).length = ul at *
                  clear hs8 h8 cu
                  go_wp2_with fail
                  go_ret
                  exact ⟨rfl, hb.out.trans (hb8.out.mono hb.out.size)⟩

theorem sets3_row {a1 a2 : Option Addr} {n1 m1 n2 m2 : Nat} {w : World} {zs1 zs2 : List Int} (h1 : IntsAt .u8 w a1 n1 zs1) (h2 : IntsAt .u8 w a2 n2 zs2) :
    Calls Try.prog 4 #[.slice a1 n1 m1, .slice a2 n2 m2] w fun e w' => e = .returned (.bool true) ∧ Below w.heap.size w w' := sets3_walk a1 n1 m1 zs1 a2 n2 m2 zs2 w h1 h2
end Go.Proofs.Ytkahncfhphdkfaa
