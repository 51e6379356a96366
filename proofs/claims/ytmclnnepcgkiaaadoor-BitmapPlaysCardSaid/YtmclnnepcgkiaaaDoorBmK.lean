/- The document's own Next beside ours: place by place. -/
import Derived.Test.YtmclnnepcgkiaaaDoorBmI
import Derived.Deep.LoopGhost
namespace Go.Proofs.YtmclnnepcgkiaaaDoor
open Go.RowKit
set_option linter.unusedVariables false

section
variable {k : Nat} {s : Nat → Bool}

/-- Asked place by place, k places round: the first that is set. -/
theorem next_scan {a i : Nat} (ha : a ≤ k) (hs : ∀ p, s p = true → p < k) (hi : i < k) (h1 : s ((a + i) % k) = true) (h2 : ∀ j, j < i → s ((a + j) % k) = false) : nextAt s k a = some ((a + i) % k) := by
  by_cases h : a + i < k
  · rw [Nat.mod_eq_of_lt h] at h1 ⊢
    unfold nextAt
    rw [firstAt_some hs h1 (Nat.le_add_right _ _) fun p h3 h4 => ?_]
    · rfl
    · have := h2 (p - a) (by omega)
      rwa [show a + (p - a) = p by omega, Nat.mod_eq_of_lt (by omega)] at this
  · have e : (a + i) % k = a + i - k := by rw [Nat.mod_eq_sub_mod (by omega), Nat.mod_eq_of_lt (by omega)]
    rw [e] at h1 ⊢
    have hn : firstAt s k a = none := firstAt_none fun p hp => by
      cases hsp : s p with
      | false => rfl
      | true =>
        have h3 := hs p hsp
        have := h2 (p - a) (by omega)
        rw [show a + (p - a) = p by omega, Nat.mod_eq_of_lt h3, hsp] at this
        cases this
    unfold nextAt
    rw [hn, Option.none_or]
    refine firstAt_some hs h1 (Nat.zero_le _) fun p _ h4 => ?_
    have := h2 (p + k - a) (by omega)
    rwa [show a + (p + k - a) = p + k by omega, Nat.add_mod_right, Nat.mod_eq_of_lt (by omega)] at this
theorem next_scan_none {a : Nat} (ha : a ≤ k) (hs : ∀ p, s p = true → p < k) (h2 : ∀ j, j < k → s ((a + j) % k) = false) (b : Nat) : nextAt s k b = none := by
  have hz : ∀ p, s p = false := fun p => by
    cases hsp : s p with
    | false => rfl
    | true =>
      have h3 := hs p hsp
      have : s ((a + (if a ≤ p then p - a else p + k - a)) % k) = false := h2 _ (by split <;> omega)
      have e : (a + (if a ≤ p then p - a else p + k - a)) % k = p := by
        split
        · rw [show a + (p - a) = p by omega, Nat.mod_eq_of_lt h3]
        · rw [show a + (p + k - a) = p + k by omega, Nat.add_mod_right, Nat.mod_eq_of_lt h3]
      rw [e, hsp] at this
      cases this
  unfold nextAt
  rw [firstAt_none fun p _ => hz p, firstAt_none fun p _ => hz p]; rfl
/-- Behind all places it is as from the first. -/
theorem next_held {a : Nat} (ha : k ≤ a) : nextAt s k a = nextAt s k k := by
  have hb : ∀ a, k ≤ a → firstAt s k a = none := fun a h => by
    rw [firstAt, List.find?_eq_none]
    intro p hp
    have := List.mem_range.1 hp
    simp; omega
  unfold nextAt
  rw [hb a ha, hb k (Nat.le_refl _)]

/-- The slice reads as the places of s. -/
def ReadSet (w : World) (sb k : Nat) (s : Nat → Bool) : Prop := ∀ i, i < k → w.cell? ⟨sb, i, none⟩ = some (.bool (s i))

set_option maxHeartbeats 4000000 in
theorem refNext_at {w : World} {sb : Nat} (hr : ReadSet w sb k s) (hs : ∀ p, s p = true → p < k) (hk : k ≤ 5000) (f : Int) (a : Nat) (hf : f ≤ 0 ∧ a = 0 ∨ f = a ∧ 0 < a ∧ a ≤ k ∨ 0 < f ∧ (k : Int) < f ∧ 0 < k ∧ k = a ∨ 0 < f ∧ k = 0 ∧ a = 0) :
    Calls Tryd.prog 10 #[.slice (some ⟨sb, 0, none⟩) k k, .int .i64 f] w fun e w' => e = .returned (placeV (nextAt s k a)) ∧ w = w' := by
  have hak : a ≤ k := by omega
  have ha0 : (0 : Int) ≤ a := by omega
  have ha1 : (a : Int) ≤ k := by omega
  have hk0 : (0 : Int) ≤ k := by omega
  have hk1 : (k : Int) ≤ 5000 := by omega
  have hscan := Lib.hid (fun i => @next_scan k s a i hak hs)
  have hnone := Lib.hid (fun h => @next_scan_none k s a hak hs h a)
  replace hr := Lib.hid hr
  clear hs
  rcases hf with ⟨h1, rfl⟩ | ⟨rfl, h1, h2⟩ | ⟨h0, h1, h2, rfl⟩ | ⟨h0, rfl, rfl⟩
  · clear hak ha0 ha1
    go_enter Tryd.func10, Tryd.ntmps10
    go_wp2_with fail
    go_loopg [7] k (fun g i wt => ∃ p : Nat, i = .int .i64 p ∧ p + g = k ∧ (∀ j, j < p → s ((0 + j) % k) = false) ∧ wt = w)
    case atStart => exact ⟨0, rfl, by omega, fun j hj => by omega, rfl⟩
    case round =>
      obtain ⟨p, rfl, hp, hnot, rfl⟩ := hrel
      by_cases hlt : p < k
      · obtain ⟨q, hqn⟩ : ∃ q, (0 + p) % k = q := ⟨_, rfl⟩
        have hqk : q < k := by rw [← hqn]; exact Nat.mod_lt _ (by omega)
        have hq : (p : Int) % (k : Int) = q := by rw [← hqn]; simp
        have hkne : ((k : Int) == 0) = false := by rw [beq_eq_false_iff_ne]; omega
        have hc := hr.out q hqk
        have hq0 : (0 : Int) ≤ q := by omega
        have hq1 : (q : Int) < k := by omega
        have hp0 : (0 : Int) ≤ p := by omega
        have hp1 : (p : Int) < k := by omega
        cases hsq : s q with
        | true =>
          have e := hscan.out p hlt (by rw [hqn]; exact hsq) hnot
          rw [hqn] at e
          rw [hsq] at hc
          replace e := Lib.hid e
          clear hsq hnot hqn
          go_wp2_with fail
          go_ret2
          exact ⟨by rw [e.out]; simp [placeV, hq], rfl⟩
        | false =>
          rw [hsq] at hc
          have hnot' : ∀ j, j < p + 1 → s ((0 + j) % k) = false := fun j hj => by
            rcases Nat.lt_or_ge j p with h | h
            · exact hnot j h
            · rw [show j = p by omega, hqn]; exact hsq
          replace hnot' := Lib.hid hnot'
          clear hsq hnot hqn
          go_wp2_with fail
          go_roundg (k - (p + 1))
          case measure => omega
          case rel => exact ⟨p + 1, by go_num, by omega, hnot'.out, rfl⟩
      · have e := hnone.out (fun j hj => hnot j (by omega))
        replace e := Lib.hid e
        clear hnot
        go_wp2_with fail
        go_ret2
        exact ⟨by rw [e.out]; rfl, rfl⟩
  · clear h2
    go_enter Tryd.func10, Tryd.ntmps10
    go_wp2_with fail
    go_loopg [7] k (fun g i wt => ∃ p : Nat, i = .int .i64 p ∧ p + g = k ∧ (∀ j, j < p → s ((a + j) % k) = false) ∧ wt = w)
    case atStart => exact ⟨0, rfl, by omega, fun j hj => by omega, rfl⟩
    case round =>
      obtain ⟨p, rfl, hp, hnot, rfl⟩ := hrel
      by_cases hlt : p < k
      · obtain ⟨q, hqn⟩ : ∃ q, (a + p) % k = q := ⟨_, rfl⟩
        have hqk : q < k := by rw [← hqn]; exact Nat.mod_lt _ (by omega)
        have hq : ((a : Int) + p) % (k : Int) = q := by rw [← hqn]; simp
        have hkne : ((k : Int) == 0) = false := by rw [beq_eq_false_iff_ne]; omega
        have hc := hr.out q hqk
        have hq0 : (0 : Int) ≤ q := by omega
        have hq1 : (q : Int) < k := by omega
        have hp0 : (0 : Int) ≤ p := by omega
        have hp1 : (p : Int) < k := by omega
        cases hsq : s q with
        | true =>
          have e := hscan.out p hlt (by rw [hqn]; exact hsq) hnot
          rw [hqn] at e
          rw [hsq] at hc
          replace e := Lib.hid e
          clear hsq hnot hqn
          go_wp2_with fail
          go_ret2
          exact ⟨by rw [e.out]; simp [placeV, hq], rfl⟩
        | false =>
          rw [hsq] at hc
          have hnot' : ∀ j, j < p + 1 → s ((a + j) % k) = false := fun j hj => by
            rcases Nat.lt_or_ge j p with h | h
            · exact hnot j h
            · rw [show j = p by omega, hqn]; exact hsq
          replace hnot' := Lib.hid hnot'
          clear hsq hnot hqn
          go_wp2_with fail
          go_roundg (k - (p + 1))
          case measure => omega
          case rel => exact ⟨p + 1, by go_num, by omega, hnot'.out, rfl⟩
      · have e := hnone.out (fun j hj => hnot j (by omega))
        replace e := Lib.hid e
        clear hnot
        go_wp2_with fail
        go_ret2
        exact ⟨by rw [e.out]; rfl, rfl⟩
  · clear hak ha0 ha1
    go_enter Tryd.func10, Tryd.ntmps10
    go_wp2_with fail
    go_loopg [7] k (fun g i wt => ∃ p : Nat, i = .int .i64 p ∧ p + g = k ∧ (∀ j, j < p → s ((k + j) % k) = false) ∧ wt = w)
    case atStart => exact ⟨0, rfl, by omega, fun j hj => by omega, rfl⟩
    case round =>
      obtain ⟨p, rfl, hp, hnot, rfl⟩ := hrel
      by_cases hlt : p < k
      · obtain ⟨q, hqn⟩ : ∃ q, (k + p) % k = q := ⟨_, rfl⟩
        have hqk : q < k := by rw [← hqn]; exact Nat.mod_lt _ (by omega)
        have hq : ((k : Int) + p) % (k : Int) = q := by rw [← hqn]; simp
        have hkne : ((k : Int) == 0) = false := by rw [beq_eq_false_iff_ne]; omega
        have hc := hr.out q hqk
        have hq0 : (0 : Int) ≤ q := by omega
        have hq1 : (q : Int) < k := by omega
        have hp0 : (0 : Int) ≤ p := by omega
        have hp1 : (p : Int) < k := by omega
        cases hsq : s q with
        | true =>
          have e := hscan.out p hlt (by rw [hqn]; exact hsq) hnot
          rw [hqn] at e
          rw [hsq] at hc
          replace e := Lib.hid e
          clear hsq hnot hqn
          go_wp2_with fail
          go_ret2
          exact ⟨by rw [e.out]; simp [placeV, hq], rfl⟩
        | false =>
          rw [hsq] at hc
          have hnot' : ∀ j, j < p + 1 → s ((k + j) % k) = false := fun j hj => by
            rcases Nat.lt_or_ge j p with h | h
            · exact hnot j h
            · rw [show j = p by omega, hqn]; exact hsq
          replace hnot' := Lib.hid hnot'
          clear hsq hnot hqn
          go_wp2_with fail
          go_roundg (k - (p + 1))
          case measure => omega
          case rel => exact ⟨p + 1, by go_num, by omega, hnot'.out, rfl⟩
      · have e := hnone.out (fun j hj => hnot j (by omega))
        replace e := Lib.hid e
        clear hnot
        go_wp2_with fail
        go_ret2
        exact ⟨by rw [e.out]; rfl, rfl⟩
  · have e := hnone.out (fun j hj => by omega)
    replace e := Lib.hid e
    clear hscan hnone hr hak ha0 ha1 hk0 hk1
    go_enter Tryd.func10, Tryd.ntmps10
    go_wp2_with fail
    go_loopg [7] 0 (fun g i wt => i = .int .i64 0 ∧ g = 0 ∧ wt = w)
    case atStart => exact ⟨rfl, rfl, rfl⟩
    case round =>
      obtain ⟨rfl, rfl, rfl⟩ := hrel
      go_wp2_with fail
      go_ret2
      exact ⟨by rw [e.out]; rfl, rfl⟩

/-- The document's own Next. -/
theorem refNext_any {w : World} {sb : Nat} (hr : ReadSet w sb k s) (hs : ∀ p, s p = true → p < k) (hk : k ≤ 5000) (f : Int) :
    Calls Tryd.prog 10 #[.slice (some ⟨sb, 0, none⟩) k k, .int .i64 f] w fun e w' => e = .returned (placeV (nextAt s k f.toNat)) ∧ w = w' := by
  by_cases h0 : f ≤ 0
  · rw [show f.toNat = 0 by omega]
    exact refNext_at hr hs hk f 0 (.inl ⟨h0, rfl⟩)
  · by_cases h1 : f ≤ k
    · exact refNext_at hr hs hk f f.toNat (.inr (.inl ⟨by omega, by omega, by omega⟩))
    · rw [next_held (show k ≤ f.toNat by omega)]
      rcases Nat.eq_zero_or_pos k with h2 | h2
      · exact refNext_at hr hs hk f k (.inr (.inr (.inr ⟨by omega, h2, h2⟩)))
      · exact refNext_at hr hs hk f k (.inr (.inr (.inl ⟨by omega, by omega, h2, rfl⟩)))
end
end Go.Proofs.YtmclnnepcgkiaaaDoor
