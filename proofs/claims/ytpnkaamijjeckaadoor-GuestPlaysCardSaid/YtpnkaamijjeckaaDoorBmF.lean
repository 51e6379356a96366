/- Set. -/
import Derived.Test.YtpnkaamijjeckaaDoorBmE
namespace Go.Proofs.YtpnkaamijjeckaaDoor
open Go.RowKit
set_option linter.unusedVariables false

section
variable {B : Nat} {w0 w : World} {bb places count : Nat} {L : List (Nat × List Nat)} {ov : Value} {oF F : List (Nat × Obj)} {s : Nat → Bool}

/-- The places set behind Set(i, on). -/
def setB (s : Nat → Bool) (k : Nat) (i : Int) (on : Bool) : Nat → Bool := if isPlaceB k i then (if on then ins s i.toNat else del s i.toNat) else s
theorem ins_same {i : Nat} (h : s i = true) : ins s i = s := by
  funext p
  by_cases e : p = i
  · subst e; simp [ins, h]
  · simp [ins, e]
theorem del_same {i : Nat} (h : s i = false) : del s i = s := by
  funext p
  by_cases e : p = i
  · subst e; simp [del, h]
  · simp [del, e]

/-- Behind a call without results: the bitmap is one of the places t. -/
def SetR (B : Nat) (w0 : World) (bb places : Nat) (t : Nat → Bool) (F : List (Nat × Obj)) (e : Ending) (w' : World) : Prop :=
  e = .returned (.tuple #[]) ∧ BmIs B w0 w' bb t places F

theorem isPlace_draws (h : BmIs B w0 w bb s places F) (i : Int) :
    Calls Tryd.prog 37 #[bptr bb, .int .i64 i] w fun e w' => e = .returned (.bool (isPlaceB places i)) ∧ w = w' := by
  obtain ⟨-, -, L, ov, oF, wf, hb, h⟩ := h
  exact isPlace_any h i

set_option maxHeartbeats 1000000 in
theorem set_none (h : BmIs B w0 w bb s places F) (i : Int) (on : Bool) (hi : isPlaceB places i = false) :
    Calls Tryd.prog 35 #[bptr bb, .int .i64 i, .bool on] w (SetR B w0 bb places s F) := by
  have cp := isPlace_draws h i
  rw [hi] at cp
  have cp := Lib.hid cp
  have h := Lib.hid h
  clear hi
  go_enter Tryd.func35, Tryd.ntmps35
  go_wp2_with fail
  refine cp.out.mono ?_
  rintro e w1 ⟨rfl, rfl⟩
  go_wp2_with fail
  exact bodyPost_end (results_none rfl _ _ _) rfl ⟨rfl, h.out⟩

set_option maxHeartbeats 1000000 in
theorem set_same (h : BmIs B w0 w bb s places F) (i : Nat) (on : Bool) (hi : i < places) (hs : s i = on) :
    Calls Tryd.prog 35 #[bptr bb, .int .i64 i, .bool on] w (SetR B w0 bb places s F) := by
  have cp := isPlace_draws h i
  rw [show isPlaceB places i = true by simp [isPlaceB, hi]] at cp
  have ch := has_place h i hi
  rw [hs] at ch
  have cp := Lib.hid cp
  have ch := Lib.hid ch
  have h := Lib.hid h
  have h0 : (on == on) = true := by simp
  clear hi hs
  go_enter Tryd.func35, Tryd.ntmps35
  go_wp2_with fail
  refine cp.out.mono ?_
  rintro e w1 ⟨rfl, rfl⟩
  go_wp2_with fail
  refine ch.out.mono ?_
  rintro e w1 ⟨rfl, hd⟩
  go_wp2_with fail
  exact bodyPost_end (results_none rfl _ _ _) rfl ⟨rfl, h.out.drews hd⟩

set_option maxHeartbeats 1000000 in
theorem set_on (h : BmIs B w0 w bb s places F) (i : Nat) (hi : i < places) (hs : s i = false) :
    Calls Tryd.prog 35 #[bptr bb, .int .i64 i, .bool true] w (SetR B w0 bb places (ins s i) F) := by
  have cp := isPlace_draws h i
  rw [show isPlaceB places i = true by simp [isPlaceB, hi]] at cp
  have ch := has_place h i hi
  rw [hs] at ch
  have cp := Lib.hid cp
  have ch := Lib.hid ch
  obtain ⟨hT, hlt, L, ov, oF, wf, hb, h⟩ := h
  have hcnt := cntB_ins hi hs
  have hle := cntB_le s places
  have htop := wf.top
  have cr : Hid (∀ w', Drew w w' → Calls Tryd.prog 39 #[bptr bb, .int .i64 i] w' (Turned B w0 bb places (cntB s places) ov oF F (ins s i))) := Lib.hid fun w' hd => raise_any (h.drews hd) wf hb i hi
  have fin : Hid (∀ w' L', BmWf L' places → BitsAll (ins s i) L' → BmAt B w0 w' bb L' places (cntB s places) ov oF F → BmIs B w0 (w'.setCell ⟨bb, 2, none⟩ (.int .i64 ((cntB s places : Nat) + 1))) bb (ins s i) places F) := by
    refine Lib.hid fun w' L' h1 h2 h3 => ⟨hT, ?_, L', ov, oF, h1, h2, ?_⟩
    · intro p hp
      simp only [ins, Bool.or_eq_true, beq_iff_eq] at hp
      rcases hp with rfl | hp
      · exact hi
      · exact hlt p hp
    · rw [hcnt]
      exact h3.setCount (cntB s places + 1)
  have hc0 : (0 : Int) ≤ (cntB s places : Nat) := by omega
  have hc1 : ((cntB s places : Nat) : Int) ≤ 5000 := by omega
  clear h wf hb hT hlt hi hs hcnt hle
  generalize cntB s places = c at *
  go_enter Tryd.func35, Tryd.ntmps35
  go_wp2_with fail
  refine cp.out.mono ?_
  rintro e w1 ⟨rfl, rfl⟩
  go_wp2_with fail
  refine ch.out.mono ?_
  rintro e w1 ⟨rfl, hd⟩
  go_wp2_with fail
  refine (cr.out _ hd).mono ?_
  rintro e w2 ⟨rfl, L', h1, h2, h3⟩
  have c2 := h3.c2
  have cf := h3.soft 2
  have fin := Lib.hid (fin.out _ _ h1 h2 h3)
  clear h1 h2 h3
  go_wp2_with fail
  exact bodyPost_end (results_none rfl _ _ _) rfl ⟨rfl, fin.out⟩

set_option maxHeartbeats 1000000 in
theorem set_off (h : BmIs B w0 w bb s places F) (i : Nat) (hi : i < places) (hs : s i = true) :
    Calls Tryd.prog 35 #[bptr bb, .int .i64 i, .bool false] w (SetR B w0 bb places (del s i) F) := by
  have cp := isPlace_draws h i
  rw [show isPlaceB places i = true by simp [isPlaceB, hi]] at cp
  have ch := has_place h i hi
  rw [hs] at ch
  have cp := Lib.hid cp
  have ch := Lib.hid ch
  obtain ⟨hT, hlt, L, ov, oF, wf, hb, h⟩ := h
  have hcnt := cntB_del hi hs
  have hle := cntB_le s places
  have htop := wf.top
  have cr : Hid (∀ w', Drew w w' → Calls Tryd.prog 40 #[bptr bb, .int .i64 i] w' (Turned B w0 bb places (cntB s places) ov oF F (del s i))) := Lib.hid fun w' hd => lower_any (h.drews hd) wf hb i hi
  have fin : Hid (∀ w' L', BmWf L' places → BitsAll (del s i) L' → BmAt B w0 w' bb L' places (cntB s places) ov oF F → BmIs B w0 (w'.setCell ⟨bb, 2, none⟩ (.int .i64 ((cntB s places : Nat) - 1))) bb (del s i) places F) := by
    refine Lib.hid fun w' L' h1 h2 h3 => ⟨hT, ?_, L', ov, oF, h1, h2, ?_⟩
    · intro p hp
      simp only [del, Bool.and_eq_true] at hp
      exact hlt p hp.2
    · have e : ((cntB s places : Nat) : Int) - 1 = ((cntB (del s i) places : Nat) : Int) := by omega
      rw [e]
      exact h3.setCount (cntB (del s i) places)
  have hc0 : (0 : Int) ≤ (cntB s places : Nat) := by omega
  have hc1 : ((cntB s places : Nat) : Int) ≤ 5000 := by omega
  clear h wf hb hT hlt hi hs hcnt hle
  generalize cntB s places = c at *
  go_enter Tryd.func35, Tryd.ntmps35
  go_wp2_with fail
  refine cp.out.mono ?_
  rintro e w1 ⟨rfl, rfl⟩
  go_wp2_with fail
  refine ch.out.mono ?_
  rintro e w1 ⟨rfl, hd⟩
  go_wp2_with fail
  refine (cr.out _ hd).mono ?_
  rintro e w2 ⟨rfl, L', h1, h2, h3⟩
  have c2 := h3.c2
  have cf := h3.soft 2
  have fin := Lib.hid (fin.out _ _ h1 h2 h3)
  clear h1 h2 h3
  go_wp2_with fail
  exact bodyPost_end (results_none rfl _ _ _) rfl ⟨rfl, fin.out⟩

theorem set_any (h : BmIs B w0 w bb s places F) (i : Int) (on : Bool) :
    Calls Tryd.prog 35 #[bptr bb, .int .i64 i, .bool on] w (SetR B w0 bb places (setB s places i on) F) := by
  unfold setB
  cases hi : isPlaceB places i with
  | false => exact set_none h i on hi
  | true =>
    obtain ⟨h0, h1⟩ : 0 ≤ i ∧ i < places := by simpa [isPlaceB] using hi
    obtain ⟨k, rfl⟩ : ∃ k : Nat, i = k := ⟨i.toNat, by omega⟩
    have hk : k < places := by omega
    rw [Int.toNat_natCast, if_pos rfl]
    cases hs : s k <;> cases on
    · simp only [Bool.false_eq_true, if_false]
      rw [del_same hs]
      exact set_same h k _ hk hs
    · exact set_on h k hk hs
    · exact set_off h k hk hs
    · rw [if_pos rfl, ins_same hs]
      exact set_same h k _ hk hs
end
end Go.Proofs.YtpnkaamijjeckaaDoor
