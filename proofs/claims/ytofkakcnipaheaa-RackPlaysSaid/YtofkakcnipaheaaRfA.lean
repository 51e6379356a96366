/- The document's racks: what is told of a row of entries. -/
import Derived.Test.YtofkakcnipaheaaRkU
namespace Go.Proofs.Ytofkakcnipaheaa
open Go.RowKit
open Go.ChangeMaps (setBlock)
set_option linter.unusedVariables false
set_option linter.unusedSectionVars false
set_option linter.unusedSimpArgs false
set_option maxRecDepth 100000

/-- The place of an ID. -/
def atM (L : List Ent) (k : Int) : Int := match L.findIdx? (fun x => decide (x.id = k)) with
  | some i => i
  | none => -1
theorem atM_no {L : List Ent} {k : Int} (h : k ∉ L.map (·.id)) : atM L k = -1 := by
  have : L.findIdx? (fun x => decide (x.id = k)) = none := by
    rw [List.findIdx?_eq_none_iff]
    intro x hx
    simp only [decide_eq_false_iff_not]
    rintro rfl
    exact h (List.mem_map_of_mem hx)
  unfold atM
  rw [this]
theorem atM_yes {L : List Ent} {k : Int} {i : Nat} {e : Ent} (hn : (L.map (·.id)).Nodup) (h : L[i]? = some e) (he : e.id = k) : atM L k = i := by
  have : L.findIdx? (fun x => decide (x.id = k)) = some i := by
    obtain ⟨h1, h2⟩ := List.getElem?_eq_some_iff.1 h
    rw [List.findIdx?_eq_some_iff_getElem]
    refine ⟨h1, by rw [h2]; simpa using he, fun j hj => ?_⟩
    simp only [decide_eq_true_eq, Bool.not_eq_true, decide_eq_false_iff_not]
    intro hc
    have : j = i := (List.getElem?_inj (by rw [List.length_map]; omega) hn).1 (by
      rw [List.getElem?_map, List.getElem?_map, h, List.getElem?_eq_getElem (by omega)]
      simp [hc, he])
    omega
  unfold atM
  rw [this]

section
variable {w : World} {L : List Ent} {a : Option Addr} {c : Nat}
set_option maxHeartbeats 1000000 in
theorem rat_any (hr : ReadEs w a L) (hl : L.length ≤ 100000) (k : Int) : Calls Try.prog 12 #[.slice a L.length c, .int .i64 k] w fun r w' => r = .returned (.int .i64 (atM L k)) ∧ ∃ n, w' = w.drewN n := by
  replace hr := Lib.hid hr
  obtain ⟨R, hR⟩ : ∃ R, R = atM L k := ⟨_, rfl⟩
  rw [← hR]
  have hstop : Hid (∀ (i : Nat) (e : Ent), L[i]? = some e → e.id = k → (∀ (j : Nat) (x : Ent), j < i → L[j]? = some x → x.id ≠ k) → R = i) := Lib.hid fun i e hi he hno => by
    have : L.findIdx? (fun x => decide (x.id = k)) = some i := by
      obtain ⟨h1, h2⟩ := List.getElem?_eq_some_iff.1 hi
      rw [List.findIdx?_eq_some_iff_getElem]
      refine ⟨h1, by rw [h2]; simpa using he, fun j hj => ?_⟩
      simp only [Bool.not_eq_true, decide_eq_false_iff_not]
      exact hno j _ hj (List.getElem?_eq_getElem (by omega))
    rw [hR]
    unfold atM
    rw [this]
  have hend : Hid ((∀ (j : Nat) (x : Ent), j < L.length → L[j]? = some x → x.id ≠ k) → R = -1) := Lib.hid fun hno => by
    rw [hR]
    refine atM_no fun hm => ?_
    obtain ⟨x, hx, e⟩ := List.mem_map.1 hm
    obtain ⟨j, hj⟩ := List.getElem?_of_mem hx
    exact hno j x (List.getElem?_eq_some_iff.1 hj).1 hj e
  have hl0 : (L.length : Int) ≤ 100000 := by omega
  clear hR
  go_enter Try.func12, Try.ntmps12
  go_wp2_with fail
  go_loopg [5] L.length (fun g v5 wr => ∃ i : Nat, v5 = .int .i64 i ∧ i + g = L.length ∧ Hid (∀ (j : Nat) (x : Ent), j < i → L[j]? = some x → x.id ≠ k) ∧ wr = w)
  case atStart => exact ⟨0, rfl, by omega, Lib.hid fun j x hj => absurd hj (by omega), rfl⟩
  case round =>
    obtain ⟨i, rfl, hi, hno, rfl⟩ := hrel
    have i0 : (0 : Int) ≤ i := by omega
    by_cases hlt : i < L.length
    · have i1 : (i : Int) < L.length := by omega
      obtain ⟨x, hx⟩ : ∃ x, L[i]? = some x := ⟨_, List.getElem?_eq_getElem hlt⟩
      obtain ⟨b, o, rfl, x0, x1, x2, x3, x4, x5, x6, x7, x8, x9⟩ := hr.out i x hx
      by_cases he : x.id = k
      · have fin := Lib.hid (hstop.out i x hx he hno.out)
        have heB : (x.id == k) = true := by simpa using he
        clear hx hno hstop hend he x1 x2 x3 x4 x5 x6 x7 x8 x9
        go_wp2_with fail
        go_ret
        exact ⟨ret_int fin.out.symm, 0, rfl⟩
      · have hno2 : Hid (∀ (j : Nat) (y : Ent), j < i + 1 → L[j]? = some y → y.id ≠ k) := Lib.hid fun j y hj hy => by
          rcases (by omega : j < i ∨ j = i) with h9 | rfl
          · exact hno.out j y h9 hy
          · rw [hx] at hy
            cases hy
            exact he
        have heB : (x.id == k) = false := by simpa using he
        clear hx hno hstop hend he x1 x2 x3 x4 x5 x6 x7 x8 x9
        go_wp2_with fail
        go_roundg (L.length - (i + 1))
        case measure => omega
        case rel => exact ⟨i + 1, by go_num, by omega, hno2, rfl⟩
    · have fin : Hid (R = -1) := Lib.hid (hend.out fun j x hj => hno.out j x (by omega))
      clear hno hstop hend
      go_wp2_with fail
      go_ret
      exact ⟨ret_int fin.out.symm, 0, rfl⟩

theorem rless_any (a b : Ent) (w : World) : Calls Try.prog 23 #[enV a, enV b] w fun r w' => r = .returned (.bool (lessE a b)) ∧ Below w.heap.size w w' := by
  have h0 := Lib.hid (bel (bel (new_below w (enO a)) (new_below _ (enO b))) (drew_b _))
  have h1 := Lib.hid (bel (new_below w (enO a)) (new_below _ (enO b)))
  obtain ⟨R, hR⟩ : ∃ R, R = lessE a b := ⟨_, rfl⟩
  rw [← hR]
  rcases (by omega : b.prio < a.prio ∨ a.prio = b.prio ∨ a.prio < b.prio) with h | h | h
  · have hRt : Hid (R = true) := Lib.hid (by rw [hR]; unfold lessE; exact decide_eq_true (.inl h))
    have hd : decide (b.prio < a.prio) = true := decide_eq_true h
    clear hR
    go_enter Try.func23, Try.ntmps23
    go_wp2_with fail
    go_ret
    exact ⟨ret_bool hRt.out.symm, h1.out⟩
  · have hRt : Hid (R = decide (a.id < b.id)) := Lib.hid (by rw [hR]; unfold lessE; exact decide_eq_decide.2 (by omega))
    have hd : decide (b.prio < a.prio) = false := decide_eq_false (by omega)
    have hB : (a.prio == b.prio) = true := by simpa using h
    clear hR h
    go_enter Try.func23, Try.ntmps23
    go_wp2_with fail
    go_ret
    exact ⟨ret_bool hRt.out.symm, h1.out⟩
  · have hRt : Hid (R = false) := Lib.hid (by rw [hR]; unfold lessE; exact decide_eq_false (by omega))
    have hd : decide (b.prio < a.prio) = false := decide_eq_false (by omega)
    have hB : (a.prio == b.prio) = false := by rw [beq_eq_false_iff_ne]; omega
    clear hR
    go_enter Try.func23, Try.ntmps23
    go_wp2_with fail
    go_ret
    exact ⟨ret_bool hRt.out.symm, h1.out⟩

theorem rgone_any (e : Ent) (now : Int) (w : World) : Calls Try.prog 32 #[enV e, .int .i64 now] w fun r w' => r = .returned (.bool (goneE e now)) ∧ Below w.heap.size w w' := by
  have hb := Lib.hid (new_below w (enO e))
  by_cases h1 : 0 < e.til
  · have hd : decide (0 < e.til) = true := decide_eq_true h1
    have f : Hid (decide (e.til ≤ now) = goneE e now) := Lib.hid (by simp [goneE, h1])
    go_enter Try.func32, Try.ntmps32
    go_wp2_with fail
    go_ret
    exact ⟨ret_bool f.out, hb.out⟩
  · have hd : decide (0 < e.til) = false := decide_eq_false h1
    have f : Hid (goneE e now = false) := Lib.hid (by simp [goneE, h1])
    go_enter Try.func32, Try.ntmps32
    go_wp2_with fail
    go_ret
    exact ⟨ret_bool f.out.symm, hb.out⟩

set_option maxHeartbeats 1000000 in
theorem rsame_any {a2 : Option Addr} {c2 : Nat} (hr : ReadEs w a L) (hr2 : ReadEs w a2 L) (hl : L.length ≤ 100000) : Calls Try.prog 16 #[.slice a L.length c, .slice a2 L.length c2] w fun r w' => r = .returned (.bool true) ∧ ∃ n, w' = w.drewN n := by
  have hr' : Hid (∀ m, ReadEs (w.drewN m) a L) := Lib.hid fun m => hr.below (drewN_below _ m)
  have hr2' : Hid (∀ m, ReadEs (w.drewN m) a2 L) := Lib.hid fun m => hr2.below (drewN_below _ m)
  have hl0 : (L.length : Int) ≤ 100000 := by omega
  clear hr hr2
  go_enter Try.func16, Try.ntmps16
  go_wp2_with fail
  go_loopg [5] L.length (fun g v5 wr => ∃ i m : Nat, v5 = .int .i64 i ∧ i + g = L.length ∧ wr = w.drewN m)
  case atStart => exact ⟨0, 0, rfl, by omega, rfl⟩
  case round =>
    obtain ⟨i, m, rfl, hi, rfl⟩ := hrel
    have i0 : (0 : Int) ≤ i := by omega
    by_cases hlt : i < L.length
    · have i1 : (i : Int) < L.length := by omega
      obtain ⟨x, hx⟩ : ∃ x, L[i]? = some x := ⟨_, List.getElem?_eq_getElem hlt⟩
      obtain ⟨b1, o1, rfl, x0, x1, x2, x3, x4, x5, x6, x7, x8, x9⟩ := hr'.out m i x hx
      obtain ⟨b2, o2, rfl, y0, y1, y2, y3, y4, y5, y6, y7, y8, y9⟩ := hr2'.out m i x hx
      clear hx hr' hr2'
      generalize hV : w.drewN m = V at *
      replace hV := Lib.hid hV
      go_wp2_with fail
      go_quiet (fail)
      go_wp2_with fail
      go_roundg (L.length - (i + 1))
      case measure => omega
      case rel => exact ⟨i + 1, _, by go_num, by omega, by rw [← hV.out]; exact drew_drew _ _ _⟩
    · clear hr' hr2'
      go_wp2_with fail
      go_ret
      exact ⟨rfl, m, rfl⟩
end
end Go.Proofs.Ytofkakcnipaheaa
