/- The document's racks: the worst one; one left out. -/
import Derived.Test.YtofkakcnipaheaaRfA
namespace Go.Proofs.Ytofkakcnipaheaa
open Go.RowKit
open Go.ChangeMaps (setBlock)
set_option linter.unusedVariables false
set_option linter.unusedSectionVars false
set_option linter.unusedSimpArgs false
set_option maxRecDepth 100000

/-- It is the worst one of the first i. -/
structure WorstTo (L : List Ent) (i k : Nat) (e : Ent) : Prop where
  lt : k < i
  at_ : L[k]? = some e
  le : ∀ (j : Nat) (x : Ent), j < i → L[j]? = some x → e.prio < x.prio ∨ e.prio = x.prio ∧ e.id ≤ x.id
theorem WorstTo.keep {L : List Ent} {i k : Nat} {e x : Ent} (h : WorstTo L i k e) (hx : L[i]? = some x) (hle : e.prio < x.prio ∨ e.prio = x.prio ∧ e.id ≤ x.id) : WorstTo L (i + 1) k e :=
  ⟨by have := h.lt; omega, h.at_, fun j y hj hy => by
    rcases (by omega : j < i ∨ j = i) with h9 | rfl
    · exact h.le j y h9 hy
    · rw [hx] at hy
      cases hy
      exact hle⟩
theorem WorstTo.turn {L : List Ent} {i k : Nat} {e x : Ent} (h : WorstTo L i k e) (hx : L[i]? = some x) (hle : x.prio < e.prio ∨ x.prio = e.prio ∧ x.id < e.id) : WorstTo L (i + 1) i x :=
  ⟨by omega, hx, fun j y hj hy => by
    rcases (by omega : j < i ∨ j = i) with h9 | rfl
    · have := h.le j y h9 hy
      omega
    · rw [hx] at hy
      cases hy
      omega⟩
theorem WorstTo.first {L : List Ent} {x : Ent} (hx : L[0]? = some x) : WorstTo L 1 0 x := ⟨by omega, hx, fun j y hj hy => by
  have : j = 0 := by omega
  subst this
  rw [hx] at hy
  cases hy
  omega⟩
theorem WorstTo.is {L : List Ent} {k : Nat} {e : Ent} (h : WorstTo L L.length k e) : IsWorst L e := ⟨List.mem_of_getElem? h.at_, fun x hx => by
  obtain ⟨j, hj⟩ := List.getElem?_of_mem hx
  exact h.le j x (List.getElem?_eq_some_iff.1 hj).1 hj⟩

section
variable {w : World} {L : List Ent} {a : Option Addr} {c : Nat}
def RWorstR (w : World) (L : List Ent) (r : Ending) (w' : World) : Prop := ((L = [] ∧ r = .returned (.int .i64 (-1))) ∨ ∃ (k : Nat) (e : Ent), r = .returned (.int .i64 k) ∧ L[k]? = some e ∧ IsWorst L e) ∧ ∃ n, w' = w.drewN n
set_option maxHeartbeats 4000000 in
theorem rworst_any (hr : ReadEs w a L) (hl : L.length ≤ 100000) : Calls Try.prog 20 #[.slice a L.length c] w (RWorstR w L) := by
  have hr' : Hid (∀ m, ReadEs (w.drewN m) a L) := Lib.hid fun m => hr.below (drewN_below _ m)
  have hl0 : (L.length : Int) ≤ 100000 := by omega
  clear hr
  go_enter Try.func20, Try.ntmps20
  go_wp2_with fail
  go_loopg [3, 4] L.length (fun g v3 v4 wr => ∃ i m : Nat, v4 = .int .i64 i ∧ i + g = L.length ∧ ((i = 0 ∧ v3 = .int .i64 (-1)) ∨ ∃ (k : Nat) (e : Ent), v3 = .int .i64 k ∧ Hid (WorstTo L i k e)) ∧ wr = w.drewN m)
  case atStart => exact ⟨0, 0, rfl, by omega, .inl ⟨rfl, rfl⟩, rfl⟩
  case round =>
    obtain ⟨i, m, rfl, hi, hw, rfl⟩ := hrel
    have i0 : (0 : Int) ≤ i := by omega
    by_cases hlt : i < L.length
    · have i1 : (i : Int) < L.length := by omega
      obtain ⟨x, hx⟩ : ∃ x, L[i]? = some x := ⟨_, List.getElem?_eq_getElem hlt⟩
      obtain ⟨b1, o1, rfl, x0, x1, x2, x3, x4, x5, x6, x7, x8, x9⟩ := hr'.out m i x hx
      rcases hw with ⟨hz, rfl⟩ | ⟨k, e, rfl, hW⟩
      · have hW2 : Hid (WorstTo L (i + 1) i x) := Lib.hid (by subst hz; exact WorstTo.first hx)
        clear hx hr' hz x0 x1 x2 x3 x4 x5 x6 x7 x8 x9
        generalize hV : w.drewN m = V at *
        replace hV := Lib.hid hV
        go_wp2_with fail
        go_quiet (fail)
        go_wp2_with fail
        go_roundg (L.length - (i + 1))
        case measure => omega
        case rel => exact ⟨i + 1, _, by go_num, by omega, .inr ⟨i, x, rfl, hW2⟩, by rw [← hV.out]; exact drew_drew _ _ _⟩
      · obtain ⟨b2, o2, e9, y0, y1, y2, y3, y4, y5, y6, y7, y8, y9⟩ := hr'.out m k e hW.out.at_
        cases e9
        have k0 : (0 : Int) ≤ k := by omega
        have k1 : (k : Int) < L.length := by have := hW.out.lt; omega
        have hdk : decide ((k : Int) < 0) = false := decide_eq_false (by omega)
        rcases (by omega : x.prio < e.prio ∨ e.prio < x.prio ∨ x.prio = e.prio ∧ x.id < e.id ∨ x.prio = e.prio ∧ ¬ x.id < e.id) with h | h | ⟨h, h9⟩ | ⟨h, h9⟩
        · have hW2 := Lib.hid (hW.out.turn hx (.inl h))
          have d1 : decide (x.prio < e.prio) = true := decide_eq_true h
          clear hx hr' hW h x1 x2 x3 x4 x6 x7 x8 x9 y1 y2 y3 y4 y6 y7 y8 y9
          generalize hV : w.drewN m = V at *
          replace hV := Lib.hid hV
          go_wp2_with fail
          go_quiet (fail)
          go_wp2_with fail
          go_roundg (L.length - (i + 1))
          case measure => omega
          case rel => exact ⟨i + 1, _, by go_num, by omega, .inr ⟨i, x, rfl, hW2⟩, by rw [← hV.out]; exact drew_drew _ _ _⟩
        · have hW2 := Lib.hid (hW.out.keep hx (.inl h))
          have d1 : decide (x.prio < e.prio) = false := decide_eq_false (by omega)
          have d2 : (x.prio == e.prio) = false := by rw [beq_eq_false_iff_ne]; omega
          clear hx hr' hW h x1 x2 x3 x4 x6 x7 x8 x9 y1 y2 y3 y4 y6 y7 y8 y9
          generalize hV : w.drewN m = V at *
          replace hV := Lib.hid hV
          go_wp2_with fail
          go_quiet (fail)
          go_wp2_with fail
          go_roundg (L.length - (i + 1))
          case measure => omega
          case rel => exact ⟨i + 1, _, by go_num, by omega, .inr ⟨k, e, rfl, hW2⟩, by rw [← hV.out]; exact drew_drew _ _ _⟩
        · have hW2 := Lib.hid (hW.out.turn hx (.inr ⟨h, h9⟩))
          have d1 : decide (x.prio < e.prio) = false := decide_eq_false (by omega)
          have d2 : (x.prio == e.prio) = true := by rw [beq_iff_eq]; exact h
          have d3 : decide (x.id < e.id) = true := decide_eq_true h9
          clear hx hr' hW h h9 x1 x2 x3 x4 x6 x7 x8 x9 y1 y2 y3 y4 y6 y7 y8 y9
          generalize hV : w.drewN m = V at *
          replace hV := Lib.hid hV
          go_wp2_with fail
          go_quiet (fail)
          go_wp2_with fail
          go_roundg (L.length - (i + 1))
          case measure => omega
          case rel => exact ⟨i + 1, _, by go_num, by omega, .inr ⟨i, x, rfl, hW2⟩, by rw [← hV.out]; exact drew_drew _ _ _⟩
        · have hW2 := Lib.hid (hW.out.keep hx (.inr ⟨h.symm, by omega⟩))
          have d1 : decide (x.prio < e.prio) = false := decide_eq_false (by omega)
          have d2 : (x.prio == e.prio) = true := by rw [beq_iff_eq]; exact h
          have d3 : decide (x.id < e.id) = false := decide_eq_false h9
          clear hx hr' hW h h9 x1 x2 x3 x4 x6 x7 x8 x9 y1 y2 y3 y4 y6 y7 y8 y9
          generalize hV : w.drewN m = V at *
          replace hV := Lib.hid hV
          go_wp2_with fail
          go_quiet (fail)
          go_wp2_with fail
          go_roundg (L.length - (i + 1))
          case measure => omega
          case rel => exact ⟨i + 1, _, by go_num, by omega, .inr ⟨k, e, rfl, hW2⟩, by rw [← hV.out]; exact drew_drew _ _ _⟩
    · have hie : i = L.length := by omega
      rcases hw with ⟨hz, rfl⟩ | ⟨k, e, rfl, hW⟩
      · have fin : Hid (RWorstR w L (.returned (.int .i64 (-1))) (w.drewN m)) := Lib.hid ⟨.inl ⟨List.eq_nil_of_length_eq_zero (by omega), rfl⟩, m, rfl⟩
        clear hr' hz hie hi
        go_wp2_with fail
        go_ret
        exact fin.out
      · have fin : Hid (RWorstR w L (.returned (.int .i64 k)) (w.drewN m)) := Lib.hid (by
          have h9 := hW.out
          rw [hie] at h9
          exact ⟨.inr ⟨k, e, rfl, h9.at_, h9.is⟩, m, rfl⟩)
        clear hr' hie hi hW
        go_wp2_with fail
        go_ret
        exact fin.out
end

section
variable {B : Nat} {w0 w : World} {S X : List (Nat × Obj)} {a : Option Addr} {c k : Nat} {L : List Ent}
theorem ens_cut (hs : EnsIs (.slice a L.length c) L S) (hk : k < L.length) (hl : L.length ≤ 1000) :
    ∃ a1 c1 a2 n2 c2, (∀ w, (Instr.slice 26 (.slice a L.length c) none (some (.int .i64 k)) none).run Try.prog w = .ok (.slice a1 k c1) w) ∧
      (∀ w, (Instr.slice 26 (.slice a L.length c) (some (.int .i64 ((k : Int) + 1))) none none).run Try.prog w = .ok (.slice a2 n2 c2) w) ∧
      ∀ w, St B w0 w (X ++ S) → ∃ a3 c3 W1, AppRun Try.prog 26 (.slice none 0 0) (.slice a1 k c1) w (.slice a3 k c3) W1 ∧
        ∃ a4 c4 W2 S', AppRun Try.prog 26 (.slice a3 k c3) (.slice a2 n2 c2) W1 (.slice a4 (L.take k ++ L.drop (k + 1)).length c4) W2 ∧
          EnsIs (.slice a4 (L.take k ++ L.drop (k + 1)).length c4) (L.take k ++ L.drop (k + 1)) S' ∧ St B w0 W2 (X ++ S') := by
  obtain ⟨a1, c1, -, -, h1, -, r1, -⟩ := apE.piece hs k (by omega)
  obtain ⟨-, -, a2, c2, -, h2, -, r2⟩ := apE.piece hs (k + 1) (by omega)
  rw [← entsV_take _ _ (by omega)] at h1
  rw [← entsV_drop _ _ (by omega)] at h2
  refine ⟨a1, c1, a2, L.length - (k + 1), c2, r1, fun w => r2 w, fun w hst => ?_⟩
  have rd : Reads w (.slice a1 k c1) k 10 (entsV (L.take k)) := SlIs.reads (A := X) h1 hst
  obtain ⟨a3, c3, W1, F1, q1, q2, q3⟩ := apE.copy hst rd (entsV_one _) (by unfold maxLen; omega) (by omega)
  refine ⟨a3, c3, W1, ⟨q1⟩, ?_⟩
  have rd2 : Reads W1 (.slice a2 (L.length - (k + 1)) c2) (L.length - (k + 1)) 10 (entsV (L.drop (k + 1))) := SlIs.reads (A := X ++ F1) h2 (q3.perm (by
    simp only [List.append_assoc]
    exact List.Perm.append_left _ List.perm_append_comm))
  obtain ⟨a4, c4, W2, F2, p1, p2, p3⟩ := apE.append q2 q3 rd2 (entsV_one _) (by unfold maxLen; omega) (by omega)
  have e : k + (L.length - (k + 1)) = (L.take k ++ L.drop (k + 1)).length := by
    rw [List.length_append, List.length_take, List.length_drop]
    omega
  rw [e] at p1 p2
  rw [← entsV_app] at p2
  exact ⟨a4, c4, W2, F2, ⟨p1⟩, p2, p3.sub ((List.sublist_append_left _ _).append (List.Sublist.refl _))⟩

set_option maxHeartbeats 2000000 in
theorem rwithout_any (hs : EnsIs (.slice a L.length c) L S) (hst : St B w0 w (X ++ S)) (hk : k < L.length) (hl : L.length ≤ 1000) : Calls Try.prog 14 #[.slice a L.length c, .int .i64 k] w fun r w' => ∃ a' c' S', r = .returned (.slice a' (L.take k ++ L.drop (k + 1)).length c') ∧ EnsIs (.slice a' (L.take k ++ L.drop (k + 1)).length c') (L.take k ++ L.drop (k + 1)) S' ∧ St B w0 w' (X ++ S') := by
  obtain ⟨a1, c1, a2, n2, c2, q1, q2, ap⟩ := ens_cut (B := B) (w0 := w0) (X := X) hs hk hl
  obtain ⟨a3, c3, W1, run1, a4, c4, W2, S', run2, hs', hT'⟩ := ap w.drew hst.drew
  have fin := Lib.hid (And.intro hs' hT')
  have hj0 : (0 : Int) ≤ k := by omega
  have hj1 : (k : Int) < L.length := by omega
  have hl1 : (L.length : Int) ≤ 1000 := by omega
  have hwj : IntKind.i64.wrap ((k : Int) + 1) = k + 1 := IntWalk.i64_in _ (by omega)
  generalize L.take k ++ L.drop (k + 1) = L' at *
  clear hs hst ap hs' hT'
  go_enter Try.func14, Try.ntmps14
  go_wp2_with fail
  go_region_law (first
    | (refine step_app (.const (.slice none 0 0)) (.tmp 7) 26 run1 rfl rfl (by simp [Act.eval, Act.put]) (by simp [Act.eval, Act.put]) ?_)
    | (refine step_app (.tmp 8) (.tmp 12) 26 run2 rfl rfl (by simp [Act.eval, Act.put]) (by simp [Act.eval, Act.put]) ?_))
  all_goals
    clear run1 run2 q1 q2
    go_wp2_with fail
    go_ret
    exact ⟨a4, c4, S', rfl, fin.out⟩
end
end Go.Proofs.Ytofkakcnipaheaa
