/- An ID laid into a row in its place, and lifted out of it. -/
import Derived.Test.YtmmagapggmcceaaRkD
namespace Go.Proofs.Ytmmagapggmcceaa
open Go.RowKit
set_option linter.unusedVariables false
set_option linter.unusedSectionVars false
set_option maxRecDepth 100000

theorem nearer_front (rb : Nat) {a b : Int} (h : a < b) (w : World) : Calls Try.prog 47 #[rptr rb, .int .i64 a, .int .i64 b] w fun e w' => e = .returned (.tuple #[EndV 56 59 rb, .int .i64 a]) ∧ Below w.heap.size w w' := by
  have hb := Lib.hid (new_below w (endO 56 59 rb))
  go_enter Try.func47, Try.ntmps47
  go_wp2_with fail
  exact bodyPost_ret (v := .tuple #[EndV 56 59 rb, .int .i64 a]) (by simp [results, Try.results47, go_sem]) rfl ⟨rfl, hb.out⟩
theorem nearer_back (rb : Nat) {a b : Int} (h : ¬ a < b) (w : World) : Calls Try.prog 47 #[rptr rb, .int .i64 a, .int .i64 b] w fun e w' => e = .returned (.tuple #[EndV 60 58 rb, .int .i64 b]) ∧ Below w.heap.size w w' := by
  have hb := Lib.hid (new_below w (endO 60 58 rb))
  go_enter Try.func47, Try.ntmps47
  go_wp2_with fail
  exact bodyPost_ret (v := .tuple #[EndV 60 58 rb, .int .i64 b]) (by simp [results, Try.results47, go_sem]) rfl ⟨rfl, hb.out⟩

theorem near_lay (rb : Nat) (l : List Int) {a : Nat} (ha : a ≤ l.length) : ∃ s tk pt v n, EndOk rb s tk pt ∧ sideL s v = l ∧ n ≤ v.length ∧ (∀ k, sideL s (v.take n ++ k :: v.drop n) = l.take a ++ k :: l.drop a) ∧
    ∀ w, Calls Try.prog 47 #[rptr rb, .int .i64 a, .int .i64 ((l.length : Int) - a)] w fun e w' => e = .returned (.tuple #[EndV tk pt rb, .int .i64 (n : Nat)]) ∧ Below w.heap.size w w' := by
  by_cases h : (a : Int) < (l.length : Int) - a
  · exact ⟨true, _, _, l, a, front_ok rb, rfl, ha, fun k => rfl, fun w => nearer_front rb h w⟩
  · refine ⟨false, _, _, l.reverse, l.length - a, back_ok rb, by simp [sideL], by rw [List.length_reverse]; omega, fun k => ?_, fun w => ?_⟩
    · simp only [sideL, if_false, Bool.false_eq_true]
      rw [List.take_reverse, List.drop_reverse, show l.length - (l.length - a) = a by omega]
      simp
    · rw [show ((l.length - a : Nat) : Int) = (l.length : Int) - a by omega]
      exact nearer_back rb h w
theorem near_lift (rb : Nat) (l : List Int) {a : Nat} (ha : a < l.length) : ∃ s tk pt v n, EndOk rb s tk pt ∧ sideL s v = l ∧ n < v.length ∧ sideL s (v.take n ++ v.drop (n + 1)) = l.eraseIdx a ∧
    ∀ w, Calls Try.prog 47 #[rptr rb, .int .i64 a, .int .i64 ((l.length : Int) - a - 1)] w fun e w' => e = .returned (.tuple #[EndV tk pt rb, .int .i64 (n : Nat)]) ∧ Below w.heap.size w w' := by
  by_cases h : (a : Int) < (l.length : Int) - a - 1
  · exact ⟨true, _, _, l, a, front_ok rb, rfl, ha, (List.eraseIdx_eq_take_drop_succ _ _).symm, fun w => nearer_front rb h w⟩
  · refine ⟨false, _, _, l.reverse, l.length - a - 1, back_ok rb, by simp [sideL], by rw [List.length_reverse]; omega, ?_, fun w => ?_⟩
    · simp only [sideL, if_false, Bool.false_eq_true]
      rw [List.take_reverse, List.drop_reverse, show l.length - (l.length - a - 1) = a + 1 by omega, show l.length - (l.length - a - 1 + 1) = a by omega, List.eraseIdx_eq_take_drop_succ]
      simp
    · rw [show ((l.length - a - 1 : Nat) : Int) = (l.length : Int) - a - 1 by omega]
      exact nearer_back rb h w

theorem RingIs.grow {B : Nat} {w0 w w' : World} {rb : Nat} {l : List Int} {F : List (Nat × Obj)} (h : RingIs B w0 w rb l F) (hb : Below w.heap.size w w') : RingIs B w0 w' rb l F := by
  obtain ⟨X, h1, h2⟩ := h.st
  exact h2 _ _ (h1.grow hb)

section
variable {B : Nat} {w0 w : World} {rb : Nat} {l : List Int} {F : List (Nat × Obj)}
set_option maxHeartbeats 1000000 in
theorem lay_any (h : RingIs B w0 w rb l F) {a : Nat} (ha : a ≤ l.length) (hl : l.length ≤ 100000) (k : Int) :
    Calls Try.prog 35 #[rptr rb, .int .i64 a, .int .i64 k] w fun e w' => e = .returned (.tuple #[]) ∧ RingIs B w0 w' rb (l.take a ++ k :: l.drop a) F := by
  obtain ⟨s, tk, pt, v, n, ok, hv, hn, hk, hc⟩ := near_lay rb l ha
  have cl := Lib.hid (fun w h => ring_len (B := B) (w0 := w0) (w := w) (rb := rb) (l := l) (F := F) h)
  have hlen : v.length = l.length := by rw [← hv, side_len]
  obtain ⟨goT, goP, cT, cP⟩ := id ok
  have hlv : v.length ≤ 100000 := by omega
  replace hc := Lib.hid hc
  replace hk := Lib.hid (hk k)
  have ha1 : (a : Int) ≤ l.length := by omega
  have hl1 : (l.length : Int) ≤ 100000 := by omega
  have ct := Lib.hid (fun w F (h : RingIs B w0 w rb (sideL s v) F) => takeOff_any (w := w) (F := F) ok h hn (by omega))
  have cb := Lib.hid (fun w F t (h : RingIs B w0 w rb (sideL s (k :: v.drop n)) ((t, intsObj (v.take n)) :: F)) => layBack_any (w := w) (F := F) (t := t) ok (show (v.take n).length = n by rw [List.length_take]; omega) h (by
    rw [List.length_cons, List.length_drop]
    omega))
  have cp := Lib.hid (fun w F (h : RingIs B w0 w rb (sideL s (v.drop n)) F) => cP B w0 w (v.drop n) F k h (by rw [List.length_drop]; omega))
  have hv2 := Lib.hid hv
  have c1 := cl.out w h
  replace c1 := Lib.hid c1
  replace h := Lib.hid h
  clear ok cT cP hlen hv hn hlv cl
  go_enter Try.func35, Try.ntmps35
  go_wp2_with fail
  refine c1.out.mono ?_
  rintro e w1 ⟨rfl, rfl⟩
  clear c1
  go_wp2_with fail
  refine (hc.out _).mono ?_
  rintro e w1 ⟨rfl, hb⟩
  have h1 := (h.out.grow hb).alloc (endO tk pt rb)
  rw [← hv2.out] at h1
  have e0 : (w1.alloc (endO tk pt rb)).cell? ⟨w1.heap.size, 0, none⟩ = some (.func (.func tk) #[rptr rb] #[]) := h1.cell (b := w1.heap.size) List.mem_cons_self rfl
  replace h1 := Lib.hid (ct.out _ _ h1)
  clear hb h hc ct
  go_wp2_with fail
  generalize w1.heap.size = nb at *
  refine h1.out.mono ?_
  rintro e w2 ⟨t, eb, rfl, h2⟩
  have k0 : w2.cell? ⟨nb, 0, none⟩ = some (.func (.func tk) #[rptr rb] #[]) := h2.cell (b := nb) (List.mem_cons_of_mem _ (List.mem_cons_of_mem _ List.mem_cons_self)) rfl
  have k1 : w2.cell? ⟨nb, 1, none⟩ = some (.func (.func pt) #[rptr rb] #[]) := h2.cell (b := nb) (List.mem_cons_of_mem _ (List.mem_cons_of_mem _ List.mem_cons_self)) rfl
  replace h2 := Lib.hid (cp.out _ _ h2)
  clear h1 e0
  go_wp2_with fail
  refine h2.out.mono ?_
  rintro e w3 ⟨rfl, h3⟩
  have m0 : w3.cell? ⟨nb, 0, none⟩ = some (.func (.func tk) #[rptr rb] #[]) := h3.cell (b := nb) (List.mem_cons_of_mem _ (List.mem_cons_of_mem _ List.mem_cons_self)) rfl
  have m1 : w3.cell? ⟨nb, 1, none⟩ = some (.func (.func pt) #[rptr rb] #[]) := h3.cell (b := nb) (List.mem_cons_of_mem _ (List.mem_cons_of_mem _ List.mem_cons_self)) rfl
  replace h3 := Lib.hid (cb.out _ _ _ h3)
  clear h2 k0 k1
  go_wp2_with fail
  refine h3.out.mono ?_
  rintro e w4 ⟨rfl, h4⟩
  rw [hk.out] at h4
  replace h4 := Lib.hid (h4.sub ((List.sublist_cons_self _ _).trans (List.sublist_cons_self _ _)))
  clear h3
  go_wp2_with fail
  exact bodyPost_end (results_none rfl _ _ _) rfl ⟨rfl, h4.out⟩

set_option maxHeartbeats 1000000 in
theorem lift_any (h : RingIs B w0 w rb l F) {a : Nat} (ha : a < l.length) (hl : l.length ≤ 100000) :
    Calls Try.prog 38 #[rptr rb, .int .i64 a] w fun e w' => e = .returned (.tuple #[]) ∧ RingIs B w0 w' rb (l.eraseIdx a) F := by
  obtain ⟨s, tk, pt, v, n, ok, hv, hn, hk, hc⟩ := near_lift rb l ha
  have cl := Lib.hid (fun w h => ring_len (B := B) (w0 := w0) (w := w) (rb := rb) (l := l) (F := F) h)
  have hlen : v.length = l.length := by rw [← hv, side_len]
  obtain ⟨goT, goP, cT, cP⟩ := id ok
  have hlv : v.length ≤ 100000 := by omega
  obtain ⟨x, hx⟩ : ∃ x, shiftR (v.drop n) = x := ⟨_, rfl⟩
  replace hc := Lib.hid hc
  replace hk := Lib.hid hk
  have ha1 : (a : Int) < l.length := by omega
  have hl1 : (l.length : Int) ≤ 100000 := by omega
  have ct := Lib.hid (fun w F (h : RingIs B w0 w rb (sideL s v) F) => takeOff_any (w := w) (F := F) ok h (Nat.le_of_lt hn) (by omega))
  have cb := Lib.hid (fun w F t (h : RingIs B w0 w rb (sideL s (v.drop (n + 1))) ((t, intsObj (v.take n)) :: F)) => layBack_any (w := w) (F := F) (t := t) ok (show (v.take n).length = n by rw [List.length_take]; omega) h (by
    rw [List.length_drop]
    omega))
  have cp := Lib.hid (fun w F (h : RingIs B w0 w rb (sideL s (v.drop n)) F) => (by
    have := cT B w0 w (v.drop n) F h
    rw [List.tail_drop, hx] at this
    exact this : Calls Try.prog tk #[rptr rb] w fun e w' => e = .returned x ∧ RingIs B w0 w' rb (sideL s (v.drop (n + 1))) F))
  have hv2 := Lib.hid hv
  have c1 := cl.out w h
  replace c1 := Lib.hid c1
  replace h := Lib.hid h
  clear ok cT cP hlen hv hn hlv cl hx
  go_enter Try.func38, Try.ntmps38
  go_wp2_with fail
  refine c1.out.mono ?_
  rintro e w1 ⟨rfl, rfl⟩
  clear c1
  go_wp2_with fail
  refine (hc.out _).mono ?_
  rintro e w1 ⟨rfl, hb⟩
  have h1 := (h.out.grow hb).alloc (endO tk pt rb)
  rw [← hv2.out] at h1
  have e0 : (w1.alloc (endO tk pt rb)).cell? ⟨w1.heap.size, 0, none⟩ = some (.func (.func tk) #[rptr rb] #[]) := h1.cell (b := w1.heap.size) List.mem_cons_self rfl
  replace h1 := Lib.hid (ct.out _ _ h1)
  clear hb h hc ct
  go_wp2_with fail
  generalize w1.heap.size = nb at *
  refine h1.out.mono ?_
  rintro e w2 ⟨t, eb, rfl, h2⟩
  have k0 : w2.cell? ⟨nb, 0, none⟩ = some (.func (.func tk) #[rptr rb] #[]) := h2.cell (b := nb) (List.mem_cons_of_mem _ (List.mem_cons_of_mem _ List.mem_cons_self)) rfl
  have k1 : w2.cell? ⟨nb, 1, none⟩ = some (.func (.func pt) #[rptr rb] #[]) := h2.cell (b := nb) (List.mem_cons_of_mem _ (List.mem_cons_of_mem _ List.mem_cons_self)) rfl
  replace h2 := Lib.hid (cp.out _ _ h2)
  clear h1 e0
  go_wp2_with fail
  refine h2.out.mono ?_
  rintro e w3 ⟨rfl, h3⟩
  have m0 : w3.cell? ⟨nb, 0, none⟩ = some (.func (.func tk) #[rptr rb] #[]) := h3.cell (b := nb) (List.mem_cons_of_mem _ (List.mem_cons_of_mem _ List.mem_cons_self)) rfl
  have m1 : w3.cell? ⟨nb, 1, none⟩ = some (.func (.func pt) #[rptr rb] #[]) := h3.cell (b := nb) (List.mem_cons_of_mem _ (List.mem_cons_of_mem _ List.mem_cons_self)) rfl
  replace h3 := Lib.hid (cb.out _ _ _ h3)
  clear h2 k0 k1
  go_wp2_with fail
  refine h3.out.mono ?_
  rintro e w4 ⟨rfl, h4⟩
  rw [hk.out] at h4
  replace h4 := Lib.hid (h4.sub ((List.sublist_cons_self _ _).trans (List.sublist_cons_self _ _)))
  clear h3
  go_wp2_with fail
  exact bodyPost_end (results_none rfl _ _ _) rfl ⟨rfl, h4.out⟩
end
end Go.Proofs.Ytmmagapggmcceaa
