/- Guests: seats and ranks, the turn, how many, whether one is to be alone, all of them. -/
import Derived.Test.YtpnkaamijjeckaaDoorGsC
import Derived.Laws.Cover3
import Derived.Laws.Entries
import Derived.Deep.QuietTactic
import Derived.BigQuiet
import Derived.Lib.Hide
import Derived.Lib.SliceRun
namespace Go.Proofs.YtpnkaamijjeckaaDoor
open Go.RowKit
set_option linter.unusedVariables false
set_option linter.unusedSectionVars false
set_option maxRecDepth 100000

theorem uIntG : Tryd.prog.underlying 3 = some (.int .i64) := by kernel_rfl
theorem uF64G : Tryd.prog.underlying 50 = some (.float .f64) := by kernel_rfl
theorem fl_conv (n : Nat) (h : n ≤ 4503599627370496) (w : World) : (convert 50 3 (.float .f64 (floatOfInt .f64 (n : Int)))).run Tryd.prog w = .ok (.int .i64 (n : Int)) w :=
  run_convert_float_int w _ _ _ _ _ _ (by rw [uF64G]; rfl) uIntG (fl_int _ (by omega) (by omega))
theorem run_store_complexG (P : Program) (w : World) (a : Addr) (m : Mode) (k : FloatKind) (x y : Nat) : (store a (.complex k x y) m).run P w = stored P w a (.complex k x y) m := run_store P w a _ m rfl

set_option maxHeartbeats 400000 in
theorem rank_any (p s : Nat) (hp : p < 64) (hs : s ≤ 1000000) (w : World) : Calls Tryd.prog 25 #[seatV p s] w fun e w' => e = .returned (.int .i64 ((64 * s + p : Nat) : Int)) ∧ w' = w := by
  have c1 := fl_conv p (by omega)
  have c2 := fl_conv s (by omega)
  have e : ((64 * s + p : Nat) : Int) = (s : Int) * 64 + p := by omega
  rw [e]
  have hp0 : (0 : Int) ≤ p := by omega
  have hs0 : (0 : Int) ≤ s := by omega
  have hp1 : (p : Int) < 64 := by omega
  have hs1 : (s : Int) ≤ 1000000 := by omega
  unfold seatV
  generalize floatOfInt .f64 (p : Int) = x1 at *
  generalize floatOfInt .f64 (s : Int) = x2 at *
  generalize (p : Int) = pi at *
  generalize (s : Int) = si at *
  clear e hp hs
  go_enter Tryd.func25, Tryd.ntmps25
  go_wp2_with (first | simp only [c1] | simp only [c2])
  go_ret
  exact ⟨rfl, rfl⟩
set_option maxHeartbeats 400000 in
theorem seat_any (k : Nat) (hk : k ≤ 1000000) (w : World) : Calls Tryd.prog 31 #[.int .i64 (k : Int)] w fun e w' => e = .returned (seatV (k % 64) (k / 64)) ∧ w' = w := by
  have hk0 : (0 : Int) ≤ k := by omega
  have hk1 : (k : Int) ≤ 1000000 := by omega
  go_enter Tryd.func31, Tryd.ntmps31
  go_wp2_with fail
  go_ret
  exact ⟨rfl, rfl⟩

section
variable {B : Nat} {w0 w w' : World} {gb b c T k : Nat} {M L : List Gst} {a : Option Addr} {v : Value} {S F F' X : List (Nat × Obj)} {x y : Gst}
set_option maxHeartbeats 1000000 in
theorem turn_any (h : GuAt B w0 w gb v M T S F) (hl : M.length ≤ 100000) (k : Nat) (hk : k ≤ 1000000) : Calls Tryd.prog 26 #[gup gb, .int .i64 (k : Int)] w fun e w' => e = .returned (.tuple #[]) ∧ GuAt B w0 w' gb v M (turnG M.length k) S F := by
  have fin := Lib.hid (h.turn (turnG M.length k))
  have c0 := h.c0
  have c1 := h.c1
  have f1 := h.soft 1
  obtain ⟨a, c, rfl⟩ := h.form
  have hl0 : (0 : Int) ≤ M.length := by omega
  have hst := fun (r : Nat) (hr : r ≤ 1000000) => seat_any r hr w
  replace hst := Lib.hid hst
  have hsto := run_store_complexG Tryd.prog w ⟨gb, 1, none⟩ .plain .f64
  clear h
  by_cases hc : M.length ≤ k
  · have e : turnG M.length k = 0 := if_pos hc
    rw [e] at fin
    have hc0 : (M.length : Int) ≤ k := by omega
    go_enter Tryd.func26, Tryd.ntmps26
    go_wp2_with fail
    refine (hst.out 0 (by decide)).mono ?_
    rintro e w1 ⟨rfl, rfl⟩
    go_wp2_with fail
    exact bodyPost_end (results_none rfl _ _ _) rfl ⟨rfl, by rw [e]; simpa [seatV] using fin.out⟩
  · have e : turnG M.length k = k := if_neg hc
    rw [e] at fin
    have hc0 : ¬ (M.length : Int) ≤ k := by omega
    go_enter Tryd.func26, Tryd.ntmps26
    go_wp2_with fail
    refine (hst.out k hk).mono ?_
    rintro e w1 ⟨rfl, rfl⟩
    go_wp2_with fail
    exact bodyPost_end (results_none rfl _ _ _) rfl ⟨rfl, by rw [e]; simpa [seatV] using fin.out⟩

set_option maxHeartbeats 400000 in
theorem len_any (h : RdG w gb M a c) : Calls Tryd.prog 17 #[gup gb] w fun e w' => e = .returned (.int .i64 M.length) ∧ w' = w := by
  have c0 := h.c0
  clear h
  go_enter Tryd.func17, Tryd.ntmps17
  go_wp2_with fail
  go_ret
  exact ⟨rfl, rfl⟩

set_option maxHeartbeats 1000000 in
theorem sole_any (h : RdG w gb M a c) (hl : M.length ≤ 100000) : Calls Tryd.prog 18 #[gup gb] w fun e w' => e = .returned (.bool (soleG M)) ∧ w' = w := by
  obtain ⟨c0, hr⟩ := h
  obtain ⟨R, hR⟩ : ∃ R, R = soleG M := ⟨_, rfl⟩
  rw [← hR]
  have hyes : Hid (∀ (i : Nat) x, M[i]? = some x → x.sole = true → R = true) := Lib.hid fun i x hi he => by
    rw [hR, soleG, List.any_eq_true]
    exact ⟨x, List.mem_of_getElem? hi, he⟩
  have hno : Hid ((∀ (j : Nat) y, j < M.length → M[j]? = some y → y.sole = false) → R = false) := Lib.hid fun hn => by
    rw [hR, soleG, List.any_eq_false]
    intro x hx
    obtain ⟨j, hj⟩ := List.getElem?_of_mem hx
    rw [hn j x (List.getElem?_eq_some_iff.1 hj).1 hj]
    simp
  have hl0 : (M.length : Int) ≤ 100000 := by omega
  replace hr := Lib.hid hr
  clear hR
  go_enter Tryd.func18, Tryd.ntmps18
  go_wp2_with fail
  refine wp_scope_ghost 0 (fun g aq wt => ∃ i : Nat, i + g = M.length ∧ Hid (∀ (j : Nat) y, j < i → M[j]? = some y → y.sole = false) ∧ Fr 21 [(0, gup gb), (2, .bool false), (3, .int .i64 (i : Int))] aq ∧ wt = w) rfl ?_ ?_
  · rintro g a' w' ⟨i, hi, hn, hfr, rfl⟩
    obtain ⟨q', rfl, hl'⟩ := hfr.lit
    clear hfr
    simp only [List.mem_cons, List.not_mem_nil, or_false, forall_eq_or_imp, forall_eq] at hl'
    obtain ⟨f0, f2, f3⟩ := hl'
    simp only [List.range, List.range.loop, List.map, f0, f2, f3]
    clear f0 f2 f3
    have hi0 : (0 : Int) ≤ i := by omega
    by_cases hlt : i < M.length
    · have hx : M[i]? = some M[i] := List.getElem?_eq_getElem hlt
      have hi1 : (i : Int) < M.length := by omega
      have hne : ((i : Int) == M.length) = false := by rw [beq_eq_false_iff_ne]; omega
      generalize M[i] = x at hx
      obtain ⟨g1, o1, rfl, k0, k1, k2, k3, k4, k5⟩ := hr.out i x hx
      clear k0 k1 k2 k3 k4
      by_cases hk : x.sole = true
      · have fin := Lib.hid (hyes.out i x hx hk)
        rw [hk] at k5
        clear hyes hno hn hx hr hk
        go_wp2_with fail
        simp only [Exit.jump]
        go_ret
        exact ⟨ret_bool fin.out.symm, rfl⟩
      · have hk' : x.sole = false := by simpa using hk
        have nxt : Hid (∀ (j : Nat) y, j < i + 1 → M[j]? = some y → y.sole = false) := Lib.hid fun j y hj hy => by
          rcases (by omega : j < i ∨ j = i) with h9 | rfl
          · exact hn.out j y h9 hy
          · rw [hx] at hy
            cases hy
            exact hk'
        rw [hk'] at k5
        clear hyes hno hn hx hr hk hk'
        go_wp2_with fail
        refine wp_goto ?_
        exact ⟨rfl, g - 1, by omega, i + 1, by omega, nxt, ⟨rfl, rfl, by simp⟩, rfl⟩
    · obtain rfl : i = M.length := by omega
      have fin := Lib.hid (hno.out hn.out)
      clear hyes hno hn hr
      go_wp2_with fail
      simp only [Exit.jump]
      go_ret
      exact ⟨ret_bool fin.out.symm, rfl⟩
  · intro H
    clear hyes hno hr
    go_wp2_with fail
    refine wp_label ?_
    go_step
    go_step
    exact H M.length _ _ ⟨0, by omega, Lib.hid fun j y hj => absurd hj (by omega), ⟨rfl, rfl, by simp⟩, rfl⟩

/-! ### all of them -/
theorem uGuestR : Tryd.prog.underlying 27 = some (.slice 31) := by kernel_rfl
def CloneR (B : Nat) (w0 : World) (X : List (Nat × Obj)) (M : List Gst) (e : Ending) (w' : World) : Prop := ∃ a c S', e = .returned (.slice a M.length c) ∧ GssIs (.slice a M.length c) M S' ∧ St B w0 w' (X ++ S')
set_option maxHeartbeats 1000000 in
theorem gclone_any {s : Value} (hs : GssIs s M S) (hst : St B w0 w (X ++ S)) (hn : M.length ≤ 100000) :
    Calls Tryd.prog 29 #[s] w (CloneR B w0 (X ++ S) M) := by
  have hst1 := hst.alloc (.cells #[] 31)
  have hst2 := hst1.perm (H' := (X ++ S) ++ [(w.heap.size, .cells #[] 31)]) (List.perm_append_singleton _ _).symm
  have hrd := SlIs.reads (A := (w.heap.size, .cells #[] 31) :: X) hs hst1
  have hemp : SlIs 31 6 (.slice (some ⟨w.heap.size, 0, none⟩) 0 0) 0 [] [(w.heap.size, .cells #[] 31)] := SlIs.made rfl (by unfold maxLen; omega)
  obtain ⟨a2, c2, W2, F2, hr2, hs2, hst3⟩ := apG.append hemp hst2 hrd (gssV_one M) (by unfold maxLen; omega) (by omega)
  rw [Nat.zero_add] at hr2 hs2
  rw [List.nil_append] at hs2
  have fin : CloneR B w0 (X ++ S) M (.returned (.slice a2 M.length c2)) W2 := ⟨a2, c2, F2, rfl, hs2, hst3⟩
  have fin0 : s = .slice none 0 0 → CloneR B w0 (X ++ S) M (.returned (.slice none 0 0)) w := fun e => by
    subst e
    obtain ⟨a, cap, e⟩ := GssIs.form hs
    cases M with
    | nil => exact ⟨none, 0, [], rfl, SlIs.nil, by simpa using hst⟩
    | cons y M => cases e
  obtain ⟨a, cap, rfl, hc1, hc2, ha⟩ := SlIs.form hs
  replace fin := Lib.hid fin
  replace fin0 := Lib.hid fin0
  have hq := fun w => Lib.run_eql_slice_nil (P := Tryd.prog) w 27 31 a M.length cap 0 0 uGuestR
  have hnil : a = none → (Value.slice a M.length cap) = .slice none 0 0 := fun e => by
    subst e
    obtain ⟨_, ⟨h, _⟩ | ⟨_, _, _, _, h, _⟩⟩ := hs
    · exact h
    · cases h
  replace hnil := Lib.hid hnil
  clear hs hst hst1 hst2 hrd hemp hs2 hst3 hc1 hc2 ha
  cases a with
  | none =>
    have h := hnil.out rfl
    simp only [Value.slice.injEq, true_and] at h
    obtain ⟨h1, rfl⟩ := h
    obtain rfl : M = [] := List.eq_nil_of_length_eq_zero h1
    simp only [List.length_nil] at *
    clear hnil fin hr2
    go_enter Tryd.func29, Tryd.ntmps29
    go_wp2_with fail
    go_ret
    exact fin0.out trivial
  | some ad =>
    clear hnil fin0
    go_enter Tryd.func29, Tryd.ntmps29
    go_wp2_with (refine wpList_append_go rfl (.tmp 5) (.tmp 6) 27 27 rfl _ _ rfl rfl hr2 ?_)
    go_ret
    exact fin.out
end
end Go.Proofs.YtpnkaamijjeckaaDoor
