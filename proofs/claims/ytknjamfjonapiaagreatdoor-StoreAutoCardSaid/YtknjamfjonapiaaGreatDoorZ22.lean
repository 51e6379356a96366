import Derived.Test.YtknjamfjonapiaaGreatDoorZ21
import Derived.Laws.Cover3
import Derived.Laws.Entries
import Derived.Deep.QuietTactic
import Derived.BigQuiet
import Derived.Lib.Hide
import Derived.Lib.SliceRun
import Derived.StillTailTactics
import Derived.Deep.RegionWith
import Derived.Deep.RegionLaw
import Derived.Deep.RegionHeld3
import Derived.Deep.DeepCutAuto
import Derived.Deep.CutBlock
import Derived.Test.YtknjamfjonapiaaGreatDoorZ02
import Derived.Test.YtknjamfjonapiaaGreatDoorRows
import Derived.Test.YtknjamfjonapiaaGreatDoorProg
import Derived.OpenShut
import Derived.Lib.LaidTab
import Derived.LaidMore
import Derived.MakeChecks
import Derived.Test.YtknjamfjonapiaaGreatDoorZ11
namespace Go.Proofs.YtknjamfjonapiaaGreatDoor
open Go.RowKit
set_option linter.unusedVariables false
set_option linter.unusedSectionVars false
set_option maxRecDepth 100000
theorem uIntG : Tryz.prog.underlying 3 = some (.int .i64) := by kernel_rfl
theorem uF64G : Tryz.prog.underlying 285 = some (.float .f64) := by kernel_rfl
theorem fl_conv (n : Nat) (h : n ≤ 4503599627370496) (w : World) : (convert 285 3 (.float .f64 (floatOfInt .f64 (n : Int)))).run Tryz.prog w = .ok (.int .i64 (n : Int)) w :=
 run_convert_float_int w _ _ _ _ _ _ (by rw [uF64G]; rfl) uIntG (fl_int _ (by omega) (by omega))
theorem run_store_complexG (P : Program) (w : World) (a : Addr) (m : Mode) (k : FloatKind) (x y : Nat) : (store a (.complex k x y) m).run P w = stored P w a (.complex k x y) m := run_store P w a _ m rfl
set_option maxHeartbeats 400000 in
theorem rank_any (p s : Nat) (hp : p < 64) (hs : s ≤ 1000000) (w : World) : Calls Tryz.prog 157 #[seatV p s] w fun e w' => e = .returned (.int .i64 ((64 * s + p : Nat) : Int)) ∧ w' = w := by
 have c1 := fl_conv p (by omega)
 have c2 := fl_conv s (by omega)
 have e : ((64 * s + p : Nat) : Int) = (s : Int) * 64 + p := by omega
 rw [e]
 have hp0 : (0 : Int) ≤ p := by omega
 have hs0 : (0 : Int) ≤ s := by omega
 have hp1 : (p : Int) < 64 := by omega
 have hs1 : (s : Int) ≤ 1000000 := by omega
 unfold seatV
 generalize floatOfInt .f64 (p : Int) = x1 at *
 generalize floatOfInt .f64 (s : Int) = x2 at *
 generalize (p : Int) = pi at *
 generalize (s : Int) = si at *
 clear e hp hs
 go_enter Tryz.func157, Tryz.ntmps157
 go_wp2_with (first | simp only [c1] | simp only [c2])
 go_ret
 exact ⟨rfl, rfl⟩
set_option maxHeartbeats 400000 in
theorem seat_any (k : Nat) (hk : k ≤ 1000000) (w : World) : Calls Tryz.prog 215 #[.int .i64 (k : Int)] w fun e w' => e = .returned (seatV (k % 64) (k / 64)) ∧ w' = w := by
 have hk0 : (0 : Int) ≤ k := by omega
 have hk1 : (k : Int) ≤ 1000000 := by omega
 go_enter Tryz.func215, Tryz.ntmps215
 go_wp2_with fail
 go_ret
 exact ⟨rfl, rfl⟩
section
variable {B : Nat} {w0 w w' : World} {gb b c T k : Nat} {M L : List Gst} {a : Option Addr} {v : Value} {S F F' X : List (Nat × Obj)} {x y : Gst}
set_option maxHeartbeats 1000000 in
theorem turn_any (h : GuAt B w0 w gb v M T S F) (hl : M.length ≤ 100000) (k : Nat) (hk : k ≤ 1000000) : Calls Tryz.prog 158 #[gup gb, .int .i64 (k : Int)] w fun e w' => e = .returned (.tuple #[]) ∧ GuAt B w0 w' gb v M (turnG M.length k) S F := by
 have fin := Lib.hid (h.turn (turnG M.length k))
 have c0 := h.c0
 have c1 := h.c1
 have f1 := h.soft 1
 obtain ⟨a, c, rfl⟩ := h.form
 have hl0 : (0 : Int) ≤ M.length := by omega
 have hst := fun (r : Nat) (hr : r ≤ 1000000) => seat_any r hr w
 replace hst := Lib.hid hst
 have hsto := run_store_complexG Tryz.prog w ⟨gb, 1, none⟩ .plain .f64
 clear h
 by_cases hc : M.length ≤ k
 ·have e : turnG M.length k = 0 := if_pos hc
  rw [e] at fin
  have hc0 : (M.length : Int) ≤ k := by omega
  go_enter Tryz.func158, Tryz.ntmps158
  go_wp2_with fail
  refine (hst.out 0 (by decide)).mono ?_
  rintro e w1 ⟨rfl, rfl⟩
  go_wp2_with fail
  exact bodyPost_end (results_none rfl _ _ _) rfl ⟨rfl, by rw [e]; simpa [seatV] using fin.out⟩
 ·have e : turnG M.length k = k := if_neg hc
  rw [e] at fin
  have hc0 : ¬ (M.length : Int) ≤ k := by omega
  go_enter Tryz.func158, Tryz.ntmps158
  go_wp2_with fail
  refine (hst.out k hk).mono ?_
  rintro e w1 ⟨rfl, rfl⟩
  go_wp2_with fail
  exact bodyPost_end (results_none rfl _ _ _) rfl ⟨rfl, by rw [e]; simpa [seatV] using fin.out⟩
set_option maxHeartbeats 400000 in
theorem len_any (h : RdG w gb M a c) : Calls Tryz.prog 72 #[gup gb] w fun e w' => e = .returned (.int .i64 M.length) ∧ w' = w := by
 have c0 := h.c0
 clear h
 go_enter Tryz.func72, Tryz.ntmps72
 go_wp2_with fail
 go_ret
 exact ⟨rfl, rfl⟩
set_option maxHeartbeats 1000000 in
theorem sole_any (h : RdG w gb M a c) (hl : M.length ≤ 100000) : Calls Tryz.prog 86 #[gup gb] w fun e w' => e = .returned (.bool (soleG M)) ∧ w' = w := by
 obtain ⟨c0, hr⟩ := h
 obtain ⟨R, hR⟩ : ∃ R, R = soleG M := ⟨_, rfl⟩
 rw [← hR]
 have hyes : Hid (∀ (i : Nat) x, M[i]? = some x → x.sole = true → R = true) := Lib.hid fun i x hi he => by
  rw [hR, soleG, List.any_eq_true]
  exact ⟨x, List.mem_of_getElem? hi, he⟩
 have hno : Hid ((∀ (j : Nat) y, j < M.length → M[j]? = some y → y.sole = false) → R = false) := Lib.hid fun hn => by
  rw [hR, soleG, List.any_eq_false]
  intro x hx
  obtain ⟨j, hj⟩ := List.getElem?_of_mem hx
  rw [hn j x (List.getElem?_eq_some_iff.1 hj).1 hj]
  simp
 have hl0 : (M.length : Int) ≤ 100000 := by omega
 replace hr := Lib.hid hr
 clear hR
 go_enter Tryz.func86, Tryz.ntmps86
 go_wp2_with fail
 refine wp_scope_ghost 0 (fun g aq wt => ∃ i : Nat, i + g = M.length ∧ Hid (∀ (j : Nat) y, j < i → M[j]? = some y → y.sole = false) ∧ Fr 21 [(0, gup gb), (2, .bool false), (3, .int .i64 (i : Int))] aq ∧ wt = w) rfl ?_ ?_
 ·rintro g a' w' ⟨i, hi, hn, hfr, rfl⟩
  obtain ⟨q', rfl, hl'⟩ := hfr.lit
  clear hfr
  simp only [List.mem_cons, List.not_mem_nil, or_false, forall_eq_or_imp, forall_eq] at hl'
  obtain ⟨f0, f2, f3⟩ := hl'
  simp only [List.range, List.range.loop, List.map, f0, f2, f3]
  clear f0 f2 f3
  have hi0 : (0 : Int) ≤ i := by omega
  by_cases hlt : i < M.length
  ·have hx : M[i]? = some M[i] := List.getElem?_eq_getElem hlt
   have hi1 : (i : Int) < M.length := by omega
   have hne : ((i : Int) == M.length) = false := by rw [beq_eq_false_iff_ne]; omega
   generalize M[i] = x at hx
   obtain ⟨g1, o1, rfl, k0, k1, k2, k3, k4, k5⟩ := hr.out i x hx
   clear k0 k1 k2 k3 k4
   by_cases hk : x.sole = true
   ·have fin := Lib.hid (hyes.out i x hx hk)
    rw [hk] at k5
    clear hyes hno hn hx hr hk
    go_wp2_with fail
    simp only [Exit.jump]
    go_ret
    exact ⟨ret_bool fin.out.symm, rfl⟩
   ·have hk' : x.sole = false := by simpa using hk
    have nxt : Hid (∀ (j : Nat) y, j < i + 1 → M[j]? = some y → y.sole = false) := Lib.hid fun j y hj hy => by
     rcases (by omega : j < i ∨ j = i) with h9 | rfl
     ·exact hn.out j y h9 hy
     ·rw [hx] at hy
      cases hy
      exact hk'
    rw [hk'] at k5
    clear hyes hno hn hx hr hk hk'
    go_wp2_with fail
    refine wp_goto ?_
    exact ⟨rfl, g - 1, by omega, i + 1, by omega, nxt, ⟨rfl, rfl, by simp⟩, rfl⟩
  ·obtain rfl : i = M.length := by omega
   have fin := Lib.hid (hno.out hn.out)
   clear hyes hno hn hr
   go_wp2_with fail
   simp only [Exit.jump]
   go_ret
   exact ⟨ret_bool fin.out.symm, rfl⟩
 ·intro H
  clear hyes hno hr
  go_wp2_with fail
  refine wp_label ?_
  go_step
  go_step
  exact H M.length _ _ ⟨0, by omega, Lib.hid fun j y hj => absurd hj (by omega), ⟨rfl, rfl, by simp⟩, rfl⟩
theorem uGuestR : Tryz.prog.underlying 86 = some (.slice 77) := by kernel_rfl
def CloneR (B : Nat) (w0 : World) (X : List (Nat × Obj)) (M : List Gst) (e : Ending) (w' : World) : Prop := ∃ a c S', e = .returned (.slice a M.length c) ∧ GssIs (.slice a M.length c) M S' ∧ St B w0 w' (X ++ S')
set_option maxHeartbeats 1000000 in
theorem gclone_any {s : Value} (hs : GssIs s M S) (hst : St B w0 w (X ++ S)) (hn : M.length ≤ 100000) :
  Calls Tryz.prog 161 #[s] w (CloneR B w0 (X ++ S) M) := by
 have hst1 := hst.alloc (.cells #[] 77)
 have hst2 := hst1.perm (H' := (X ++ S) ++ [(w.heap.size, .cells #[] 77)]) (List.perm_append_singleton _ _).symm
 have hrd := SlIs.reads (A := (w.heap.size, .cells #[] 77) :: X) hs hst1
 have hemp : SlIs 77 6 (.slice (some ⟨w.heap.size, 0, none⟩) 0 0) 0 [] [(w.heap.size, .cells #[] 77)] := SlIs.made rfl (by unfold maxLen; omega)
 obtain ⟨a2, c2, W2, F2, hr2, hs2, hst3⟩ := apG.append hemp hst2 hrd (gssV_one M) (by unfold maxLen; omega) (by omega)
 rw [Nat.zero_add] at hr2 hs2
 rw [List.nil_append] at hs2
 have fin : CloneR B w0 (X ++ S) M (.returned (.slice a2 M.length c2)) W2 := ⟨a2, c2, F2, rfl, hs2, hst3⟩
 have fin0 : s = .slice none 0 0 → CloneR B w0 (X ++ S) M (.returned (.slice none 0 0)) w := fun e => by
  subst e
  obtain ⟨a, cap, e⟩ := GssIs.form hs
  cases M with
  | nil => exact ⟨none, 0, [], rfl, SlIs.nil, by simpa using hst⟩
  | cons y M => cases e
 obtain ⟨a, cap, rfl, hc1, hc2, ha⟩ := SlIs.form hs
 replace fin := Lib.hid fin
 replace fin0 := Lib.hid fin0
 have hq := fun w => Lib.run_eql_slice_nil (P := Tryz.prog) w 86 77 a M.length cap 0 0 uGuestR
 have hnil : a = none → (Value.slice a M.length cap) = .slice none 0 0 := fun e => by
  subst e
  obtain ⟨_, ⟨h, _⟩ | ⟨_, _, _, _, h, _⟩⟩ := hs
  ·exact h
  ·cases h
 replace hnil := Lib.hid hnil
 clear hs hst hst1 hst2 hrd hemp hs2 hst3 hc1 hc2 ha
 cases a with
 | none =>
  have h := hnil.out rfl
  simp only [Value.slice.injEq, true_and] at h
  obtain ⟨h1, rfl⟩ := h
  obtain rfl : M = [] := List.eq_nil_of_length_eq_zero h1
  simp only [List.length_nil] at *
  clear hnil fin hr2
  go_enter Tryz.func161, Tryz.ntmps161
  go_wp2_with fail
  go_ret
  exact fin0.out trivial
 | some ad =>
  clear hnil fin0
  go_enter Tryz.func161, Tryz.ntmps161
  go_wp2_with (refine wpList_append_go rfl (.tmp 5) (.tmp 6) 86 86 rfl _ _ rfl rfl hr2 ?_)
  go_ret
  exact fin.out
end
theorem infG : ∃ i z, Tryz.prog.info? 77 = some i ∧ i.zero = some z ∧ i.size = 6 ∧ i.bytes = 48 ∧ z.cells.size = 6 := apG.info
theorem zeroG (w : World) : (zeroValue 77).run Tryz.prog w = .ok (gsV z0G) w := by kernel_rfl
section
variable {B : Nat} {w0 w w' : World} {gb b c T k g off n cap i j : Nat} {M L : List Gst} {a : Option Addr} {v : Value} {S R F F' X : List (Nat × Obj)} {x y : Gst}
theorem gcut3 (h1 : i ≤ j) (h2 : j ≤ n) (h3 : n ≤ cap) (h4 : i < n) : ∀ w, (Instr.slice 86 (.slice (some ⟨g, off, none⟩) n cap) (some (.int .i64 i)) (some (.int .i64 j)) (some (.int .i64 n))).run Tryz.prog w = .ok (.slice (some ⟨g, off + i * 6, none⟩) (j - i) (n - i)) w := by
 obtain ⟨i0, z, hi, hz0, hz1, hz2, -⟩ := infG
 intro w
 have e3 : ¬ n = i := by omega
 simp [Instr.slice, run_underlying uGuestR, Instr.sliceBounds, Instr.sliceBound, asIntOf, h1, h2, h3, e3, sizeOf, typeInfo, hi, hz1, Go.WideShapes.add_plain]
theorem gcut_to (h1 : i ≤ cap) : ∀ w, (Instr.slice 86 (.slice (some ⟨g, off, none⟩) n cap) none (some (.int .i64 i)) none).run Tryz.prog w = .ok (.slice (some ⟨g, off, none⟩) i cap) w := by
 obtain ⟨i0, z, hi, hz0, hz1, hz2, -⟩ := infG
 intro w
 simp [Instr.slice, run_underlying uGuestR, Instr.sliceBounds, Instr.sliceBound, asIntOf, h1, sizeOf, typeInfo, hi, Go.WideShapes.add_plain]
theorem gcut_from (h1 : j ≤ n) (h2 : n ≤ cap) : ∃ o, (j < n → o = off + j * 6) ∧ ∀ w, (Instr.slice 86 (.slice (some ⟨g, off, none⟩) n cap) (some (.int .i64 j)) none none).run Tryz.prog w = .ok (.slice (some ⟨g, o, none⟩) (n - j) (cap - j)) w := by
 obtain ⟨i0, z, hi, hz0, hz1, hz2, -⟩ := infG
 by_cases h : cap = j
 ·exact ⟨off, fun _ => by omega, fun w => by simp [Instr.slice, run_underlying uGuestR, Instr.sliceBounds, Instr.sliceBound, asIntOf, h1, h, sizeOf, typeInfo, hi]⟩
 ·exact ⟨off + j * 6, fun _ => rfl, fun w => by simp [Instr.slice, run_underlying uGuestR, Instr.sliceBounds, Instr.sliceBound, asIntOf, h1, h, sizeOf, typeInfo, hi, hz1, Go.WideShapes.add_plain]⟩
theorem gcut_one (h1 : i < cap) (h2 : j = i + 1) : ∀ w, (Instr.slice 86 (.slice (some ⟨g, off, none⟩) i cap) (some (.int .i64 i)) (some (.int .i64 j)) none).run Tryz.prog w = .ok (.slice (some ⟨g, off + i * 6, none⟩) 1 (cap - i)) w := by
 obtain ⟨i0, z, hi, hz0, hz1, hz2, -⟩ := infG
 intro w
 have e1 : j ≤ cap := by omega
 have e2 : i ≤ j := by omega
 have e3 : ¬ cap = i := by omega
 have e4 : j - i = 1 := by omega
 simp [Instr.slice, run_underlying uGuestR, Instr.sliceBounds, Instr.sliceBound, asIntOf, e1, e2, e3, e4, sizeOf, typeInfo, hi, hz1, Go.WideShapes.add_plain]
theorem zeroG_one : ∀ u ∈ (gsV z0G).cells.toList, u.oneCell' = true := gcells_one z0G
theorem erase_sp {L xs : List Value} {a b N m : Nat} (hab : a ≤ b) (hb : b ≤ N) (hm : m + b = a + N) (hl : off + N ≤ L.length) (hx : (L.drop off).take N = xs) {c : List Value} (hc : m + c.length = N) :
  (((splice (splice L (off + a) (xs.drop b)) (off + m) c).drop off).take m) = xs.take a ++ xs.drop b := by
 have hxl : xs.length = N := by rw [← hx, List.length_take, List.length_drop]; omega
 have hdl : (xs.drop b).length = N - b := by rw [List.length_drop, hxl]
 have hl1 : (splice L (off + a) (xs.drop b)).length = L.length := length_splice _ _ _ (by omega)
 rw [drop_splice_ahead (by omega) (by omega), Nat.add_sub_cancel_left, take_splice (by omega) (by simp only [List.length_drop]; omega), drop_splice_ahead (by omega) (by omega), Nat.add_sub_cancel_left,
  show m = a + (xs.drop b).length by omega, splice1 (by simp only [List.length_drop] at hxl ⊢; omega), ← hx, List.take_take, Nat.min_eq_left (by omega)]
def CutGR (B : Nat) (w0 : World) (X : List (Nat × Obj)) (L : List Gst) (e : Ending) (w' : World) : Prop := ∃ a c S', e = .returned (.slice a L.length c) ∧ GssIs (.slice a L.length c) L S' ∧ St B w0 w' (X ++ S')
set_option maxHeartbeats 2000000 in
theorem gdelete_any (hs : GssIs v M R) (hst : St B w0 w (X ++ R)) (hi : i < M.length) (hn : M.length ≤ 100000) :
  Calls Tryz.prog 156 #[v, .int .i64 i, .int .i64 ((i : Int) + 1)] w (CutGR B w0 X (M.eraseIdx i)) := by
 obtain ⟨a, cap, rfl, -, -, ha⟩ := SlIs.form hs
 obtain ⟨g, off, rfl⟩ := ha i hi
 obtain ⟨i0, z0, hi0, hz0, hz1, hz2, hz3⟩ := infG
 have hs1 := hs
 obtain ⟨L, rfl, hnc, hcm, hLl, hLx⟩ := SlIs.block hs
 have hxl := gssV_len M
 obtain ⟨n, hnM⟩ : ∃ n, n = M.length := ⟨_, rfl⟩
 obtain ⟨j, hj⟩ : ∃ j, j = i + 1 := ⟨_, rfl⟩
 have hji : ((i : Int) + 1) = (j : Int) := by omega
 have r1 := gcut3 (g := g) (off := off) (n := n) (cap := cap) (i := i) (j := j) (by omega) (by omega) (by omega) (by omega)
 have r2 := gcut_to (g := g) (off := off) (n := n) (cap := cap) (i := i) (by omega)
 obtain ⟨o2, ho2, r3⟩ := gcut_from (g := g) (off := off) (n := n) (cap := cap) (j := j) (by omega) (by omega)
 have hdl : ((gssV M).drop (j * 6)).length = (n - j) * 6 := by rw [List.length_drop, hxl]; omega
 have hcap : n * 6 ≤ cap * 6 := Nat.mul_le_mul_right _ (by omega)
 have hrd : Reads w.drew (.slice (some ⟨g, o2, none⟩) (n - j) (cap - j)) (n - j) 6 ((gssV M).drop (j * 6)) := by
  refine ⟨hdl, .inr ⟨_, _, rfl, fun k u hk => ?_⟩⟩
  have hk' := (List.getElem?_eq_some_iff.1 hk).1
  rw [Go.WideShapes.add_plain, ho2 (by omega), Nat.add_assoc]
  rw [List.getElem?_drop] at hk
  exact SlIs.cellAt hs1 hst.drew hk
 obtain ⟨W1, hr1, hst1⟩ := run_append_room_st (P := Tryz.prog) (w := w.drew) (off := off) (sLen := i) (sCap := cap) 86 0 77 i0 uGuestR hi0 hz1 hst.drew hrd (fun u hu => gssV_one M u (List.mem_of_mem_drop hu)) (by omega) (by rw [hdl]; omega)
 obtain ⟨m, hm⟩ : ∃ m, m = n - 1 := ⟨_, rfl⟩
 rw [show i + (n - j) = m by omega] at hr1
 have r4 := gcut_one (g := g) (off := off) (cap := cap) (i := m) (j := n) (by omega) (by omega)
 obtain ⟨W2, c, hr2, hcl, hst2⟩ := run_clear_st (P := Tryz.prog) (k := 1) (cap := cap - m) (dp := some ⟨g, off + m * 6, none⟩) (off := off + m * 6) 86 0 77 uGuestR zeroG (size := 6) rfl zeroG_one hst1 (fun _ => rfl) (by rw [length_splice _ _ _ (by omega)]; omega)
 have eM : (gssV M).take (i * 6) ++ (gssV M).drop (j * 6) = gssV (M.eraseIdx i) := by rw [gssV_take, gssV_drop, ← gssV_app, List.eraseIdx_eq_take_drop_succ, hj]
 have el : (M.eraseIdx i).length = m := by rw [List.length_eraseIdx, if_pos hi]; omega
 have fin : Hid (CutGR B w0 X (M.eraseIdx i) (.returned (.slice (some ⟨g, off, none⟩) m cap)) W2) := Lib.hid (by
  unfold CutGR
  rw [el]
  refine ⟨_, _, _, rfl, ?_, hst2⟩
  show SlIs _ _ _ (M.eraseIdx i).length _ _
  rw [el]
  refine SlIs.of (by omega) hcm ?_ ?_
  ·rw [length_splice _ _ _ (by rw [length_splice _ _ _ (by omega)]; omega), length_splice _ _ _ (by omega)]; omega
  ·rw [← eM]
   exact erase_sp (a := i * 6) (b := j * 6) (N := M.length * 6) (m := m * 6) (by omega) (by omega) (by omega) (by omega) hLx (by omega))
 rw [← hnM] at hi hn ⊢
 rw [hji]
 have hz3 : ((i : Int) == (j : Int)) = false := by rw [beq_eq_false_iff_ne]; omega
 clear hs hs1 hst hrd hst1 hst2 hz0 hz1 hz2 hi0 hLx hLl hcm hnc hi hn ho2 hcl hj hm hxl hdl hji ha hcap eM el hnM
 go_enter Tryz.func156, Tryz.ntmps156
 go_wp2_with fail
 go_still_tail 6, (by kernel_rfl)
 change wpList _ _ _ _ _ w.drew
 generalize w.drew = w4 at *
 go_wp2_with (first | refine wpList_append_go rfl (.tmp 22) (.tmp 25) 86 86 rfl _ _ rfl rfl hr1 ?_ | refine wpList_clear_go rfl (.tmp 31) 86 rfl _ rfl hr2 ?_)
 go_ret
 exact fin.out
set_option maxHeartbeats 1000000 in
theorem ggive_any (h : GuAt B w0 w gb v M T S F) (hl : M.length ≤ 100000) : Calls Tryz.prog 159 #[gup gb] w fun e w' => e = .returned (.tuple #[]) ∧ ∃ v' S', GuAt B w0 w' gb v' M T S' F := by
 have c0 := h.c0
 have stay := Lib.hid (fun n => (show GuAt B w0 (w.drewN n) gb v M T S F from ⟨h.sl, h.st.drewN n⟩))
 have hp : ∀ S : List (Nat × Obj), (gb, gusO v (seatV (T % 64) (T / 64))) :: (F ++ S) = ((gb, gusO v (seatV (T % 64) (T / 64))) :: F) ++ S := fun S => rfl
 have go := Lib.hid (fun n => gclone_any h.sl (hp S ▸ h.st.drewN n) hl)
 obtain ⟨a, cap, rfl, hc1, hc2, -⟩ := SlIs.form h.sl
 have hcm : (cap : Int) ≤ 9223372036854775807 := by unfold maxLen at hc2; omega
 have hcp : (0 : Int) ≤ cap := by omega
 have hl0 : (0 : Int) ≤ M.length := by omega
 clear h hc1 hc2 hl hp
 by_cases h8 : (8 : Int) < cap
 ·by_cases hq : (M.length : Int) ≤ (cap : Int) / 4
  ·go_enter Tryz.func159, Tryz.ntmps159
   go_wp2_with fail
   go_quiet (fail)
   go_wp2_with fail
   refine (go.out _).mono ?_
   rintro e w1 ⟨a', cap', S', rfl, h1, h2⟩
   have k0 : w1.frozen? ⟨gb, 0, none⟩ = false := St.soft h2 (b := gb) List.mem_cons_self 0
   have k1 : w1.cell? ⟨gb, 0, none⟩ = some (.slice a M.length cap) := h2.cell (b := gb) (i := 0) List.mem_cons_self rfl
   have h3 : GuAt B w0 (w1.setCell ⟨gb, 0, none⟩ (.slice a' M.length cap')) gb (.slice a' M.length cap') M T S' F := by
    refine ⟨h1, ?_⟩
    have h4 := (h2.sub (H' := (gb, gusO (.slice a M.length cap) (seatV (T % 64) (T / 64))) :: (F ++ S')) (((List.sublist_append_left F S).append (List.Sublist.refl S')).cons_cons _)).set0 0 (.slice a' M.length cap')
    exact h4
   replace h3 := Lib.hid h3
   clear h1 h2 go stay c0
   go_wp2_with fail
   exact bodyPost_end (results_none rfl _ _ _) rfl ⟨rfl, _, _, h3.out⟩
  ·have hq' : decide ((M.length : Int) ≤ (cap : Int) / 4) = false := by simpa using hq
   clear hq go
   go_enter Tryz.func159, Tryz.ntmps159
   go_wp2_with fail
   go_quiet (fail)
   go_wp2_with fail
   exact bodyPost_end (results_none rfl _ _ _) rfl ⟨rfl, _, _, stay.out _⟩
 ·have h8' : decide ((8 : Int) < cap) = false := by simpa using h8
  clear h8 go
  go_enter Tryz.func159, Tryz.ntmps159
  go_wp2_with fail
  go_quiet (fail)
  go_wp2_with fail
  exact bodyPost_end (results_none rfl _ _ _) rfl ⟨rfl, _, _, stay.out _⟩
end
theorem fl_zero : floatOfInt .f64 0 = 0 := by decide +kernel
section
variable {qT : Bool} {B : Nat} {w0 w w' : World} {gb b c T k g off n cap i j : Nat} {M L : List Gst} {a : Option Addr} {v : Value} {S R F F' X : List (Nat × Obj)} {x y : Gst}
theorem GuIsX.rdg (h : GuIsX qT B w0 w gb M T F) : ∃ a c, RdG w gb M a c := by
 obtain ⟨-, -, -, v, S, h⟩ := h
 obtain ⟨a, c, rfl⟩ := h.form
 exact ⟨a, c, h.rdg⟩
theorem GuIsX.few (h : GuIsX qT B w0 w gb M T F) : M.length ≤ 60000 := h.2.2.1
set_option maxHeartbeats 400000 in
theorem gu_new (hT : qT = true → Tab B w0) (hst : St B w0 w F) : Calls Tryz.prog 200 #[] w fun e w' => ∃ gb, e = .returned (gup gb) ∧ GuIsX qT B w0 w' gb [] 0 F := by
 have h1 := hst.alloc (.cells #[.slice none 0 0, .complex .f64 0 0] 199)
 have h2 : GuIsX qT B w0 (w.alloc (.cells #[.slice none 0 0, .complex .f64 0 0] 199)) w.heap.size [] 0 F :=
  ⟨hT, .inr rfl, by simp, .slice none 0 0, [], SlIs.nil, by
   have e : seatV (0 % 64) (0 / 64) = .complex .f64 0 0 := by
    show Value.complex .f64 (floatOfInt .f64 0) (floatOfInt .f64 0) = _
    rw [fl_zero]
   rw [e, List.append_nil]
   exact h1⟩
 replace h2 := Lib.hid h2
 clear hst h1
 go_enter Tryz.func200, Tryz.ntmps200
 go_wp2_with fail
 go_ret
 exact ⟨_, rfl, h2.out⟩
theorem gu_len (h : GuIsX qT B w0 w gb M T F) : Calls Tryz.prog 72 #[gup gb] w fun e w' => e = .returned (.int .i64 M.length) ∧ GuIsX qT B w0 w' gb M T F := by
 obtain ⟨a, c, hr⟩ := h.rdg
 exact (len_any hr).mono fun e w' ⟨h1, h2⟩ => ⟨h1, h2 ▸ h⟩
theorem gu_sole (h : GuIsX qT B w0 w gb M T F) {s : Bool} (hs : soleG M = s) : Calls Tryz.prog 86 #[gup gb] w fun e w' => e = .returned (.bool s) ∧ GuIsX qT B w0 w' gb M T F := by
 obtain ⟨a, c, hr⟩ := h.rdg
 exact (sole_any hr (by have := h.few; omega)).mono fun e w' ⟨h1, h2⟩ => ⟨hs ▸ h1, h2 ▸ h⟩
set_option maxHeartbeats 400000 in
theorem gu_all (h : GuIsX qT B w0 w gb M T F) : Calls Tryz.prog 97 #[gup gb] w fun e w' => ∃ a c S', e = .returned (.slice a M.length c) ∧ GssIs (.slice a M.length c) M S' ∧ GuIsX qT B w0 w' gb M T (S' ++ F) := by
 obtain ⟨hT, hok, hl, v, S, h⟩ := h
 have hp : ∀ S : List (Nat × Obj), (gb, gusO v (seatV (T % 64) (T / 64))) :: (F ++ S) = ((gb, gusO v (seatV (T % 64) (T / 64))) :: F) ++ S := fun S => rfl
 have cc := Lib.hid (gclone_any h.sl (hp S ▸ h.st) (by omega))
 have fin : Hid (∀ a c S' W, GssIs (.slice a M.length c) M S' → St B w0 W ((((gb, gusO v (seatV (T % 64) (T / 64))) :: F) ++ S) ++ S') → GuIsX qT B w0 W gb M T (S' ++ F)) := Lib.hid fun a c S' W h1 h2 => ⟨hT, hok, hl, v, S, h.sl, h2.perm (by
  classical
  exact List.perm_iff_count.2 fun a => by simp only [List.count_append, List.count_cons]; omega)⟩
 have c0 := h.c0
 obtain ⟨a, c, rfl⟩ := h.form
 clear h hp hok hl hT
 go_enter Tryz.func97, Tryz.ntmps97
 go_wp2_with fail
 refine cc.out.mono ?_
 rintro e w1 ⟨a2, c2, S2, rfl, h1, h2⟩
 have h3 := Lib.hid (fin.out _ _ _ _ h1 h2)
 replace h1 := Lib.hid h1
 clear h2 fin cc c0
 go_wp2_with fail
 go_ret
 exact ⟨_, _, _, rfl, h1.out, h3.out⟩
theorem GuIsX.setTag (h : GuIsX qT B w0 w gb M T ((b, gsO x) :: F)) : GuIsX qT B w0 (w.setCell ⟨b, 2, none⟩ (tx x.tag)) gb M T ((b, gsO x) :: F) := by
 obtain ⟨S, h1, h2⟩ := h.beside
 have h3 := (h1.perm List.perm_middle).set0 2 (tx x.tag)
 exact h2 _ _ (h3.perm List.perm_middle.symm)
theorem GuIsX.push (h : GuIsX qT B w0 w gb M T F) (hl : M.length < 60000) (x : Gst) : ∃ a c a' c' W,
  (w.cell? ⟨gb, 0, none⟩ = some (.slice a M.length c) ∧ (w.alloc (gsO x)).cell? ⟨gb, 0, none⟩ = some (.slice a M.length c) ∧ W.cell? ⟨gb, 0, none⟩ = some (.slice a M.length c) ∧ W.frozen? ⟨gb, 0, none⟩ = false) ∧
  AppRun Tryz.prog 86 (.slice a M.length c) (.slice (some ⟨w.heap.size, 0, none⟩) 1 1) (w.alloc (gsO x)) (.slice a' (M ++ [x]).length c') W ∧
  GuIsX qT B w0 (W.setCell ⟨gb, 0, none⟩ (.slice a' (M ++ [x]).length c')) gb (M ++ [x]) T F := by
 obtain ⟨hT, hok, hlen, v, S, h⟩ := h
 obtain ⟨a, c, rfl⟩ := h.form
 have hp : ∀ S : List (Nat × Obj), (gb, gusO (.slice a M.length c) (seatV (T % 64) (T / 64))) :: (F ++ S) = ((gb, gusO (.slice a M.length c) (seatV (T % 64) (T / 64))) :: F) ++ S := fun S => rfl
 obtain ⟨a', c', W, S', q1, q2, q3⟩ := gss_push h.sl (hp S ▸ h.st) x (by omega)
 refine ⟨a, c, a', c', W, ⟨h.c0, (h.st.alloc (gsO x)).cell (b := gb) (List.mem_cons_of_mem _ List.mem_cons_self) rfl, q3.cell (b := gb) (i := 0) List.mem_cons_self rfl, St.soft (b := gb) q3 List.mem_cons_self 0⟩, ⟨q1⟩, hT, ?_, by simp; omega, _, S', q2, St.set0 q3 0 _⟩
 rcases hok with h | h
 ·exact .inl (by simp; omega)
 ·exact .inr h
set_option maxHeartbeats 4000000 in
theorem gu_add (h : GuIsX qT B w0 w gb M T F) (hf : x.tag.length ≤ 140737488351232) (hl : M.length < 60000) {ok : Bool} (hok : addOkG M x = ok) {N : List Gst} (hN : addG M x = N) :
  Calls Tryz.prog 87 #[gup gb, gsV x] w fun e w' => e = .returned (.bool ok) ∧ GuIsX qT B w0 w' gb N T F := by
 subst hN
 have h1 := h.alloc (gsO x)
 obtain ⟨a, c, hr⟩ := h1.rdg
 have cf := Lib.hid (gsFind_any hr (by omega) x.conn x.chan x.tag rfl)
 obtain ⟨k0, k1, k2, -⟩ := (h1.guest (b := w.heap.size) (x := x) List.mem_cons_self).1
 generalize hW : w.alloc (gsO x) = W1 at *
 replace hW := Lib.hid hW
 have he : (idxG M x.conn x.chan x.tag).isNone = ok := hok
 cases hi : idxG M x.conn x.chan x.tag with
 | some i =>
  rw [hi] at cf he
  obtain rfl : ok = false := by rw [← he]; rfl
  have fin : Hid (GuIsX qT B w0 W1 gb (addG M x) T F) := Lib.hid (by
   unfold addG
   rw [hok]
   exact h1.sub (List.sublist_cons_self _ _))
  clear h h1 hr hok he hi
  simp only [idxV, Option.isSome_some, Option.getD_some] at cf
  go_enter Tryz.func87, Tryz.ntmps87
  go_upto_region 1 with fail
  rw [hW.out]
  clear hW
  generalize w.heap.size = xb at *
  go_wp2_with fail
  refine cf.out.mono ?_
  rintro e w2 ⟨rfl, rfl⟩
  go_wp2_with fail
  go_ret
  exact ⟨rfl, fin.out⟩
 | none =>
  rw [hi] at cf he
  obtain rfl : ok = true := by rw [← he]; rfl
  have co := Lib.hid (clone_any x.tag W1 hf)
  have stp : Hid (∀ w2, Below W1.heap.size W1 w2 → w2.frozen? ⟨w.heap.size, 2, none⟩ = false ∧ w2.cell? ⟨w.heap.size, 2, none⟩ = some (tx x.tag) ∧ ∃ w3, w3 = w2.setCell ⟨w.heap.size, 2, none⟩ (tx x.tag) ∧ GsAt w3.drew w.heap.size x ∧ ∃ a c a' c' W,
    (w3.drew.cell? ⟨gb, 0, none⟩ = some (.slice a M.length c) ∧ (w3.drew.alloc (gsO x)).cell? ⟨gb, 0, none⟩ = some (.slice a M.length c) ∧ W.cell? ⟨gb, 0, none⟩ = some (.slice a M.length c) ∧ W.frozen? ⟨gb, 0, none⟩ = false) ∧
    AppRun Tryz.prog 86 (.slice a M.length c) (.slice (some ⟨w3.drew.heap.size, 0, none⟩) 1 1) (w3.drew.alloc (gsO x)) (.slice a' (M ++ [x]).length c') W ∧
    GuIsX qT B w0 (W.setCell ⟨gb, 0, none⟩ (.slice a' (M ++ [x]).length c')) gb (addG M x) T F) := Lib.hid fun w2 hb => by
   have h2 := h1.grow hb
   have h3 := h2.setTag.grow (drew_b _)
   obtain ⟨g0, gs⟩ := h2.guest (b := w.heap.size) (x := x) List.mem_cons_self
   obtain ⟨a, c, a', c', W, p1, p2, p3⟩ := h3.push hl x
   refine ⟨gs 2, g0.2.2.1, _, rfl, (h3.guest (b := w.heap.size) (x := x) List.mem_cons_self).1, a, c, a', c', W, p1, p2, ?_⟩
   unfold addG
   rw [hok]
   exact p3.sub (List.sublist_cons_self _ _)
  clear h h1 hr hok he hi hl
  simp only [idxV, Option.isSome_none, Option.getD_none] at cf
  go_enter Tryz.func87, Tryz.ntmps87
  go_upto_region 1 with fail
  rw [hW.out]
  clear hW
  generalize w.heap.size = xb at *
  go_wp2_with fail
  refine cf.out.mono ?_
  rintro e w2 ⟨rfl, rfl⟩
  go_wp2_with fail
  refine co.out.mono ?_
  rintro e w2 ⟨rfl, hb⟩
  obtain ⟨f2, e2, w3, hw3, ⟨j0, j1, j2, j3, j4, j5⟩, a, c, a', c', W4, ⟨d0, d1, d2, d3⟩, run1, fin⟩ := stp.out _ hb
  replace fin := Lib.hid fin
  clear stp co cf k0 k1 k2 hb
  go_upto_region 5 with fail
  rw [← hw3]
  clear hw3 f2 e2
  have d1' : ((w3.alloc (gsO x)).drew).cell? ⟨gb, 0, none⟩ = some (.slice a M.length c) := d1
  have run2 : AppRun Tryz.prog 86 (.slice a M.length c) (.slice (some ⟨w3.heap.size, 0, none⟩) 1 1) ((w3.alloc (gsO x)).drew) (.slice a' (M ++ [x]).length c') W4 := run1
  clear d1 run1
  generalize (M ++ [x]).length = n1 at *
  go_region_law (refine step_app (.tmp 27) (.tmp 29) 86 run2 rfl rfl (by simp [Act.eval]) (by simp [Act.eval]) ?_)
  all_goals
   clear run2 d0 d1' d2 d3 j0 j1 j2 j3 j4 j5
   go_wp2_with fail
   go_ret
   exact ⟨rfl, fin.out⟩
end
section
variable {qT : Bool} {B : Nat} {w0 w w' : World} {gb b c T k g off n cap i j : Nat} {M L : List Gst} {a : Option Addr} {v : Value} {S R F F' X : List (Nat × Obj)} {x y : Gst}
theorem GuAt.cut (h : GuAt B w0 w gb v M T S F) (hi : i < M.length) (hn : M.length ≤ 100000) :
  Calls Tryz.prog 156 #[v, .int .i64 i, .int .i64 ((i : Int) + 1)] w fun e w' => ∃ a c S', e = .returned (.slice a (M.eraseIdx i).length c) ∧ w'.cell? ⟨gb, 0, none⟩ = some v ∧ w'.frozen? ⟨gb, 0, none⟩ = false ∧
   GuAt B w0 (w'.setCell ⟨gb, 0, none⟩ (.slice a (M.eraseIdx i).length c)) gb (.slice a (M.eraseIdx i).length c) (M.eraseIdx i) T S' F := by
 have hp : ∀ S : List (Nat × Obj), (gb, gusO v (seatV (T % 64) (T / 64))) :: (F ++ S) = ((gb, gusO v (seatV (T % 64) (T / 64))) :: F) ++ S := fun S => rfl
 refine (gdelete_any h.sl (hp S ▸ h.st) hi hn).mono ?_
 rintro e w' ⟨a, c, S', rfl, h1, h2⟩
 exact ⟨a, c, S', rfl, h2.cell (b := gb) (i := 0) List.mem_cons_self rfl, St.soft (b := gb) h2 List.mem_cons_self 0, h1, St.set0 h2 0 _⟩
set_option maxHeartbeats 4000000 in
theorem gu_drop (h : GuIsX qT B w0 w gb M T F) (p q : Int) (t : List UInt8) {N : List Gst} {T' : Nat} {ok : Bool} (hok : (idxG M p q t).isSome = ok) (hN : dropM M p q t = N) (hT' : dropT M T p q t = T') :
  Calls Tryz.prog 94 #[gup gb, .int .i64 p, .int .i64 q, tx t] w fun e w' => e = .returned (.bool ok) ∧ GuIsX qT B w0 w' gb N T' F := by
 have few := h.few
 obtain ⟨a, c, hr⟩ := h.rdg
 have cf := Lib.hid (gsFind_any hr (by omega) p q t rfl)
 unfold dropM at hN
 unfold dropT at hT'
 cases hi : idxG M p q t with
 | none =>
  rw [hi] at cf hok hN hT'
  obtain rfl : ok = false := by rw [← hok]; rfl
  simp only at hN hT'
  subst hN hT'
  replace h := Lib.hid h
  simp only [idxV, Option.isSome_none, Option.getD_none] at cf
  clear hr hi hok
  go_enter Tryz.func94, Tryz.ntmps94
  go_wp2_with fail
  refine cf.out.mono ?_
  rintro e w2 ⟨rfl, rfl⟩
  go_wp2_with fail
  go_ret
  exact ⟨rfl, h.out⟩
 | some i =>
  rw [hi] at cf hok hN hT'
  obtain rfl : ok = true := by rw [← hok]; rfl
  simp only at hN hT'
  subst hN
  obtain ⟨hlt, -⟩ := idx_is hi
  simp only [idxV, Option.isSome_some, Option.getD_some] at cf
  obtain ⟨hTab, hokT, -, v, S, h⟩ := h
  have c0 := h.c0
  have cd := Lib.hid (h.cut hlt (by omega))
  have hTb : T ≤ 60000 := by rcases hokT with h | rfl <;> omega
  have el : (M.eraseIdx i).length = M.length - 1 := by rw [List.length_eraseIdx, if_pos hlt]
  have crk : Hid (∀ w, Calls Tryz.prog 157 #[seatV (T % 64) (T / 64)] w fun e w' => e = .returned (.int .i64 (T : Int)) ∧ w' = w) := Lib.hid fun w => by
   have := rank_any (T % 64) (T / 64) (Nat.mod_lt _ (by decide)) (by omega) w
   rw [show 64 * (T / 64) + T % 64 = T by omega] at this
   exact this
  have fin : Hid (∀ W v' S', GuAt B w0 W gb v' (M.eraseIdx i) T' S' F → GuIsX qT B w0 W gb (M.eraseIdx i) T' F) := Lib.hid fun W v' S' h' => ⟨hTab, by rw [el, ← hT']; exact turn_ok _ _, by rw [el]; omega, v', S', h'⟩
  have hel : (M.eraseIdx i).length ≤ 100000 := by rw [el]; omega
  have ht2 : Hid (turnG (M.eraseIdx i).length (if i < T then T - 1 else T) = T') := Lib.hid (by rw [el]; exact hT')
  obtain ⟨a0, c0', rfl⟩ := h.form
  have hw1 : IntKind.i64.wrap ((i : Int) + 1) = (i : Int) + 1 := IntWalk.i64_in _ (by omega)
  replace hw1 := Lib.hid hw1
  have hi1 : (i : Int) < 60000 := by omega
  have hi0 : (0 : Int) ≤ i := by omega
  have hT0 : (0 : Int) ≤ T := by omega
  have hT1 : (T : Int) ≤ 60000 := by omega
  generalize M.eraseIdx i = N at *
  replace hel := Lib.hid hel
  clear hr hi hok h hTab hokT el hT' hlt few
  go_enter Tryz.func94, Tryz.ntmps94
  go_wp2_with fail
  refine cf.out.mono ?_
  rintro e w2 ⟨rfl, rfl⟩
  go_wp2_with fail
  refine cd.out.mono ?_
  rintro e w3 ⟨a1, c1, S1, rfl, e0, f0, h3⟩
  have d1 := h3.c1
  have ct := Lib.hid (fun k hk => turn_any h3 hel.out k hk)
  obtain ⟨W3, hW3⟩ : ∃ W, W = w3.setCell ⟨gb, 0, none⟩ (.slice a1 N.length c1) := ⟨_, rfl⟩
  rw [← hW3] at d1 ct
  clear h3 cd cf
  go_upto_region 5 with fail
  rw [← hW3]
  clear hW3 e0 f0 c0
  go_wp2_with fail
  refine (crk.out W3).mono ?_
  rintro e w4 ⟨rfl, rfl⟩
  by_cases hd : i < T
  ·have hd0 : (i : Int) < T := by omega
   rw [if_pos hd] at ht2
   have ct2 := ct.out (T - 1) (by omega)
   rw [show ((T - 1 : Nat) : Int) = (T : Int) - 1 by omega, ht2.out] at ct2
   replace ct2 := Lib.hid ct2
   clear ct ht2
   go_wp2_with fail
   refine ct2.out.mono ?_
   rintro e w5 ⟨rfl, h5⟩
   have cg := Lib.hid (ggive_any h5 hel.out)
   clear h5 ct2 d1
   go_wp2_with fail
   refine cg.out.mono ?_
   rintro e w6 ⟨rfl, v6, S6, h6⟩
   replace h6 := Lib.hid h6
   clear cg
   go_wp2_with fail
   go_ret
   exact ⟨rfl, fin.out _ _ _ h6.out⟩
  ·have hd0 : ¬ (i : Int) < T := by omega
   rw [if_neg hd] at ht2
   have ct2 := ct.out T (by omega)
   rw [ht2.out] at ct2
   replace ct2 := Lib.hid ct2
   clear ct ht2
   go_wp2_with fail
   refine ct2.out.mono ?_
   rintro e w5 ⟨rfl, h5⟩
   have cg := Lib.hid (ggive_any h5 hel.out)
   clear h5 ct2 d1
   go_wp2_with fail
   refine cg.out.mono ?_
   rintro e w6 ⟨rfl, v6, S6, h6⟩
   replace h6 := Lib.hid h6
   clear cg
   go_wp2_with fail
   go_ret
   exact ⟨rfl, fin.out _ _ _ h6.out⟩
end
section
variable {B : Nat} {w0 w w' : World} {gb b c T k g off n cap i j sl sc : Nat} {M L : List Gst} {a sa : Option Addr} {v : Value} {S R F F' X : List (Nat × Obj)} {x y : Gst} {sp : Nat → Bool}
end
section
variable {B : Nat} {w0 w w' : World} {gb b c T k g off n cap i j sl sc : Nat} {M L : List Gst} {a sa : Option Addr} {v : Value} {S R F F' X : List (Nat × Obj)} {x y : Gst} {sp : Nat → Bool}
end
section
variable {B : Nat} {w0 w w' : World} {gb b c T k g off n cap i j sl sc : Nat} {M L : List Gst} {a sa : Option Addr} {v : Value} {S R F F' X : List (Nat × Obj)} {x y : Gst} {sp : Nat → Bool}
end
def mostL : List Int := [60, 10000, 3, 15, 12, 40]
def MostAt (w : World) : Prop := ∀ k, k < 6 → w.cell? ⟨0, k, none⟩ = some (.int .i64 (mostL.getD k 0))
def Most (B : Nat) (w : World) : Prop := 0 < B ∧ MostAt w
theorem gMost : Tryz.prog.globalNamed "mailcoach/entry.most" = some 0 := by kernel_rfl
theorem tMost : (Tryz.prog.globals[0]?).map (·.type) = some 265 := by kernel_rfl
theorem uInt6 : Tryz.prog.underlying 265 = some (.array 6 3) := by kernel_rfl
theorem cInt3 : Tryz.prog.cellsOf 3 = 1 := by kernel_rfl
theorem cInt6 : Tryz.prog.cellsOf 265 = 6 := by kernel_rfl
def laidT : List (String × DataW Unit) := [("mailcoach/entry.most", Rows.laid_mailcoach_entry_most)]
theorem laidT_is : (Rows.laid_mailcoach_entry_most : DataW Unit) = .agg (mostL.map fun x => .lit (.int .i64 x)) := rfl
theorem most_of_laid {W : World} (h : laidMetH Tryz.prog laidT W) : Most W.heap.size W := by
 rw [MakeChecks.laidMetH_plain _ _ _ (by kernel_rfl)] at h
 unfold laidT at h
 rw [laidT_is] at h
 obtain ⟨ps, ⟨g', t', cs, fuel, p, q, hg', ht', hvar, hd, _, _⟩, _⟩ := h
 obtain rfl := Option.some.inj (gMost.symm.trans hg')
 obtain rfl := Option.some.inj (tMost.symm.trans ht')
 obtain ⟨xs, m, _, hx, hl, hlen, hf⟩ := Go.DataW.trod_array uInt6 hd
 rw [cInt6] at hl
 have key : MostAt W := by
  intro k hk6
  have hxs : xs.map (·.1) = mostL.map fun x => (DataW.lit (.int .i64 x) : DataW Unit) := by
   have := congrArg Prod.fst hx
   simpa using this.symm
  have h1 : (xs.map (·.1))[k]? = some (DataW.lit (.int .i64 (mostL.getD k 0))) := by
   rw [hxs, List.getElem?_map, List.getD_eq_getElem?_getD, List.getElem?_eq_getElem (show k < mostL.length by simpa [mostL] using hk6)]
   rfl
  rw [List.getElem?_map, Option.map_eq_some_iff] at h1
  obtain ⟨⟨d, pl⟩, h2, h3⟩ := h1
  simp only at h3
  subst h3
  have h4 := hf k hk6
  rw [h2, cInt3] at h4
  obtain ⟨n, c0, c1, _⟩ := Go.DataW.trod_int (by kernel_rfl : Tryz.prog.underlying 3 = some (.int .i64)) h4
  simp only [Prod.mk.injEq, DataW.lit.injEq, Lit.int.injEq, true_and] at c1
  have a0 := World.var?_cell gMost hvar k
  refine a0.trans ?_
  have := congrArg (·[0]?) c0
  rw [c1.1]
  simpa [List.getElem?_take, List.getElem?_drop] using this
 exact ⟨World.block_lt_of_cell? W _ (key 0 (by decide)), key⟩
theorem Most.below {B : Nat} {w w' : World} (h : Most B w) (hb : Below B w w') : Most B w' :=
 ⟨h.1, fun k hk => (hb.cell (p := ⟨0, k, none⟩) h.1).trans (h.2 k hk)⟩
theorem Most.mono {B C : Nat} {w : World} (h : Most B w) (hle : B ≤ C) : Most C w := ⟨Nat.lt_of_lt_of_le h.1 hle, h.2⟩
theorem Most.on {w w' : World} (h : Most w.heap.size w) (hb : Below w.heap.size w w') : Most w'.heap.size w' := (h.below hb).mono hb.size
structure FineS (S : Sto) : Prop where
 few : S.L.length ≤ 8
 once : (S.L.map (·.name)).Nodup
 nums : (S.L.map (·.num)).Nodup
 top : ∀ p ∈ S.L, p.num ≤ S.num
 num0 : 0 ≤ S.num
 each : ∀ p ∈ S.L, isNm p.name = true ∧ isO p.o = true
 fine : FineX S.P S.A
def QuIn (B : Nat) (w0 : World) (qb : Nat) (o : Opt) (M : List Ent) (S : List (Nat × Obj)) : Prop := ∀ w F, St B w0 w (S ++ F) → QuIs B w0 w qb o M F
def GuIn (qT : Bool) (B : Nat) (w0 : World) (gb : Nat) (G : List Gst) (T : Nat) (S : List (Nat × Obj)) : Prop := ∀ w F, St B w0 w (S ++ F) → GuIsX qT B w0 w gb G T F
def SbIn (B : Nat) (w0 : World) (slb : Nat) (V : SV) (S : List (Nat × Obj)) : Prop := ∀ w F, St B w0 w (S ++ F) → SlabIs B w0 w slb V F
def XwIn (B : Nat) (w0 : World) (xv : Value) (P : List Plc) (A : List Bnd) (c : Nat) (S : List (Nat × Obj)) : Prop :=
 (xv = .pointer none ∧ P = [] ∧ A = [] ∧ S = []) ∨ ∃ xb, xv = bpt xb ∧ ∀ w F, St B w0 w (S ++ F) → ExIs B w0 w xb P A F c
theorem QuIs.in_ {B : Nat} {w0 w : World} {qb : Nat} {o : Opt} {M : List Ent} {F : List (Nat × Obj)} (h : QuIs B w0 w qb o M F) : ∃ S, St B w0 w (S ++ F) ∧ QuIn B w0 qb o M S := by
 obtain ⟨S, h1, -, h2⟩ := h.beside
 exact ⟨S, h1, h2⟩
theorem GuIsX.in_ {qT : Bool} {B : Nat} {w0 w : World} {gb T : Nat} {G : List Gst} {F : List (Nat × Obj)} (h : GuIsX qT B w0 w gb G T F) : ∃ S, St B w0 w (S ++ F) ∧ GuIn qT B w0 gb G T S := h.beside
theorem SlabIs.in_ {B : Nat} {w0 w : World} {slb : Nat} {V : SV} {F : List (Nat × Obj)} (h : SlabIs B w0 w slb V F) : ∃ S, St B w0 w (S ++ F) ∧ SbIn B w0 slb V S := by
 obtain ⟨g, h1, h2, h3, hu, h4⟩ := h
 exact ⟨g.heap, h4, fun w F h => ⟨g, h1, h2, h3, hu, h⟩⟩
theorem ExIs.in_ {B : Nat} {w0 w : World} {xb c : Nat} {P : List Plc} {A : List Bnd} {F : List (Nat × Obj)} (h : ExIs B w0 w xb P A F c) : ∃ S, St B w0 w (S ++ F) ∧ XwIn B w0 (bpt xb) P A c S := by
 obtain ⟨S, h1, h2⟩ := h.beside
 exact ⟨S, h1, .inr ⟨xb, rfl, h2⟩⟩
structure Pq where
 b : Nat
 qb : Nat
 gb : Nat
 d : Plq
 SQ : List (Nat × Obj)
 SG : List (Nat × Obj)
abbrev pqO (d : Plq) (qb gb : Nat) : Obj := .cells #[tx d.name, .int .i64 d.num, .int .i64 d.conn, rptr qb, gup gb] 135
def Pq.objs (p : Pq) : List (Nat × Obj) := (p.b, pqO p.d p.qb p.gb) :: (p.SQ ++ p.SG)
def pqsO (L : List Pq) : List (Nat × Obj) := L.flatMap Pq.objs
structure PqOk (qT : Bool) (B : Nat) (w0 : World) (p : Pq) : Prop where
 qu : QuIn B w0 p.qb p.d.o p.d.M p.SQ
 gu : GuIn qT B w0 p.gb p.d.G p.d.T p.SG
abbrev soO (slb : Nat) (xv v : Value) (S : Sto) : Obj := .cells #[ptr slb, xv, v, .int .i64 S.num, .int .i64 S.last, .int .i64 S.now] 92
def stoO (sb slb : Nat) (xv v : Value) (S : Sto) (L : List Pq) (R SX SS : List (Nat × Obj)) : List (Nat × Obj) := (sb, soO slb xv v S) :: (R ++ (SX ++ (SS ++ pqsO L)))
structure StoIn (qT : Bool) (B : Nat) (w0 : World) (bs : List Nat) (S : Sto) (L : List Pq) (slb : Nat) (xv v : Value) (R SX SS : List (Nat × Obj)) (c : Nat) : Prop where
 data : L.map Pq.d = S.L
 blks : L.map Pq.b = bs
 sl : SlIs 131 1 v bs.length (bs.map bpt) R
 slab : SbIn B w0 slb S.sl SS
 ways : XwIn B w0 xv S.P S.A c SX
 pls : ∀ p ∈ L, PqOk qT B w0 p
 fine : FineS S
 tab : qT = true → Tab B w0
 most : Most B w0
 c1 : 1 ≤ c
def StoIs (qT : Bool) (B : Nat) (w0 w : World) (sb : Nat) (bs : List Nat) (S : Sto) (F : List (Nat × Obj)) (c : Nat) : Prop :=
 ∃ L slb xv v R SX SS, StoIn qT B w0 bs S L slb xv v R SX SS c ∧ St B w0 w (stoO sb slb xv v S L R SX SS ++ F)
structure SeeS (w : World) (sb : Nat) (slb : Nat) (xv v : Value) (S : Sto) : Prop where
 c0 : w.cell? ⟨sb, 0, none⟩ = some (ptr slb)
 c1 : w.cell? ⟨sb, 1, none⟩ = some xv
 c2 : w.cell? ⟨sb, 2, none⟩ = some v
 c3 : w.cell? ⟨sb, 3, none⟩ = some (.int .i64 S.num)
 c4 : w.cell? ⟨sb, 4, none⟩ = some (.int .i64 S.last)
 c5 : w.cell? ⟨sb, 5, none⟩ = some (.int .i64 S.now)
 soft : ∀ i, w.frozen? ⟨sb, i, none⟩ = false
structure SeeP (w : World) (pb qb gb : Nat) (d : Plq) : Prop where
 c0 : w.cell? ⟨pb, 0, none⟩ = some (tx d.name)
 c1 : w.cell? ⟨pb, 1, none⟩ = some (.int .i64 d.num)
 c2 : w.cell? ⟨pb, 2, none⟩ = some (.int .i64 d.conn)
 c3 : w.cell? ⟨pb, 3, none⟩ = some (rptr qb)
 c4 : w.cell? ⟨pb, 4, none⟩ = some (gup gb)
theorem SeeP.below {w w' : World} {pb qb gb : Nat} {d : Plq} (h : SeeP w pb qb gb d) (hb : Below w.heap.size w w') : SeeP w' pb qb gb d := ⟨cellUp h.c0 hb, cellUp h.c1 hb, cellUp h.c2 hb, cellUp h.c3 hb, cellUp h.c4 hb⟩
section
variable {qT : Bool} {B : Nat} {w0 w w' : World} {sb slb pb qb gb c c' i k : Nat} {bs : List Nat} {S S' : Sto} {L X Y : List Pq} {p p' : Pq} {d d' : Plq} {xv v : Value} {R SX SS F F' Z : List (Nat × Obj)} {o : Opt} {M : List Ent} {G : List Gst} {T : Nat} {V : SV}
theorem St.seeS {C : List (Nat × Obj)} (h : St B w0 w C) (m : (sb, soO slb xv v S) ∈ C) : SeeS w sb slb xv v S :=
 ⟨h.cell m rfl, h.cell m rfl, h.cell m rfl, h.cell m rfl, h.cell m rfl, h.cell m rfl, fun i => h.soft m i⟩
theorem St.seeP {C : List (Nat × Obj)} (h : St B w0 w C) (m : (pb, pqO d qb gb) ∈ C) : SeeP w pb qb gb d :=
 ⟨h.cell m rfl, h.cell m rfl, h.cell m rfl, h.cell m rfl, h.cell m rfl⟩
theorem StoIs.fine (h : StoIs qT B w0 w sb bs S F c) : FineS S := by
 obtain ⟨L, slb, xv, v, R, SX, SS, h1, -⟩ := h
 exact h1.fine
theorem StoIs.tab (h : StoIs qT B w0 w sb bs S F c) : (qT = true → Tab B w0) ∧ Most B w0 := by
 obtain ⟨L, slb, xv, v, R, SX, SS, h1, -⟩ := h
 exact ⟨h1.tab, h1.most⟩
theorem StoIs.len (h : StoIs qT B w0 w sb bs S F c) : bs.length = S.L.length := by
 obtain ⟨L, slb, xv, v, R, SX, SS, h1, -⟩ := h
 rw [← h1.data, ← h1.blks, List.length_map, List.length_map]
theorem StoIs.see (h : StoIs qT B w0 w sb bs S F c) : ∃ slb xv v, SeeS w sb slb xv v S := by
 obtain ⟨L, slb, xv, v, R, SX, SS, h1, h2⟩ := h
 exact ⟨slb, xv, v, h2.seeS (List.mem_append_left _ List.mem_cons_self)⟩
theorem StoIs.beside (h : StoIs qT B w0 w sb bs S F c) : ∃ O, St B w0 w (O ++ F) ∧ (∃ slb xv v, (sb, soO slb xv v S) ∈ O) ∧ ∀ w' F', St B w0 w' (O ++ F') → StoIs qT B w0 w' sb bs S F' c := by
 obtain ⟨L, slb, xv, v, R, SX, SS, h1, h2⟩ := h
 exact ⟨_, h2, ⟨slb, xv, v, List.mem_cons_self⟩, fun w' F' h' => ⟨L, slb, xv, v, R, SX, SS, h1, h'⟩⟩
theorem StoIs.grow (h : StoIs qT B w0 w sb bs S F c) (hb : Below w.heap.size w w') : StoIs qT B w0 w' sb bs S F c := by
 obtain ⟨O, h1, -, h2⟩ := h.beside
 exact h2 _ _ (h1.grow hb)
theorem StoIs.sub (h : StoIs qT B w0 w sb bs S F c) (hs : F'.Sublist F) : StoIs qT B w0 w sb bs S F' c := by
 obtain ⟨O, h1, -, h2⟩ := h.beside
 exact h2 _ _ (h1.sub ((List.Sublist.refl O).append hs))
theorem StoIs.permF (h : StoIs qT B w0 w sb bs S F c) (hp : F.Perm F') : StoIs qT B w0 w sb bs S F' c := by
 obtain ⟨O, h1, -, h2⟩ := h.beside
 exact h2 _ _ (h1.perm (hp.append_left O))
theorem StoIs.alloc (h : StoIs qT B w0 w sb bs S F c) (x : Obj) : StoIs qT B w0 (w.alloc x) sb bs S ((w.heap.size, x) :: F) c := by
 obtain ⟨O, h1, -, h2⟩ := h.beside
 exact h2 _ _ ((h1.alloc x).perm List.perm_middle.symm)
theorem StoIs.below (h : StoIs qT B w0 w sb bs S F c) : Below B w0 w := by
 obtain ⟨O, h1, -⟩ := h.beside
 exact h1.below
theorem StoIs.setF {cs : Array Value} {U : TypeId} {fr : Nat × Nat} {b : Nat} (h : StoIs qT B w0 w sb bs S ((b, .cells cs U fr) :: F) c) (i : Nat) (u : Value) : StoIs qT B w0 (w.setCell ⟨b, i, none⟩ u) sb bs S ((b, .cells (cs.setIfInBounds i u) U fr) :: F) c := by
 obtain ⟨O, h1, -, h2⟩ := h.beside
 exact h2 _ _ (h1.set i u)
theorem StoIs.cell {cs : Array Value} {U : TypeId} {fr : Nat × Nat} {b : Nat} (h : StoIs qT B w0 w sb bs S F c) (hm : (b, .cells cs U fr) ∈ F) {i : Nat} {u : Value} (hi : cs[i]? = some u) : w.cell? ⟨b, i, none⟩ = some u := by
 obtain ⟨O, h1, -⟩ := h.beside
 exact h1.cell (List.mem_append_right _ hm) hi
theorem StoIs.soft {cs : Array Value} {U : TypeId} {b : Nat} (h : StoIs qT B w0 w sb bs S F c) (hm : (b, .cells cs U) ∈ F) (i : Nat) : w.frozen? ⟨b, i, none⟩ = false := by
 obtain ⟨O, h1, -⟩ := h.beside
 exact h1.soft (List.mem_append_right _ hm) i
theorem StoIs.mono (h : StoIs qT B w0 w sb bs S F c) (hc : c ≤ c') : StoIs qT B w0 w sb bs S F c' := by
 obtain ⟨L, slb, xv, v, R, SX, SS, h1, h2⟩ := h
 refine ⟨L, slb, xv, v, R, SX, SS, { h1 with ways := ?_, c1 := Nat.le_trans h1.c1 hc }, h2⟩
 rcases h1.ways with h | ⟨xb, e, h⟩
 ·exact .inl h
 ·exact .inr ⟨xb, e, fun w F hst => (h w F hst).mono hc⟩
theorem FineS.sl (h : FineS S) (V : SV) : FineS { S with sl := V } := ⟨h.few, h.once, h.nums, h.top, h.num0, h.each, h.fine⟩
theorem StoIs.slab (h : StoIs qT B w0 w sb bs S F c) : ∃ slb Z, w.cell? ⟨sb, 0, none⟩ = some (ptr slb) ∧ SlabIs B w0 w slb S.sl (Z ++ F) ∧
  ∀ w' V F', SlabIs B w0 w' slb V (Z ++ F') → StoIs qT B w0 w' sb bs { S with sl := V } F' c := by
 obtain ⟨L, slb, xv, v, R, SX, SS, h1, h2⟩ := h
 have hp : ∀ SS F, (stoO sb slb xv v S L R SX SS ++ F).Perm (SS ++ (((sb, soO slb xv v S) :: (R ++ (SX ++ pqsO L))) ++ F)) := fun SS F => perm_by fun a => by
  simp only [stoO, List.count_append, List.count_cons]; omega
 refine ⟨slb, (sb, soO slb xv v S) :: (R ++ (SX ++ pqsO L)), (h2.seeS (List.mem_append_left _ List.mem_cons_self)).c0, h1.slab _ _ (h2.perm (hp SS F)), fun w' V F' h' => ?_⟩
 obtain ⟨SS', h3, h4⟩ := h'.in_
 exact ⟨L, slb, xv, v, R, SX, SS', { h1 with slab := h4, fine := h1.fine.sl V }, h3.perm (hp SS' F').symm⟩
theorem list_split {α : Type} {L : List α} {i : Nat} {p : α} (h : L[i]? = some p) : ∃ X Y, L = X ++ p :: Y ∧ X.length = i := by
 obtain ⟨hl, rfl⟩ := List.getElem?_eq_some_iff.1 h
 exact ⟨L.take i, L.drop (i + 1), by rw [← List.drop_eq_getElem_cons hl, List.take_append_drop], by rw [List.length_take]; omega⟩
theorem set_mid {α : Type} (X Y : List α) (p q : α) : (X ++ p :: Y).set X.length q = X ++ q :: Y := by simp
theorem FineS.set (h : FineS S) {i : Nat} {d d' : Plq} (hi : S.L[i]? = some d) (e1 : d'.name = d.name) (e2 : d'.num = d.num) (e3 : d'.o = d.o) : FineS { S with L := S.L.set i d' } := by
 obtain ⟨X, Y, hXY, rfl⟩ := list_split hi
 have e : S.L.set X.length d' = X ++ d' :: Y := by rw [hXY, set_mid]
 have a1 : ((S.L.set X.length d').map (·.name)) = S.L.map (·.name) := by rw [e, hXY]; simp [e1]
 have a2 : ((S.L.set X.length d').map (·.num)) = S.L.map (·.num) := by rw [e, hXY]; simp [e2]
 have hm : ∀ p ∈ S.L.set X.length d', p = d' ∨ p ∈ S.L := fun p hp => (List.mem_or_eq_of_mem_set hp).symm
 have hd := List.mem_of_getElem? hi
 refine ⟨by simp only [List.length_set]; exact h.few, by simp only [a1]; exact h.once, by simp only [a2]; exact h.nums, fun p hp => ?_, h.num0, fun p hp => ?_, h.fine⟩
 ·rcases hm p hp with rfl | hp
  ·rw [e2]; exact h.top d hd
  ·exact h.top p hp
 ·rcases hm p hp with rfl | hp
  ·rw [e1, e3]; exact h.each d hd
  ·exact h.each p hp
theorem StoIs.place (h : StoIs qT B w0 w sb bs S F c) (hi : S.L[i]? = some d) : ∃ pb qb gb, bs[i]? = some pb ∧ SeeP w pb qb gb d ∧
  (∃ Z, QuIs B w0 w qb d.o d.M (Z ++ F) ∧ ∀ w' M F', QuIs B w0 w' qb d.o M (Z ++ F') → SeeP w' pb qb gb d ∧ StoIs qT B w0 w' sb bs (S.setM i d M) F' c) ∧
  (∃ Z, GuIsX qT B w0 w gb d.G d.T (Z ++ F) ∧ ∀ w' G T F', GuIsX qT B w0 w' gb G T (Z ++ F') → SeeP w' pb qb gb d ∧ StoIs qT B w0 w' sb bs { S with L := S.L.set i { d with G := G, T := T } } F' c) := by
 obtain ⟨L, slb, xv, v, R, SX, SS, h1, h2⟩ := h
 have hi' := hi
 rw [← h1.data, List.getElem?_map, Option.map_eq_some_iff] at hi
 obtain ⟨p, hp, rfl⟩ := hi
 obtain ⟨X, Y, rfl, rfl⟩ := list_split hp
 have ok := h1.pls p (List.mem_append_right _ List.mem_cons_self)
 have hb : bs[X.length]? = some p.b := by rw [← h1.blks, List.getElem?_map, hp]; rfl
 have hpq : ∀ (q : Pq) F, (stoO sb slb xv v S (X ++ q :: Y) R SX SS ++ F).Perm (q.SQ ++ (((q.b, pqO q.d q.qb q.gb) :: (q.SG ++ ((sb, soO slb xv v S) :: (R ++ (SX ++ (SS ++ pqsO (X ++ Y))))))) ++ F)) := fun q F => perm_by fun a => by
  simp only [stoO, pqsO, Pq.objs, List.flatMap_append, List.flatMap_cons, List.count_append, List.count_cons]; omega
 have hpg : ∀ (q : Pq) F, (stoO sb slb xv v S (X ++ q :: Y) R SX SS ++ F).Perm (q.SG ++ (((q.b, pqO q.d q.qb q.gb) :: (q.SQ ++ ((sb, soO slb xv v S) :: (R ++ (SX ++ (SS ++ pqsO (X ++ Y))))))) ++ F)) := fun q F => perm_by fun a => by
  simp only [stoO, pqsO, Pq.objs, List.flatMap_append, List.flatMap_cons, List.count_append, List.count_cons]; omega
 have hsp := h2.perm (hpq p F)
 have hsee : SeeP w p.b p.qb p.gb p.d := hsp.seeP (List.mem_append_right _ (List.mem_append_left _ List.mem_cons_self))
 have hdata : ∀ q : Pq, (X ++ q :: Y).map Pq.d = S.L.set X.length q.d := fun q => by
  rw [← h1.data, List.map_append, List.map_cons, List.map_append, List.map_cons]
  have := set_mid (X.map Pq.d) (Y.map Pq.d) p.d q.d
  rw [List.length_map] at this
  exact this.symm
 have hblks : ∀ q : Pq, q.b = p.b → (X ++ q :: Y).map Pq.b = bs := fun q e => by rw [← h1.blks]; simp [e]
 have hpls : ∀ q : Pq, PqOk qT B w0 q → ∀ x ∈ X ++ q :: Y, PqOk qT B w0 x := fun q hq x hx => by
  rcases List.mem_append.1 hx with hx | hx
  ·exact h1.pls x (List.mem_append_left _ hx)
  ·rcases List.mem_cons.1 hx with rfl | hx
   ·exact hq
   ·exact h1.pls x (List.mem_append_right _ (List.mem_cons_of_mem _ hx))
 refine ⟨p.b, p.qb, p.gb, hb, hsee, ⟨_, ok.qu _ _ hsp, fun w' M F' h' => ?_⟩, ⟨_, ok.gu _ _ (h2.perm (hpg p F)), fun w' G T F' h' => ?_⟩⟩
 ·obtain ⟨SQ', h3, h4⟩ := h'.in_
  refine ⟨h3.seeP (List.mem_append_right _ (List.mem_append_left _ List.mem_cons_self)), X ++ { p with d := { p.d with M := M }, SQ := SQ' } :: Y, slb, xv, v, R, SX, SS, ?_, h3.perm (hpq { p with d := { p.d with M := M }, SQ := SQ' } F').symm⟩
  exact ⟨hdata _, hblks _ rfl, h1.sl, h1.slab, h1.ways, hpls _ ⟨h4, ok.gu⟩, h1.fine.set hi' rfl rfl rfl, h1.tab, h1.most, h1.c1⟩
 ·obtain ⟨SG', h3, h4⟩ := h'.in_
  refine ⟨h3.seeP (List.mem_append_right _ (List.mem_append_left _ List.mem_cons_self)), X ++ { p with d := { p.d with G := G, T := T }, SG := SG' } :: Y, slb, xv, v, R, SX, SS, ?_, h3.perm (hpg { p with d := { p.d with G := G, T := T }, SG := SG' } F').symm⟩
  exact ⟨hdata _, hblks _ rfl, h1.sl, h1.slab, h1.ways, hpls _ ⟨ok.qu, h4⟩, h1.fine.set hi' rfl rfl rfl, h1.tab, h1.most, h1.c1⟩
theorem StoIs.rows (h : StoIs qT B w0 w sb bs S F c) : ∃ a cap, w.cell? ⟨sb, 2, none⟩ = some (.slice a bs.length cap) ∧ ∀ (i : Nat) b, bs[i]? = some b → ∃ g off, a = some ⟨g, off, none⟩ ∧ w.cell? ⟨g, off + i, none⟩ = some (bpt b) := by
 obtain ⟨L, slb, xv, v, R, SX, SS, h1, h2⟩ := h
 obtain ⟨a, cap, rfl, -, -, ha⟩ := h1.sl.form
 refine ⟨a, cap, (h2.seeS (List.mem_append_left _ List.mem_cons_self)).c2, fun i b hb => ?_⟩
 have hl := (List.getElem?_eq_some_iff.1 hb).1
 obtain ⟨g, off, rfl⟩ := ha i hl
 refine ⟨g, off, rfl, ?_⟩
 have h3 : St B w0 w ((((sb, soO slb xv (.slice (some ⟨g, off, none⟩) bs.length cap) S) :: (SX ++ (SS ++ pqsO L))) ++ F) ++ R) := h2.perm (perm_by fun a => by simp only [stoO, List.count_append, List.count_cons]; omega)
 exact h1.sl.cellAt h3 (by rw [List.getElem?_map, hb]; rfl)
end
end Go.Proofs.YtknjamfjonapiaaGreatDoor
