import Derived.Test.YtknjamfjonapiaaGreatDoorY18
import Derived.Laws.Cover3
import Derived.Laws.Entries
import Derived.Deep.QuietTactic
import Derived.BigQuiet
import Derived.Lib.Hide
import Derived.Lib.SliceRun
import Derived.StillTailTactics
import Derived.Deep.RegionWith
import Derived.Deep.RegionLaw
import Derived.Deep.RegionHeld3
import Derived.Deep.DeepCutAuto
import Derived.Deep.CutBlock
import Derived.Test.YtknjamfjonapiaaGreatDoorY03
import Derived.Test.YtknjamfjonapiaaGreatDoorRows
import Derived.Test.YtknjamfjonapiaaGreatDoorProg
import Derived.OpenShut
import Derived.Lib.LaidTab
import Derived.LaidMore
import Derived.MakeChecks
import Derived.Test.YtknjamfjonapiaaGreatDoorY11
import Derived.Test.YtknjamfjonapiaaGreatDoorY09
import Derived.Deep.Fields
namespace Go.Proofs.YtknjamfjonapiaaGreatDoor
open Go.RowKit
set_option linter.unusedVariables false
set_option linter.unusedSectionVars false
set_option maxRecDepth 100000
abbrev gup (b : Nat) : Value := .pointer (some ⟨b, 0, none⟩)
abbrev seatV (p s : Nat) : Value := .complex .f64 (floatOfInt .f64 (p : Int)) (floatOfInt .f64 (s : Int))
abbrev gusO (v u : Value) : Obj := .cells #[v, u] 199
structure GuAt (B : Nat) (w0 w : World) (gb : Nat) (v : Value) (M : List Gst) (T : Nat) (S F : List (Nat × Obj)) : Prop where
 sl : GssIs v M S
 st : St B w0 w ((gb, gusO v (seatV (T % 64) (T / 64))) :: (F ++ S))
def GuIsX (qT : Bool) (B : Nat) (w0 w : World) (gb : Nat) (M : List Gst) (T : Nat) (F : List (Nat × Obj)) : Prop :=
 (qT = true → Tab B w0) ∧ OkT M.length T ∧ M.length ≤ 60000 ∧ ∃ v S, GuAt B w0 w gb v M T S F
structure RdG (w : World) (gb : Nat) (M : List Gst) (a : Option Addr) (c : Nat) : Prop where
 c0 : w.cell? ⟨gb, 0, none⟩ = some (.slice a M.length c)
 rd : ReadGs w a M
section
variable {qT : Bool} {B : Nat} {w0 w w' : World} {gb b c T : Nat} {M L : List Gst} {a : Option Addr} {v : Value} {S F F' X : List (Nat × Obj)} {x y : Gst}
theorem GuAt.form (h : GuAt B w0 w gb v M T S F) : ∃ a c, v = .slice a M.length c := GssIs.form h.sl
theorem GuAt.c0 (h : GuAt B w0 w gb v M T S F) : w.cell? ⟨gb, 0, none⟩ = some v := h.st.cell List.mem_cons_self rfl
theorem GuAt.rdg (h : GuAt B w0 w gb (.slice a M.length c) M T S F) : RdG w gb M a c := ⟨h.c0, GssIs.read (X := (gb, gusO _ (seatV (T % 64) (T / 64))) :: F) h.sl h.st⟩
theorem GuIsX.beside (h : GuIsX qT B w0 w gb M T F) : ∃ S, St B w0 w (S ++ F) ∧ ∀ w' F', St B w0 w' (S ++ F') → GuIsX qT B w0 w' gb M T F' := by
 obtain ⟨h1, h2, h3, v, S, h4, h5⟩ := h
 have hp : ∀ F : List (Nat × Obj), ((gb, gusO v (seatV (T % 64) (T / 64))) :: (F ++ S)).Perm (((gb, gusO v (seatV (T % 64) (T / 64))) :: S) ++ F) := fun F => List.Perm.cons _ List.perm_append_comm
 exact ⟨_, h5.perm (hp F), fun w' F' h' => ⟨h1, h2, h3, v, S, h4, h'.perm (hp F').symm⟩⟩
theorem GuIsX.grow (h : GuIsX qT B w0 w gb M T F) (hb : Below w.heap.size w w') : GuIsX qT B w0 w' gb M T F := by
 obtain ⟨S, h1, h2⟩ := h.beside
 exact h2 _ _ (h1.grow hb)
theorem GuIsX.sub (h : GuIsX qT B w0 w gb M T F) (hs : F'.Sublist F) : GuIsX qT B w0 w gb M T F' := by
 obtain ⟨S, h1, h2⟩ := h.beside
 exact h2 _ _ (h1.sub ((List.Sublist.refl S).append hs))
theorem GuIsX.permF (h : GuIsX qT B w0 w gb M T F) (hp : F.Perm F') : GuIsX qT B w0 w gb M T F' := by
 obtain ⟨S, h1, h2⟩ := h.beside
 exact h2 _ _ (h1.perm (hp.append_left S))
theorem GuIsX.alloc (h : GuIsX qT B w0 w gb M T F) (o : Obj) : GuIsX qT B w0 (w.alloc o) gb M T ((w.heap.size, o) :: F) := by
 obtain ⟨S, h1, h2⟩ := h.beside
 exact h2 _ _ ((h1.alloc o).perm List.perm_middle.symm)
theorem GuIsX.guest (h : GuIsX qT B w0 w gb M T F) (hm : (b, gsO x) ∈ F) : GsAt w b x ∧ ∀ i, w.frozen? ⟨b, i, none⟩ = false := by
 obtain ⟨S, h1, -⟩ := h.beside
 exact ⟨h1.gsAt (List.mem_append_right _ hm), fun i => h1.soft (List.mem_append_right _ hm) i⟩
def idxV (r : Option Nat) : Value := .tuple #[.int .i64 ((r.getD 0 : Nat) : Int), .bool r.isSome]
set_option maxHeartbeats 2000000 in
theorem gsFind_any (h : RdG w gb M a c) (hl : M.length ≤ 100000) (p q : Int) (t : List UInt8) {r : Option Nat} (hr0 : idxG M p q t = r) :
  Calls Tryz.prog 153 #[gup gb, .int .i64 p, .int .i64 q, tx t] w fun e w' => e = .returned (idxV r) ∧ w' = w := by
 obtain ⟨c0, hr⟩ := h
 have hyes : Hid (∀ (i : Nat) x, M[i]? = some x → keyG p q t x = true → (∀ (j : Nat) y, j < i → M[j]? = some y → keyG p q t y = false) → idxV r = .tuple #[.int .i64 (i : Int), .bool true]) := Lib.hid fun i x hi he hn => by
  rw [← hr0, idx_some hi he hn]
  rfl
 have hno : Hid ((∀ (j : Nat) y, j < M.length → M[j]? = some y → keyG p q t y = false) → idxV r = .tuple #[.int .i64 0, .bool false]) := Lib.hid fun hn => by
  rw [← hr0, idx_none hn]
  rfl
 have hl0 : (M.length : Int) ≤ 100000 := by omega
 replace hr := Lib.hid hr
 generalize idxV r = R at *
 clear hr0
 go_enter Tryz.func153, Tryz.ntmps153
 go_wp2_with fail
 refine wp_scope_ghost 0 (fun g aq wt => ∃ i : Nat, i + g = M.length ∧ Hid (∀ (j : Nat) y, j < i → M[j]? = some y → keyG p q t y = false) ∧ Fr 50 [(0, gup gb), (1, .int .i64 p), (2, .int .i64 q), (3, tx t), (8, .int .i64 0), (9, .bool false), (10, .int .i64 (i : Int))] aq ∧ wt = w) rfl ?_ ?_
 ·rintro g a' w' ⟨i, hi, hn, hfr, rfl⟩
  obtain ⟨q', rfl, hl'⟩ := hfr.lit
  clear hfr
  simp only [List.mem_cons, List.not_mem_nil, or_false, forall_eq_or_imp, forall_eq] at hl'
  obtain ⟨f0, f1, f2, f3, f8, f9, f10⟩ := hl'
  simp only [List.range, List.range.loop, List.map, f0, f1, f2, f3, f8, f9, f10]
  clear f0 f1 f2 f3 f8 f9 f10
  have hi0 : (0 : Int) ≤ i := by omega
  by_cases hlt : i < M.length
  ·have hx : M[i]? = some M[i] := List.getElem?_eq_getElem hlt
   have hi1 : (i : Int) < M.length := by omega
   have hne : ((i : Int) == M.length) = false := by rw [beq_eq_false_iff_ne]; omega
   generalize M[i] = x at hx
   obtain ⟨g1, o1, rfl, k0, k1, k2, -⟩ := hr.out i x hx
   by_cases hk : keyG p q t x = true
   ·obtain ⟨e1, e2, e3⟩ := key_yes hk
    have fin := Lib.hid (hyes.out i x hx hk hn.out)
    clear hyes hno hn hx hr hk
    go_wp2_with fail
    simp only [Exit.jump]
    go_ret2
    exact ⟨by rw [fin.out]; rfl, rfl⟩
   ·have hk' : keyG p q t x = false := by simpa using hk
    have nxt : Hid (∀ (j : Nat) y, j < i + 1 → M[j]? = some y → keyG p q t y = false) := Lib.hid fun j y hj hy => by
     rcases (by omega : j < i ∨ j = i) with h9 | rfl
     ·exact hn.out j y h9 hy
     ·rw [hx] at hy
      cases hy
      exact hk'
    have hw := key_ways hk'
    clear hyes hno hn hx hr hk hk'
    rcases hw with e1 | ⟨e1, e2⟩ | ⟨e1, e2, e3⟩
    all_goals
     go_wp2_with fail
     refine wp_goto ?_
     exact ⟨rfl, g - 1, by omega, i + 1, by omega, nxt, ⟨rfl, rfl, by simp⟩, rfl⟩
  ·obtain rfl : i = M.length := by omega
   have fin := Lib.hid (hno.out hn.out)
   clear hyes hno hn hr
   go_wp2_with fail
   simp only [Exit.jump]
   go_ret2
   exact ⟨by rw [fin.out]; rfl, rfl⟩
 ·intro H
  clear hyes hno hr
  go_wp2_with fail
  refine wp_label ?_
  go_step
  go_step
  exact H M.length _ _ ⟨0, by omega, Lib.hid fun j y hj => absurd hj (by omega), ⟨rfl, rfl, by simp⟩, rfl⟩
end
end Go.Proofs.YtknjamfjonapiaaGreatDoor
namespace Go.Proofs.YtknjamfjonapiaaGreatDoor
open Go.RowKit
set_option linter.unusedVariables false
set_option linter.unusedSectionVars false
set_option maxRecDepth 100000
section
variable {B : Nat} {w0 w w' : World} {gb b c T k : Nat} {M L : List Gst} {a : Option Addr} {v : Value} {S F F' X : List (Nat × Obj)} {x y : Gst}
set_option maxHeartbeats 400000 in
theorem len_any (h : RdG w gb M a c) : Calls Tryz.prog 72 #[gup gb] w fun e w' => e = .returned (.int .i64 M.length) ∧ w' = w := by
 have c0 := h.c0
 clear h
 go_enter Tryz.func72, Tryz.ntmps72
 go_wp2_with fail
 go_ret
 exact ⟨rfl, rfl⟩
set_option maxHeartbeats 1000000 in
theorem sole_any (h : RdG w gb M a c) (hl : M.length ≤ 100000) : Calls Tryz.prog 86 #[gup gb] w fun e w' => e = .returned (.bool (soleG M)) ∧ w' = w := by
 obtain ⟨c0, hr⟩ := h
 obtain ⟨R, hR⟩ : ∃ R, R = soleG M := ⟨_, rfl⟩
 rw [← hR]
 have hyes : Hid (∀ (i : Nat) x, M[i]? = some x → x.sole = true → R = true) := Lib.hid fun i x hi he => by
  rw [hR, soleG, List.any_eq_true]
  exact ⟨x, List.mem_of_getElem? hi, he⟩
 have hno : Hid ((∀ (j : Nat) y, j < M.length → M[j]? = some y → y.sole = false) → R = false) := Lib.hid fun hn => by
  rw [hR, soleG, List.any_eq_false]
  intro x hx
  obtain ⟨j, hj⟩ := List.getElem?_of_mem hx
  rw [hn j x (List.getElem?_eq_some_iff.1 hj).1 hj]
  simp
 have hl0 : (M.length : Int) ≤ 100000 := by omega
 replace hr := Lib.hid hr
 clear hR
 go_enter Tryz.func86, Tryz.ntmps86
 go_wp2_with fail
 refine wp_scope_ghost 0 (fun g aq wt => ∃ i : Nat, i + g = M.length ∧ Hid (∀ (j : Nat) y, j < i → M[j]? = some y → y.sole = false) ∧ Fr 21 [(0, gup gb), (2, .bool false), (3, .int .i64 (i : Int))] aq ∧ wt = w) rfl ?_ ?_
 ·rintro g a' w' ⟨i, hi, hn, hfr, rfl⟩
  obtain ⟨q', rfl, hl'⟩ := hfr.lit
  clear hfr
  simp only [List.mem_cons, List.not_mem_nil, or_false, forall_eq_or_imp, forall_eq] at hl'
  obtain ⟨f0, f2, f3⟩ := hl'
  simp only [List.range, List.range.loop, List.map, f0, f2, f3]
  clear f0 f2 f3
  have hi0 : (0 : Int) ≤ i := by omega
  by_cases hlt : i < M.length
  ·have hx : M[i]? = some M[i] := List.getElem?_eq_getElem hlt
   have hi1 : (i : Int) < M.length := by omega
   have hne : ((i : Int) == M.length) = false := by rw [beq_eq_false_iff_ne]; omega
   generalize M[i] = x at hx
   obtain ⟨g1, o1, rfl, k0, k1, k2, k3, k4, k5⟩ := hr.out i x hx
   clear k0 k1 k2 k3 k4
   by_cases hk : x.sole = true
   ·have fin := Lib.hid (hyes.out i x hx hk)
    rw [hk] at k5
    clear hyes hno hn hx hr hk
    go_wp2_with fail
    simp only [Exit.jump]
    go_ret
    exact ⟨ret_bool fin.out.symm, rfl⟩
   ·have hk' : x.sole = false := by simpa using hk
    have nxt : Hid (∀ (j : Nat) y, j < i + 1 → M[j]? = some y → y.sole = false) := Lib.hid fun j y hj hy => by
     rcases (by omega : j < i ∨ j = i) with h9 | rfl
     ·exact hn.out j y h9 hy
     ·rw [hx] at hy
      cases hy
      exact hk'
    rw [hk'] at k5
    clear hyes hno hn hx hr hk hk'
    go_wp2_with fail
    refine wp_goto ?_
    exact ⟨rfl, g - 1, by omega, i + 1, by omega, nxt, ⟨rfl, rfl, by simp⟩, rfl⟩
  ·obtain rfl : i = M.length := by omega
   have fin := Lib.hid (hno.out hn.out)
   clear hyes hno hn hr
   go_wp2_with fail
   simp only [Exit.jump]
   go_ret
   exact ⟨ret_bool fin.out.symm, rfl⟩
 ·intro H
  clear hyes hno hr
  go_wp2_with fail
  refine wp_label ?_
  go_step
  go_step
  exact H M.length _ _ ⟨0, by omega, Lib.hid fun j y hj => absurd hj (by omega), ⟨rfl, rfl, by simp⟩, rfl⟩
theorem uGuestR : Tryz.prog.underlying 86 = some (.slice 77) := by kernel_rfl
def CloneR (B : Nat) (w0 : World) (X : List (Nat × Obj)) (M : List Gst) (e : Ending) (w' : World) : Prop := ∃ a c S', e = .returned (.slice a M.length c) ∧ GssIs (.slice a M.length c) M S' ∧ St B w0 w' (X ++ S')
set_option maxHeartbeats 1000000 in
theorem gclone_any {s : Value} (hs : GssIs s M S) (hst : St B w0 w (X ++ S)) (hn : M.length ≤ 100000) :
  Calls Tryz.prog 161 #[s] w (CloneR B w0 (X ++ S) M) := by
 have hst1 := hst.alloc (.cells #[] 77)
 have hst2 := hst1.perm (H' := (X ++ S) ++ [(w.heap.size, .cells #[] 77)]) (List.perm_append_singleton _ _).symm
 have hrd := SlIs.reads (A := (w.heap.size, .cells #[] 77) :: X) hs hst1
 have hemp : SlIs 77 6 (.slice (some ⟨w.heap.size, 0, none⟩) 0 0) 0 [] [(w.heap.size, .cells #[] 77)] := SlIs.made rfl (by unfold maxLen; omega)
 obtain ⟨a2, c2, W2, F2, hr2, hs2, hst3⟩ := apG.append hemp hst2 hrd (gssV_one M) (by unfold maxLen; omega) (by omega)
 rw [Nat.zero_add] at hr2 hs2
 rw [List.nil_append] at hs2
 have fin : CloneR B w0 (X ++ S) M (.returned (.slice a2 M.length c2)) W2 := ⟨a2, c2, F2, rfl, hs2, hst3⟩
 have fin0 : s = .slice none 0 0 → CloneR B w0 (X ++ S) M (.returned (.slice none 0 0)) w := fun e => by
  subst e
  obtain ⟨a, cap, e⟩ := GssIs.form hs
  cases M with
  | nil => exact ⟨none, 0, [], rfl, SlIs.nil, by simpa using hst⟩
  | cons y M => cases e
 obtain ⟨a, cap, rfl, hc1, hc2, ha⟩ := SlIs.form hs
 replace fin := Lib.hid fin
 replace fin0 := Lib.hid fin0
 have hq := fun w => Lib.run_eql_slice_nil (P := Tryz.prog) w 86 77 a M.length cap 0 0 uGuestR
 have hnil : a = none → (Value.slice a M.length cap) = .slice none 0 0 := fun e => by
  subst e
  obtain ⟨_, ⟨h, _⟩ | ⟨_, _, _, _, h, _⟩⟩ := hs
  ·exact h
  ·cases h
 replace hnil := Lib.hid hnil
 clear hs hst hst1 hst2 hrd hemp hs2 hst3 hc1 hc2 ha
 cases a with
 | none =>
  have h := hnil.out rfl
  simp only [Value.slice.injEq, true_and] at h
  obtain ⟨h1, rfl⟩ := h
  obtain rfl : M = [] := List.eq_nil_of_length_eq_zero h1
  simp only [List.length_nil] at *
  clear hnil fin hr2
  go_enter Tryz.func161, Tryz.ntmps161
  go_wp2_with fail
  go_ret
  exact fin0.out trivial
 | some ad =>
  clear hnil fin0
  go_enter Tryz.func161, Tryz.ntmps161
  go_wp2_with (refine wpList_append_go rfl (.tmp 5) (.tmp 6) 86 86 rfl _ _ rfl rfl hr2 ?_)
  go_ret
  exact fin.out
end
end Go.Proofs.YtknjamfjonapiaaGreatDoor
namespace Go.Proofs.YtknjamfjonapiaaGreatDoor
open Go.RowKit
set_option linter.unusedVariables false
set_option linter.unusedSectionVars false
set_option maxRecDepth 100000
section
variable {B : Nat} {w0 w w' : World} {gb b c T k g off n cap i j : Nat} {M L : List Gst} {a : Option Addr} {v : Value} {S R F F' X : List (Nat × Obj)} {x y : Gst}
end
end Go.Proofs.YtknjamfjonapiaaGreatDoor
namespace Go.Proofs.YtknjamfjonapiaaGreatDoor
open Go.RowKit
set_option linter.unusedVariables false
set_option linter.unusedSectionVars false
set_option maxRecDepth 100000
theorem fl_zero : floatOfInt .f64 0 = 0 := by decide +kernel
section
variable {qT : Bool} {B : Nat} {w0 w w' : World} {gb b c T k g off n cap i j : Nat} {M L : List Gst} {a : Option Addr} {v : Value} {S R F F' X : List (Nat × Obj)} {x y : Gst}
theorem GuIsX.rdg (h : GuIsX qT B w0 w gb M T F) : ∃ a c, RdG w gb M a c := by
 obtain ⟨-, -, -, v, S, h⟩ := h
 obtain ⟨a, c, rfl⟩ := h.form
 exact ⟨a, c, h.rdg⟩
theorem GuIsX.few (h : GuIsX qT B w0 w gb M T F) : M.length ≤ 60000 := h.2.2.1
set_option maxHeartbeats 400000 in
theorem gu_new (hT : qT = true → Tab B w0) (hst : St B w0 w F) : Calls Tryz.prog 200 #[] w fun e w' => ∃ gb, e = .returned (gup gb) ∧ GuIsX qT B w0 w' gb [] 0 F := by
 have h1 := hst.alloc (.cells #[.slice none 0 0, .complex .f64 0 0] 199)
 have h2 : GuIsX qT B w0 (w.alloc (.cells #[.slice none 0 0, .complex .f64 0 0] 199)) w.heap.size [] 0 F :=
  ⟨hT, .inr rfl, by simp, .slice none 0 0, [], SlIs.nil, by
   have e : seatV (0 % 64) (0 / 64) = .complex .f64 0 0 := by
    show Value.complex .f64 (floatOfInt .f64 0) (floatOfInt .f64 0) = _
    rw [fl_zero]
   rw [e, List.append_nil]
   exact h1⟩
 replace h2 := Lib.hid h2
 clear hst h1
 go_enter Tryz.func200, Tryz.ntmps200
 go_wp2_with fail
 go_ret
 exact ⟨_, rfl, h2.out⟩
theorem gu_len (h : GuIsX qT B w0 w gb M T F) : Calls Tryz.prog 72 #[gup gb] w fun e w' => e = .returned (.int .i64 M.length) ∧ GuIsX qT B w0 w' gb M T F := by
 obtain ⟨a, c, hr⟩ := h.rdg
 exact (len_any hr).mono fun e w' ⟨h1, h2⟩ => ⟨h1, h2 ▸ h⟩
theorem gu_sole (h : GuIsX qT B w0 w gb M T F) {s : Bool} (hs : soleG M = s) : Calls Tryz.prog 86 #[gup gb] w fun e w' => e = .returned (.bool s) ∧ GuIsX qT B w0 w' gb M T F := by
 obtain ⟨a, c, hr⟩ := h.rdg
 exact (sole_any hr (by have := h.few; omega)).mono fun e w' ⟨h1, h2⟩ => ⟨hs ▸ h1, h2 ▸ h⟩
set_option maxHeartbeats 400000 in
theorem gu_all (h : GuIsX qT B w0 w gb M T F) : Calls Tryz.prog 97 #[gup gb] w fun e w' => ∃ a c S', e = .returned (.slice a M.length c) ∧ GssIs (.slice a M.length c) M S' ∧ GuIsX qT B w0 w' gb M T (S' ++ F) := by
 obtain ⟨hT, hok, hl, v, S, h⟩ := h
 have hp : ∀ S : List (Nat × Obj), (gb, gusO v (seatV (T % 64) (T / 64))) :: (F ++ S) = ((gb, gusO v (seatV (T % 64) (T / 64))) :: F) ++ S := fun S => rfl
 have cc := Lib.hid (gclone_any h.sl (hp S ▸ h.st) (by omega))
 have fin : Hid (∀ a c S' W, GssIs (.slice a M.length c) M S' → St B w0 W ((((gb, gusO v (seatV (T % 64) (T / 64))) :: F) ++ S) ++ S') → GuIsX qT B w0 W gb M T (S' ++ F)) := Lib.hid fun a c S' W h1 h2 => ⟨hT, hok, hl, v, S, h.sl, h2.perm (by
  classical
  exact List.perm_iff_count.2 fun a => by simp only [List.count_append, List.count_cons]; omega)⟩
 have c0 := h.c0
 obtain ⟨a, c, rfl⟩ := h.form
 clear h hp hok hl hT
 go_enter Tryz.func97, Tryz.ntmps97
 go_wp2_with fail
 refine cc.out.mono ?_
 rintro e w1 ⟨a2, c2, S2, rfl, h1, h2⟩
 have h3 := Lib.hid (fin.out _ _ _ _ h1 h2)
 replace h1 := Lib.hid h1
 clear h2 fin cc c0
 go_wp2_with fail
 go_ret
 exact ⟨_, _, _, rfl, h1.out, h3.out⟩
theorem GuIsX.setTag (h : GuIsX qT B w0 w gb M T ((b, gsO x) :: F)) : GuIsX qT B w0 (w.setCell ⟨b, 2, none⟩ (tx x.tag)) gb M T ((b, gsO x) :: F) := by
 obtain ⟨S, h1, h2⟩ := h.beside
 have h3 := (h1.perm List.perm_middle).set0 2 (tx x.tag)
 exact h2 _ _ (h3.perm List.perm_middle.symm)
theorem GuIsX.push (h : GuIsX qT B w0 w gb M T F) (hl : M.length < 60000) (x : Gst) : ∃ a c a' c' W,
  (w.cell? ⟨gb, 0, none⟩ = some (.slice a M.length c) ∧ (w.alloc (gsO x)).cell? ⟨gb, 0, none⟩ = some (.slice a M.length c) ∧ W.cell? ⟨gb, 0, none⟩ = some (.slice a M.length c) ∧ W.frozen? ⟨gb, 0, none⟩ = false) ∧
  AppRun Tryz.prog 86 (.slice a M.length c) (.slice (some ⟨w.heap.size, 0, none⟩) 1 1) (w.alloc (gsO x)) (.slice a' (M ++ [x]).length c') W ∧
  GuIsX qT B w0 (W.setCell ⟨gb, 0, none⟩ (.slice a' (M ++ [x]).length c')) gb (M ++ [x]) T F := by
 obtain ⟨hT, hok, hlen, v, S, h⟩ := h
 obtain ⟨a, c, rfl⟩ := h.form
 have hp : ∀ S : List (Nat × Obj), (gb, gusO (.slice a M.length c) (seatV (T % 64) (T / 64))) :: (F ++ S) = ((gb, gusO (.slice a M.length c) (seatV (T % 64) (T / 64))) :: F) ++ S := fun S => rfl
 obtain ⟨a', c', W, S', q1, q2, q3⟩ := gss_push h.sl (hp S ▸ h.st) x (by omega)
 refine ⟨a, c, a', c', W, ⟨h.c0, (h.st.alloc (gsO x)).cell (b := gb) (List.mem_cons_of_mem _ List.mem_cons_self) rfl, q3.cell (b := gb) (i := 0) List.mem_cons_self rfl, St.soft (b := gb) q3 List.mem_cons_self 0⟩, ⟨q1⟩, hT, ?_, by simp; omega, _, S', q2, St.set0 q3 0 _⟩
 rcases hok with h | h
 ·exact .inl (by simp; omega)
 ·exact .inr h
set_option maxHeartbeats 4000000 in
theorem gu_add (h : GuIsX qT B w0 w gb M T F) (hf : x.tag.length ≤ 140737488351232) (hl : M.length < 60000) {ok : Bool} (hok : addOkG M x = ok) {N : List Gst} (hN : addG M x = N) :
  Calls Tryz.prog 87 #[gup gb, gsV x] w fun e w' => e = .returned (.bool ok) ∧ GuIsX qT B w0 w' gb N T F := by
 subst hN
 have h1 := h.alloc (gsO x)
 obtain ⟨a, c, hr⟩ := h1.rdg
 have cf := Lib.hid (gsFind_any hr (by omega) x.conn x.chan x.tag rfl)
 obtain ⟨k0, k1, k2, -⟩ := (h1.guest (b := w.heap.size) (x := x) List.mem_cons_self).1
 generalize hW : w.alloc (gsO x) = W1 at *
 replace hW := Lib.hid hW
 have he : (idxG M x.conn x.chan x.tag).isNone = ok := hok
 cases hi : idxG M x.conn x.chan x.tag with
 | some i =>
  rw [hi] at cf he
  obtain rfl : ok = false := by rw [← he]; rfl
  have fin : Hid (GuIsX qT B w0 W1 gb (addG M x) T F) := Lib.hid (by
   unfold addG
   rw [hok]
   exact h1.sub (List.sublist_cons_self _ _))
  clear h h1 hr hok he hi
  simp only [idxV, Option.isSome_some, Option.getD_some] at cf
  go_enter Tryz.func87, Tryz.ntmps87
  go_upto_region 1 with fail
  rw [hW.out]
  clear hW
  generalize w.heap.size = xb at *
  go_wp2_with fail
  refine cf.out.mono ?_
  rintro e w2 ⟨rfl, rfl⟩
  go_wp2_with fail
  go_ret
  exact ⟨rfl, fin.out⟩
 | none =>
  rw [hi] at cf he
  obtain rfl : ok = true := by rw [← he]; rfl
  have co := Lib.hid (clone_any x.tag W1 hf)
  have stp : Hid (∀ w2, Below W1.heap.size W1 w2 → w2.frozen? ⟨w.heap.size, 2, none⟩ = false ∧ w2.cell? ⟨w.heap.size, 2, none⟩ = some (tx x.tag) ∧ ∃ w3, w3 = w2.setCell ⟨w.heap.size, 2, none⟩ (tx x.tag) ∧ GsAt w3.drew w.heap.size x ∧ ∃ a c a' c' W,
    (w3.drew.cell? ⟨gb, 0, none⟩ = some (.slice a M.length c) ∧ (w3.drew.alloc (gsO x)).cell? ⟨gb, 0, none⟩ = some (.slice a M.length c) ∧ W.cell? ⟨gb, 0, none⟩ = some (.slice a M.length c) ∧ W.frozen? ⟨gb, 0, none⟩ = false) ∧
    AppRun Tryz.prog 86 (.slice a M.length c) (.slice (some ⟨w3.drew.heap.size, 0, none⟩) 1 1) (w3.drew.alloc (gsO x)) (.slice a' (M ++ [x]).length c') W ∧
    GuIsX qT B w0 (W.setCell ⟨gb, 0, none⟩ (.slice a' (M ++ [x]).length c')) gb (addG M x) T F) := Lib.hid fun w2 hb => by
   have h2 := h1.grow hb
   have h3 := h2.setTag.grow (drew_b _)
   obtain ⟨g0, gs⟩ := h2.guest (b := w.heap.size) (x := x) List.mem_cons_self
   obtain ⟨a, c, a', c', W, p1, p2, p3⟩ := h3.push hl x
   refine ⟨gs 2, g0.2.2.1, _, rfl, (h3.guest (b := w.heap.size) (x := x) List.mem_cons_self).1, a, c, a', c', W, p1, p2, ?_⟩
   unfold addG
   rw [hok]
   exact p3.sub (List.sublist_cons_self _ _)
  clear h h1 hr hok he hi hl
  simp only [idxV, Option.isSome_none, Option.getD_none] at cf
  go_enter Tryz.func87, Tryz.ntmps87
  go_upto_region 1 with fail
  rw [hW.out]
  clear hW
  generalize w.heap.size = xb at *
  go_wp2_with fail
  refine cf.out.mono ?_
  rintro e w2 ⟨rfl, rfl⟩
  go_wp2_with fail
  refine co.out.mono ?_
  rintro e w2 ⟨rfl, hb⟩
  obtain ⟨f2, e2, w3, hw3, ⟨j0, j1, j2, j3, j4, j5⟩, a, c, a', c', W4, ⟨d0, d1, d2, d3⟩, run1, fin⟩ := stp.out _ hb
  replace fin := Lib.hid fin
  clear stp co cf k0 k1 k2 hb
  go_upto_region 5 with fail
  rw [← hw3]
  clear hw3 f2 e2
  have d1' : ((w3.alloc (gsO x)).drew).cell? ⟨gb, 0, none⟩ = some (.slice a M.length c) := d1
  have run2 : AppRun Tryz.prog 86 (.slice a M.length c) (.slice (some ⟨w3.heap.size, 0, none⟩) 1 1) ((w3.alloc (gsO x)).drew) (.slice a' (M ++ [x]).length c') W4 := run1
  clear d1 run1
  generalize (M ++ [x]).length = n1 at *
  go_region_law (refine step_app (.tmp 27) (.tmp 29) 86 run2 rfl rfl (by simp [Act.eval]) (by simp [Act.eval]) ?_)
  all_goals
   clear run2 d0 d1' d2 d3 j0 j1 j2 j3 j4 j5
   go_wp2_with fail
   go_ret
   exact ⟨rfl, fin.out⟩
end
end Go.Proofs.YtknjamfjonapiaaGreatDoor
namespace Go.Proofs.YtknjamfjonapiaaGreatDoor
open Go.RowKit
set_option linter.unusedVariables false
set_option linter.unusedSectionVars false
set_option maxRecDepth 100000
section
variable {qT : Bool} {B : Nat} {w0 w w' : World} {gb b c T k g off n cap i j : Nat} {M L : List Gst} {a : Option Addr} {v : Value} {S R F F' X : List (Nat × Obj)} {x y : Gst}
end
end Go.Proofs.YtknjamfjonapiaaGreatDoor
namespace Go.Proofs.YtknjamfjonapiaaGreatDoor
open Go.RowKit
set_option linter.unusedVariables false
set_option linter.unusedSectionVars false
set_option maxRecDepth 100000
section
variable {B : Nat} {w0 w w' : World} {gb b c T k g off n cap i j sl sc : Nat} {M L : List Gst} {a sa : Option Addr} {v : Value} {S R F F' X : List (Nat × Obj)} {x y : Gst} {sp : Nat → Bool}
end
end Go.Proofs.YtknjamfjonapiaaGreatDoor
namespace Go.Proofs.YtknjamfjonapiaaGreatDoor
open Go.RowKit
set_option linter.unusedVariables false
set_option linter.unusedSectionVars false
set_option maxRecDepth 100000
section
variable {B : Nat} {w0 w w' : World} {gb b c T k g off n cap i j sl sc : Nat} {M L : List Gst} {a sa : Option Addr} {v : Value} {S R F F' X : List (Nat × Obj)} {x y : Gst} {sp : Nat → Bool}
end
end Go.Proofs.YtknjamfjonapiaaGreatDoor
namespace Go.Proofs.YtknjamfjonapiaaGreatDoor
open Go.RowKit
set_option linter.unusedVariables false
set_option linter.unusedSectionVars false
set_option maxRecDepth 100000
section
variable {B : Nat} {w0 w w' : World} {gb b c T k g off n cap i j sl sc : Nat} {M L : List Gst} {a sa : Option Addr} {v : Value} {S R F F' X : List (Nat × Obj)} {x y : Gst} {sp : Nat → Bool}
end
end Go.Proofs.YtknjamfjonapiaaGreatDoor
namespace Go.Proofs.YtknjamfjonapiaaGreatDoor
open Go.RowKit
set_option linter.unusedVariables false
def mostL : List Int := [60, 10000, 3, 15, 12, 40]
def MostAt (w : World) : Prop := ∀ k, k < 6 → w.cell? ⟨0, k, none⟩ = some (.int .i64 (mostL.getD k 0))
def Most (B : Nat) (w : World) : Prop := 0 < B ∧ MostAt w
theorem gMost : Tryz.prog.globalNamed "mailcoach/entry.most" = some 0 := by kernel_rfl
theorem tMost : (Tryz.prog.globals[0]?).map (·.type) = some 265 := by kernel_rfl
theorem uInt6 : Tryz.prog.underlying 265 = some (.array 6 3) := by kernel_rfl
theorem cInt3 : Tryz.prog.cellsOf 3 = 1 := by kernel_rfl
theorem cInt6 : Tryz.prog.cellsOf 265 = 6 := by kernel_rfl
def laidT : List (String × DataW Unit) := [("mailcoach/entry.most", Rows.laid_mailcoach_entry_most)]
theorem laidT_is : (Rows.laid_mailcoach_entry_most : DataW Unit) = .agg (mostL.map fun x => .lit (.int .i64 x)) := rfl
theorem most_of_laid {W : World} (h : laidMetH Tryz.prog laidT W) : Most W.heap.size W := by
 rw [MakeChecks.laidMetH_plain _ _ _ (by kernel_rfl)] at h
 unfold laidT at h
 rw [laidT_is] at h
 obtain ⟨ps, ⟨g', t', cs, fuel, p, q, hg', ht', hvar, hd, _, _⟩, _⟩ := h
 obtain rfl := Option.some.inj (gMost.symm.trans hg')
 obtain rfl := Option.some.inj (tMost.symm.trans ht')
 obtain ⟨xs, m, _, hx, hl, hlen, hf⟩ := Go.DataW.trod_array uInt6 hd
 rw [cInt6] at hl
 have key : MostAt W := by
  intro k hk6
  have hxs : xs.map (·.1) = mostL.map fun x => (DataW.lit (.int .i64 x) : DataW Unit) := by
   have := congrArg Prod.fst hx
   simpa using this.symm
  have h1 : (xs.map (·.1))[k]? = some (DataW.lit (.int .i64 (mostL.getD k 0))) := by
   rw [hxs, List.getElem?_map, List.getD_eq_getElem?_getD, List.getElem?_eq_getElem (show k < mostL.length by simpa [mostL] using hk6)]
   rfl
  rw [List.getElem?_map, Option.map_eq_some_iff] at h1
  obtain ⟨⟨d, pl⟩, h2, h3⟩ := h1
  simp only at h3
  subst h3
  have h4 := hf k hk6
  rw [h2, cInt3] at h4
  obtain ⟨n, c0, c1, _⟩ := Go.DataW.trod_int (by kernel_rfl : Tryz.prog.underlying 3 = some (.int .i64)) h4
  simp only [Prod.mk.injEq, DataW.lit.injEq, Lit.int.injEq, true_and] at c1
  have a0 := World.var?_cell gMost hvar k
  refine a0.trans ?_
  have := congrArg (·[0]?) c0
  rw [c1.1]
  simpa [List.getElem?_take, List.getElem?_drop] using this
 exact ⟨World.block_lt_of_cell? W _ (key 0 (by decide)), key⟩
theorem Most.below {B : Nat} {w w' : World} (h : Most B w) (hb : Below B w w') : Most B w' :=
 ⟨h.1, fun k hk => (hb.cell (p := ⟨0, k, none⟩) h.1).trans (h.2 k hk)⟩
theorem Most.mono {B C : Nat} {w : World} (h : Most B w) (hle : B ≤ C) : Most C w := ⟨Nat.lt_of_lt_of_le h.1 hle, h.2⟩
theorem Most.on {w w' : World} (h : Most w.heap.size w) (hb : Below w.heap.size w w') : Most w'.heap.size w' := (h.below hb).mono hb.size
end Go.Proofs.YtknjamfjonapiaaGreatDoor
namespace Go.Proofs.YtknjamfjonapiaaGreatDoor
open Go.RowKit
set_option linter.unusedVariables false
set_option linter.unusedSectionVars false
set_option maxRecDepth 100000
structure FineS (S : Sto) : Prop where
 few : S.L.length ≤ 8
 once : (S.L.map (·.name)).Nodup
 nums : (S.L.map (·.num)).Nodup
 top : ∀ p ∈ S.L, p.num ≤ S.num
 num0 : 0 ≤ S.num
 each : ∀ p ∈ S.L, isNm p.name = true ∧ isO p.o = true
 fine : FineX S.P S.A
def QuIn (B : Nat) (w0 : World) (qb : Nat) (o : Opt) (M : List Ent) (S : List (Nat × Obj)) : Prop := ∀ w F, St B w0 w (S ++ F) → QuIs B w0 w qb o M F
def GuIn (qT : Bool) (B : Nat) (w0 : World) (gb : Nat) (G : List Gst) (T : Nat) (S : List (Nat × Obj)) : Prop := ∀ w F, St B w0 w (S ++ F) → GuIsX qT B w0 w gb G T F
def SbIn (B : Nat) (w0 : World) (slb : Nat) (V : SV) (S : List (Nat × Obj)) : Prop := ∀ w F, St B w0 w (S ++ F) → SlabIs B w0 w slb V F
def XwIn (B : Nat) (w0 : World) (xv : Value) (P : List Plc) (A : List Bnd) (c : Nat) (S : List (Nat × Obj)) : Prop :=
 (xv = .pointer none ∧ P = [] ∧ A = [] ∧ S = []) ∨ ∃ xb, xv = bpt xb ∧ ∀ w F, St B w0 w (S ++ F) → ExIs B w0 w xb P A F c
theorem QuIs.in_ {B : Nat} {w0 w : World} {qb : Nat} {o : Opt} {M : List Ent} {F : List (Nat × Obj)} (h : QuIs B w0 w qb o M F) : ∃ S, St B w0 w (S ++ F) ∧ QuIn B w0 qb o M S := by
 obtain ⟨S, h1, -, h2⟩ := h.beside
 exact ⟨S, h1, h2⟩
theorem GuIsX.in_ {qT : Bool} {B : Nat} {w0 w : World} {gb T : Nat} {G : List Gst} {F : List (Nat × Obj)} (h : GuIsX qT B w0 w gb G T F) : ∃ S, St B w0 w (S ++ F) ∧ GuIn qT B w0 gb G T S := h.beside
theorem SlabIs.in_ {B : Nat} {w0 w : World} {slb : Nat} {V : SV} {F : List (Nat × Obj)} (h : SlabIs B w0 w slb V F) : ∃ S, St B w0 w (S ++ F) ∧ SbIn B w0 slb V S := by
 obtain ⟨g, h1, h2, h3, hu, h4⟩ := h
 exact ⟨g.heap, h4, fun w F h => ⟨g, h1, h2, h3, hu, h⟩⟩
theorem ExIs.in_ {B : Nat} {w0 w : World} {xb c : Nat} {P : List Plc} {A : List Bnd} {F : List (Nat × Obj)} (h : ExIs B w0 w xb P A F c) : ∃ S, St B w0 w (S ++ F) ∧ XwIn B w0 (bpt xb) P A c S := by
 obtain ⟨S, h1, h2⟩ := h.beside
 exact ⟨S, h1, .inr ⟨xb, rfl, h2⟩⟩
structure Pq where
 b : Nat
 qb : Nat
 gb : Nat
 d : Plq
 SQ : List (Nat × Obj)
 SG : List (Nat × Obj)
abbrev pqO (d : Plq) (qb gb : Nat) : Obj := .cells #[tx d.name, .int .i64 d.num, .int .i64 d.conn, rptr qb, gup gb] 135
def Pq.objs (p : Pq) : List (Nat × Obj) := (p.b, pqO p.d p.qb p.gb) :: (p.SQ ++ p.SG)
def pqsO (L : List Pq) : List (Nat × Obj) := L.flatMap Pq.objs
structure PqOk (qT : Bool) (B : Nat) (w0 : World) (p : Pq) : Prop where
 qu : QuIn B w0 p.qb p.d.o p.d.M p.SQ
 gu : GuIn qT B w0 p.gb p.d.G p.d.T p.SG
abbrev soO (slb : Nat) (xv v : Value) (S : Sto) : Obj := .cells #[ptr slb, xv, v, .int .i64 S.num, .int .i64 S.last, .int .i64 S.now] 92
def stoO (sb slb : Nat) (xv v : Value) (S : Sto) (L : List Pq) (R SX SS : List (Nat × Obj)) : List (Nat × Obj) := (sb, soO slb xv v S) :: (R ++ (SX ++ (SS ++ pqsO L)))
structure StoIn (qT : Bool) (B : Nat) (w0 : World) (bs : List Nat) (S : Sto) (L : List Pq) (slb : Nat) (xv v : Value) (R SX SS : List (Nat × Obj)) (c : Nat) : Prop where
 data : L.map Pq.d = S.L
 blks : L.map Pq.b = bs
 sl : SlIs 131 1 v bs.length (bs.map bpt) R
 slab : SbIn B w0 slb S.sl SS
 ways : XwIn B w0 xv S.P S.A c SX
 pls : ∀ p ∈ L, PqOk qT B w0 p
 fine : FineS S
 tab : qT = true → Tab B w0
 most : Most B w0
 c1 : 1 ≤ c
def StoIs (qT : Bool) (B : Nat) (w0 w : World) (sb : Nat) (bs : List Nat) (S : Sto) (F : List (Nat × Obj)) (c : Nat) : Prop :=
 ∃ L slb xv v R SX SS, StoIn qT B w0 bs S L slb xv v R SX SS c ∧ St B w0 w (stoO sb slb xv v S L R SX SS ++ F)
structure SeeS (w : World) (sb : Nat) (slb : Nat) (xv v : Value) (S : Sto) : Prop where
 c0 : w.cell? ⟨sb, 0, none⟩ = some (ptr slb)
 c1 : w.cell? ⟨sb, 1, none⟩ = some xv
 c2 : w.cell? ⟨sb, 2, none⟩ = some v
 c3 : w.cell? ⟨sb, 3, none⟩ = some (.int .i64 S.num)
 c4 : w.cell? ⟨sb, 4, none⟩ = some (.int .i64 S.last)
 c5 : w.cell? ⟨sb, 5, none⟩ = some (.int .i64 S.now)
 soft : ∀ i, w.frozen? ⟨sb, i, none⟩ = false
structure SeeP (w : World) (pb qb gb : Nat) (d : Plq) : Prop where
 c0 : w.cell? ⟨pb, 0, none⟩ = some (tx d.name)
 c1 : w.cell? ⟨pb, 1, none⟩ = some (.int .i64 d.num)
 c2 : w.cell? ⟨pb, 2, none⟩ = some (.int .i64 d.conn)
 c3 : w.cell? ⟨pb, 3, none⟩ = some (rptr qb)
 c4 : w.cell? ⟨pb, 4, none⟩ = some (gup gb)
section
variable {qT : Bool} {B : Nat} {w0 w w' : World} {sb slb pb qb gb c c' i k : Nat} {bs : List Nat} {S S' : Sto} {L X Y : List Pq} {p p' : Pq} {d d' : Plq} {xv v : Value} {R SX SS F F' Z : List (Nat × Obj)} {o : Opt} {M : List Ent} {G : List Gst} {T : Nat} {V : SV}
theorem St.seeS {C : List (Nat × Obj)} (h : St B w0 w C) (m : (sb, soO slb xv v S) ∈ C) : SeeS w sb slb xv v S :=
 ⟨h.cell m rfl, h.cell m rfl, h.cell m rfl, h.cell m rfl, h.cell m rfl, h.cell m rfl, fun i => h.soft m i⟩
theorem St.seeP {C : List (Nat × Obj)} (h : St B w0 w C) (m : (pb, pqO d qb gb) ∈ C) : SeeP w pb qb gb d :=
 ⟨h.cell m rfl, h.cell m rfl, h.cell m rfl, h.cell m rfl, h.cell m rfl⟩
theorem StoIs.fine (h : StoIs qT B w0 w sb bs S F c) : FineS S := by
 obtain ⟨L, slb, xv, v, R, SX, SS, h1, -⟩ := h
 exact h1.fine
theorem StoIs.tab (h : StoIs qT B w0 w sb bs S F c) : (qT = true → Tab B w0) ∧ Most B w0 := by
 obtain ⟨L, slb, xv, v, R, SX, SS, h1, -⟩ := h
 exact ⟨h1.tab, h1.most⟩
theorem StoIs.len (h : StoIs qT B w0 w sb bs S F c) : bs.length = S.L.length := by
 obtain ⟨L, slb, xv, v, R, SX, SS, h1, -⟩ := h
 rw [← h1.data, ← h1.blks, List.length_map, List.length_map]
theorem StoIs.see (h : StoIs qT B w0 w sb bs S F c) : ∃ slb xv v, SeeS w sb slb xv v S := by
 obtain ⟨L, slb, xv, v, R, SX, SS, h1, h2⟩ := h
 exact ⟨slb, xv, v, h2.seeS (List.mem_append_left _ List.mem_cons_self)⟩
theorem StoIs.beside (h : StoIs qT B w0 w sb bs S F c) : ∃ O, St B w0 w (O ++ F) ∧ (∃ slb xv v, (sb, soO slb xv v S) ∈ O) ∧ ∀ w' F', St B w0 w' (O ++ F') → StoIs qT B w0 w' sb bs S F' c := by
 obtain ⟨L, slb, xv, v, R, SX, SS, h1, h2⟩ := h
 exact ⟨_, h2, ⟨slb, xv, v, List.mem_cons_self⟩, fun w' F' h' => ⟨L, slb, xv, v, R, SX, SS, h1, h'⟩⟩
theorem StoIs.grow (h : StoIs qT B w0 w sb bs S F c) (hb : Below w.heap.size w w') : StoIs qT B w0 w' sb bs S F c := by
 obtain ⟨O, h1, -, h2⟩ := h.beside
 exact h2 _ _ (h1.grow hb)
theorem StoIs.sub (h : StoIs qT B w0 w sb bs S F c) (hs : F'.Sublist F) : StoIs qT B w0 w sb bs S F' c := by
 obtain ⟨O, h1, -, h2⟩ := h.beside
 exact h2 _ _ (h1.sub ((List.Sublist.refl O).append hs))
theorem StoIs.permF (h : StoIs qT B w0 w sb bs S F c) (hp : F.Perm F') : StoIs qT B w0 w sb bs S F' c := by
 obtain ⟨O, h1, -, h2⟩ := h.beside
 exact h2 _ _ (h1.perm (hp.append_left O))
theorem StoIs.alloc (h : StoIs qT B w0 w sb bs S F c) (x : Obj) : StoIs qT B w0 (w.alloc x) sb bs S ((w.heap.size, x) :: F) c := by
 obtain ⟨O, h1, -, h2⟩ := h.beside
 exact h2 _ _ ((h1.alloc x).perm List.perm_middle.symm)
theorem StoIs.below (h : StoIs qT B w0 w sb bs S F c) : Below B w0 w := by
 obtain ⟨O, h1, -⟩ := h.beside
 exact h1.below
theorem StoIs.setF {cs : Array Value} {U : TypeId} {fr : Nat × Nat} {b : Nat} (h : StoIs qT B w0 w sb bs S ((b, .cells cs U fr) :: F) c) (i : Nat) (u : Value) : StoIs qT B w0 (w.setCell ⟨b, i, none⟩ u) sb bs S ((b, .cells (cs.setIfInBounds i u) U fr) :: F) c := by
 obtain ⟨O, h1, -, h2⟩ := h.beside
 exact h2 _ _ (h1.set i u)
theorem StoIs.cell {cs : Array Value} {U : TypeId} {fr : Nat × Nat} {b : Nat} (h : StoIs qT B w0 w sb bs S F c) (hm : (b, .cells cs U fr) ∈ F) {i : Nat} {u : Value} (hi : cs[i]? = some u) : w.cell? ⟨b, i, none⟩ = some u := by
 obtain ⟨O, h1, -⟩ := h.beside
 exact h1.cell (List.mem_append_right _ hm) hi
theorem StoIs.soft {cs : Array Value} {U : TypeId} {b : Nat} (h : StoIs qT B w0 w sb bs S F c) (hm : (b, .cells cs U) ∈ F) (i : Nat) : w.frozen? ⟨b, i, none⟩ = false := by
 obtain ⟨O, h1, -⟩ := h.beside
 exact h1.soft (List.mem_append_right _ hm) i
theorem StoIs.mono (h : StoIs qT B w0 w sb bs S F c) (hc : c ≤ c') : StoIs qT B w0 w sb bs S F c' := by
 obtain ⟨L, slb, xv, v, R, SX, SS, h1, h2⟩ := h
 refine ⟨L, slb, xv, v, R, SX, SS, { h1 with ways := ?_, c1 := Nat.le_trans h1.c1 hc }, h2⟩
 rcases h1.ways with h | ⟨xb, e, h⟩
 ·exact .inl h
 ·exact .inr ⟨xb, e, fun w F hst => (h w F hst).mono hc⟩
theorem FineS.sl (h : FineS S) (V : SV) : FineS { S with sl := V } := ⟨h.few, h.once, h.nums, h.top, h.num0, h.each, h.fine⟩
theorem StoIs.slab (h : StoIs qT B w0 w sb bs S F c) : ∃ slb Z, w.cell? ⟨sb, 0, none⟩ = some (ptr slb) ∧ SlabIs B w0 w slb S.sl (Z ++ F) ∧
  ∀ w' V F', SlabIs B w0 w' slb V (Z ++ F') → StoIs qT B w0 w' sb bs { S with sl := V } F' c := by
 obtain ⟨L, slb, xv, v, R, SX, SS, h1, h2⟩ := h
 have hp : ∀ SS F, (stoO sb slb xv v S L R SX SS ++ F).Perm (SS ++ (((sb, soO slb xv v S) :: (R ++ (SX ++ pqsO L))) ++ F)) := fun SS F => perm_by fun a => by
  simp only [stoO, List.count_append, List.count_cons]; omega
 refine ⟨slb, (sb, soO slb xv v S) :: (R ++ (SX ++ pqsO L)), (h2.seeS (List.mem_append_left _ List.mem_cons_self)).c0, h1.slab _ _ (h2.perm (hp SS F)), fun w' V F' h' => ?_⟩
 obtain ⟨SS', h3, h4⟩ := h'.in_
 exact ⟨L, slb, xv, v, R, SX, SS', { h1 with slab := h4, fine := h1.fine.sl V }, h3.perm (hp SS' F').symm⟩
theorem list_split {α : Type} {L : List α} {i : Nat} {p : α} (h : L[i]? = some p) : ∃ X Y, L = X ++ p :: Y ∧ X.length = i := by
 obtain ⟨hl, rfl⟩ := List.getElem?_eq_some_iff.1 h
 exact ⟨L.take i, L.drop (i + 1), by rw [← List.drop_eq_getElem_cons hl, List.take_append_drop], by rw [List.length_take]; omega⟩
theorem set_mid {α : Type} (X Y : List α) (p q : α) : (X ++ p :: Y).set X.length q = X ++ q :: Y := by simp
theorem FineS.set (h : FineS S) {i : Nat} {d d' : Plq} (hi : S.L[i]? = some d) (e1 : d'.name = d.name) (e2 : d'.num = d.num) (e3 : d'.o = d.o) : FineS { S with L := S.L.set i d' } := by
 obtain ⟨X, Y, hXY, rfl⟩ := list_split hi
 have e : S.L.set X.length d' = X ++ d' :: Y := by rw [hXY, set_mid]
 have a1 : ((S.L.set X.length d').map (·.name)) = S.L.map (·.name) := by rw [e, hXY]; simp [e1]
 have a2 : ((S.L.set X.length d').map (·.num)) = S.L.map (·.num) := by rw [e, hXY]; simp [e2]
 have hm : ∀ p ∈ S.L.set X.length d', p = d' ∨ p ∈ S.L := fun p hp => (List.mem_or_eq_of_mem_set hp).symm
 have hd := List.mem_of_getElem? hi
 refine ⟨by simp only [List.length_set]; exact h.few, by simp only [a1]; exact h.once, by simp only [a2]; exact h.nums, fun p hp => ?_, h.num0, fun p hp => ?_, h.fine⟩
 ·rcases hm p hp with rfl | hp
  ·rw [e2]; exact h.top d hd
  ·exact h.top p hp
 ·rcases hm p hp with rfl | hp
  ·rw [e1, e3]; exact h.each d hd
  ·exact h.each p hp
theorem StoIs.place (h : StoIs qT B w0 w sb bs S F c) (hi : S.L[i]? = some d) : ∃ pb qb gb, bs[i]? = some pb ∧ SeeP w pb qb gb d ∧
  (∃ Z, QuIs B w0 w qb d.o d.M (Z ++ F) ∧ ∀ w' M F', QuIs B w0 w' qb d.o M (Z ++ F') → SeeP w' pb qb gb d ∧ StoIs qT B w0 w' sb bs (S.setM i d M) F' c) ∧
  (∃ Z, GuIsX qT B w0 w gb d.G d.T (Z ++ F) ∧ ∀ w' G T F', GuIsX qT B w0 w' gb G T (Z ++ F') → SeeP w' pb qb gb d ∧ StoIs qT B w0 w' sb bs { S with L := S.L.set i { d with G := G, T := T } } F' c) := by
 obtain ⟨L, slb, xv, v, R, SX, SS, h1, h2⟩ := h
 have hi' := hi
 rw [← h1.data, List.getElem?_map, Option.map_eq_some_iff] at hi
 obtain ⟨p, hp, rfl⟩ := hi
 obtain ⟨X, Y, rfl, rfl⟩ := list_split hp
 have ok := h1.pls p (List.mem_append_right _ List.mem_cons_self)
 have hb : bs[X.length]? = some p.b := by rw [← h1.blks, List.getElem?_map, hp]; rfl
 have hpq : ∀ (q : Pq) F, (stoO sb slb xv v S (X ++ q :: Y) R SX SS ++ F).Perm (q.SQ ++ (((q.b, pqO q.d q.qb q.gb) :: (q.SG ++ ((sb, soO slb xv v S) :: (R ++ (SX ++ (SS ++ pqsO (X ++ Y))))))) ++ F)) := fun q F => perm_by fun a => by
  simp only [stoO, pqsO, Pq.objs, List.flatMap_append, List.flatMap_cons, List.count_append, List.count_cons]; omega
 have hpg : ∀ (q : Pq) F, (stoO sb slb xv v S (X ++ q :: Y) R SX SS ++ F).Perm (q.SG ++ (((q.b, pqO q.d q.qb q.gb) :: (q.SQ ++ ((sb, soO slb xv v S) :: (R ++ (SX ++ (SS ++ pqsO (X ++ Y))))))) ++ F)) := fun q F => perm_by fun a => by
  simp only [stoO, pqsO, Pq.objs, List.flatMap_append, List.flatMap_cons, List.count_append, List.count_cons]; omega
 have hsp := h2.perm (hpq p F)
 have hsee : SeeP w p.b p.qb p.gb p.d := hsp.seeP (List.mem_append_right _ (List.mem_append_left _ List.mem_cons_self))
 have hdata : ∀ q : Pq, (X ++ q :: Y).map Pq.d = S.L.set X.length q.d := fun q => by
  rw [← h1.data, List.map_append, List.map_cons, List.map_append, List.map_cons]
  have := set_mid (X.map Pq.d) (Y.map Pq.d) p.d q.d
  rw [List.length_map] at this
  exact this.symm
 have hblks : ∀ q : Pq, q.b = p.b → (X ++ q :: Y).map Pq.b = bs := fun q e => by rw [← h1.blks]; simp [e]
 have hpls : ∀ q : Pq, PqOk qT B w0 q → ∀ x ∈ X ++ q :: Y, PqOk qT B w0 x := fun q hq x hx => by
  rcases List.mem_append.1 hx with hx | hx
  ·exact h1.pls x (List.mem_append_left _ hx)
  ·rcases List.mem_cons.1 hx with rfl | hx
   ·exact hq
   ·exact h1.pls x (List.mem_append_right _ (List.mem_cons_of_mem _ hx))
 refine ⟨p.b, p.qb, p.gb, hb, hsee, ⟨_, ok.qu _ _ hsp, fun w' M F' h' => ?_⟩, ⟨_, ok.gu _ _ (h2.perm (hpg p F)), fun w' G T F' h' => ?_⟩⟩
 ·obtain ⟨SQ', h3, h4⟩ := h'.in_
  refine ⟨h3.seeP (List.mem_append_right _ (List.mem_append_left _ List.mem_cons_self)), X ++ { p with d := { p.d with M := M }, SQ := SQ' } :: Y, slb, xv, v, R, SX, SS, ?_, h3.perm (hpq { p with d := { p.d with M := M }, SQ := SQ' } F').symm⟩
  exact ⟨hdata _, hblks _ rfl, h1.sl, h1.slab, h1.ways, hpls _ ⟨h4, ok.gu⟩, h1.fine.set hi' rfl rfl rfl, h1.tab, h1.most, h1.c1⟩
 ·obtain ⟨SG', h3, h4⟩ := h'.in_
  refine ⟨h3.seeP (List.mem_append_right _ (List.mem_append_left _ List.mem_cons_self)), X ++ { p with d := { p.d with G := G, T := T }, SG := SG' } :: Y, slb, xv, v, R, SX, SS, ?_, h3.perm (hpg { p with d := { p.d with G := G, T := T }, SG := SG' } F').symm⟩
  exact ⟨hdata _, hblks _ rfl, h1.sl, h1.slab, h1.ways, hpls _ ⟨ok.qu, h4⟩, h1.fine.set hi' rfl rfl rfl, h1.tab, h1.most, h1.c1⟩
theorem StoIs.rows (h : StoIs qT B w0 w sb bs S F c) : ∃ a cap, w.cell? ⟨sb, 2, none⟩ = some (.slice a bs.length cap) ∧ ∀ (i : Nat) b, bs[i]? = some b → ∃ g off, a = some ⟨g, off, none⟩ ∧ w.cell? ⟨g, off + i, none⟩ = some (bpt b) := by
 obtain ⟨L, slb, xv, v, R, SX, SS, h1, h2⟩ := h
 obtain ⟨a, cap, rfl, -, -, ha⟩ := h1.sl.form
 refine ⟨a, cap, (h2.seeS (List.mem_append_left _ List.mem_cons_self)).c2, fun i b hb => ?_⟩
 have hl := (List.getElem?_eq_some_iff.1 hb).1
 obtain ⟨g, off, rfl⟩ := ha i hl
 refine ⟨g, off, rfl, ?_⟩
 have h3 : St B w0 w ((((sb, soO slb xv (.slice (some ⟨g, off, none⟩) bs.length cap) S) :: (SX ++ (SS ++ pqsO L))) ++ F) ++ R) := h2.perm (perm_by fun a => by simp only [stoO, List.count_append, List.count_cons]; omega)
 exact h1.sl.cellAt h3 (by rw [List.getElem?_map, hb]; rfl)
end
end Go.Proofs.YtknjamfjonapiaaGreatDoor
namespace Go.Proofs.YtknjamfjonapiaaGreatDoor
open Go.RowKit
set_option linter.unusedVariables false
def exclB (n : Int) : Bool := bits .and .i64 n 1 != 0
def passB (n : Int) : Bool := bits .and .i64 n 8 != 0
def Sto.at_ (S : Sto) (n : List UInt8) : Option (Nat × Plq) := (S.idx n).bind fun i => (S.L[i]?).map fun d => (i, d)
def Sto.open_ (S : Sto) (n : List UInt8) (q : Int) : Int × Option (Nat × Plq) := match S.at_ n with
 | none => (404, none)
 | some x => if exclB x.2.o.bits = true ∧ x.2.conn ≠ q then (405, none) else (0, some x)
def Sto.byNum (S : Sto) (k : Int) : Option Nat := S.L.findIdx? fun p => p.num == k
def Sto.setG (S : Sto) (i : Nat) (d : Plq) (G : List Gst) (T : Nat) : Sto := { S with L := S.L.set i { d with G := G, T := T } }
def Sto.declare (S : Sto) (n : List UInt8) (o : Opt) (q : Int) : Sto × Int :=
 if isNm n = false ∨ isO o = false then (S, 406)
 else match S.open_ n q with
 | (_, some x) => if sameO x.2.o o = true then (S, 0) else (S, 406)
 | (e, none) => if e = 405 then (S, 405) else if 8 ≤ S.L.length then (S, 506)
  else ({ S with num := S.num + 1, L := S.L ++ [⟨n, S.num + 1, q, o, [], [], 0⟩] }, 0)
def Sto.asked (S : Sto) (n : List UInt8) (q : Int) : Int × Int × Int := match S.open_ n q with
 | (e, none) => (0, 0, e)
 | (_, some x) => (x.2.M.length, x.2.G.length, 0)
def Sto.queue (S : Sto) (n : List UInt8) (o : Opt) (q : Int) : Sto × Int × Int × Int :=
 if passB o.bits = true then (S, S.asked n q)
 else if (S.declare n o q).2 ≠ 0 then ((S.declare n o q).1, 0, 0, (S.declare n o q).2)
 else ((S.declare n o q).1, (S.declare n o q).1.asked n q)
def Sto.exch (S : Sto) (n k : List UInt8) (bt : Int) : Sto × Int := ({ S with P := (declX S.P n (kindL k) (autoB bt)).1 }, (declX S.P n (kindL k) (autoB bt)).2)
def Sto.bind (S : Sto) (b : Bnd) (q : Int) : Sto × Int := match S.open_ b.2.1 q with
 | (e, none) => (S, e)
 | (_, some _) => ({ S with A := (bindX S.P S.A b).1 }, (bindX S.P S.A b).2)
def Sto.take (S : Sto) (n : List UInt8) (q : Int) : Sto × Ent × Int × Int × Int := match S.open_ n q with
 | (e, none) => (S, z0E, 0, 0, e)
 | (_, some x) => match x.2.M with
  | [] => (S, z0E, 0, 0, 14)
  | e :: M => (S.setM x.1 x.2 M, e, x.2.num, M.length, 0)
def Sto.consume (S : Sto) (n : List UInt8) (g : Gst) : Sto × Int := match S.open_ n g.conn with
 | (e, none) => (S, e)
 | (_, some x) => if soleG x.2.G = true ∨ (g.sole = true ∧ 0 < x.2.G.length) then (S, 403)
  else if addOkG x.2.G g = true then (S.setG x.1 x.2 (addG x.2.G g) x.2.T, 0) else (S, 406)
def Sto.dead (S : Sto) (k : Int) (e : Ent) : Sto := match S.byNum k with
 | none => S.letGo e.body
 | some i => (Cf.mk S [.dead i [e]] false).fin.S
def Sto.pubC (S : Sto) (e : Ent) : Cf := (Cf.mk S.born [S.mail true e] false).fin
def Sto.publish (S : Sto) (e : Ent) : Sto × Bool × Int := ((S.pubC e).S, !(S.pubC e).r, (S.tos e.exch e.key).length)
def Sto.unused (S : Sto) (i : Nat) : Sto := match S.L[i]? with
 | none => S
 | some d => if autoB d.o.bits = true ∧ d.G = [] then S.removed i d else S
def Sto.tick1 (S : Sto) (i : Nat) : Sto := match S.L[i]? with
 | none => S
 | some d => (Cf.mk (S.setM i d (d.M.filter fun x => !goneE x S.now)) [.dead i (d.M.filter fun x => goneE x S.now)] false).fin.S
def Sto.readyOf (S : Sto) (n : List UInt8) : List Ent := match S.at_ n with | none => [] | some x => x.2.M
def Sto.guestsOf (S : Sto) (n : List UInt8) : List Gst := match S.at_ n with | none => [] | some x => x.2.G
end Go.Proofs.YtknjamfjonapiaaGreatDoor
namespace Go.Proofs.YtknjamfjonapiaaGreatDoor
open Go.RowKit
set_option linter.unusedVariables false
set_option linter.unusedSectionVars false
set_option linter.unusedSimpArgs false
set_option maxRecDepth 100000
abbrev ptrO (o : Option Nat) : Value := .pointer (o.map fun b => ⟨b, 0, none⟩)
def ptrQ (bs : List Nat) (o : Option Nat) : Value := ptrO (o.bind fun i => bs[i]?)
theorem ptrQ_none (bs : List Nat) : ptrQ bs none = .pointer none := rfl
theorem ptrQ_some {bs : List Nat} {i b : Nat} (h : bs[i]? = some b) : ptrQ bs (some i) = bpt b := by
 simp [ptrQ, ptrO, h]
structure TellsQ (w : World) (g : Nat) (cb : Array Value) (bs : List Nat) (L : List Plq) (f : Plq → Bool) : Prop where
 go : ∀ args w, (callFunc g args).run Tryz.prog w = .ok (.enter g args) w
 is : ∀ w1, Below w.heap.size w w1 → ∀ (i b : Nat) d, bs[i]? = some b → L[i]? = some d → Calls Tryz.prog g (#[bpt b] ++ cb) w1 fun e w2 => e = .returned (.bool (f d)) ∧ Below w1.heap.size w1 w2
def SFindJ (w : World) (sb : Nat) (fv : Value) (bs : List Nat) (L : List Plq) (f : Plq → Bool) (g : Nat) (a' : Act) (w' : World) : Prop :=
 ∃ i : Nat, i + g = bs.length ∧ (∀ (j : Nat) d, j < i → L[j]? = some d → f d = false) ∧ Fr 31 [(0, bpt sb), (1, fv), (5, .int .i64 i)] a' ∧ Below w.heap.size w w'
theorem findIdx_here {L : List Plq} {f : Plq → Bool} {i : Nat} {d : Plq} (h : ∀ (j : Nat) d, j < i → L[j]? = some d → f d = false) (hd : L[i]? = some d) (hf : f d = true) : L.findIdx? f = some i := by
 rw [List.findIdx?_eq_some_iff_getElem]
 obtain ⟨hl, rfl⟩ := List.getElem?_eq_some_iff.1 hd
 exact ⟨hl, hf, fun j hj => by rw [h j _ hj (List.getElem?_eq_getElem (by omega))]; decide⟩
theorem findIdx_nowhere {L : List Plq} {f : Plq → Bool} (h : ∀ (j : Nat) d, j < L.length → L[j]? = some d → f d = false) : L.findIdx? f = none := by
 rw [List.findIdx?_eq_none_iff]
 intro x hx
 obtain ⟨j, hj, rfl⟩ := List.mem_iff_getElem.1 hx
 exact h j _ hj (List.getElem?_eq_getElem hj)
section
variable {qT : Bool} {B : Nat} {w0 w w' : World} {sb pb qb gb c c' i k : Nat} {bs : List Nat} {S S' : Sto} {d d' : Plq} {F F' Z : List (Nat × Obj)} {o : Opt} {M : List Ent} {G : List Gst} {T : Nat} {n : List UInt8} {q : Int}
set_option maxHeartbeats 2000000 in
theorem sfind_any {g : Nat} {cb : Array Value} {f : Plq → Bool} (h : StoIs qT B w0 w sb bs S F c) (hp : TellsQ w g cb bs S.L f) :
  Calls Tryz.prog 126 #[bpt sb, .func (.func g) #[] cb] w fun e w' => e = .returned (ptrQ bs (S.L.findIdx? f)) ∧ Below w.heap.size w w' := by
 obtain ⟨eg, his⟩ := hp
 obtain ⟨a, cap, c2, hrows⟩ := h.rows
 have hlen := Lib.hid h.len
 have hfew : bs.length ≤ 8 := by have := h.fine.few; rw [h.len]; exact this
 have hc := Lib.hid (fun w' (hb : Below w.heap.size w w') => cellUp c2 hb)
 have hr : Hid (∀ w', Below w.heap.size w w' → ∀ (i : Nat) b, bs[i]? = some b → ∃ g off, a = some ⟨g, off, none⟩ ∧ w'.cell? ⟨g, off + i, none⟩ = some (bpt b)) := Lib.hid fun w' hb i b hi => by
  obtain ⟨g, off, e, hcell⟩ := hrows i b hi
  exact ⟨g, off, e, cellUp hcell hb⟩
 have hg := Lib.hid his
 obtain ⟨ans, ha⟩ : ∃ ans, ans = ptrQ bs (S.L.findIdx? f) := ⟨_, rfl⟩
 rw [← ha]
 replace ha := Lib.hid ha
 clear h hrows his c2
 go_enter Tryz.func126, Tryz.ntmps126
 go_wp2_with fail
 refine wp_scope_ghost 0 (SFindJ w sb (.func (.func g) #[] cb) bs S.L f) rfl ?_ ?_
 ·rintro m a' w' ⟨i, hi, hno, hfr, hbel⟩
  obtain ⟨q, rfl, hl'⟩ := hfr.lit
  clear hfr
  simp only [List.mem_cons, List.not_mem_nil, or_false, forall_eq_or_imp, forall_eq] at hl'
  obtain ⟨f0, f1, f5⟩ := hl'
  simp only [List.range, List.range.loop, List.map, f0, f1, f5]
  clear f0 f1 f5
  have hi0 : (0 : Int) ≤ i := by omega
  have ct := hc.out w' hbel
  by_cases hlt : i < bs.length
  ·have hx : bs[i]? = some bs[i] := List.getElem?_eq_getElem hlt
   have hlt2 : i < S.L.length := by have := hlen.out; omega
   have hd : S.L[i]? = some S.L[i] := List.getElem?_eq_getElem hlt2
   generalize bs[i] = b at hx
   generalize S.L[i] = d at hd
   have hi1 : (i : Int) < bs.length := by omega
   have hne : ((i : Int) == bs.length) = false := by rw [beq_eq_false_iff_ne]; omega
   obtain ⟨g1, o1, rfl, k1⟩ := hr.out w' hbel i b hx
   have cc := Lib.hid (hg.out w' hbel i b d hx hd)
   have hx2 : Hid (∀ w2, Below w'.heap.size w' w2 → w2.cell? ⟨sb, 2, none⟩ = some (.slice (some ⟨g1, o1, none⟩) bs.length cap) ∧ w2.cell? ⟨g1, o1 + i, none⟩ = some (bpt b)) := Lib.hid fun w2 hb => ⟨cellUp ct hb, cellUp k1 hb⟩
   cases hfd : f d with
   | true =>
    have e1 : ans = bpt b := by rw [ha.out, findIdx_here hno hd hfd, ptrQ_some hx]
    rw [hfd] at cc
    have fin := Lib.hid (fun w2 (hb : Below w'.heap.size w' w2) => bel hbel hb)
    subst e1
    clear hno hx hd hfd hg hr ha hbel
    go_wp2_with fail
    refine cc.out.mono ?_
    rintro e w2 ⟨rfl, hb⟩
    obtain ⟨y1, y2⟩ := hx2.out w2 hb
    replace fin := Lib.hid (fin.out w2 hb)
    clear hb hx2 cc ct k1
    go_wp2_with fail
    simp only [Exit.jump]
    go_ret
    exact ⟨rfl, fin.out⟩
   | false =>
    rw [hfd] at cc
    have nxt : Hid (∀ w2, Below w'.heap.size w' w2 → ∀ a', Fr 31 [(0, bpt sb), (1, .func (.func g) #[] cb), (5, .int .i64 ((i + 1 : Nat) : Int))] a' → ∃ k, k < m ∧ SFindJ w sb (.func (.func g) #[] cb) bs S.L f k a' w2) := Lib.hid fun w2 hb a' hf =>
     ⟨m - 1, by omega, i + 1, by omega, fun j d' hj hd' => by
      rcases Nat.lt_succ_iff_lt_or_eq.1 hj with hj | rfl
      ·exact hno j d' hj hd'
      ·rw [hd] at hd'
       obtain rfl := Option.some.inj hd'
       exact hfd, hf, bel hbel hb⟩
    clear hno hx hd hfd hg hr ha hbel
    go_wp2_with fail
    refine cc.out.mono ?_
    rintro e w2 ⟨rfl, hb⟩
    replace nxt := Lib.hid (nxt.out w2 hb)
    clear hb hx2 cc ct k1
    go_wp2_with fail
    refine wp_goto ?_
    exact ⟨rfl, nxt.out _ ⟨rfl, rfl, by simp⟩⟩
  ·obtain rfl : i = bs.length := by omega
   have e1 : ans = .pointer none := by
    rw [ha.out, findIdx_nowhere (fun j d hj => hno j d (by have := hlen.out; omega)), ptrQ_none]
   subst e1
   replace hbel := Lib.hid hbel
   clear hno hg hr ha
   go_wp2_with fail
   simp only [Exit.jump]
   go_ret
   exact ⟨rfl, hbel.out⟩
 ·intro H
  clear hg hr ha hc
  go_wp2_with fail
  refine wp_label ?_
  go_step
  go_step
  exact H bs.length _ _ ⟨0, by omega, fun j d hj => absurd hj (by omega), ⟨rfl, rfl, by simp⟩, Below.refl _ _⟩
theorem StoIs.seeP (h : StoIs qT B w0 w sb bs S F c) {b : Nat} (hb : bs[i]? = some b) (hd : S.L[i]? = some d) : ∃ qb gb, SeeP w b qb gb d := by
 obtain ⟨pb, qb, gb, h1, h2, -⟩ := h.place hd
 rw [hb] at h1
 obtain rfl := Option.some.inj h1
 exact ⟨qb, gb, h2⟩
set_option maxHeartbeats 1000000 in
theorem named_one {b nb : Nat} {x n : List UInt8} {r : Bool} (hr : (x == n) = r) (h1 : w.cell? ⟨b, 0, none⟩ = some (tx x)) (h2 : w.cell? ⟨nb, 0, none⟩ = some (tx n)) :
  Calls Tryz.prog 127 #[bpt b, bpt nb] w fun e w2 => e = .returned (.bool r) ∧ Below w.heap.size w w2 := by
 go_enter Tryz.func127, Tryz.ntmps127
 go_wp2_with fail
 go_quiet (fail)
 go_wp2_with fail
 go_ret
 exact ⟨rfl, drewN_below w _⟩
set_option maxHeartbeats 1000000 in
theorem numbered_one {b nb : Nat} {x n : Int} {r : Bool} (hr : (x == n) = r) (h1 : w.cell? ⟨b, 1, none⟩ = some (.int .i64 x)) (h2 : w.cell? ⟨nb, 0, none⟩ = some (.int .i64 n)) :
  Calls Tryz.prog 151 #[bpt b, bpt nb] w fun e w2 => e = .returned (.bool r) ∧ Below w.heap.size w w2 := by
 go_enter Tryz.func151, Tryz.ntmps151
 go_wp2_with fail
 go_quiet (fail)
 go_wp2_with fail
 go_ret
 exact ⟨rfl, drewN_below w _⟩
set_option maxHeartbeats 1000000 in
theorem named_any (h : StoIs qT B w0 w sb bs S F c) (n : List UInt8) : Calls Tryz.prog 68 #[bpt sb, tx n] w fun e w' => e = .returned (ptrQ bs (S.idx n)) ∧ Below w.heap.size w w' := by
 have h1 := h.alloc (.cells #[tx n] 9)
 have hn : (w.alloc (.cells #[tx n] 9)).cell? ⟨w.heap.size, 0, none⟩ = some (tx n) := h1.cell List.mem_cons_self rfl
 have ht : TellsQ (w.alloc (.cells #[tx n] 9)) 127 #[bpt w.heap.size] bs S.L (fun p => p.name == n) := ⟨fun args w => by kernel_rfl, fun w1 hb i b d hi hd => by
  obtain ⟨qb, gb, hs⟩ := h1.seeP hi hd
  exact named_one rfl (cellUp hs.c0 hb) (cellUp hn hb)⟩
 have cf := Lib.hid (sfind_any h1 ht)
 have fin := Lib.hid (fun w2 (hb : Below (w.alloc (.cells #[tx n] 9)).heap.size (w.alloc (.cells #[tx n] 9)) w2) => bel (new_below w (.cells #[tx n] 9)) hb)
 obtain ⟨ans, ha⟩ : ∃ ans, ans = ptrQ bs (S.idx n) := ⟨_, rfl⟩
 rw [← ha]
 rw [show ptrQ bs (S.L.findIdx? fun p => p.name == n) = ans from ha.symm] at cf
 clear h h1 hn ht ha
 go_enter Tryz.func68, Tryz.ntmps68
 go_wp2_with fail
 refine cf.out.mono ?_
 rintro e w2 ⟨rfl, hb⟩
 replace fin := Lib.hid (fin.out w2 hb)
 clear cf hb
 go_wp2_with fail
 go_ret
 exact ⟨rfl, fin.out⟩
set_option maxHeartbeats 1000000 in
theorem numbered_any (h : StoIs qT B w0 w sb bs S F c) (n : Int) : Calls Tryz.prog 84 #[bpt sb, .int .i64 n] w fun e w' => e = .returned (ptrQ bs (S.byNum n)) ∧ Below w.heap.size w w' := by
 have h1 := h.alloc (.cells #[.int .i64 n] 3)
 have hn : (w.alloc (.cells #[.int .i64 n] 3)).cell? ⟨w.heap.size, 0, none⟩ = some (.int .i64 n) := h1.cell List.mem_cons_self rfl
 have ht : TellsQ (w.alloc (.cells #[.int .i64 n] 3)) 151 #[bpt w.heap.size] bs S.L (fun p => p.num == n) := ⟨fun args w => by kernel_rfl, fun w1 hb i b d hi hd => by
  obtain ⟨qb, gb, hs⟩ := h1.seeP hi hd
  exact numbered_one rfl (cellUp hs.c1 hb) (cellUp hn hb)⟩
 have cf := Lib.hid (sfind_any h1 ht)
 have fin := Lib.hid (fun w2 (hb : Below (w.alloc (.cells #[.int .i64 n] 3)).heap.size (w.alloc (.cells #[.int .i64 n] 3)) w2) => bel (new_below w (.cells #[.int .i64 n] 3)) hb)
 obtain ⟨ans, ha⟩ : ∃ ans, ans = ptrQ bs (S.byNum n) := ⟨_, rfl⟩
 rw [← ha]
 rw [show ptrQ bs (S.L.findIdx? fun p => p.num == n) = ans from ha.symm] at cf
 clear h h1 hn ht ha
 go_enter Tryz.func84, Tryz.ntmps84
 go_wp2_with fail
 refine cf.out.mono ?_
 rintro e w2 ⟨rfl, hb⟩
 replace fin := Lib.hid (fin.out w2 hb)
 clear cf hb
 go_wp2_with fail
 go_ret
 exact ⟨rfl, fin.out⟩
theorem uOptB : ∃ fs f, Tryz.prog.underlying 34 = some (.struct fs) ∧ fs[5]? = some f ∧ f.type = 3 ∧ f.offset = 5 := by
 have h : (Tryz.prog.underlying 34).map (fun t => match t with | .struct fs => (fs[5]?).map (fun f => (f.type, f.offset)) | _ => none) = some (some (3, 5)) := by kernel_rfl
 rw [Option.map_eq_some_iff] at h
 obtain ⟨t, h1, h2⟩ := h
 cases t <;> simp only at h2 <;> try (cases h2; done)
 rw [Option.map_eq_some_iff] at h2
 obtain ⟨f, h3, h4⟩ := h2
 simp only [Prod.mk.injEq] at h4
 exact ⟨_, _, h1, h3, h4.1, h4.2⟩
theorem field_bits (v : Int) (x0 x1 x2 x3 x4 : Value) (W : World) : (Instr.field 34 (.agg #[x0, x1, x2, x3, x4, .int .i64 v]) 5).run Tryz.prog W = .ok (.int .i64 v) W := by
 obtain ⟨fs, f, h1, h2, h3, h4⟩ := uOptB
 simp [Instr.field, go_sem, asAgg, h1, h2, h3, h4]
set_option maxHeartbeats 1000000 in
theorem excl_any (h : QuIs B w0 w qb o M F) (h3 : w.cell? ⟨pb, 3, none⟩ = some (rptr qb)) : Calls Tryz.prog 92 #[bpt pb] w fun e w' => e = .returned (.bool (exclB o.bits)) ∧ QuIs B w0 w' qb o M F := by
 have co := Lib.hid (qu_opts h)
 have hf := fun W => field_bits o.bits (tx o.dead) (tx o.deadKey) (.int .i64 o.maxLen) (.int .i64 o.ttl) (.int .i64 o.prio) W
 unfold exclB
 clear h
 go_enter Tryz.func92, Tryz.ntmps92
 go_wp2_with fail
 refine co.out.mono ?_
 rintro e w2 ⟨rfl, hq⟩
 replace hq := Lib.hid hq
 clear co
 go_wp2_with fail
 go_ret
 exact ⟨rfl, hq.out⟩
end
end Go.Proofs.YtknjamfjonapiaaGreatDoor
