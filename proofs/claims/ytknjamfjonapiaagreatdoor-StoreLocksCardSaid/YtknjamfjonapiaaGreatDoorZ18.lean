import Derived.Test.YtknjamfjonapiaaGreatDoorZ02
import Derived.Test.YtknjamfjonapiaaGreatDoorZ16
import Derived.Test.YtknjamfjonapiaaGreatDoorZ17
import Derived.Laws.BitsLemmas
import Derived.Deep.RegionHeld3
import Derived.Deep.RegionLaw
import Derived.Deep.RegionWith
import Derived.StillTailTactics
import Derived.Deep.QuietTactic
import Derived.BigQuiet
import Derived.Test.YtknjamfjonapiaaGreatDoorZ07
import Derived.Test.YtknjamfjonapiaaGreatDoorZ01
import Derived.LaidEqlPtr
import Derived.Test.YtknjamfjonapiaaGreatDoorZ05
namespace Go.Proofs.YtknjamfjonapiaaGreatDoor
open Go.RowKit
set_option linter.unusedVariables false
set_option maxRecDepth 100000
theorem perm_by {α : Type} {l m : List α} (h : ∀ [DecidableEq α] (a : α), l.count a = m.count a) : l.Perm m := by
 classical
 exact List.perm_iff_count.2 fun a => h a
def TrIn (tb : Nat) (M : Prs) (c : Nat) (T : List (Nat × Obj)) : Prop :=
 ∃ L, T = objsL L ∧ TreeOk L tb c ∧ (∀ p k, HasId L p k ↔ (p, k) ∈ M) ∧ M.Nodup ∧ RootX L [.int .i64 M.length]
def TaIn (tv : Value) (A : List Bnd) (Q : List (Nat × Obj)) : Prop :=
 (tv = .pointer none ∧ A = [] ∧ Q = []) ∨ ∃ tb u S, tv = bpt tb ∧ Q = (tb, .cells #[u] 273) :: S ∧ BnsIs u A S
structure Ky where
 kb : Nat
 tb : Nat
 v : Value
 ids : List Int
 S : List (Nat × Obj)
 T : List (Nat × Obj)
structure Pl where
 b : Nat
 d : Plc
 k : Option Ky
def Ky.objs (k : Ky) : List (Nat × Obj) := (k.kb, .cells #[bpt k.tb, k.v] 277) :: (k.S ++ k.T)
def kpt (k : Option Ky) : Value := .pointer (k.map fun k => ⟨k.kb, 0, none⟩)
def kobjs : Option Ky → List (Nat × Obj)
 | none => []
 | some k => k.objs
def Pl.objs (p : Pl) : List (Nat × Obj) := (p.b, .cells #[tx p.d.1, .int .i64 p.d.2.1, .bool p.d.2.2, kpt p.k] 217) :: kobjs p.k
def plsO (L : List Pl) : List (Nat × Obj) := L.flatMap Pl.objs
structure KyOk (k : Ky) (keys : List (List UInt8)) (c : Nat) : Prop where
 ids : SlIs 3 1 k.v k.ids.length (k.ids.map encI) k.S
 len : keys.length = k.ids.length
 rise : k.ids.Pairwise (· < ·)
 top : ∀ i ∈ k.ids, 0 ≤ i ∧ i < (c : Int)
 tree : TrIn k.tb ((keys.map wordsL).zip k.ids) c k.T
def keysOf (A : List Bnd) (n : List UInt8) : List (List UInt8) := (ofB A n).map (·.2.2)
structure PlOk (A : List Bnd) (c : Nat) (p : Pl) : Prop where
 has : p.k.isSome = (p.d.2.1 == 3)
 ky : ∀ k, p.k = some k → KyOk k (keysOf A p.d.1) c
structure ExIn (L : List Pl) (v tv : Value) (R Q : List (Nat × Obj)) (A : List Bnd) (c : Nat) : Prop where
 fine : FineX (L.map Pl.d) A
 sl : SlIs 188 1 v L.length (L.map fun p => bpt p.b) R
 tab : TaIn tv A Q
 pls : ∀ p ∈ L, PlOk A c p
def exO (xb : Nat) (v tv : Value) (L : List Pl) (R Q : List (Nat × Obj)) : List (Nat × Obj) := (xb, .cells #[v, tv] 209) :: (R ++ (Q ++ plsO L))
def ExIs (B : Nat) (w0 w : World) (xb : Nat) (P : List Plc) (A : List Bnd) (F : List (Nat × Obj)) (c : Nat) : Prop :=
 ∃ L v tv R Q, L.map Pl.d = P ∧ ExIn L v tv R Q A c ∧ St B w0 w (exO xb v tv L R Q ++ F)
def findL (L : List Pl) (n : List UInt8) : Option Pl := L.find? fun p => p.d.1 == n
def ptrF (L : List Pl) (n : List UInt8) : Value := .pointer ((findL L n).map fun p => ⟨p.b, 0, none⟩)
section
variable {B : Nat} {w0 w w' : World} {F T R Q S : List (Nat × Obj)} {tb xb c c' : Nat} {M : Prs} {L X Y : List Pl} {p p' : Pl} {k : Ky} {A : List Bnd} {P : List Plc} {v tv : Value} {n : List UInt8} {keys : List (List UInt8)}
theorem TrIn.is (h : TrIn tb M c T) (hst : St B w0 w (T ++ F)) : TrIs B w0 w tb M F c := by
 obtain ⟨L, rfl, h2⟩ := h
 exact ⟨L, hst, h2⟩
theorem TrIn.of (h : TrIs B w0 w tb M F c) : ∃ T, TrIn tb M c T ∧ St B w0 w (T ++ F) := by
 obtain ⟨L, h1, h2⟩ := h
 exact ⟨objsL L, ⟨L, rfl, h2⟩, h1⟩
theorem TrIn.mono (h : TrIn tb M c T) (hc : c ≤ c') : TrIn tb M c' T := by
 obtain ⟨L, h1, h2, h3⟩ := h
 exact ⟨L, h1, h2.mono hc, h3⟩
theorem KyOk.mono (h : KyOk k keys c) (hc : c ≤ c') : KyOk k keys c' :=
 ⟨h.ids, h.len, h.rise, fun i hi => by have := h.top i hi; omega, h.tree.mono hc⟩
theorem PlOk.mono (h : PlOk A c p) (hc : c ≤ c') : PlOk A c' p := ⟨h.has, fun k hk => (h.ky k hk).mono hc⟩
theorem ExIn.mono (h : ExIn L v tv R Q A c) (hc : c ≤ c') : ExIn L v tv R Q A c' := ⟨h.fine, h.sl, h.tab, fun p hp => (h.pls p hp).mono hc⟩
theorem findL_d (L : List Pl) (n : List UInt8) : findP (L.map Pl.d) n = (findL L n).map Pl.d := by
 unfold findP findL
 rw [List.find?_map]
 rfl
theorem findL_mem (h : findL L n = some p) : p ∈ L ∧ p.d.1 = n := ⟨List.mem_of_find?_eq_some h, by simpa using List.find?_some h⟩
theorem findL_none : findL L n = none ↔ ∀ p ∈ L, p.d.1 ≠ n := by
 unfold findL
 rw [List.find?_eq_none]
 simp
theorem plsO_append : plsO (X ++ Y) = plsO X ++ plsO Y := by simp [plsO]
theorem plsO_cons : plsO (p :: Y) = p.objs ++ plsO Y := by simp [plsO]
theorem exO_split : (exO xb v tv (X ++ p :: Y) R Q ++ F).Perm (p.objs ++ (exO xb v tv (X ++ Y) R Q ++ F)) := by
 refine perm_by fun a => ?_
 unfold exO
 rw [plsO_append, plsO_append, plsO_cons]
 simp only [List.count_append, List.count_cons, List.append_assoc, List.cons_append]
 omega
theorem mem_exO_place (hp : p ∈ L) : (p.b, .cells #[tx p.d.1, .int .i64 p.d.2.1, .bool p.d.2.2, kpt p.k] 217) ∈ exO xb v tv L R Q ++ F := by
 refine List.mem_append_left _ (List.mem_cons_of_mem _ (List.mem_append_right _ (List.mem_append_right _ ?_)))
 exact List.mem_flatMap.2 ⟨p, hp, List.mem_cons_self⟩
theorem mem_exO_head : (xb, .cells #[v, tv] 209) ∈ exO xb v tv L R Q ++ F := List.mem_append_left _ List.mem_cons_self
theorem St.ex (h : St B w0 w (exO xb v tv L R Q ++ F)) : w.cell? ⟨xb, 0, none⟩ = some v ∧ w.cell? ⟨xb, 1, none⟩ = some tv ∧ w.frozen? ⟨xb, 0, none⟩ = false ∧ w.frozen? ⟨xb, 1, none⟩ = false :=
 ⟨h.cell (b := xb) (i := 0) mem_exO_head rfl, h.cell (b := xb) (i := 1) mem_exO_head rfl, h.soft (b := xb) mem_exO_head 0, h.soft (b := xb) mem_exO_head 1⟩
theorem St.place (h : St B w0 w (exO xb v tv L R Q ++ F)) (hp : p ∈ L) : w.cell? ⟨p.b, 0, none⟩ = some (tx p.d.1) ∧ w.cell? ⟨p.b, 1, none⟩ = some (.int .i64 p.d.2.1) ∧ w.cell? ⟨p.b, 2, none⟩ = some (.bool p.d.2.2) ∧ w.cell? ⟨p.b, 3, none⟩ = some (kpt p.k) :=
 ⟨h.cell (b := p.b) (i := 0) (mem_exO_place hp) rfl, h.cell (b := p.b) (i := 1) (mem_exO_place hp) rfl, h.cell (b := p.b) (i := 2) (mem_exO_place hp) rfl, h.cell (b := p.b) (i := 3) (mem_exO_place hp) rfl⟩
theorem places_form (h : SlIs 188 1 v L.length (L.map fun p => bpt p.b) R) (hst : St B w0 w (exO xb v tv L R Q ++ F)) : ∃ a cap, v = .slice a L.length cap ∧ ∀ (i : Nat) p, L[i]? = some p → ∃ g off, a = some ⟨g, off, none⟩ ∧ w.cell? ⟨g, off + i, none⟩ = some (bpt p.b) := by
 obtain ⟨a, cap, rfl, -, -, ha⟩ := h.form
 refine ⟨a, cap, rfl, fun i p hp => ?_⟩
 obtain ⟨g, off, rfl⟩ := ha i (List.getElem?_eq_some_iff.1 hp).1
 have h2 : St B w0 w (((xb, .cells #[.slice (some ⟨g, off, none⟩) L.length cap, tv] 209) :: (Q ++ plsO L) ++ F) ++ R) := hst.perm (by
  refine perm_by fun a => ?_
  unfold exO
  simp only [List.count_append, List.count_cons, List.append_assoc, List.cons_append]
  omega)
 exact ⟨g, off, rfl, h.cellAt h2 (by rw [List.getElem?_map, hp]; rfl)⟩
theorem ExIn.form (h : ExIn L v tv R Q A c) (hst : St B w0 w (exO xb v tv L R Q ++ F)) : ∃ a cap, v = .slice a L.length cap ∧ ∀ (i : Nat) p, L[i]? = some p → ∃ g off, a = some ⟨g, off, none⟩ ∧ w.cell? ⟨g, off + i, none⟩ = some (bpt p.b) := places_form h.sl hst
theorem St.places (h : St B w0 w (exO xb v tv L R Q ++ F)) : (L.map Pl.b).Nodup := by
 have h1 := h.nodup
 unfold exO at h1
 rw [List.cons_append, List.map_cons, List.nodup_cons, List.map_append, List.map_append, List.map_append] at h1
 have h2 := (List.nodup_append.1 (List.nodup_append.1 (List.nodup_append.1 h1.2).1).2.1).2.1
 refine List.Nodup.sublist ?_ h2
 clear h h1 h2
 induction L with
 | nil => simp [plsO]
 | cons p L ih =>
  rw [plsO_cons, List.map_append, List.map_cons]
  unfold Pl.objs
  rw [List.map_cons, List.cons_append]
  exact (ih.trans (List.sublist_append_right _ _)).cons_cons _
end
theorem auto_any (n : Int) (w : World) : Calls Tryz.prog 201 #[.int .i64 n] w fun e w' => e = .returned (.bool (autoB n)) ∧ w' = w := by
 unfold autoB
 go_enter Tryz.func201, Tryz.ntmps201
 go_wp2_with fail
 go_ret
 exact ⟨rfl, rfl⟩
theorem iskind_any (n : Int) (w : World) : Calls Tryz.prog 140 #[.int .i64 n] w fun e w' => e = .returned (.bool (decide (1 ≤ n ∧ n ≤ 3))) ∧ w' = w := by
 go_enter Tryz.func140, Tryz.ntmps140
 go_wp2_with fail
 all_goals
  go_ret
  refine ⟨ret_bool ?_, rfl⟩
  apply Bool.eq_iff_iff.2
  simp only [Bool.or_eq_true, beq_iff_eq, decide_eq_true_eq, true_iff]
  omega
theorem kind_any (l : List UInt8) (w : World) : Calls Tryz.prog 77 #[tx l] w fun e w' => e = .returned (.int .i64 (kindL l)) ∧ w' = w := by
 by_cases h1 : l = [100, 105, 114, 101, 99, 116]
 ·subst h1
  go_enter Tryz.func77, Tryz.ntmps77
  go_wp2_with fail
  go_ret
  exact ⟨rfl, rfl⟩
 by_cases h2 : l = [102, 97, 110, 111, 117, 116]
 ·subst h2
  go_enter Tryz.func77, Tryz.ntmps77
  go_wp2_with fail
  go_ret
  exact ⟨rfl, rfl⟩
 by_cases h3 : l = [116, 111, 112, 105, 99]
 ·subst h3
  go_enter Tryz.func77, Tryz.ntmps77
  go_wp2_with fail
  go_ret
  exact ⟨rfl, rfl⟩
 have e : kindL l = 0 := by rw [kindL, if_neg h1, if_neg h2, if_neg h3]
 rw [e]
 have b1 : (l == [100, 105, 114, 101, 99, 116]) = false := by simpa using h1
 have b2 : (l == [102, 97, 110, 111, 117, 116]) = false := by simpa using h2
 have b3 : (l == [116, 111, 112, 105, 99]) = false := by simpa using h3
 clear h1 h2 h3 e
 go_enter Tryz.func77, Tryz.ntmps77
 go_wp2_with fail
 go_ret
 exact ⟨rfl, rfl⟩
section
variable {B : Nat} {w0 w w' : World} {F T R Q S : List (Nat × Obj)} {tb xb c c' pb : Nat} {M : Prs} {L X Y : List Pl} {p p' : Pl} {k : Ky} {A : List Bnd} {P : List Plc} {v tv : Value} {n : List UInt8} {keys : List (List UInt8)}
theorem is_any {k : Int} {a : Bool} (h1 : w.cell? ⟨pb, 1, none⟩ = some (.int .i64 k)) (h2 : w.cell? ⟨pb, 2, none⟩ = some (.bool a)) (kd bt : Int) :
  Calls Tryz.prog 141 #[bpt pb, .int .i64 kd, .int .i64 bt] w fun e w' => e = .returned (.bool (k == kd && a == autoB bt)) ∧ Below w.heap.size w w' := by
 have ca := Lib.hid (fun w => auto_any bt w)
 have hs0 : Hid (w.drew.cell? ⟨pb, 1, none⟩ = some (.int .i64 k) ∧ w.drew.cell? ⟨pb, 2, none⟩ = some (.bool a)) := Lib.hid ⟨h1, h2⟩
 have fin := Lib.hid (drewN_below w 1)
 by_cases hk : k = kd
 ·subst hk
  rw [beq_self_eq_true, Bool.true_and]
  clear h1 h2
  generalize autoB bt = ab at *
  go_enter Tryz.func141, Tryz.ntmps141
  go_wp2_with fail
  go_region_held3 (fun x => x.cell? ⟨pb, 1, none⟩ = some (.int .i64 k) ∧ x.cell? ⟨pb, 2, none⟩ = some (.bool a)) (exact hs0.out) (first | (go_at_call 201; refine (ca.out _).mono ?_; rintro e w'' ⟨rfl, rfl⟩))
  go_wp2_with fail
  go_ret
  exact ⟨rfl, fin.out⟩
 ·have hkb : (k == kd) = false := by simpa using hk
  rw [hkb, Bool.false_and]
  go_enter Tryz.func141, Tryz.ntmps141
  go_wp2_with fail
  go_quiet (fail)
  go_wp2_with fail
  go_ret
  exact ⟨rfl, drewN_below w _⟩
end
section
variable {B : Nat} {w0 w w' : World} {F T R Q S : List (Nat × Obj)} {tb xb c c' pb : Nat} {M : Prs} {L X Y : List Pl} {p p' : Pl} {k : Ky} {A : List Bnd} {P : List Plc} {v tv : Value} {n : List UInt8} {keys : List (List UInt8)}
theorem findL_here {i : Nat} (h : ∀ q ∈ L.take i, q.d.1 ≠ n) (hx : L[i]? = some p) (hp : p.d.1 = n) : findL L n = some p := by
 have hl := (List.getElem?_eq_some_iff.1 hx).1
 have e : L = L.take i ++ p :: L.drop (i + 1) := by
  have h1 := (List.take_append_drop i L).symm
  have h2 : L.drop i = p :: L.drop (i + 1) := by
   rw [List.drop_eq_getElem_cons hl]
   congr 1
   exact (List.getElem?_eq_some_iff.1 hx).2
  rw [h2] at h1
  exact h1
 unfold findL
 rw [e, List.find?_append, List.find?_eq_none.2 (by simpa using h)]
 simp [hp]
theorem not_here {i : Nat} (h : ∀ q ∈ L.take i, q.d.1 ≠ n) (hx : L[i]? = some p) (hp : p.d.1 ≠ n) : ∀ q ∈ L.take (i + 1), q.d.1 ≠ n := by
 rw [List.take_add_one, hx]
 intro q hq
 rcases List.mem_append.1 hq with hq | hq
 ·exact h q hq
 ·simp at hq
  subst hq
  exact hp
def XFindAt (w : World) (xb : Nat) (L : List Pl) (n : List UInt8) (g : Nat) (a' : Act) (w' : World) : Prop :=
 ∃ i : Nat, i + g = L.length ∧ (∀ q ∈ L.take i, q.d.1 ≠ n) ∧ Fr 34 [(0, bpt xb), (1, tx n), (5, .int .i64 i)] a' ∧ w' = w
set_option maxHeartbeats 1000000 in
theorem xfind_any (h : ExIn L v tv R Q A c) (hst : St B w0 w (exO xb v tv L R Q ++ F)) (n : List UInt8) : Calls Tryz.prog 124 #[bpt xb, tx n] w fun e w' => e = .returned (ptrF L n) ∧ w' = w := by
 obtain ⟨c0, -, -, -⟩ := hst.ex
 obtain ⟨a, cap, rfl, hrows⟩ := h.form hst
 have hpl := Lib.hid (fun p hp => (hst.place (p := p) hp).1)
 replace hrows := Lib.hid hrows
 have few := h.fine.few
 rw [List.length_map] at few
 obtain ⟨ans, ha⟩ : ∃ ans, ans = ptrF L n := ⟨_, rfl⟩
 rw [← ha]
 replace ha := Lib.hid ha
 clear h hst
 go_enter Tryz.func124, Tryz.ntmps124
 go_wp2_with fail
 refine wp_scope_ghost 0 (XFindAt w xb L n) rfl ?_ ?_
 ·rintro g a' w' ⟨i, hi, hno, hfr, rfl⟩
  obtain ⟨q, rfl, hl'⟩ := hfr.lit
  clear hfr
  simp only [List.mem_cons, List.not_mem_nil, or_false, forall_eq_or_imp, forall_eq] at hl'
  obtain ⟨f0, f1, f5⟩ := hl'
  simp only [List.range, List.range.loop, List.map, f0, f1, f5]
  clear f0 f1 f5
  have hi0 : (0 : Int) ≤ i := by omega
  by_cases hlt : i < L.length
  ·have hx : L[i]? = some L[i] := List.getElem?_eq_getElem hlt
   have hi1 : (i : Int) < L.length := by omega
   have hne : ((i : Int) == L.length) = false := by rw [beq_eq_false_iff_ne]; omega
   generalize L[i] = p at hx
   obtain ⟨g1, o1, rfl, k1⟩ := hrows.out i p hx
   have k2 := hpl.out p (List.mem_of_getElem? hx)
   by_cases hp : p.d.1 = n
   ·obtain rfl : ans = bpt p.b := by rw [ha.out, ptrF, findL_here hno hx hp]; rfl
    rw [hp] at k2
    clear hno hx hp hpl hrows ha
    go_wp2_with fail
    simp only [Exit.jump]
    go_ret
    exact ⟨rfl, rfl⟩
   ·have hpb : (p.d.1 == n) = false := by simpa using hp
    have nxt := Lib.hid (not_here hno hx hp)
    generalize p.d.1 = m at *
    clear hno hx hp hpl hrows ha
    go_wp2_with fail
    refine wp_goto ?_
    exact ⟨rfl, g - 1, by omega, i + 1, by omega, nxt.out, ⟨rfl, rfl, by simp⟩, rfl⟩
  ·obtain rfl : i = L.length := by omega
   rw [List.take_of_length_le (Nat.le_refl _)] at hno
   obtain rfl : ans = .pointer none := by rw [ha.out, ptrF, findL_none.2 hno]; rfl
   clear hno hpl hrows ha
   go_wp2_with fail
   simp only [Exit.jump]
   go_ret
   exact ⟨rfl, rfl⟩
 ·intro H
  clear hpl hrows ha
  go_wp2_with fail
  refine wp_label ?_
  go_step
  go_step
  exact H L.length _ _ ⟨0, by omega, by simp, ⟨rfl, rfl, by simp⟩, rfl⟩
def declaredR (L : List Pl) (n : List UInt8) : Value × Int := if n = [] then (.pointer none, 403) else match findL L n with | none => (.pointer none, 404) | some p => (bpt p.b, 0)
theorem xdeclared_any (h : ExIn L v tv R Q A c) (hst : St B w0 w (exO xb v tv L R Q ++ F)) (n : List UInt8) :
  Calls Tryz.prog 143 #[bpt xb, tx n] w fun e w' => e = .returned (.tuple #[(declaredR L n).1, .int .i64 (declaredR L n).2]) ∧ w' = w := by
 have c1 := Lib.hid (xfind_any h hst n)
 clear h hst
 by_cases hn : n = []
 ·subst hn
  rw [declaredR, if_pos rfl]
  go_enter Tryz.func143, Tryz.ntmps143
  go_wp2_with fail
  go_ret2
  exact ⟨rfl, rfl⟩
 have h0B : (n == []) = false := by simpa using hn
 have h0C : n.isEmpty = false := by simpa using hn
 rw [declaredR, if_neg hn]
 unfold ptrF at c1
 cases hf : findL L n with
 | none =>
  rw [hf] at c1
  simp only [Option.map_none] at c1
  go_enter Tryz.func143, Tryz.ntmps143
  go_wp2_with fail
  refine c1.out.mono ?_
  rintro e w1 ⟨rfl, rfl⟩
  go_wp2_with fail
  go_ret2
  exact ⟨rfl, rfl⟩
 | some p =>
  rw [hf] at c1
  simp only [Option.map_some] at c1
  dsimp only
  generalize p.b = pb at *
  go_enter Tryz.func143, Tryz.ntmps143
  go_wp2_with fail
  refine c1.out.mono ?_
  rintro e w1 ⟨rfl, rfl⟩
  go_wp2_with fail
  go_ret2
  exact ⟨rfl, rfl⟩
theorem xhas_any (h : ExIn L v tv R Q A c) (hst : St B w0 w (exO xb v tv L R Q ++ F)) (n : List UInt8) :
  Calls Tryz.prog 64 #[bpt xb, tx n] w fun e w' => e = .returned (.bool (hasX (L.map Pl.d) n)) ∧ w' = w := by
 have c1 := Lib.hid (xfind_any h hst n)
 clear h hst
 rw [hasX, findL_d]
 by_cases hn : n = []
 ·subst hn
  go_enter Tryz.func64, Tryz.ntmps64
  go_wp2_with fail
  go_ret
  exact ⟨rfl, rfl⟩
 have h0B : (n == []) = false := by simpa using hn
 have h0C : n.isEmpty = false := by simpa using hn
 rw [h0B, Bool.false_or]
 unfold ptrF at c1
 cases hf : findL L n with
 | none =>
  rw [hf] at c1
  simp only [Option.map_none] at c1
  go_enter Tryz.func64, Tryz.ntmps64
  go_wp2_with fail
  refine c1.out.mono ?_
  rintro e w1 ⟨rfl, rfl⟩
  go_wp2_with fail
  go_ret
  exact ⟨rfl, rfl⟩
 | some p =>
  rw [hf] at c1
  simp only [Option.map_some] at c1
  generalize p.b = pb at *
  go_enter Tryz.func64, Tryz.ntmps64
  go_wp2_with fail
  refine c1.out.mono ?_
  rintro e w1 ⟨rfl, rfl⟩
  go_wp2_with fail
  go_ret
  exact ⟨rfl, rfl⟩
end
section
variable {B : Nat} {w0 w w' : World} {F T R Q S : List (Nat × Obj)} {tb xb c c' pb : Nat} {M : Prs} {L X Y : List Pl} {p p' : Pl} {k : Ky} {A : List Bnd} {P : List Plc} {v tv u : Value} {n : List UInt8} {keys : List (List UInt8)}
def QueuesAt (w : World) (rv : Value) (L : List Bnd) (g : Nat) (a' : Act) (w' : World) : Prop :=
 ∃ (i : Nat) (u : Value) (S : List (Nat × Obj)), Fr 28 [(0, rv), (3, u), (4, .int .i64 i)] a' ∧ i + g = L.length ∧ TssIs u (onceL [] ((L.take i).map (·.2.1))) S ∧ St w.heap.size w w' S
set_option maxHeartbeats 4000000 in
theorem queues_any {L : List Bnd} (hv : ReadBs w v L) (hL : L.length ≤ 10000) (hf : ∀ b ∈ L, b.2.1.length ≤ maxLen) : Calls Tryz.prog 208 #[v] w (OnceR w (onceL [] (L.map (·.2.1)))) := by
 obtain ⟨a, cap, rfl, -⟩ := id hv
 have hr := Lib.hid (fun w' hb => hv.below (w' := w') hb)
 replace hf := Lib.hid hf
 clear hv
 go_enter Tryz.func208, Tryz.ntmps208
 go_wp2_with fail
 refine wp_scope_ghost 0 (QueuesAt w (.slice a L.length cap) L) rfl ?_ ?_
 ·rintro n a' w' ⟨i, u, S, hfr, hi, hs, hst⟩
  obtain ⟨q, rfl, hl'⟩ := hfr.lit
  clear hfr
  simp only [List.mem_cons, List.not_mem_nil, or_false, forall_eq_or_imp, forall_eq] at hl'
  obtain ⟨f0, f3, f4⟩ := hl'
  simp only [List.range, List.range.loop, List.map, f0, f3, f4]
  clear f0 f3 f4
  have hi0 : (0 : Int) ≤ i := by omega
  have hlen : (onceL [] ((L.take i).map (·.2.1))).length ≤ 10000 := by
   have := onceL_len [] ((L.take i).map (·.2.1))
   rw [List.length_map, List.length_take, List.length_nil] at this
   omega
  by_cases hlt : i < L.length
  ·have hi1 : (i : Int) < L.length := by omega
   have hiB : ((i : Int) == L.length) = false := by rw [beq_eq_false_iff_ne]; omega
   have hx : L[i]? = some L[i] := List.getElem?_eq_getElem hlt
   generalize L[i] = x at hx
   have stp : onceL [] ((L.take (i + 1)).map (·.2.1)) = onceS (onceL [] ((L.take i).map (·.2.1))) x.2.1 := by rw [map_step hx, onceL_snoc]
   obtain ⟨a1, c1, e, hcells⟩ := hr.out w' hst.below
   cases e
   obtain ⟨b1, o1, rfl, k1, k2, k3⟩ := hcells i x hx
   have hml : ∀ y ∈ onceL [] ((L.take i).map (·.2.1)), y.length ≤ maxLen := by
    intro y hy
    rcases (onceL_mem _ _ _).1 hy with h | h
    ·simp at h
    ·obtain ⟨b, hb, rfl⟩ := List.mem_map.1 h
     exact hf.out b (List.mem_of_mem_take hb)
   generalize onceL [] ((L.take i).map (·.2.1)) = m at *
   have cn := Lib.hid (containsS_any (TssIs.read (X := []) hs hst hml) (by omega) x.2.1)
   by_cases hin : x.2.1 ∈ m
   ·rw [decide_eq_true hin] at cn
    rw [onceS, if_pos hin] at stp
    have fin : Hid (∀ a', Fr 28 [(0, .slice (some ⟨b1, o1, none⟩) L.length cap), (3, u), (4, .int .i64 ((i + 1 : Nat) : Int))] a' → ∃ m, m < n ∧ QueuesAt w (.slice (some ⟨b1, o1, none⟩) L.length cap) L m a' w') :=
     Lib.hid fun a' hf => ⟨n - 1, by omega, i + 1, _, S, hf, by omega, by rw [stp]; exact hs, hst⟩
    obtain ⟨au, cu, rfl⟩ := hs.form
    obtain ⟨x1, x2, x3⟩ := x
    simp only at k1 k2 k3
    generalize m.length = q0 at *
    clear hs hst hx stp hlen hr hml hin
    go_wp2_with fail
    refine cn.out.mono ?_
    rintro e w3 ⟨rfl, rfl⟩
    go_wp2_with fail
    refine wp_goto ?_
    exact ⟨rfl, fin.out _ ⟨rfl, rfl, by simp⟩⟩
   ·rw [decide_eq_false hin] at cn
    rw [onceS, if_neg hin] at stp
    obtain ⟨a2, cap2, W2, F2, hrun, hs2, hst2⟩ := TssIs.append (X := []) hs hst x.2.1 (by omega)
    have fin : Hid (∀ a', Fr 28 [(0, .slice (some ⟨b1, o1, none⟩) L.length cap), (3, .slice a2 (m.length + 1) cap2), (4, .int .i64 ((i + 1 : Nat) : Int))] a' → ∃ m, m < n ∧ QueuesAt w (.slice (some ⟨b1, o1, none⟩) L.length cap) L m a' W2) :=
     Lib.hid fun a' hf => ⟨n - 1, by omega, i + 1, _, F2, hf, by omega, by rw [stp]; exact hs2, hst2⟩
    obtain ⟨au, cu, rfl⟩ := hs.form
    obtain ⟨x1, x2, x3⟩ := x
    simp only at k1 k2 k3 hrun
    generalize m.length = q0 at *
    clear hs hst hx stp hlen hr hml hin hs2 hst2
    go_wp2_with fail
    refine cn.out.mono ?_
    rintro e w3 ⟨rfl, rfl⟩
    go_wp2_with (at_builtin; refine wpList_append_go rfl (.tmp 18) (.tmp 24) 47 47 rfl _ _ rfl rfl hrun ?_)
    refine wp_goto ?_
    exact ⟨rfl, fin.out _ ⟨rfl, rfl, by simp⟩⟩
  ·obtain rfl : i = L.length := by omega
   rw [List.take_of_length_le (Nat.le_refl _)] at hs
   have fin : Hid (OnceR w (onceL [] (L.map (·.2.1))) (.returned u) w') := Lib.hid ⟨u, S, rfl, hs, hst⟩
   obtain ⟨au, cu, rfl⟩ := hs.form
   clear hs hst hr hlen
   go_wp2_with fail
   simp only [Exit.jump]
   go_ret
   exact fin.out
 ·intro H
  go_wp2_with fail
  refine wp_label ?_
  go_step
  go_step
  exact H L.length _ _ ⟨0, _, [], ⟨rfl, rfl, by simp⟩, by omega, TssIs.nil, St.start w⟩
theorem newkeys_any (hst : St B w0 w F) : Calls Tryz.prog 202 #[] w fun e w' => ∃ k, e = .returned (bpt k.kb) ∧ KyOk k [] 1 ∧ St B w0 w' (k.objs ++ F) := by
 have c1 := Lib.hid (trnew_any hst)
 clear hst
 go_enter Tryz.func202, Tryz.ntmps202
 go_wp2_with fail
 refine c1.out.mono ?_
 rintro e w1 ⟨tb, rfl, h⟩
 obtain ⟨T, hT, hst⟩ := TrIn.of h
 have fin : Hid (∃ k : Ky, Ending.returned (bpt w1.heap.size) = .returned (bpt k.kb) ∧ KyOk k [] 1 ∧ St B w0 (w1.alloc (.cells #[bpt tb, .slice none 0 0] 277)) (k.objs ++ F)) :=
  Lib.hid ⟨⟨w1.heap.size, tb, .slice none 0 0, [], [], T⟩, rfl, ⟨SlIs.nil, rfl, List.Pairwise.nil, by simp, hT⟩, by
   have := hst.alloc (.cells #[bpt tb, .slice none 0 0] 277)
   exact this⟩
 clear hT hst h c1
 go_wp2_with fail
 go_ret
 exact fin.out
theorem xnew_any (hst : St B w0 w F) : Calls Tryz.prog 123 #[] w fun e w' => e = .returned (bpt w.heap.size) ∧ ExIs B w0 w' w.heap.size [] [] F 1 := by
 have fin : Hid (ExIs B w0 (w.alloc (.cells #[.slice none 0 0, .pointer none] 209)) w.heap.size [] [] F 1) := Lib.hid
  ⟨[], .slice none 0 0, .pointer none, [], [], rfl, ⟨FineX.nil, SlIs.nil, .inl ⟨rfl, rfl, rfl⟩, by simp⟩, hst.alloc _⟩
 clear hst
 go_enter Tryz.func123, Tryz.ntmps123
 go_wp2_with fail
 go_ret
 exact ⟨rfl, fin.out⟩
structure NewPl (p : Pl) (x : Plc) : Prop where
 dat : p.d = x
 has : p.k.isSome = (x.2.1 == 3)
 ky : ∀ k, p.k = some k → KyOk k [] 1
set_option maxHeartbeats 1000000 in
theorem newplace_any (hst : St B w0 w F) (n : List UInt8) (hn : n.length ≤ 140737488351232) (kd bt : Int) :
  Calls Tryz.prog 142 #[tx n, .int .i64 kd, .int .i64 bt] w fun e w' => ∃ p, e = .returned (bpt p.b) ∧ NewPl p (n, kd, autoB bt) ∧ St B w0 w' (p.objs ++ F) := by
 have c1 := Lib.hid (clone_any n w hn)
 have ca := Lib.hid (fun w => auto_any bt w)
 replace hst := Lib.hid hst
 generalize autoB bt = ab at *
 clear hn
 by_cases hk : kd = 3
 ·subst hk
  go_enter Tryz.func142, Tryz.ntmps142
  go_wp2_with fail
  refine c1.out.mono ?_
  rintro e w1 ⟨rfl, hb⟩
  replace hst := Lib.hid (hst.out.grow hb)
  clear c1 hb
  go_wp2_with fail
  refine (ca.out _).mono ?_
  rintro e w2 ⟨rfl, rfl⟩
  have h1 := hst.out.alloc (.cells #[tx n, .int .i64 3, .bool ab, .pointer none] 217)
  have c2 := Lib.hid (newkeys_any h1)
  clear h1 hst
  go_wp2_with fail
  generalize w2.heap.size = pb at *
  refine c2.out.mono ?_
  rintro e w3 ⟨k, rfl, hky, hs3⟩
  have c3 := hs3.cell (b := pb) (i := 3) (List.mem_append_right _ List.mem_cons_self) rfl
  have f3 := hs3.soft (b := pb) (List.mem_append_right _ List.mem_cons_self) 3
  have h4 := hs3.set 3 (bpt k.kb)
  have fin : Hid (∃ p, Ending.returned (bpt pb) = .returned (bpt p.b) ∧ NewPl p (n, 3, ab) ∧ St B w0 (w3.setCell ⟨pb, 3, none⟩ (bpt k.kb)) (p.objs ++ F)) :=
   Lib.hid ⟨⟨pb, (n, 3, ab), some k⟩, rfl, ⟨rfl, rfl, fun k' hk' => by cases hk'; exact hky⟩, by
    refine h4.perm ?_
    exact List.perm_middle⟩
  clear hky hs3 h4 c2
  go_wp2_with fail
  go_ret
  exact fin.out
 ·have hkb : (kd == 3) = false := by simpa using hk
  go_enter Tryz.func142, Tryz.ntmps142
  go_wp2_with fail
  refine c1.out.mono ?_
  rintro e w1 ⟨rfl, hb⟩
  replace hst := Lib.hid (hst.out.grow hb)
  clear c1 hb
  go_wp2_with fail
  refine (ca.out _).mono ?_
  rintro e w2 ⟨rfl, rfl⟩
  have h1 := hst.out.alloc (.cells #[tx n, .int .i64 kd, .bool ab, .pointer none] 217)
  have fin : Hid (∃ p, Ending.returned (bpt w2.heap.size) = .returned (bpt p.b) ∧ NewPl p (n, kd, ab) ∧ St B w0 (w2.alloc (.cells #[tx n, .int .i64 kd, .bool ab, .pointer none] 217)) (p.objs ++ F)) :=
   Lib.hid ⟨⟨w2.heap.size, (n, kd, ab), none⟩, rfl, ⟨rfl, hkb.symm, fun k' hk' => by cases hk'⟩, h1⟩
  clear h1 hst
  go_wp2_with fail
  go_ret
  exact fin.out
theorem St.exSet0 (h : St B w0 w (exO xb v tv L R Q ++ F)) (v' : Value) : St B w0 (w.setCell ⟨xb, 0, none⟩ v') (exO xb v' tv L R Q ++ F) := h.set0 0 v'
theorem St.exSet1 (h : St B w0 w (exO xb v tv L R Q ++ F)) (tv' : Value) : St B w0 (w.setCell ⟨xb, 1, none⟩ tv') (exO xb v tv' L R Q ++ F) := h.set0 1 tv'
theorem exO_tab (Q' : List (Nat × Obj)) : ((exO xb v tv L R Q ++ F) ++ Q').Perm (exO xb v tv L R (Q ++ Q') ++ F) := by
 refine perm_by fun a => ?_
 unfold exO
 simp only [List.count_append, List.count_cons, List.append_assoc, List.cons_append]
 omega
theorem ExIn.retab (h : ExIn L v tv R Q A c) {tv' : Value} {Q' : List (Nat × Obj)} (ht : TaIn tv' A Q') : ExIn L v tv' R Q' A c := ⟨h.fine, h.sl, ht, h.pls⟩
theorem xtable_any (ht : TaIn tv A Q) (hst : St B w0 w (exO xb v tv L R Q ++ F)) :
  Calls Tryz.prog 145 #[bpt xb] w fun e w' => ∃ tb u S, e = .returned (bpt tb) ∧ BnsIs u A S ∧ St B w0 w' (exO xb v (bpt tb) L R ((tb, .cells #[u] 273) :: S) ++ F) := by
 obtain ⟨-, e1, -, f1⟩ := hst.ex
 rcases ht with ⟨rfl, rfl, rfl⟩ | ⟨tb, u, S, rfl, rfl, hu⟩
 ·have c1 := Lib.hid (new_any hst)
  go_enter Tryz.func145, Tryz.ntmps145
  go_wp2_with fail
  generalize w.heap.size = tb at *
  refine c1.out.mono ?_
  rintro e w1 ⟨rfl, u, S, hu, hs1⟩
  have h2 := hs1.perm (exO_tab _)
  obtain ⟨-, e2, -, f2⟩ := h2.ex
  have fin := Lib.hid (h2.exSet1 (bpt tb))
  replace hu := Lib.hid hu
  clear h2 hs1 c1 hst e1 f1
  go_wp2_with fail
  go_ret
  exact ⟨tb, u, S, rfl, hu.out, fin.out⟩
 ·have fin := Lib.hid hst
  replace hu := Lib.hid hu
  clear hst
  go_enter Tryz.func145, Tryz.ntmps145
  go_wp2_with fail
  go_ret
  exact ⟨tb, u, S, rfl, hu.out, fin.out⟩
set_option maxHeartbeats 1000000 in
theorem of_own {L : List Bnd} (h : OneAt 273 w tb v) (hv : ReadBs w v L) (hL : L.length ≤ 10000) (x : List UInt8) : Calls Tryz.prog 216 #[bpt tb, tx x] w (ThoseR w (L.filter fun b => b.1 == x)) := by
 have hb := Lib.hid (new_below w (.cells #[tx x] 9))
 have hq : (w.alloc (.cells #[tx x] 9)).cell? ⟨w.heap.size, 0, none⟩ = some (tx x) := by simp
 have c1 := Lib.hid (those_any (h.below hb.out) (hv.below hb.out) hL (tells_of hq))
 have hmf : ∀ (fn : Fn) (first cap : Array Value) (w : World), (Instr.makeFunc fn first cap).run Tryz.prog w = .ok (.func fn first cap) w := fun _ _ _ _ => rfl
 clear h hv hq
 go_enter Tryz.func216, Tryz.ntmps216
 go_wp2_with fail
 refine c1.out.mono ?_
 rintro e w1 ⟨u, S, rfl, hs, hst⟩
 have fin : Hid (ThoseR w (L.filter fun b => b.1 == x) (.returned u) w1) := Lib.hid ⟨u, S, rfl, hs, St.under hb.out hst⟩
 clear hs hst c1
 go_wp2_with fail
 go_ret
 exact fin.out
theorem mem_tab : (tb, .cells #[u] 273) ∈ exO xb v (bpt tb) L R ((tb, .cells #[u] 273) :: S) ++ F := by
 unfold exO
 simp
theorem St.tabOne (hs : St B w0 w (exO xb v (bpt tb) L R ((tb, .cells #[u] 273) :: S) ++ F)) : OneAt 273 w tb u := hs.get (b := tb) mem_tab
theorem St.tabRead (hs : St B w0 w (exO xb v (bpt tb) L R ((tb, .cells #[u] 273) :: S) ++ F)) (hu : BnsIs u A S) : ReadBs w u A := by
 refine hu.read (A := exO xb v (bpt tb) L R [(tb, .cells #[u] 273)] ++ F) (hs.perm ?_)
 refine perm_by fun a => ?_
 unfold exO
 simp only [List.count_append, List.count_cons, List.append_assoc, List.cons_append, List.count_nil]
 omega
theorem xof_any (ht : TaIn tv A Q) (few : A.length ≤ 40) (hst : St B w0 w (exO xb v tv L R Q ++ F)) (n : List UInt8) :
  Calls Tryz.prog 162 #[bpt xb, tx n] w fun e w' => ∃ u S tv' Q', e = .returned u ∧ BnsIs u (ofB A n) S ∧ TaIn tv' A Q' ∧ St B w0 w' (exO xb v tv' L R Q' ++ (S ++ F)) := by
 have c1 := Lib.hid (xtable_any ht hst)
 clear hst ht
 go_enter Tryz.func162, Tryz.ntmps162
 go_wp2_with fail
 refine c1.out.mono ?_
 rintro e w1 ⟨tb, u, S, rfl, hu, hs1⟩
 have c2 := Lib.hid (of_own hs1.tabOne (hs1.tabRead hu) (by omega) n)
 have fin : Hid (∀ e w', ThoseR w1 (ofB A n) e w' → ∃ u S tv' Q', e = .returned u ∧ BnsIs u (ofB A n) S ∧ TaIn tv' A Q' ∧ St B w0 w' (exO xb v tv' L R Q' ++ (S ++ F))) := Lib.hid fun e w' hT => by
  obtain ⟨u2, S2, rfl, hu2, hs2⟩ := hT
  refine ⟨u2, S2, _, _, rfl, hu2, .inr ⟨tb, u, S, rfl, rfl, hu⟩, (hs1.join hs2).perm ?_⟩
  rw [List.append_assoc]
  exact List.Perm.append_left _ List.perm_append_comm
 clear hu hs1 c1
 go_wp2_with fail
 refine c2.out.mono ?_
 rintro e w2 hT
 obtain ⟨u2, S2, tv2, Q2, rfl, g1, g2, g3⟩ := fin.out _ _ hT
 replace g1 := Lib.hid g1
 replace g2 := Lib.hid g2
 replace g3 := Lib.hid g3
 clear hT fin c2
 go_wp2_with fail
 go_ret
 exact ⟨u2, S2, tv2, Q2, rfl, g1.out, g2.out, g3.out⟩
end
section
variable {P : Program} (w : World)
theorem run_eql_ptr_same {tp te : TypeId} {j : TypeInfo} (a : Addr) (hp : P.underlying tp = some (.pointer te)) (hte : P.info? te = some j) :
  (binOp .eql tp (.pointer (some a)) (.pointer (some a))).run P w = .ok (.bool true) w := by
 have h : ∀ d : Nat, (Op.equalIn (d + 1) tp (.pointer (some a)) (.pointer (some a))).run P w = .ok true w := fun d => by
  simp [Op.equalIn, run_underlying hp, sizeOf, typeInfo, hte, run_sameAddr_same]
 simp only [binOp]
 simp [Op.equal, Op.maxDepth, h 9999]
theorem run_eql_ptr_other {tp te : TypeId} {j : TypeInfo} {a b : Addr} {ca cb : Array Value} {ta tb : TypeId} (hp : P.underlying tp = some (.pointer te)) (hte : P.info? te = some j) (hsz : j.size ≠ 0)
  (hne : a ≠ b) (ha : w.heap[a.block]? = some (.cells ca ta (0, 0))) (hb : w.heap[b.block]? = some (.cells cb tb (0, 0))) :
  (binOp .eql tp (.pointer (some a)) (.pointer (some b))).run P w = .ok (.bool false) w := by
 have h : ∀ d : Nat, (Op.equalIn (d + 1) tp (.pointer (some a)) (.pointer (some b))).run P w = .ok false w := fun d => by
  simp [Op.equalIn, run_underlying hp, sizeOf, typeInfo, hte, hsz, run_sameAddr_other w hne ha hb]
 simp only [binOp]
 simp [Op.equal, Op.maxDepth, h 9999]
end
theorem uPls : Tryz.prog.underlying 206 = some (.slice 188) := by kernel_rfl
theorem infPls : (Tryz.prog.info? 188).map (fun i => (i.zero, i.size, i.bytes)) = some (some (.pointer none), 1, 8) := by kernel_rfl
theorem zeroPls (w : World) : (zeroValue 188).run Tryz.prog w = .ok (.pointer none) w := by
 obtain ⟨i0, hi0, hz0, hz1, hz2⟩ := info_parts infPls
 simp [zeroValue, typeInfo, hi0, hz0]
section
variable {B : Nat} {w0 w w' : World} {F T R Q S X : List (Nat × Obj)} {g off n cap i j : Nat} {L : List Pl} {p : Pl} {v : Value} {xs : List Value}
theorem pcut3 (h1 : i ≤ j) (h2 : j ≤ n) (h3 : n ≤ cap) (h4 : i < n) : ∀ w, (Instr.slice 206 (.slice (some ⟨g, off, none⟩) n cap) (some (.int .i64 i)) (some (.int .i64 j)) (some (.int .i64 n))).run Tryz.prog w = .ok (.slice (some ⟨g, off + i, none⟩) (j - i) (n - i)) w := by
 obtain ⟨i0, hi, hz0, hz1, hz2⟩ := info_parts infPls
 intro w
 have e3 : ¬ n = i := by omega
 simp [Instr.slice, run_underlying uPls, Instr.sliceBounds, Instr.sliceBound, asIntOf, h1, h2, h3, e3, sizeOf, typeInfo, hi, hz1, Go.WideShapes.add_plain]
theorem pcut_to (h1 : i ≤ cap) : ∀ w, (Instr.slice 206 (.slice (some ⟨g, off, none⟩) n cap) none (some (.int .i64 i)) none).run Tryz.prog w = .ok (.slice (some ⟨g, off, none⟩) i cap) w := by
 obtain ⟨i0, hi, hz0, hz1, hz2⟩ := info_parts infPls
 intro w
 simp [Instr.slice, run_underlying uPls, Instr.sliceBounds, Instr.sliceBound, asIntOf, h1, sizeOf, typeInfo, hi, Go.WideShapes.add_plain]
theorem pcut_from (h1 : j ≤ n) (h2 : n ≤ cap) : ∃ o, (j < n → o = off + j) ∧ ∀ w, (Instr.slice 206 (.slice (some ⟨g, off, none⟩) n cap) (some (.int .i64 j)) none none).run Tryz.prog w = .ok (.slice (some ⟨g, o, none⟩) (n - j) (cap - j)) w := by
 obtain ⟨i0, hi, hz0, hz1, hz2⟩ := info_parts infPls
 by_cases h : cap = j
 ·exact ⟨off, fun _ => by omega, fun w => by simp [Instr.slice, run_underlying uPls, Instr.sliceBounds, Instr.sliceBound, asIntOf, h1, h, sizeOf, typeInfo, hi]⟩
 ·exact ⟨off + j, fun _ => rfl, fun w => by simp [Instr.slice, run_underlying uPls, Instr.sliceBounds, Instr.sliceBound, asIntOf, h1, h, sizeOf, typeInfo, hi, hz1, Go.WideShapes.add_plain]⟩
theorem pcut_one (h1 : i < cap) (h2 : j = i + 1) : ∀ w, (Instr.slice 206 (.slice (some ⟨g, off, none⟩) i cap) (some (.int .i64 i)) (some (.int .i64 j)) none).run Tryz.prog w = .ok (.slice (some ⟨g, off + i, none⟩) 1 (cap - i)) w := by
 obtain ⟨i0, hi, hz0, hz1, hz2⟩ := info_parts infPls
 intro w
 have e1 : j ≤ cap := by omega
 have e2 : i ≤ j := by omega
 have e3 : ¬ cap = i := by omega
 have e4 : j - i = 1 := by omega
 simp [Instr.slice, run_underlying uPls, Instr.sliceBounds, Instr.sliceBound, asIntOf, e1, e2, e3, e4, sizeOf, typeInfo, hi, hz1, Go.WideShapes.add_plain]
theorem ptr_one : ∀ u ∈ (Value.pointer none).cells.toList, u.oneCell' = true := by
 intro u hu
 rw [show (Value.pointer none).cells = #[.pointer none] from rfl] at hu
 simp at hu
 subst hu
 rfl
theorem erase_splice {L : List Value} (hi : i < n) (hl : off + n ≤ L.length) (hx : (L.drop off).take n = xs) {c : List Value} (hc : c.length = 1) :
  (((splice (splice L (off + i) (xs.drop (i + 1))) (off + (n - 1)) c).drop off).take (n - 1)) = xs.eraseIdx i := by
 have hxl : xs.length = n := by rw [← hx, List.length_take, List.length_drop]; omega
 have hdl : (xs.drop (i + 1)).length = n - (i + 1) := by rw [List.length_drop, hxl]
 have hl1 : (splice L (off + i) (xs.drop (i + 1))).length = L.length := length_splice _ _ _ (by omega)
 rw [drop_splice_ahead (by omega) (by omega), Nat.add_sub_cancel_left, take_splice (by omega) (by simp only [List.length_drop]; omega), drop_splice_ahead (by omega) (by omega), Nat.add_sub_cancel_left,
  show n - 1 = i + (xs.drop (i + 1)).length by omega, splice1 (by simp only [List.length_drop] at hxl ⊢; omega), List.eraseIdx_eq_take_drop_succ, ← hx, List.take_take, Nat.min_eq_left (by omega)]
set_option maxHeartbeats 2000000 in
theorem deletep_any (hs : SlIs 188 1 v n xs R) (hst : St B w0 w (X ++ R)) (hi : i < n) (hn : n ≤ 100000) (h1 : ∀ u ∈ xs, u.oneCell' = true) :
  Calls Tryz.prog 220 #[v, .int .i64 i, .int .i64 ((i : Int) + 1)] w fun e w' => ∃ v' R', e = .returned v' ∧ SlIs 188 1 v' (n - 1) (xs.eraseIdx i) R' ∧ St B w0 w' (X ++ R') := by
 obtain ⟨a, cap, rfl, -, -, ha⟩ := hs.form
 obtain ⟨g, off, rfl⟩ := ha i hi
 obtain ⟨i0, hi0, hz0, hz1, hz2⟩ := info_parts infPls
 have hs1 := hs
 obtain ⟨L, rfl, hnc, hcm, hLl, hLx⟩ := hs.block
 rw [Nat.mul_one] at hLl hLx
 have hxl : xs.length = n := by rw [← hLx, List.length_take, List.length_drop]; omega
 obtain ⟨j, hj⟩ : ∃ j, j = i + 1 := ⟨_, rfl⟩
 have hji : ((i : Int) + 1) = (j : Int) := by omega
 have r1 := pcut3 (g := g) (off := off) (n := n) (cap := cap) (i := i) (j := j) (by omega) (by omega) hnc hi
 have r2 := pcut_to (g := g) (off := off) (n := n) (cap := cap) (i := i) (by omega)
 obtain ⟨o2, ho2, r3⟩ := pcut_from (g := g) (off := off) (n := n) (cap := cap) (j := j) (by omega) hnc
 have hdl : (xs.drop j).length = n - j := by rw [List.length_drop, hxl]
 have hrd : Reads w.drew (.slice (some ⟨g, o2, none⟩) (n - j) (cap - j)) (n - j) 1 (xs.drop j) := by
  refine ⟨by rw [hdl, Nat.mul_one], .inr ⟨_, _, rfl, fun k u hk => ?_⟩⟩
  have hk' := (List.getElem?_eq_some_iff.1 hk).1
  rw [Go.WideShapes.add_plain, ho2 (by omega), Nat.add_assoc]
  rw [List.getElem?_drop] at hk
  exact hs1.cellAt hst.drew hk
 obtain ⟨W1, hr1, hst1⟩ := run_append_room_st (P := Tryz.prog) (w := w.drew) (off := off) (sLen := i) (sCap := cap) 206 0 188 i0 uPls hi0 hz1 hst.drew hrd (fun u hu => h1 u (List.mem_of_mem_drop hu)) (by omega) (by rw [hdl]; omega)
 rw [Nat.mul_one] at hst1
 obtain ⟨m, hm⟩ : ∃ m, m = n - 1 := ⟨_, rfl⟩
 rw [show i + (n - j) = m by omega] at hr1
 have r4 := pcut_one (g := g) (off := off) (cap := cap) (i := m) (j := n) (by omega) (by omega)
 obtain ⟨W2, c, hr2, hcl, hst2⟩ := run_clear_st (P := Tryz.prog) (k := 1) (cap := cap - m) (dp := some ⟨g, off + m, none⟩) (off := off + m) 206 0 188 uPls zeroPls (size := 1) rfl ptr_one hst1 (fun _ => rfl) (by rw [length_splice _ _ _ (by omega)]; omega)
 have fin : Hid (∃ v' R', Ending.returned (.slice (some ⟨g, off, none⟩) m cap) = .returned v' ∧ SlIs 188 1 v' m (xs.eraseIdx i) R' ∧ St B w0 W2 (X ++ R')) := Lib.hid (by
  refine ⟨_, _, rfl, SlIs.of (by omega) hcm ?_ ?_, hst2⟩
  ·rw [length_splice _ _ _ (by rw [length_splice _ _ _ (by omega)]; omega), length_splice _ _ _ (by omega)]; omega
  ·rw [Nat.mul_one, hm, hj]
   exact erase_splice hi (by omega) hLx (by omega))
 rw [← hm, hji]
 have hz3 : ((i : Int) == (j : Int)) = false := by rw [beq_eq_false_iff_ne]; omega
 clear hs hs1 hst hrd hst1 hst2 hz0 hz1 hz2 hi0 hLx hLl hcm hnc hi hn ho2 hcl hj hm hxl hdl h1 hji ha
 go_enter Tryz.func220, Tryz.ntmps220
 go_wp2_with fail
 go_still_tail 6, (by kernel_rfl)
 change wpList _ _ _ _ _ w.drew
 generalize w.drew = w4 at *
 go_wp2_with (first | refine wpList_append_go rfl (.tmp 22) (.tmp 25) 206 206 rfl _ _ rfl rfl hr1 ?_ | refine wpList_clear_go rfl (.tmp 31) 206 rfl _ rfl hr2 ?_)
 go_ret
 exact fin.out
set_option maxHeartbeats 1000000 in
theorem indexp_any {pb k : Nat} {a : Option Addr} (hrows : ∀ (i : Nat) p, L[i]? = some p → ∃ g off, a = some ⟨g, off, none⟩ ∧ w.cell? ⟨g, off + i, none⟩ = some (bpt p.b)) (hnd : (L.map Pl.b).Nodup) (hob : ∀ p ∈ L, ∃ c, w.heap[p.b]? = some (.cells c 217 (0, 0))) (hl : L.length ≤ 100000) (hk : L[k]? = some p) (hp : p.b = pb) :
  Calls Tryz.prog 219 #[.slice a L.length cap, bpt pb] w fun e w' => e = .returned (.int .i64 k) ∧ w' = w := by
 replace hrows := Lib.hid hrows
 replace hnd := Lib.hid hnd
 replace hob := Lib.hid hob
 have uPl : Tryz.prog.underlying 188 = some (.pointer 217) := by kernel_rfl
 obtain ⟨j0, hj0, hj1⟩ : ∃ j, Tryz.prog.info? 217 = some j ∧ j.size = 4 := by
  have h : (Tryz.prog.info? 217).map (fun i => i.size) = some 4 := by kernel_rfl
  simpa [Option.map_eq_some_iff] using h
 have heq := Lib.hid (run_eql_ptr_same (P := Tryz.prog) w ⟨pb, 0, none⟩ uPl hj0)
 obtain ⟨cp, hcp⟩ := hob.out p (List.mem_of_getElem? hk)
 rw [hp] at hcp
 have hoth : Hid (∀ x ∈ L, x.b ≠ pb → (binOp .eql 188 (bpt pb) (bpt x.b)).run Tryz.prog w = .ok (.bool false) w) := Lib.hid fun x hx hne => by
  obtain ⟨cx, hcx⟩ := hob.out x hx
  exact run_eql_ptr_other (P := Tryz.prog) (a := ⟨pb, 0, none⟩) (b := ⟨x.b, 0, none⟩) w uPl hj0 (by rw [hj1]; decide) (fun e => hne (congrArg Addr.block e).symm) hcp hcx
 clear hcp hj0 hj1 uPl hob
 go_enter Tryz.func219, Tryz.ntmps219
 go_wp2_with fail
 go_loopg [8] L.length (fun g i wt => ∃ q : Nat, i = .int .i64 q ∧ q + g = L.length ∧ Hid (q ≤ k) ∧ wt = w)
 case atStart => exact ⟨0, rfl, by omega, Lib.hid (by omega), rfl⟩
 case round =>
  obtain ⟨q, rfl, hq, hle, rfl⟩ := hrel
  have hq0 : (0 : Int) ≤ q := by omega
  have hkl := (List.getElem?_eq_some_iff.1 hk).1
  have hlt : q < L.length := by have := hle.out; omega
  have hx : L[q]? = some L[q] := List.getElem?_eq_getElem hlt
  generalize L[q] = x at hx
  obtain ⟨a1, o1, rfl, k1⟩ := hrows.out q x hx
  have hq1 : (q : Int) < L.length := by omega
  by_cases hb : x.b = pb
  ·have e : q = k := (List.getElem?_inj (l := L.map Pl.b) (by rw [List.length_map]; exact hlt) hnd.out).1 (by rw [List.getElem?_map, List.getElem?_map, hx, hk, Option.map_some, Option.map_some, hb, hp])
   subst e
   rw [hb] at k1
   have hq := heq.out
   clear hx hk hle hrows hnd hb hoth
   go_wp2_with fail
   go_ret
   exact ⟨rfl, rfl⟩
  ·have hne : q < k := by
    have := hle.out
    rcases Nat.lt_or_ge q k with h | h
    ·exact h
    ·exfalso
     obtain rfl : q = k := by omega
     rw [hx] at hk
     cases hk
     exact hb hp
   replace hne := Lib.hid hne
   have hq := hoth.out x (List.mem_of_getElem? hx) hb
   generalize x.b = xb at *
   clear hx hle hrows hnd
   go_wp2_with fail
   go_roundg (L.length - (q + 1))
   case measure => omega
   case rel => exact ⟨q + 1, by go_num, by omega, Lib.hid (by have := hne.out; omega), rfl⟩
end
section
variable {B : Nat} {w0 w w' : World} {F T R Q S : List (Nat × Obj)} {tb xb c c' pb : Nat} {M : Prs} {L X Y : List Pl} {p p' : Pl} {k : Ky} {A : List Bnd} {P : List Plc} {v tv u : Value} {n : List UInt8} {keys : List (List UInt8)}
theorem exO_row (R' : List (Nat × Obj)) : (exO xb v tv L R' Q ++ F).Perm ((((xb, .cells #[v, tv] 209) :: (Q ++ plsO L)) ++ F) ++ R') := by
 refine perm_by fun a => ?_
 unfold exO
 simp only [List.count_append, List.count_cons, List.append_assoc, List.cons_append]
 omega
set_option maxHeartbeats 1000000 in
theorem xremove_any (h : SlIs 188 1 v (X ++ p :: Y).length ((X ++ p :: Y).map fun p => bpt p.b) R) (few : (X ++ p :: Y).length ≤ 8) (hst : St B w0 w (exO xb v tv (X ++ p :: Y) R Q ++ F)) :
  Calls Tryz.prog 164 #[bpt xb, bpt p.b] w fun e w' => e = .returned (.tuple #[]) ∧ ∃ v' R', SlIs 188 1 v' (X ++ Y).length ((X ++ Y).map fun p => bpt p.b) R' ∧ St B w0 w' (exO xb v' tv (X ++ Y) R' Q ++ F) := by
 obtain ⟨c0, -, -, -⟩ := hst.ex
 obtain ⟨a, cap, rfl, hrows⟩ := places_form h hst
 have hob : ∀ q ∈ X ++ p :: Y, ∃ c, w.heap[q.b]? = some (.cells c 217 (0, 0)) := fun q hq => ⟨_, hst.get (mem_exO_place hq)⟩
 have hlen : (X ++ p :: Y).length = X.length + Y.length + 1 := by rw [List.length_append, List.length_cons]; omega
 have hlen2 : (X ++ Y).length = X.length + Y.length := List.length_append
 have c1 := Lib.hid (indexp_any (cap := cap) (k := X.length) hrows hst.places hob (by omega) (by rw [List.getElem?_append_right (Nat.le_refl _)]; simp) (rfl : p.b = p.b))
 have c2 := Lib.hid (deletep_any (i := X.length) h (hst.perm (exO_row R)) (by omega) (by omega) (by
  intro u hu
  obtain ⟨q, -, rfl⟩ := List.mem_map.1 hu
  rfl))
 have er : ((X ++ p :: Y).map fun p => bpt p.b).eraseIdx X.length = (X ++ Y).map fun p => bpt p.b := by
  rw [List.map_append, List.map_cons, List.eraseIdx_append_of_length_le (by rw [List.length_map]; omega), List.length_map, Nat.sub_self, List.eraseIdx_cons_zero, List.map_append]
 rw [er, show (X ++ p :: Y).length - 1 = (X ++ Y).length by omega] at c2
 have back : Hid (∀ w1 R1, St B w0 w1 ((((xb, .cells #[.slice a (X ++ p :: Y).length cap, tv] 209) :: (Q ++ plsO (X ++ p :: Y))) ++ F) ++ R1) → w1.frozen? ⟨xb, 0, none⟩ = false ∧ w1.cell? ⟨xb, 0, none⟩ = some (.slice a (X ++ p :: Y).length cap) ∧
   ∀ v1, St B w0 (w1.setCell ⟨xb, 0, none⟩ v1) (exO xb v1 tv (X ++ Y) R1 Q ++ F)) := Lib.hid fun w1 R1 h1 => by
  have h2 := h1.perm (exO_row R1).symm
  refine ⟨h2.ex.2.2.1, h2.ex.1, fun v1 => ?_⟩
  refine ((h2.exSet0 v1).perm exO_split).sub ?_
  exact List.sublist_append_right _ _
 have hk0 : (0 : Int) ≤ X.length := by omega
 have hk1 : (X.length : Int) ≤ 100 := by omega
 clear hlen hlen2 er
 generalize (X ++ p :: Y).length = q at *
 generalize (X ++ Y).length = len at *
 generalize X.length = k at *
 generalize p.b = pb at *
 clear hrows hob hst h few
 go_enter Tryz.func164, Tryz.ntmps164
 go_wp2_with fail
 refine c1.out.mono ?_
 rintro e w1 ⟨rfl, rfl⟩
 clear c1
 go_wp2_with fail
 refine c2.out.mono ?_
 rintro e w2 ⟨v2, R2, rfl, hs2, hst2⟩
 obtain ⟨f0, c02, hb⟩ := back.out _ _ hst2
 have fin := Lib.hid (hb v2)
 replace hs2 := Lib.hid hs2
 obtain ⟨a2, cap2, rfl, -⟩ := hs2.out.form
 clear hst2 hb back c2
 go_wp2_with fail
 exact bodyPost_end (results_none rfl _ _ _) rfl ⟨rfl, _, R2, hs2.out, fin.out⟩
def nextId (l : List Int) : Int := match l.getLast? with | none => 0 | some i => i + 1
theorem nextId_top {l : List Int} (h : l.Pairwise (· < ·)) (ht : ∀ i ∈ l, 0 ≤ i ∧ i < (c : Int)) : 0 ≤ nextId l ∧ nextId l ≤ c ∧ (∀ i ∈ l, i < nextId l) := by
 unfold nextId
 cases hl : l.getLast? with
 | none =>
  rw [List.getLast?_eq_none_iff] at hl
  subst hl
  exact ⟨by simp, by simp, by simp⟩
 | some x =>
  obtain ⟨ys, rfl⟩ := List.getLast?_eq_some_iff.1 hl
  have h1 := ht x (by simp)
  dsimp only
  refine ⟨by omega, by omega, fun i hi => ?_⟩
  rcases List.mem_append.1 hi with hi | hi
  ·have := (List.pairwise_append.1 h).2.2 i hi x (by simp)
   omega
  ·rw [List.mem_singleton] at hi
   omega
theorem Ky.cells (hst : St B w0 w (k.objs ++ F)) : w.cell? ⟨k.kb, 0, none⟩ = some (bpt k.tb) ∧ w.cell? ⟨k.kb, 1, none⟩ = some k.v ∧ w.frozen? ⟨k.kb, 0, none⟩ = false ∧ w.frozen? ⟨k.kb, 1, none⟩ = false := by
 have hm : (k.kb, .cells #[bpt k.tb, k.v] 277) ∈ k.objs ++ F := List.mem_append_left _ List.mem_cons_self
 exact ⟨hst.cell (b := k.kb) (i := 0) hm rfl, hst.cell (b := k.kb) (i := 1) hm rfl, hst.soft (b := k.kb) hm 0, hst.soft (b := k.kb) hm 1⟩
theorem Ky.idsP : (k.objs ++ F).Perm ((((k.kb, .cells #[bpt k.tb, k.v] 277) :: k.T) ++ F) ++ k.S) := by
 refine perm_by fun a => ?_
 unfold Ky.objs
 simp only [List.count_append, List.count_cons, List.append_assoc, List.cons_append]
 omega
theorem Ky.treeP : (k.objs ++ F).Perm (k.T ++ (((k.kb, .cells #[bpt k.tb, k.v] 277) :: k.S) ++ F)) := by
 refine perm_by fun a => ?_
 unfold Ky.objs
 simp only [List.count_append, List.count_cons, List.append_assoc, List.cons_append]
 omega
theorem KyOk.form (h : KyOk k keys c) (hst : St B w0 w (k.objs ++ F)) : ∃ a cap, k.v = .slice a k.ids.length cap ∧ ∀ (i : Nat) x, k.ids[i]? = some x → ∃ g off, a = some ⟨g, off, none⟩ ∧ w.cell? ⟨g, off + i, none⟩ = some (.int .i64 x) := by
 have h2 := hst.perm Ky.idsP
 have h1 := h.ids
 obtain ⟨a, cap, e, -, -, ha⟩ := h1.form
 refine ⟨a, cap, e, fun i x hx => ?_⟩
 obtain ⟨g, off, rfl⟩ := ha i (List.getElem?_eq_some_iff.1 hx).1
 rw [e] at h1
 exact ⟨g, off, rfl, h1.cellAt h2 (by rw [List.getElem?_map, hx]; rfl)⟩
def KyR (B : Nat) (w0 : World) (kb : Nat) (keys : List (List UInt8)) (c : Nat) (F : List (Nat × Obj)) (w' : World) : Prop := ∃ k', k'.kb = kb ∧ KyOk k' keys c ∧ St B w0 w' (k'.objs ++ F)
set_option maxHeartbeats 2000000 in
theorem kadd_any (h : KyOk k keys c) (hst : St B w0 w (k.objs ++ F)) (l : List UInt8) (hl : l.length ≤ 40) (hc : c ≤ 100000) (hk : keys.length ≤ 1000) :
  Calls Tryz.prog 147 #[bpt k.kb, tx l] w fun e w' => e = .returned (.tuple #[]) ∧ KyR B w0 k.kb (keys ++ [l]) (c + 50) F w' := by
 obtain ⟨k0, k1, -, -⟩ := Ky.cells hst
 obtain ⟨a, cap, ev, hat⟩ := h.form hst
 obtain ⟨i0, i1, i2⟩ := nextId_top h.rise h.top
 have hlen := h.len
 have hnew : (wordsL l, nextId k.ids) ∉ (keys.map wordsL).zip k.ids := fun hm => by
  have := i2 _ (List.of_mem_zip hm).2
  omega
 have hM : addM ((keys.map wordsL).zip k.ids) (wordsL l, nextId k.ids) = ((keys ++ [l]).map wordsL).zip (k.ids ++ [nextId k.ids]) := by
  unfold addM
  rw [if_neg hnew, List.map_append, List.zip_append (by rw [List.length_map]; exact hlen)]
  rfl
 have hwl := words_len l
 have ct := Lib.hid (tradd_is (P := wordsL l) rfl hM (c' := c + 50) (by omega) (h.tree.is (hst.perm Ky.treeP)) (by omega) (by omega) (by rw [List.length_zip]; omega))
 have fin : Hid (∀ w1 T', TrIn k.tb (((keys ++ [l]).map wordsL).zip (k.ids ++ [nextId k.ids])) (c + 50) T' → St B w0 w1 (T' ++ (((k.kb, .cells #[bpt k.tb, .slice a k.ids.length cap] 277) :: k.S) ++ F)) →
   w1.cell? ⟨k.kb, 1, none⟩ = some (.slice a k.ids.length cap) ∧ ∃ a' cap' W2, (Builtin.append_ #[259, 259] 0 #[.slice a k.ids.length cap, .slice (some ⟨w1.heap.size, 0, none⟩) 1 1]).run Tryz.prog (w1.alloc (.cells #[.int .i64 (nextId k.ids)] 3)) = .ok (.slice a' (k.ids.length + 1) cap') W2 ∧
    W2.cell? ⟨k.kb, 1, none⟩ = some (.slice a k.ids.length cap) ∧ W2.frozen? ⟨k.kb, 1, none⟩ = false ∧ KyR B w0 k.kb (keys ++ [l]) (c + 50) F (W2.setCell ⟨k.kb, 1, none⟩ (.slice a' (k.ids.length + 1) cap'))) := Lib.hid fun w1 T' hT h1 => by
  have h2 : St B w0 w1 (((T' ++ [(k.kb, .cells #[bpt k.tb, .slice a k.ids.length cap] 277)]) ++ F) ++ k.S) := h1.perm (by
   refine perm_by fun a => ?_
   simp only [List.count_append, List.count_cons, List.append_assoc, List.cons_append, List.count_nil]
   omega)
  have hi := h.ids
  rw [ev] at hi
  refine ⟨h1.cell (b := k.kb) (i := 1) (List.mem_append_right _ (List.mem_append_left _ List.mem_cons_self)) rfl, ?_⟩
  obtain ⟨a0, cap0, e0, a', cap', W2, S2, hr, s2, hst2⟩ := ints_push hi h2 (nextId k.ids) (by omega)
  cases e0
  have h3 : St B w0 W2 ((k.kb, .cells #[bpt k.tb, .slice a k.ids.length cap] 277) :: (S2 ++ T' ++ F)) := hst2.perm (by
   refine perm_by fun a => ?_
   simp only [List.count_append, List.count_cons, List.append_assoc, List.cons_append, List.count_nil]
   omega)
  refine ⟨a', cap', W2, hr, h3.cell (b := k.kb) (i := 1) List.mem_cons_self rfl, h3.soft (b := k.kb) List.mem_cons_self 1, ⟨k.kb, k.tb, .slice a' (k.ids.length + 1) cap', k.ids ++ [nextId k.ids], S2, T'⟩, rfl, ?_, ?_⟩
  ·refine ⟨?_, by rw [List.length_append, List.length_append, hlen]; rfl, ?_, ?_, hT⟩
   ·show SlIs _ _ _ (k.ids ++ [nextId k.ids]).length _ _
    rw [List.length_append, List.length_singleton]
    rw [List.length_append, List.length_singleton] at s2
    exact s2
   ·rw [List.pairwise_append]
    exact ⟨h.rise, by simp, fun x hx y hy => by rw [List.mem_singleton] at hy; subst hy; exact i2 x hx⟩
   ·intro i hi
    rcases List.mem_append.1 hi with hi | hi
    ·have := h.top i hi
     omega
    ·rw [List.mem_singleton] at hi
     subst hi
     omega
  ·have := h3.set0 1 (.slice a' (k.ids.length + 1) cap')
   exact this
 obtain ⟨kb, tb, v, ids, S, T⟩ := k
 simp only at k0 k1 ev hat ct fin i0 i1 hlen
 subst ev
 have few : ids.length ≤ 1000 := by omega
 by_cases h0 : ids = []
 ·subst h0
  rw [show nextId [] = 0 from rfl] at ct fin
  clear h hst hat i0 i1 i2 hnew hM hwl hlen few
  go_enter Tryz.func147, Tryz.ntmps147
  go_wp2_with fail
  refine ct.out.mono ?_
  rintro e w1 ⟨rfl, ht⟩
  obtain ⟨T', hT, h1⟩ := TrIn.of ht
  obtain ⟨k2, a', cap', W2, hrun, k3, k4, fin⟩ := fin.out _ _ hT h1
  replace fin := Lib.hid fin
  clear hT h1 ht ct
  go_wp2_with (at_builtin; refine wpList_append_go rfl (.tmp 33) (.tmp 35) 259 259 rfl _ _ rfl rfl hrun ?_)
  exact bodyPost_end (results_none rfl _ _ _) rfl ⟨rfl, fin.out⟩
 ·obtain ⟨x, hx⟩ : ∃ x, ids.getLast? = some x := by
   cases hl : ids.getLast? with
   | none => rw [List.getLast?_eq_none_iff] at hl; exact absurd hl h0
   | some x => exact ⟨x, rfl⟩
  have en : nextId ids = x + 1 := by rw [nextId, hx]
  have hx2 : ids[ids.length - 1]? = some x := by rw [← List.getLast?_eq_getElem?]; exact hx
  obtain ⟨g, off, rfl, k5⟩ := hat _ _ hx2
  have hpos : 0 < ids.length := List.length_pos_iff.2 h0
  obtain ⟨m, hm⟩ : ∃ m, ids.length = m + 1 := ⟨ids.length - 1, by omega⟩
  rw [hm, Nat.add_sub_cancel] at k5
  rw [en] at ct fin i0 i1
  rw [hm] at k1 fin few ct
  have hx0 : 0 ≤ x := (h.top x (List.mem_of_getElem? hx2)).1
  clear h hst hat i2 hnew hM hwl hlen hx hx2 hpos hm h0 en
  go_enter Tryz.func147, Tryz.ntmps147
  go_wp2_with fail
  refine ct.out.mono ?_
  rintro e w1 ⟨rfl, ht⟩
  obtain ⟨T', hT, h1⟩ := TrIn.of ht
  obtain ⟨k2, a', cap', W2, hrun, k3, k4, fin⟩ := fin.out _ _ hT h1
  replace fin := Lib.hid fin
  clear hT h1 ht ct
  go_wp2_with (at_builtin; refine wpList_append_go rfl (.tmp 33) (.tmp 35) 259 259 rfl _ _ rfl rfl hrun ?_)
  exact bodyPost_end (results_none rfl _ _ _) rfl ⟨rfl, fin.out⟩
end
end Go.Proofs.YtknjamfjonapiaaGreatDoor
