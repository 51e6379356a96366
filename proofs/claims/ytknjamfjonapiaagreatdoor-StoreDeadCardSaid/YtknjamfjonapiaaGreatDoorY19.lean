import Derived.Test.YtknjamfjonapiaaGreatDoorY18
import Derived.StillTailTactics
import Derived.Deep.RegionLaw
import Derived.OpenShut
import Derived.Laws.ComplexArith
import Derived.Laws.Cover3
import Derived.Laws.Entries
import Derived.Deep.QuietTactic
import Derived.BigQuiet
import Derived.Lib.Hide
import Derived.Lib.SliceRun
import Derived.Deep.RegionWith
import Derived.Deep.RegionHeld3
import Derived.Deep.DeepCutAuto
import Derived.Deep.CutBlock
import Derived.Test.YtknjamfjonapiaaGreatDoorY03
import Derived.Test.YtknjamfjonapiaaGreatDoorRows
import Derived.Test.YtknjamfjonapiaaGreatDoorProg
import Derived.Lib.LaidTab
import Derived.LaidMore
import Derived.MakeChecks
namespace Go.Proofs.YtknjamfjonapiaaGreatDoor
open Go.RowKit
set_option linter.unusedVariables false
def wordsV (ws : List Nat) : List Value := ws.map fun u : Nat => Value.int .u64 (u : Int)
def wordsObj (ws : List Nat) : Obj := .cells (wordsV ws).toArray 370
def headV (x : Nat × List Nat) : Value := .slice (some ⟨x.1, 0, none⟩) x.2.length x.2.length
def lvH (L : List (Nat × List Nat)) : List (Nat × Obj) := L.map fun x => (x.1, wordsObj x.2)
theorem wordsV_at {ws : List Nat} {j u : Nat} (h : ws[j]? = some u) : (wordsV ws)[j]? = some (.int .u64 (u : Int)) := by simp [wordsV, h]
def Tab (B : Nat) (w0 : World) : Prop := 1 < B ∧ TabAt w0
theorem Tab.at_ {B : Nat} {w0 w : World} {H : List (Nat × Obj)} (h : Tab B w0) (hst : St B w0 w H) : TabAt w := fun j hj => by
 have hb := hst.below.block _ h.1
 have := h.2 j hj
 simp only [World.cell?] at this ⊢
 rw [hb]; exact this
structure BmAt (B : Nat) (w0 w : World) (bb : Nat) (L : List (Nat × List Nat)) (places count : Nat) (ov : Value) (oF F : List (Nat × Obj)) : Prop where
 sl : SlIs 369 1 ov L.length (L.map headV) oF
 st : St B w0 w (((bb, .cells #[ov, .int .i64 (places : Int), .int .i64 (count : Int)] 368) :: (lvH L ++ F)) ++ oF)
structure BmWf (L : List (Nat × List Nat)) (places : Nat) : Prop where
 top : places ≤ 5000
 reach : ∀ (l : Nat) (x : Nat × List Nat), L[l]? = some x → places ≤ 64 ^ (l + 1) * x.2.length
 size : ∀ (l : Nat) (x : Nat × List Nat), L[l]? = some x → x.2.length ≤ 5000
 last : ∀ x : Nat × List Nat, L[L.length - 1]? = some x → x.2.length = 1
 bare : L = [] → places = 0
 few : L.length ≤ 5000
def BitsAll (s : Nat → Bool) (L : List (Nat × List Nat)) : Prop := ∀ (l : Nat) (x : Nat × List Nat), L[l]? = some x → Bits s l x.2
section
variable {B : Nat} {w0 w : World} {bb places count : Nat} {L : List (Nat × List Nat)} {ov : Value} {oF F : List (Nat × Obj)} {s : Nat → Bool}
theorem BmAt.c0 (h : BmAt B w0 w bb L places count ov oF F) : w.cell? ⟨bb, 0, none⟩ = some ov := h.st.cell (List.mem_append_left _ List.mem_cons_self) rfl
theorem BmAt.c1 (h : BmAt B w0 w bb L places count ov oF F) : w.cell? ⟨bb, 1, none⟩ = some (.int .i64 (places : Int)) := h.st.cell (List.mem_append_left _ List.mem_cons_self) rfl
theorem BmAt.c2 (h : BmAt B w0 w bb L places count ov oF F) : w.cell? ⟨bb, 2, none⟩ = some (.int .i64 (count : Int)) := h.st.cell (List.mem_append_left _ List.mem_cons_self) rfl
theorem BmAt.soft (h : BmAt B w0 w bb L places count ov oF F) (i : Nat) : w.frozen? ⟨bb, i, none⟩ = false := St.soft h.st (List.mem_append_left _ List.mem_cons_self) i
theorem BmAt.drewN (h : BmAt B w0 w bb L places count ov oF F) (n : Nat) : BmAt B w0 (w.drewN n) bb L places count ov oF F := ⟨h.sl, h.st.drewN n⟩
theorem lvH_mem {l : Nat} {b : Nat} {ws : List Nat} (hl : L[l]? = some (b, ws)) : (b, wordsObj ws) ∈ lvH L :=
 List.mem_map.2 ⟨(b, ws), List.mem_of_getElem? hl, rfl⟩
theorem BmAt.word (h : BmAt B w0 w bb L places count ov oF F) {l b j u : Nat} {ws : List Nat} (hl : L[l]? = some (b, ws)) (hu : ws[j]? = some u) : w.cell? ⟨b, j, none⟩ = some (.int .u64 (u : Int)) :=
 h.st.cell (b := b) (c := (wordsV ws).toArray) (T := 370) (fr := (0, 0)) (List.mem_append_left _ (List.mem_cons_of_mem _ (List.mem_append_left _ (lvH_mem hl)))) (by rw [List.getElem?_toArray]; exact wordsV_at hu)
theorem BmAt.form (h : BmAt B w0 w bb L places count ov oF F) : ∃ a cap, ov = .slice a L.length cap := by
 obtain ⟨a, cap, h1, -⟩ := h.sl.form
 exact ⟨a, cap, h1⟩
theorem BmAt.head (h : BmAt B w0 w bb L places count ov oF F) {l b : Nat} {ws : List Nat} (hl : L[l]? = some (b, ws)) :
  ∃ g off cap, ov = .slice (some ⟨g, off, none⟩) L.length cap ∧ w.cell? ⟨g, off + l, none⟩ = some (.slice (some ⟨b, 0, none⟩) ws.length ws.length) := by
 obtain ⟨a, cap, rfl, _, _, ha⟩ := h.sl.form
 obtain ⟨g, off, rfl⟩ := ha l (List.getElem?_eq_some_iff.1 hl).1
 exact ⟨g, off, cap, rfl, h.sl.cellAt h.st (by simp [hl, headV])⟩
theorem BmWf.first (wf : BmWf L places) {p : Nat} (hp : p < places) : ∃ b ws, L[0]? = some (b, ws) ∧ p / 64 < ws.length := by
 cases L with
 | nil => have := wf.bare rfl; omega
 | cons x L =>
  have := wf.reach 0 x rfl
  rw [Nat.zero_add, Nat.pow_one] at this
  exact ⟨x.1, x.2, rfl, by omega⟩
def BmIs (B : Nat) (w0 w : World) (bb : Nat) (s : Nat → Bool) (k : Nat) (F : List (Nat × Obj)) : Prop :=
 Tab B w0 ∧ (∀ p, s p = true → p < k) ∧ ∃ L ov oF, BmWf L k ∧ BitsAll s L ∧ BmAt B w0 w bb L k (cntB s k) ov oF F
theorem BmIs.drewN (h : BmIs B w0 w bb s places F) (n : Nat) : BmIs B w0 (w.drewN n) bb s places F := by
 obtain ⟨h1, h2, L, ov, oF, h3, h4, h5⟩ := h
 exact ⟨h1, h2, L, ov, oF, h3, h4, h5.drewN n⟩
theorem BmIs.top (h : BmIs B w0 w bb s places F) : places ≤ 5000 := by
 obtain ⟨h1, h2, L, ov, oF, h3, h4, h5⟩ := h
 exact h3.top
def isPlaceB (k : Nat) (i : Int) : Bool := decide (0 ≤ i) && decide (i < k)
set_option maxHeartbeats 400000 in
theorem isPlace_any (h : BmAt B w0 w bb L places count ov oF F) (i : Int) :
  Calls Tryz.prog 306 #[bptr bb, .int .i64 i] w fun e w' => e = .returned (.bool (isPlaceB places i)) ∧ w = w' := by
 have c1 := h.c1
 clear h
 unfold isPlaceB
 by_cases h0 : 0 ≤ i
 ·go_enter Tryz.func306, Tryz.ntmps306
  go_wp2
  go_ret
  exact ⟨by simp [h0], rfl⟩
 ·have h0' : decide (0 ≤ i) = false := by simpa using h0
  rw [h0', Bool.false_and]
  go_enter Tryz.func306, Tryz.ntmps306
  go_wp2
  go_ret
  exact ⟨rfl, rfl⟩
theorem and_bit {u k : Nat} : (u &&& 2 ^ k = 0) ↔ u.testBit k = false := by
 rw [nat_bit, Nat.testBit_eq_decide_div_mod_eq]
 have h1 : 0 < 2 ^ k := Nat.two_pow_pos k
 have h2 := Nat.mod_two_eq_zero_or_one (u / 2 ^ k)
 rcases h2 with h | h
 ·rw [h]; simp
 ·rw [h]; simp
set_option maxHeartbeats 1000000 in
theorem has_place (h : BmIs B w0 w bb s places F) (i : Nat) (hi : i < places) :
  Calls Tryz.prog 307 #[bptr bb, .int .i64 i] w fun e w' => e = .returned (.bool (s i)) ∧ ∃ n, w' = w.drewN n := by
 obtain ⟨-, -, L, ov, oF, wf, hb, h⟩ := h
 obtain ⟨b, ws, hl, hj⟩ := wf.first hi
 have htop := wf.top
 obtain ⟨g, off, cap, rfl, hh⟩ := h.head hl
 have hu : ws[i / 64]? = some ws[i / 64] := List.getElem?_eq_getElem hj
 have hw := h.word hl hu
 have c0 := h.c0
 obtain ⟨hlt, hbit⟩ := hb 0 _ hl _ _ hu
 have hbit := hbit (i % 64) (Nat.mod_lt _ (by decide))
 rw [up_zero, show 64 * (i / 64) + i % 64 = i by omega] at hbit
 have hLpos : 0 < L.length := (List.getElem?_eq_some_iff.1 hl).1
 have hws := wf.size 0 _ hl
 generalize ws[i / 64] = u at *
 have cp : Hid (∀ n, Calls Tryz.prog 306 #[bptr bb, .int .i64 i] (w.drewN n) fun e w' => e = .returned (.bool true) ∧ ∃ m, w' = (w.drewN n).drewN m) := fun n => by
  have := isPlace_any (h.drewN n) (i : Int)
  rw [show isPlaceB places i = true by simp [isPlaceB, hi]] at this
  exact this.mono fun _ _ ⟨h1, h2⟩ => ⟨h1, 0, h2.symm⟩
 have cb : Hid (∀ n, Calls Tryz.prog 310 #[.int .i64 i] (w.drewN n) fun e w' => e = .returned (.int .u64 ((2 ^ (i % 64) : Nat) : Int)) ∧ ∃ m, w' = (w.drewN n).drewN m) := fun n => (bitOf_any i _ (by omega)).mono fun _ _ ⟨h1, h2⟩ => ⟨h1, 0, h2.symm⟩
 have e1 : bits BinOp.and IntKind.u64 (u : Int) ((2 ^ (i % 64) : Nat) : Int) = ((u &&& 2 ^ (i % 64) : Nat) : Int) := u64_and_nat _ _ hlt (pow_lt_64 _ (Nat.mod_lt _ (by decide)))
 have e2 : (((u &&& 2 ^ (i % 64) : Nat) : Int) != 0) = s i := by
  cases hs : s i with
  | true =>
   have h1 := hbit.2 hs
   have : u &&& 2 ^ (i % 64) ≠ 0 := fun e => by rw [and_bit, h1] at e; cases e
   simp; omega
  | false =>
   have : u &&& 2 ^ (i % 64) = 0 := and_bit.2 (by cases h : u.testBit (i % 64) <;> simp_all)
   simp [this]
 have hq0 : (0 : Int) ≤ i := by omega
 have hi0 : (0 : Int) ≤ i / 64 := by omega
 have hi1 : (i : Int) / 64 < ws.length := by omega
 have hL1 : (0 : Int) < L.length := by omega
 simp only [Nat.add_zero] at hh
 generalize ((u &&& 2 ^ (i % 64) : Nat) : Int) = v at *
 generalize ((2 ^ (i % 64) : Nat) : Int) = q at *
 clear h hb hl hj hbit hlt wf hu
 go_enter Tryz.func307, Tryz.ntmps307
 go_wp2_with fail
 go_quiet ((first | (go_at_call 306; exact Calls.quiet_of (cp.out _)) | (go_at_call 310; exact Calls.quiet_of (cb.out _))))
 go_wp2_with fail
 go_ret
 exact ⟨rfl, _, rfl⟩
end
end Go.Proofs.YtknjamfjonapiaaGreatDoor
namespace Go.Proofs.YtknjamfjonapiaaGreatDoor
open Go.RowKit
set_option maxRecDepth 100000
set_option linter.unusedVariables false
section
variable {B : Nat} {w0 w : World} {bb places count : Nat} {L : List (Nat × List Nat)} {ov : Value} {oF F : List (Nat × Obj)} {s : Nat → Bool}
def Drew (w w' : World) : Prop := ∃ n, w' = w.drewN n
theorem Drew.refl (w : World) : Drew w w := ⟨0, rfl⟩
theorem Drew.drewN {w w' : World} (h : Drew w w') (m : Nat) : Drew w (w'.drewN m) := by
 obtain ⟨n, rfl⟩ := h
 exact ⟨n + m, by simp [World.drewN, Nat.add_comm, Nat.add_left_comm]⟩
theorem BmAt.drews {w' : World} (h : BmAt B w0 w bb L places count ov oF F) (hd : Drew w w') : BmAt B w0 w' bb L places count ov oF F := by
 obtain ⟨n, rfl⟩ := hd
 exact h.drewN n
theorem BmIs.drews {k : Nat} {w' : World} (h : BmIs B w0 w bb s k F) (hd : Drew w w') : BmIs B w0 w' bb s k F := by
 obtain ⟨n, rfl⟩ := hd
 exact h.drewN n
theorem BmWf.beside (wf : BmWf L places) {l i : Nat} {x : Nat × List Nat} (hx : L[l]? = some x) (hi : x.2.length ≤ i / 64) : places ≤ i * 64 ^ l := by
 refine Nat.le_trans (wf.reach l x hx) ?_
 rw [Nat.mul_comm, mul_pow_up]
 exact Nat.mul_le_mul_right _ (by omega)
theorem BmWf.under (wf : BmWf L places) (hs : ∀ p, s p = true → p < places) {l i : Nat} {x : Nat × List Nat} (hx : L[l]? = some x) (hup : Up s (l + 1) i) : i < x.2.length := by
 obtain ⟨p, rfl, hp⟩ := hup
 have h1 := hs p hp
 have h2 := wf.reach l x hx
 rw [Nat.div_lt_iff_lt_mul (Nat.pow_pos (by decide)), Nat.mul_comm]
 omega
end
end Go.Proofs.YtknjamfjonapiaaGreatDoor
namespace Go.Proofs.YtknjamfjonapiaaGreatDoor
open Go.RowKit
set_option maxRecDepth 100000
set_option linter.unusedVariables false
section
variable {B : Nat} {w0 w : World} {bb places count : Nat} {L : List (Nat × List Nat)} {ov : Value} {oF F : List (Nat × Obj)} {s : Nat → Bool}
end
end Go.Proofs.YtknjamfjonapiaaGreatDoor
namespace Go.Proofs.YtknjamfjonapiaaGreatDoor
open Go.RowKit
set_option maxRecDepth 100000
set_option linter.unusedVariables false
section
variable {B : Nat} {w0 w : World} {bb places count : Nat} {L : List (Nat × List Nat)} {ov : Value} {oF F : List (Nat × Obj)} {s : Nat → Bool}
def setB (s : Nat → Bool) (k : Nat) (i : Int) (on : Bool) : Nat → Bool := if isPlaceB k i then (if on then ins s i.toNat else del s i.toNat) else s
def SetR (B : Nat) (w0 : World) (bb places : Nat) (t : Nat → Bool) (F : List (Nat × Obj)) (e : Ending) (w' : World) : Prop :=
 e = .returned (.tuple #[]) ∧ BmIs B w0 w' bb t places F
theorem isPlace_draws (h : BmIs B w0 w bb s places F) (i : Int) :
  Calls Tryz.prog 306 #[bptr bb, .int .i64 i] w fun e w' => e = .returned (.bool (isPlaceB places i)) ∧ w = w' := by
 obtain ⟨-, -, L, ov, oF, wf, hb, h⟩ := h
 exact isPlace_any h i
set_option maxHeartbeats 1000000 in
theorem set_same (h : BmIs B w0 w bb s places F) (i : Nat) (on : Bool) (hi : i < places) (hs : s i = on) :
  Calls Tryz.prog 290 #[bptr bb, .int .i64 i, .bool on] w (SetR B w0 bb places s F) := by
 have cp := isPlace_draws h i
 rw [show isPlaceB places i = true by simp [isPlaceB, hi]] at cp
 have ch := has_place h i hi
 rw [hs] at ch
 have cp := Lib.hid cp
 have ch := Lib.hid ch
 have h := Lib.hid h
 have h0 : (on == on) = true := by simp
 clear hi hs
 go_enter Tryz.func290, Tryz.ntmps290
 go_wp2_with fail
 refine cp.out.mono ?_
 rintro e w1 ⟨rfl, rfl⟩
 go_wp2_with fail
 refine ch.out.mono ?_
 rintro e w1 ⟨rfl, hd⟩
 go_wp2_with fail
 exact bodyPost_end (results_none rfl _ _ _) rfl ⟨rfl, h.out.drews hd⟩
end
end Go.Proofs.YtknjamfjonapiaaGreatDoor
namespace Go.Proofs.YtknjamfjonapiaaGreatDoor
open Go.RowKit
set_option maxRecDepth 100000
set_option linter.unusedVariables false
section
variable {B : Nat} {w0 w : World} {bb places count : Nat} {L : List (Nat × List Nat)} {ov : Value} {oF F : List (Nat × Obj)} {s : Nat → Bool}
theorem BmAt.stored {w' : World} {hb : Nat} {o : Obj} {v : Value} {oF' : List (Nat × Obj)} (hs : SlIs 369 1 v L.length (L.map headV) oF')
  (h : St B w0 w' ((hb, o) :: (((bb, .cells #[ov, .int .i64 (places : Int), .int .i64 (count : Int)] 368) :: (lvH L ++ F))) ++ oF')) : BmAt B w0 (w'.setCell ⟨bb, 0, none⟩ v) bb L places count v oF' F := by
 refine ⟨hs, ?_⟩
 have h1 : St B w0 w' ((bb, .cells #[ov, .int .i64 (places : Int), .int .i64 (count : Int)] 368) :: ((lvH L ++ F) ++ oF')) := h.sub (List.sublist_cons_self _ _)
 rw [List.cons_append]
 exact h1.set0 0 v
end
end Go.Proofs.YtknjamfjonapiaaGreatDoor
namespace Go.Proofs.YtknjamfjonapiaaGreatDoor
open Go.RowKit
set_option maxRecDepth 100000
set_option linter.unusedVariables false
theorem Tab.below {w w' : World} (h : Tab w.heap.size w) (hb : Below w.heap.size w w') : Tab w'.heap.size w' := by
 refine ⟨Nat.lt_of_lt_of_le h.1 hb.size, fun j hj => ?_⟩
 have := h.2 j hj
 exact (hb.cell (p := ⟨1, j, none⟩) h.1).trans this
section
variable {B : Nat} {w0 w : World} {bb k : Nat} {F : List (Nat × Obj)} {s : Nat → Bool}
theorem BmIs.below (h : BmIs B w0 w bb s k F) : Below B w0 w := by
 obtain ⟨-, -, L, ov, oF, -, -, h⟩ := h
 exact h.st.below
def none0 : Nat → Bool := fun _ => false
end
end Go.Proofs.YtknjamfjonapiaaGreatDoor
namespace Go.Proofs.YtknjamfjonapiaaGreatDoor
open Ieee
end Go.Proofs.YtknjamfjonapiaaGreatDoor
namespace Go.Proofs.YtknjamfjonapiaaGreatDoor
open Go.RowKit
set_option linter.unusedVariables false
set_option linter.unusedSectionVars false
set_option maxRecDepth 100000
abbrev gup (b : Nat) : Value := .pointer (some ⟨b, 0, none⟩)
abbrev seatV (p s : Nat) : Value := .complex .f64 (floatOfInt .f64 (p : Int)) (floatOfInt .f64 (s : Int))
abbrev gusO (v u : Value) : Obj := .cells #[v, u] 199
structure GuAt (B : Nat) (w0 w : World) (gb : Nat) (v : Value) (M : List Gst) (T : Nat) (S F : List (Nat × Obj)) : Prop where
 sl : GssIs v M S
 st : St B w0 w ((gb, gusO v (seatV (T % 64) (T / 64))) :: (F ++ S))
def GuIsX (qT : Bool) (B : Nat) (w0 w : World) (gb : Nat) (M : List Gst) (T : Nat) (F : List (Nat × Obj)) : Prop :=
 (qT = true → Tab B w0) ∧ OkT M.length T ∧ M.length ≤ 60000 ∧ ∃ v S, GuAt B w0 w gb v M T S F
structure RdG (w : World) (gb : Nat) (M : List Gst) (a : Option Addr) (c : Nat) : Prop where
 c0 : w.cell? ⟨gb, 0, none⟩ = some (.slice a M.length c)
 rd : ReadGs w a M
section
variable {qT : Bool} {B : Nat} {w0 w w' : World} {gb b c T : Nat} {M L : List Gst} {a : Option Addr} {v : Value} {S F F' X : List (Nat × Obj)} {x y : Gst}
theorem RdG.below (h : RdG w gb M a c) (hb : Below w.heap.size w w') : RdG w' gb M a c := ⟨cellUp h.c0 hb, h.rd.below hb⟩
theorem GuAt.form (h : GuAt B w0 w gb v M T S F) : ∃ a c, v = .slice a M.length c := GssIs.form h.sl
theorem GuAt.c0 (h : GuAt B w0 w gb v M T S F) : w.cell? ⟨gb, 0, none⟩ = some v := h.st.cell List.mem_cons_self rfl
theorem GuAt.c1 (h : GuAt B w0 w gb v M T S F) : w.cell? ⟨gb, 1, none⟩ = some (seatV (T % 64) (T / 64)) := h.st.cell List.mem_cons_self rfl
theorem GuAt.soft (h : GuAt B w0 w gb v M T S F) (i : Nat) : w.frozen? ⟨gb, i, none⟩ = false := St.soft h.st List.mem_cons_self i
theorem GuAt.grow (h : GuAt B w0 w gb v M T S F) (hb : Below w.heap.size w w') : GuAt B w0 w' gb v M T S F := ⟨h.sl, h.st.grow hb⟩
theorem GuAt.rdg (h : GuAt B w0 w gb (.slice a M.length c) M T S F) : RdG w gb M a c := ⟨h.c0, GssIs.read (X := (gb, gusO _ (seatV (T % 64) (T / 64))) :: F) h.sl h.st⟩
theorem GuAt.turn (h : GuAt B w0 w gb v M T S F) (T' : Nat) : GuAt B w0 (w.setCell ⟨gb, 1, none⟩ (seatV (T' % 64) (T' / 64))) gb v M T' S F := ⟨h.sl, h.st.set0 1 _⟩
theorem GuAt.tab (hT : Tab B w0) (h : St B w0 w X) : Tab w.heap.size w := ⟨Nat.lt_of_lt_of_le hT.1 h.base, hT.at_ h⟩
theorem GuIsX.beside (h : GuIsX qT B w0 w gb M T F) : ∃ S, St B w0 w (S ++ F) ∧ ∀ w' F', St B w0 w' (S ++ F') → GuIsX qT B w0 w' gb M T F' := by
 obtain ⟨h1, h2, h3, v, S, h4, h5⟩ := h
 have hp : ∀ F : List (Nat × Obj), ((gb, gusO v (seatV (T % 64) (T / 64))) :: (F ++ S)).Perm (((gb, gusO v (seatV (T % 64) (T / 64))) :: S) ++ F) := fun F => List.Perm.cons _ List.perm_append_comm
 exact ⟨_, h5.perm (hp F), fun w' F' h' => ⟨h1, h2, h3, v, S, h4, h'.perm (hp F').symm⟩⟩
theorem GuIsX.grow (h : GuIsX qT B w0 w gb M T F) (hb : Below w.heap.size w w') : GuIsX qT B w0 w' gb M T F := by
 obtain ⟨S, h1, h2⟩ := h.beside
 exact h2 _ _ (h1.grow hb)
theorem GuIsX.sub (h : GuIsX qT B w0 w gb M T F) (hs : F'.Sublist F) : GuIsX qT B w0 w gb M T F' := by
 obtain ⟨S, h1, h2⟩ := h.beside
 exact h2 _ _ (h1.sub ((List.Sublist.refl S).append hs))
theorem GuIsX.permF (h : GuIsX qT B w0 w gb M T F) (hp : F.Perm F') : GuIsX qT B w0 w gb M T F' := by
 obtain ⟨S, h1, h2⟩ := h.beside
 exact h2 _ _ (h1.perm (hp.append_left S))
theorem GuIsX.alloc (h : GuIsX qT B w0 w gb M T F) (o : Obj) : GuIsX qT B w0 (w.alloc o) gb M T ((w.heap.size, o) :: F) := by
 obtain ⟨S, h1, h2⟩ := h.beside
 exact h2 _ _ ((h1.alloc o).perm List.perm_middle.symm)
theorem GuIsX.below (h : GuIsX qT B w0 w gb M T F) : Below B w0 w := by
 obtain ⟨S, h1, h2⟩ := h.beside
 exact h1.below
theorem GuIsX.guest (h : GuIsX qT B w0 w gb M T F) (hm : (b, gsO x) ∈ F) : GsAt w b x ∧ ∀ i, w.frozen? ⟨b, i, none⟩ = false := by
 obtain ⟨S, h1, -⟩ := h.beside
 exact ⟨h1.gsAt (List.mem_append_right _ hm), fun i => h1.soft (List.mem_append_right _ hm) i⟩
def idxV (r : Option Nat) : Value := .tuple #[.int .i64 ((r.getD 0 : Nat) : Int), .bool r.isSome]
set_option maxHeartbeats 2000000 in
theorem gsFind_any (h : RdG w gb M a c) (hl : M.length ≤ 100000) (p q : Int) (t : List UInt8) {r : Option Nat} (hr0 : idxG M p q t = r) :
  Calls Tryz.prog 153 #[gup gb, .int .i64 p, .int .i64 q, tx t] w fun e w' => e = .returned (idxV r) ∧ w' = w := by
 obtain ⟨c0, hr⟩ := h
 have hyes : Hid (∀ (i : Nat) x, M[i]? = some x → keyG p q t x = true → (∀ (j : Nat) y, j < i → M[j]? = some y → keyG p q t y = false) → idxV r = .tuple #[.int .i64 (i : Int), .bool true]) := Lib.hid fun i x hi he hn => by
  rw [← hr0, idx_some hi he hn]
  rfl
 have hno : Hid ((∀ (j : Nat) y, j < M.length → M[j]? = some y → keyG p q t y = false) → idxV r = .tuple #[.int .i64 0, .bool false]) := Lib.hid fun hn => by
  rw [← hr0, idx_none hn]
  rfl
 have hl0 : (M.length : Int) ≤ 100000 := by omega
 replace hr := Lib.hid hr
 generalize idxV r = R at *
 clear hr0
 go_enter Tryz.func153, Tryz.ntmps153
 go_wp2_with fail
 refine wp_scope_ghost 0 (fun g aq wt => ∃ i : Nat, i + g = M.length ∧ Hid (∀ (j : Nat) y, j < i → M[j]? = some y → keyG p q t y = false) ∧ Fr 50 [(0, gup gb), (1, .int .i64 p), (2, .int .i64 q), (3, tx t), (8, .int .i64 0), (9, .bool false), (10, .int .i64 (i : Int))] aq ∧ wt = w) rfl ?_ ?_
 ·rintro g a' w' ⟨i, hi, hn, hfr, rfl⟩
  obtain ⟨q', rfl, hl'⟩ := hfr.lit
  clear hfr
  simp only [List.mem_cons, List.not_mem_nil, or_false, forall_eq_or_imp, forall_eq] at hl'
  obtain ⟨f0, f1, f2, f3, f8, f9, f10⟩ := hl'
  simp only [List.range, List.range.loop, List.map, f0, f1, f2, f3, f8, f9, f10]
  clear f0 f1 f2 f3 f8 f9 f10
  have hi0 : (0 : Int) ≤ i := by omega
  by_cases hlt : i < M.length
  ·have hx : M[i]? = some M[i] := List.getElem?_eq_getElem hlt
   have hi1 : (i : Int) < M.length := by omega
   have hne : ((i : Int) == M.length) = false := by rw [beq_eq_false_iff_ne]; omega
   generalize M[i] = x at hx
   obtain ⟨g1, o1, rfl, k0, k1, k2, -⟩ := hr.out i x hx
   by_cases hk : keyG p q t x = true
   ·obtain ⟨e1, e2, e3⟩ := key_yes hk
    have fin := Lib.hid (hyes.out i x hx hk hn.out)
    clear hyes hno hn hx hr hk
    go_wp2_with fail
    simp only [Exit.jump]
    go_ret2
    exact ⟨by rw [fin.out]; rfl, rfl⟩
   ·have hk' : keyG p q t x = false := by simpa using hk
    have nxt : Hid (∀ (j : Nat) y, j < i + 1 → M[j]? = some y → keyG p q t y = false) := Lib.hid fun j y hj hy => by
     rcases (by omega : j < i ∨ j = i) with h9 | rfl
     ·exact hn.out j y h9 hy
     ·rw [hx] at hy
      cases hy
      exact hk'
    have hw := key_ways hk'
    clear hyes hno hn hx hr hk hk'
    rcases hw with e1 | ⟨e1, e2⟩ | ⟨e1, e2, e3⟩
    all_goals
     go_wp2_with fail
     refine wp_goto ?_
     exact ⟨rfl, g - 1, by omega, i + 1, by omega, nxt, ⟨rfl, rfl, by simp⟩, rfl⟩
  ·obtain rfl : i = M.length := by omega
   have fin := Lib.hid (hno.out hn.out)
   clear hyes hno hn hr
   go_wp2_with fail
   simp only [Exit.jump]
   go_ret2
   exact ⟨by rw [fin.out]; rfl, rfl⟩
 ·intro H
  clear hyes hno hr
  go_wp2_with fail
  refine wp_label ?_
  go_step
  go_step
  exact H M.length _ _ ⟨0, by omega, Lib.hid fun j y hj => absurd hj (by omega), ⟨rfl, rfl, by simp⟩, rfl⟩
end
end Go.Proofs.YtknjamfjonapiaaGreatDoor
namespace Go.Proofs.YtknjamfjonapiaaGreatDoor
open Go.RowKit
set_option linter.unusedVariables false
set_option linter.unusedSectionVars false
set_option maxRecDepth 100000
section
variable {B : Nat} {w0 w w' : World} {gb b c T k : Nat} {M L : List Gst} {a : Option Addr} {v : Value} {S F F' X : List (Nat × Obj)} {x y : Gst}
set_option maxHeartbeats 400000 in
theorem len_any (h : RdG w gb M a c) : Calls Tryz.prog 72 #[gup gb] w fun e w' => e = .returned (.int .i64 M.length) ∧ w' = w := by
 have c0 := h.c0
 clear h
 go_enter Tryz.func72, Tryz.ntmps72
 go_wp2_with fail
 go_ret
 exact ⟨rfl, rfl⟩
set_option maxHeartbeats 1000000 in
theorem sole_any (h : RdG w gb M a c) (hl : M.length ≤ 100000) : Calls Tryz.prog 86 #[gup gb] w fun e w' => e = .returned (.bool (soleG M)) ∧ w' = w := by
 obtain ⟨c0, hr⟩ := h
 obtain ⟨R, hR⟩ : ∃ R, R = soleG M := ⟨_, rfl⟩
 rw [← hR]
 have hyes : Hid (∀ (i : Nat) x, M[i]? = some x → x.sole = true → R = true) := Lib.hid fun i x hi he => by
  rw [hR, soleG, List.any_eq_true]
  exact ⟨x, List.mem_of_getElem? hi, he⟩
 have hno : Hid ((∀ (j : Nat) y, j < M.length → M[j]? = some y → y.sole = false) → R = false) := Lib.hid fun hn => by
  rw [hR, soleG, List.any_eq_false]
  intro x hx
  obtain ⟨j, hj⟩ := List.getElem?_of_mem hx
  rw [hn j x (List.getElem?_eq_some_iff.1 hj).1 hj]
  simp
 have hl0 : (M.length : Int) ≤ 100000 := by omega
 replace hr := Lib.hid hr
 clear hR
 go_enter Tryz.func86, Tryz.ntmps86
 go_wp2_with fail
 refine wp_scope_ghost 0 (fun g aq wt => ∃ i : Nat, i + g = M.length ∧ Hid (∀ (j : Nat) y, j < i → M[j]? = some y → y.sole = false) ∧ Fr 21 [(0, gup gb), (2, .bool false), (3, .int .i64 (i : Int))] aq ∧ wt = w) rfl ?_ ?_
 ·rintro g a' w' ⟨i, hi, hn, hfr, rfl⟩
  obtain ⟨q', rfl, hl'⟩ := hfr.lit
  clear hfr
  simp only [List.mem_cons, List.not_mem_nil, or_false, forall_eq_or_imp, forall_eq] at hl'
  obtain ⟨f0, f2, f3⟩ := hl'
  simp only [List.range, List.range.loop, List.map, f0, f2, f3]
  clear f0 f2 f3
  have hi0 : (0 : Int) ≤ i := by omega
  by_cases hlt : i < M.length
  ·have hx : M[i]? = some M[i] := List.getElem?_eq_getElem hlt
   have hi1 : (i : Int) < M.length := by omega
   have hne : ((i : Int) == M.length) = false := by rw [beq_eq_false_iff_ne]; omega
   generalize M[i] = x at hx
   obtain ⟨g1, o1, rfl, k0, k1, k2, k3, k4, k5⟩ := hr.out i x hx
   clear k0 k1 k2 k3 k4
   by_cases hk : x.sole = true
   ·have fin := Lib.hid (hyes.out i x hx hk)
    rw [hk] at k5
    clear hyes hno hn hx hr hk
    go_wp2_with fail
    simp only [Exit.jump]
    go_ret
    exact ⟨ret_bool fin.out.symm, rfl⟩
   ·have hk' : x.sole = false := by simpa using hk
    have nxt : Hid (∀ (j : Nat) y, j < i + 1 → M[j]? = some y → y.sole = false) := Lib.hid fun j y hj hy => by
     rcases (by omega : j < i ∨ j = i) with h9 | rfl
     ·exact hn.out j y h9 hy
     ·rw [hx] at hy
      cases hy
      exact hk'
    rw [hk'] at k5
    clear hyes hno hn hx hr hk hk'
    go_wp2_with fail
    refine wp_goto ?_
    exact ⟨rfl, g - 1, by omega, i + 1, by omega, nxt, ⟨rfl, rfl, by simp⟩, rfl⟩
  ·obtain rfl : i = M.length := by omega
   have fin := Lib.hid (hno.out hn.out)
   clear hyes hno hn hr
   go_wp2_with fail
   simp only [Exit.jump]
   go_ret
   exact ⟨ret_bool fin.out.symm, rfl⟩
 ·intro H
  clear hyes hno hr
  go_wp2_with fail
  refine wp_label ?_
  go_step
  go_step
  exact H M.length _ _ ⟨0, by omega, Lib.hid fun j y hj => absurd hj (by omega), ⟨rfl, rfl, by simp⟩, rfl⟩
theorem uGuestR : Tryz.prog.underlying 86 = some (.slice 77) := by kernel_rfl
def CloneR (B : Nat) (w0 : World) (X : List (Nat × Obj)) (M : List Gst) (e : Ending) (w' : World) : Prop := ∃ a c S', e = .returned (.slice a M.length c) ∧ GssIs (.slice a M.length c) M S' ∧ St B w0 w' (X ++ S')
set_option maxHeartbeats 1000000 in
theorem gclone_any {s : Value} (hs : GssIs s M S) (hst : St B w0 w (X ++ S)) (hn : M.length ≤ 100000) :
  Calls Tryz.prog 161 #[s] w (CloneR B w0 (X ++ S) M) := by
 have hst1 := hst.alloc (.cells #[] 77)
 have hst2 := hst1.perm (H' := (X ++ S) ++ [(w.heap.size, .cells #[] 77)]) (List.perm_append_singleton _ _).symm
 have hrd := SlIs.reads (A := (w.heap.size, .cells #[] 77) :: X) hs hst1
 have hemp : SlIs 77 6 (.slice (some ⟨w.heap.size, 0, none⟩) 0 0) 0 [] [(w.heap.size, .cells #[] 77)] := SlIs.made rfl (by unfold maxLen; omega)
 obtain ⟨a2, c2, W2, F2, hr2, hs2, hst3⟩ := apG.append hemp hst2 hrd (gssV_one M) (by unfold maxLen; omega) (by omega)
 rw [Nat.zero_add] at hr2 hs2
 rw [List.nil_append] at hs2
 have fin : CloneR B w0 (X ++ S) M (.returned (.slice a2 M.length c2)) W2 := ⟨a2, c2, F2, rfl, hs2, hst3⟩
 have fin0 : s = .slice none 0 0 → CloneR B w0 (X ++ S) M (.returned (.slice none 0 0)) w := fun e => by
  subst e
  obtain ⟨a, cap, e⟩ := GssIs.form hs
  cases M with
  | nil => exact ⟨none, 0, [], rfl, SlIs.nil, by simpa using hst⟩
  | cons y M => cases e
 obtain ⟨a, cap, rfl, hc1, hc2, ha⟩ := SlIs.form hs
 replace fin := Lib.hid fin
 replace fin0 := Lib.hid fin0
 have hq := fun w => Lib.run_eql_slice_nil (P := Tryz.prog) w 86 77 a M.length cap 0 0 uGuestR
 have hnil : a = none → (Value.slice a M.length cap) = .slice none 0 0 := fun e => by
  subst e
  obtain ⟨_, ⟨h, _⟩ | ⟨_, _, _, _, h, _⟩⟩ := hs
  ·exact h
  ·cases h
 replace hnil := Lib.hid hnil
 clear hs hst hst1 hst2 hrd hemp hs2 hst3 hc1 hc2 ha
 cases a with
 | none =>
  have h := hnil.out rfl
  simp only [Value.slice.injEq, true_and] at h
  obtain ⟨h1, rfl⟩ := h
  obtain rfl : M = [] := List.eq_nil_of_length_eq_zero h1
  simp only [List.length_nil] at *
  clear hnil fin hr2
  go_enter Tryz.func161, Tryz.ntmps161
  go_wp2_with fail
  go_ret
  exact fin0.out trivial
 | some ad =>
  clear hnil fin0
  go_enter Tryz.func161, Tryz.ntmps161
  go_wp2_with (refine wpList_append_go rfl (.tmp 5) (.tmp 6) 86 86 rfl _ _ rfl rfl hr2 ?_)
  go_ret
  exact fin.out
end
end Go.Proofs.YtknjamfjonapiaaGreatDoor
namespace Go.Proofs.YtknjamfjonapiaaGreatDoor
open Go.RowKit
set_option linter.unusedVariables false
set_option linter.unusedSectionVars false
set_option maxRecDepth 100000
theorem infG : ∃ i z, Tryz.prog.info? 77 = some i ∧ i.zero = some z ∧ i.size = 6 ∧ i.bytes = 48 ∧ z.cells.size = 6 := apG.info
theorem zeroG (w : World) : (zeroValue 77).run Tryz.prog w = .ok (gsV z0G) w := by kernel_rfl
section
variable {B : Nat} {w0 w w' : World} {gb b c T k g off n cap i j : Nat} {M L : List Gst} {a : Option Addr} {v : Value} {S R F F' X : List (Nat × Obj)} {x y : Gst}
theorem gcut3 (h1 : i ≤ j) (h2 : j ≤ n) (h3 : n ≤ cap) (h4 : i < n) : ∀ w, (Instr.slice 86 (.slice (some ⟨g, off, none⟩) n cap) (some (.int .i64 i)) (some (.int .i64 j)) (some (.int .i64 n))).run Tryz.prog w = .ok (.slice (some ⟨g, off + i * 6, none⟩) (j - i) (n - i)) w := by
 obtain ⟨i0, z, hi, hz0, hz1, hz2, -⟩ := infG
 intro w
 have e3 : ¬ n = i := by omega
 simp [Instr.slice, run_underlying uGuestR, Instr.sliceBounds, Instr.sliceBound, asIntOf, h1, h2, h3, e3, sizeOf, typeInfo, hi, hz1, Go.WideShapes.add_plain]
theorem gcut_to (h1 : i ≤ cap) : ∀ w, (Instr.slice 86 (.slice (some ⟨g, off, none⟩) n cap) none (some (.int .i64 i)) none).run Tryz.prog w = .ok (.slice (some ⟨g, off, none⟩) i cap) w := by
 obtain ⟨i0, z, hi, hz0, hz1, hz2, -⟩ := infG
 intro w
 simp [Instr.slice, run_underlying uGuestR, Instr.sliceBounds, Instr.sliceBound, asIntOf, h1, sizeOf, typeInfo, hi, Go.WideShapes.add_plain]
theorem gcut_from (h1 : j ≤ n) (h2 : n ≤ cap) : ∃ o, (j < n → o = off + j * 6) ∧ ∀ w, (Instr.slice 86 (.slice (some ⟨g, off, none⟩) n cap) (some (.int .i64 j)) none none).run Tryz.prog w = .ok (.slice (some ⟨g, o, none⟩) (n - j) (cap - j)) w := by
 obtain ⟨i0, z, hi, hz0, hz1, hz2, -⟩ := infG
 by_cases h : cap = j
 ·exact ⟨off, fun _ => by omega, fun w => by simp [Instr.slice, run_underlying uGuestR, Instr.sliceBounds, Instr.sliceBound, asIntOf, h1, h, sizeOf, typeInfo, hi]⟩
 ·exact ⟨off + j * 6, fun _ => rfl, fun w => by simp [Instr.slice, run_underlying uGuestR, Instr.sliceBounds, Instr.sliceBound, asIntOf, h1, h, sizeOf, typeInfo, hi, hz1, Go.WideShapes.add_plain]⟩
theorem gcut_one (h1 : i < cap) (h2 : j = i + 1) : ∀ w, (Instr.slice 86 (.slice (some ⟨g, off, none⟩) i cap) (some (.int .i64 i)) (some (.int .i64 j)) none).run Tryz.prog w = .ok (.slice (some ⟨g, off + i * 6, none⟩) 1 (cap - i)) w := by
 obtain ⟨i0, z, hi, hz0, hz1, hz2, -⟩ := infG
 intro w
 have e1 : j ≤ cap := by omega
 have e2 : i ≤ j := by omega
 have e3 : ¬ cap = i := by omega
 have e4 : j - i = 1 := by omega
 simp [Instr.slice, run_underlying uGuestR, Instr.sliceBounds, Instr.sliceBound, asIntOf, e1, e2, e3, e4, sizeOf, typeInfo, hi, hz1, Go.WideShapes.add_plain]
theorem zeroG_one : ∀ u ∈ (gsV z0G).cells.toList, u.oneCell' = true := gcells_one z0G
theorem erase_sp {L xs : List Value} {a b N m : Nat} (hab : a ≤ b) (hb : b ≤ N) (hm : m + b = a + N) (hl : off + N ≤ L.length) (hx : (L.drop off).take N = xs) {c : List Value} (hc : m + c.length = N) :
  (((splice (splice L (off + a) (xs.drop b)) (off + m) c).drop off).take m) = xs.take a ++ xs.drop b := by
 have hxl : xs.length = N := by rw [← hx, List.length_take, List.length_drop]; omega
 have hdl : (xs.drop b).length = N - b := by rw [List.length_drop, hxl]
 have hl1 : (splice L (off + a) (xs.drop b)).length = L.length := length_splice _ _ _ (by omega)
 rw [drop_splice_ahead (by omega) (by omega), Nat.add_sub_cancel_left, take_splice (by omega) (by simp only [List.length_drop]; omega), drop_splice_ahead (by omega) (by omega), Nat.add_sub_cancel_left,
  show m = a + (xs.drop b).length by omega, splice1 (by simp only [List.length_drop] at hxl ⊢; omega), ← hx, List.take_take, Nat.min_eq_left (by omega)]
def CutGR (B : Nat) (w0 : World) (X : List (Nat × Obj)) (L : List Gst) (e : Ending) (w' : World) : Prop := ∃ a c S', e = .returned (.slice a L.length c) ∧ GssIs (.slice a L.length c) L S' ∧ St B w0 w' (X ++ S')
set_option maxHeartbeats 2000000 in
theorem gdelete_any (hs : GssIs v M R) (hst : St B w0 w (X ++ R)) (hi : i < M.length) (hn : M.length ≤ 100000) :
  Calls Tryz.prog 156 #[v, .int .i64 i, .int .i64 ((i : Int) + 1)] w (CutGR B w0 X (M.eraseIdx i)) := by
 obtain ⟨a, cap, rfl, -, -, ha⟩ := SlIs.form hs
 obtain ⟨g, off, rfl⟩ := ha i hi
 obtain ⟨i0, z0, hi0, hz0, hz1, hz2, hz3⟩ := infG
 have hs1 := hs
 obtain ⟨L, rfl, hnc, hcm, hLl, hLx⟩ := SlIs.block hs
 have hxl := gssV_len M
 obtain ⟨n, hnM⟩ : ∃ n, n = M.length := ⟨_, rfl⟩
 obtain ⟨j, hj⟩ : ∃ j, j = i + 1 := ⟨_, rfl⟩
 have hji : ((i : Int) + 1) = (j : Int) := by omega
 have r1 := gcut3 (g := g) (off := off) (n := n) (cap := cap) (i := i) (j := j) (by omega) (by omega) (by omega) (by omega)
 have r2 := gcut_to (g := g) (off := off) (n := n) (cap := cap) (i := i) (by omega)
 obtain ⟨o2, ho2, r3⟩ := gcut_from (g := g) (off := off) (n := n) (cap := cap) (j := j) (by omega) (by omega)
 have hdl : ((gssV M).drop (j * 6)).length = (n - j) * 6 := by rw [List.length_drop, hxl]; omega
 have hcap : n * 6 ≤ cap * 6 := Nat.mul_le_mul_right _ (by omega)
 have hrd : Reads w.drew (.slice (some ⟨g, o2, none⟩) (n - j) (cap - j)) (n - j) 6 ((gssV M).drop (j * 6)) := by
  refine ⟨hdl, .inr ⟨_, _, rfl, fun k u hk => ?_⟩⟩
  have hk' := (List.getElem?_eq_some_iff.1 hk).1
  rw [Go.WideShapes.add_plain, ho2 (by omega), Nat.add_assoc]
  rw [List.getElem?_drop] at hk
  exact SlIs.cellAt hs1 hst.drew hk
 obtain ⟨W1, hr1, hst1⟩ := run_append_room_st (P := Tryz.prog) (w := w.drew) (off := off) (sLen := i) (sCap := cap) 86 0 77 i0 uGuestR hi0 hz1 hst.drew hrd (fun u hu => gssV_one M u (List.mem_of_mem_drop hu)) (by omega) (by rw [hdl]; omega)
 obtain ⟨m, hm⟩ : ∃ m, m = n - 1 := ⟨_, rfl⟩
 rw [show i + (n - j) = m by omega] at hr1
 have r4 := gcut_one (g := g) (off := off) (cap := cap) (i := m) (j := n) (by omega) (by omega)
 obtain ⟨W2, c, hr2, hcl, hst2⟩ := run_clear_st (P := Tryz.prog) (k := 1) (cap := cap - m) (dp := some ⟨g, off + m * 6, none⟩) (off := off + m * 6) 86 0 77 uGuestR zeroG (size := 6) rfl zeroG_one hst1 (fun _ => rfl) (by rw [length_splice _ _ _ (by omega)]; omega)
 have eM : (gssV M).take (i * 6) ++ (gssV M).drop (j * 6) = gssV (M.eraseIdx i) := by rw [gssV_take, gssV_drop, ← gssV_app, List.eraseIdx_eq_take_drop_succ, hj]
 have el : (M.eraseIdx i).length = m := by rw [List.length_eraseIdx, if_pos hi]; omega
 have fin : Hid (CutGR B w0 X (M.eraseIdx i) (.returned (.slice (some ⟨g, off, none⟩) m cap)) W2) := Lib.hid (by
  unfold CutGR
  rw [el]
  refine ⟨_, _, _, rfl, ?_, hst2⟩
  show SlIs _ _ _ (M.eraseIdx i).length _ _
  rw [el]
  refine SlIs.of (by omega) hcm ?_ ?_
  ·rw [length_splice _ _ _ (by rw [length_splice _ _ _ (by omega)]; omega), length_splice _ _ _ (by omega)]; omega
  ·rw [← eM]
   exact erase_sp (a := i * 6) (b := j * 6) (N := M.length * 6) (m := m * 6) (by omega) (by omega) (by omega) (by omega) hLx (by omega))
 rw [← hnM] at hi hn ⊢
 rw [hji]
 have hz3 : ((i : Int) == (j : Int)) = false := by rw [beq_eq_false_iff_ne]; omega
 clear hs hs1 hst hrd hst1 hst2 hz0 hz1 hz2 hi0 hLx hLl hcm hnc hi hn ho2 hcl hj hm hxl hdl hji ha hcap eM el hnM
 go_enter Tryz.func156, Tryz.ntmps156
 go_wp2_with fail
 go_still_tail 6, (by kernel_rfl)
 change wpList _ _ _ _ _ w.drew
 generalize w.drew = w4 at *
 go_wp2_with (first | refine wpList_append_go rfl (.tmp 22) (.tmp 25) 86 86 rfl _ _ rfl rfl hr1 ?_ | refine wpList_clear_go rfl (.tmp 31) 86 rfl _ rfl hr2 ?_)
 go_ret
 exact fin.out
end
end Go.Proofs.YtknjamfjonapiaaGreatDoor
namespace Go.Proofs.YtknjamfjonapiaaGreatDoor
open Go.RowKit
set_option linter.unusedVariables false
set_option linter.unusedSectionVars false
set_option maxRecDepth 100000
theorem fl_zero : floatOfInt .f64 0 = 0 := by decide +kernel
section
variable {qT : Bool} {B : Nat} {w0 w w' : World} {gb b c T k g off n cap i j : Nat} {M L : List Gst} {a : Option Addr} {v : Value} {S R F F' X : List (Nat × Obj)} {x y : Gst}
theorem GuIsX.rdg (h : GuIsX qT B w0 w gb M T F) : ∃ a c, RdG w gb M a c := by
 obtain ⟨-, -, -, v, S, h⟩ := h
 obtain ⟨a, c, rfl⟩ := h.form
 exact ⟨a, c, h.rdg⟩
theorem GuIsX.few (h : GuIsX qT B w0 w gb M T F) : M.length ≤ 60000 := h.2.2.1
set_option maxHeartbeats 400000 in
theorem gu_new (hT : qT = true → Tab B w0) (hst : St B w0 w F) : Calls Tryz.prog 200 #[] w fun e w' => ∃ gb, e = .returned (gup gb) ∧ GuIsX qT B w0 w' gb [] 0 F := by
 have h1 := hst.alloc (.cells #[.slice none 0 0, .complex .f64 0 0] 199)
 have h2 : GuIsX qT B w0 (w.alloc (.cells #[.slice none 0 0, .complex .f64 0 0] 199)) w.heap.size [] 0 F :=
  ⟨hT, .inr rfl, by simp, .slice none 0 0, [], SlIs.nil, by
   have e : seatV (0 % 64) (0 / 64) = .complex .f64 0 0 := by
    show Value.complex .f64 (floatOfInt .f64 0) (floatOfInt .f64 0) = _
    rw [fl_zero]
   rw [e, List.append_nil]
   exact h1⟩
 replace h2 := Lib.hid h2
 clear hst h1
 go_enter Tryz.func200, Tryz.ntmps200
 go_wp2_with fail
 go_ret
 exact ⟨_, rfl, h2.out⟩
theorem gu_len (h : GuIsX qT B w0 w gb M T F) : Calls Tryz.prog 72 #[gup gb] w fun e w' => e = .returned (.int .i64 M.length) ∧ GuIsX qT B w0 w' gb M T F := by
 obtain ⟨a, c, hr⟩ := h.rdg
 exact (len_any hr).mono fun e w' ⟨h1, h2⟩ => ⟨h1, h2 ▸ h⟩
theorem gu_sole (h : GuIsX qT B w0 w gb M T F) {s : Bool} (hs : soleG M = s) : Calls Tryz.prog 86 #[gup gb] w fun e w' => e = .returned (.bool s) ∧ GuIsX qT B w0 w' gb M T F := by
 obtain ⟨a, c, hr⟩ := h.rdg
 exact (sole_any hr (by have := h.few; omega)).mono fun e w' ⟨h1, h2⟩ => ⟨hs ▸ h1, h2 ▸ h⟩
set_option maxHeartbeats 400000 in
theorem gu_all (h : GuIsX qT B w0 w gb M T F) : Calls Tryz.prog 97 #[gup gb] w fun e w' => ∃ a c S', e = .returned (.slice a M.length c) ∧ GssIs (.slice a M.length c) M S' ∧ GuIsX qT B w0 w' gb M T (S' ++ F) := by
 obtain ⟨hT, hok, hl, v, S, h⟩ := h
 have hp : ∀ S : List (Nat × Obj), (gb, gusO v (seatV (T % 64) (T / 64))) :: (F ++ S) = ((gb, gusO v (seatV (T % 64) (T / 64))) :: F) ++ S := fun S => rfl
 have cc := Lib.hid (gclone_any h.sl (hp S ▸ h.st) (by omega))
 have fin : Hid (∀ a c S' W, GssIs (.slice a M.length c) M S' → St B w0 W ((((gb, gusO v (seatV (T % 64) (T / 64))) :: F) ++ S) ++ S') → GuIsX qT B w0 W gb M T (S' ++ F)) := Lib.hid fun a c S' W h1 h2 => ⟨hT, hok, hl, v, S, h.sl, h2.perm (by
  classical
  exact List.perm_iff_count.2 fun a => by simp only [List.count_append, List.count_cons]; omega)⟩
 have c0 := h.c0
 obtain ⟨a, c, rfl⟩ := h.form
 clear h hp hok hl hT
 go_enter Tryz.func97, Tryz.ntmps97
 go_wp2_with fail
 refine cc.out.mono ?_
 rintro e w1 ⟨a2, c2, S2, rfl, h1, h2⟩
 have h3 := Lib.hid (fin.out _ _ _ _ h1 h2)
 replace h1 := Lib.hid h1
 clear h2 fin cc c0
 go_wp2_with fail
 go_ret
 exact ⟨_, _, _, rfl, h1.out, h3.out⟩
theorem GuIsX.setTag (h : GuIsX qT B w0 w gb M T ((b, gsO x) :: F)) : GuIsX qT B w0 (w.setCell ⟨b, 2, none⟩ (tx x.tag)) gb M T ((b, gsO x) :: F) := by
 obtain ⟨S, h1, h2⟩ := h.beside
 have h3 := (h1.perm List.perm_middle).set0 2 (tx x.tag)
 exact h2 _ _ (h3.perm List.perm_middle.symm)
theorem GuIsX.push (h : GuIsX qT B w0 w gb M T F) (hl : M.length < 60000) (x : Gst) : ∃ a c a' c' W,
  (w.cell? ⟨gb, 0, none⟩ = some (.slice a M.length c) ∧ (w.alloc (gsO x)).cell? ⟨gb, 0, none⟩ = some (.slice a M.length c) ∧ W.cell? ⟨gb, 0, none⟩ = some (.slice a M.length c) ∧ W.frozen? ⟨gb, 0, none⟩ = false) ∧
  AppRun Tryz.prog 86 (.slice a M.length c) (.slice (some ⟨w.heap.size, 0, none⟩) 1 1) (w.alloc (gsO x)) (.slice a' (M ++ [x]).length c') W ∧
  GuIsX qT B w0 (W.setCell ⟨gb, 0, none⟩ (.slice a' (M ++ [x]).length c')) gb (M ++ [x]) T F := by
 obtain ⟨hT, hok, hlen, v, S, h⟩ := h
 obtain ⟨a, c, rfl⟩ := h.form
 have hp : ∀ S : List (Nat × Obj), (gb, gusO (.slice a M.length c) (seatV (T % 64) (T / 64))) :: (F ++ S) = ((gb, gusO (.slice a M.length c) (seatV (T % 64) (T / 64))) :: F) ++ S := fun S => rfl
 obtain ⟨a', c', W, S', q1, q2, q3⟩ := gss_push h.sl (hp S ▸ h.st) x (by omega)
 refine ⟨a, c, a', c', W, ⟨h.c0, (h.st.alloc (gsO x)).cell (b := gb) (List.mem_cons_of_mem _ List.mem_cons_self) rfl, q3.cell (b := gb) (i := 0) List.mem_cons_self rfl, St.soft (b := gb) q3 List.mem_cons_self 0⟩, ⟨q1⟩, hT, ?_, by simp; omega, _, S', q2, St.set0 q3 0 _⟩
 rcases hok with h | h
 ·exact .inl (by simp; omega)
 ·exact .inr h
set_option maxHeartbeats 4000000 in
theorem gu_add (h : GuIsX qT B w0 w gb M T F) (hf : x.tag.length ≤ 140737488351232) (hl : M.length < 60000) {ok : Bool} (hok : addOkG M x = ok) {N : List Gst} (hN : addG M x = N) :
  Calls Tryz.prog 87 #[gup gb, gsV x] w fun e w' => e = .returned (.bool ok) ∧ GuIsX qT B w0 w' gb N T F := by
 subst hN
 have h1 := h.alloc (gsO x)
 obtain ⟨a, c, hr⟩ := h1.rdg
 have cf := Lib.hid (gsFind_any hr (by omega) x.conn x.chan x.tag rfl)
 obtain ⟨k0, k1, k2, -⟩ := (h1.guest (b := w.heap.size) (x := x) List.mem_cons_self).1
 generalize hW : w.alloc (gsO x) = W1 at *
 replace hW := Lib.hid hW
 have he : (idxG M x.conn x.chan x.tag).isNone = ok := hok
 cases hi : idxG M x.conn x.chan x.tag with
 | some i =>
  rw [hi] at cf he
  obtain rfl : ok = false := by rw [← he]; rfl
  have fin : Hid (GuIsX qT B w0 W1 gb (addG M x) T F) := Lib.hid (by
   unfold addG
   rw [hok]
   exact h1.sub (List.sublist_cons_self _ _))
  clear h h1 hr hok he hi
  simp only [idxV, Option.isSome_some, Option.getD_some] at cf
  go_enter Tryz.func87, Tryz.ntmps87
  go_upto_region 1 with fail
  rw [hW.out]
  clear hW
  generalize w.heap.size = xb at *
  go_wp2_with fail
  refine cf.out.mono ?_
  rintro e w2 ⟨rfl, rfl⟩
  go_wp2_with fail
  go_ret
  exact ⟨rfl, fin.out⟩
 | none =>
  rw [hi] at cf he
  obtain rfl : ok = true := by rw [← he]; rfl
  have co := Lib.hid (clone_any x.tag W1 hf)
  have stp : Hid (∀ w2, Below W1.heap.size W1 w2 → w2.frozen? ⟨w.heap.size, 2, none⟩ = false ∧ w2.cell? ⟨w.heap.size, 2, none⟩ = some (tx x.tag) ∧ ∃ w3, w3 = w2.setCell ⟨w.heap.size, 2, none⟩ (tx x.tag) ∧ GsAt w3.drew w.heap.size x ∧ ∃ a c a' c' W,
    (w3.drew.cell? ⟨gb, 0, none⟩ = some (.slice a M.length c) ∧ (w3.drew.alloc (gsO x)).cell? ⟨gb, 0, none⟩ = some (.slice a M.length c) ∧ W.cell? ⟨gb, 0, none⟩ = some (.slice a M.length c) ∧ W.frozen? ⟨gb, 0, none⟩ = false) ∧
    AppRun Tryz.prog 86 (.slice a M.length c) (.slice (some ⟨w3.drew.heap.size, 0, none⟩) 1 1) (w3.drew.alloc (gsO x)) (.slice a' (M ++ [x]).length c') W ∧
    GuIsX qT B w0 (W.setCell ⟨gb, 0, none⟩ (.slice a' (M ++ [x]).length c')) gb (addG M x) T F) := Lib.hid fun w2 hb => by
   have h2 := h1.grow hb
   have h3 := h2.setTag.grow (drew_b _)
   obtain ⟨g0, gs⟩ := h2.guest (b := w.heap.size) (x := x) List.mem_cons_self
   obtain ⟨a, c, a', c', W, p1, p2, p3⟩ := h3.push hl x
   refine ⟨gs 2, g0.2.2.1, _, rfl, (h3.guest (b := w.heap.size) (x := x) List.mem_cons_self).1, a, c, a', c', W, p1, p2, ?_⟩
   unfold addG
   rw [hok]
   exact p3.sub (List.sublist_cons_self _ _)
  clear h h1 hr hok he hi hl
  simp only [idxV, Option.isSome_none, Option.getD_none] at cf
  go_enter Tryz.func87, Tryz.ntmps87
  go_upto_region 1 with fail
  rw [hW.out]
  clear hW
  generalize w.heap.size = xb at *
  go_wp2_with fail
  refine cf.out.mono ?_
  rintro e w2 ⟨rfl, rfl⟩
  go_wp2_with fail
  refine co.out.mono ?_
  rintro e w2 ⟨rfl, hb⟩
  obtain ⟨f2, e2, w3, hw3, ⟨j0, j1, j2, j3, j4, j5⟩, a, c, a', c', W4, ⟨d0, d1, d2, d3⟩, run1, fin⟩ := stp.out _ hb
  replace fin := Lib.hid fin
  clear stp co cf k0 k1 k2 hb
  go_upto_region 5 with fail
  rw [← hw3]
  clear hw3 f2 e2
  have d1' : ((w3.alloc (gsO x)).drew).cell? ⟨gb, 0, none⟩ = some (.slice a M.length c) := d1
  have run2 : AppRun Tryz.prog 86 (.slice a M.length c) (.slice (some ⟨w3.heap.size, 0, none⟩) 1 1) ((w3.alloc (gsO x)).drew) (.slice a' (M ++ [x]).length c') W4 := run1
  clear d1 run1
  generalize (M ++ [x]).length = n1 at *
  go_region_law (refine step_app (.tmp 27) (.tmp 29) 86 run2 rfl rfl (by simp [Act.eval]) (by simp [Act.eval]) ?_)
  all_goals
   clear run2 d0 d1' d2 d3 j0 j1 j2 j3 j4 j5
   go_wp2_with fail
   go_ret
   exact ⟨rfl, fin.out⟩
end
end Go.Proofs.YtknjamfjonapiaaGreatDoor
namespace Go.Proofs.YtknjamfjonapiaaGreatDoor
open Go.RowKit
set_option linter.unusedVariables false
set_option linter.unusedSectionVars false
set_option maxRecDepth 100000
section
variable {qT : Bool} {B : Nat} {w0 w w' : World} {gb b c T k g off n cap i j : Nat} {M L : List Gst} {a : Option Addr} {v : Value} {S R F F' X : List (Nat × Obj)} {x y : Gst}
theorem GuAt.cut (h : GuAt B w0 w gb v M T S F) (hi : i < M.length) (hn : M.length ≤ 100000) :
  Calls Tryz.prog 156 #[v, .int .i64 i, .int .i64 ((i : Int) + 1)] w fun e w' => ∃ a c S', e = .returned (.slice a (M.eraseIdx i).length c) ∧ w'.cell? ⟨gb, 0, none⟩ = some v ∧ w'.frozen? ⟨gb, 0, none⟩ = false ∧
   GuAt B w0 (w'.setCell ⟨gb, 0, none⟩ (.slice a (M.eraseIdx i).length c)) gb (.slice a (M.eraseIdx i).length c) (M.eraseIdx i) T S' F := by
 have hp : ∀ S : List (Nat × Obj), (gb, gusO v (seatV (T % 64) (T / 64))) :: (F ++ S) = ((gb, gusO v (seatV (T % 64) (T / 64))) :: F) ++ S := fun S => rfl
 refine (gdelete_any h.sl (hp S ▸ h.st) hi hn).mono ?_
 rintro e w' ⟨a, c, S', rfl, h1, h2⟩
 exact ⟨a, c, S', rfl, h2.cell (b := gb) (i := 0) List.mem_cons_self rfl, St.soft (b := gb) h2 List.mem_cons_self 0, h1, St.set0 h2 0 _⟩
end
end Go.Proofs.YtknjamfjonapiaaGreatDoor
namespace Go.Proofs.YtknjamfjonapiaaGreatDoor
open Go.RowKit
set_option linter.unusedVariables false
set_option linter.unusedSectionVars false
set_option maxRecDepth 100000
section
variable {B : Nat} {w0 w w' : World} {gb b c T k g off n cap i j sl sc : Nat} {M L : List Gst} {a sa : Option Addr} {v : Value} {S R F F' X : List (Nat × Obj)} {x y : Gst} {sp : Nat → Bool}
end
end Go.Proofs.YtknjamfjonapiaaGreatDoor
namespace Go.Proofs.YtknjamfjonapiaaGreatDoor
open Go.RowKit
set_option linter.unusedVariables false
set_option linter.unusedSectionVars false
set_option maxRecDepth 100000
section
variable {B : Nat} {w0 w w' : World} {gb b c T k g off n cap i j sl sc : Nat} {M L : List Gst} {a sa : Option Addr} {v : Value} {S R F F' X : List (Nat × Obj)} {x y : Gst} {sp : Nat → Bool}
end
end Go.Proofs.YtknjamfjonapiaaGreatDoor
namespace Go.Proofs.YtknjamfjonapiaaGreatDoor
open Go.RowKit
set_option linter.unusedVariables false
set_option linter.unusedSectionVars false
set_option maxRecDepth 100000
section
variable {B : Nat} {w0 w w' : World} {gb b c T k g off n cap i j sl sc : Nat} {M L : List Gst} {a sa : Option Addr} {v : Value} {S R F F' X : List (Nat × Obj)} {x y : Gst} {sp : Nat → Bool}
end
end Go.Proofs.YtknjamfjonapiaaGreatDoor
namespace Go.Proofs.YtknjamfjonapiaaGreatDoor
open Go.RowKit
set_option linter.unusedVariables false
def mostL : List Int := [60, 10000, 3, 15, 12, 40]
def MostAt (w : World) : Prop := ∀ k, k < 6 → w.cell? ⟨0, k, none⟩ = some (.int .i64 (mostL.getD k 0))
def Most (B : Nat) (w : World) : Prop := 0 < B ∧ MostAt w
theorem gMost : Tryz.prog.globalNamed "mailcoach/entry.most" = some 0 := by kernel_rfl
theorem tMost : (Tryz.prog.globals[0]?).map (·.type) = some 265 := by kernel_rfl
theorem uInt6 : Tryz.prog.underlying 265 = some (.array 6 3) := by kernel_rfl
theorem cInt3 : Tryz.prog.cellsOf 3 = 1 := by kernel_rfl
theorem cInt6 : Tryz.prog.cellsOf 265 = 6 := by kernel_rfl
def laidT : List (String × DataW Unit) := [("mailcoach/entry.most", Rows.laid_mailcoach_entry_most)]
theorem laidT_is : (Rows.laid_mailcoach_entry_most : DataW Unit) = .agg (mostL.map fun x => .lit (.int .i64 x)) := rfl
theorem most_of_laid {W : World} (h : laidMetH Tryz.prog laidT W) : Most W.heap.size W := by
 rw [MakeChecks.laidMetH_plain _ _ _ (by kernel_rfl)] at h
 unfold laidT at h
 rw [laidT_is] at h
 obtain ⟨ps, ⟨g', t', cs, fuel, p, q, hg', ht', hvar, hd, _, _⟩, _⟩ := h
 obtain rfl := Option.some.inj (gMost.symm.trans hg')
 obtain rfl := Option.some.inj (tMost.symm.trans ht')
 obtain ⟨xs, m, _, hx, hl, hlen, hf⟩ := Go.DataW.trod_array uInt6 hd
 rw [cInt6] at hl
 have key : MostAt W := by
  intro k hk6
  have hxs : xs.map (·.1) = mostL.map fun x => (DataW.lit (.int .i64 x) : DataW Unit) := by
   have := congrArg Prod.fst hx
   simpa using this.symm
  have h1 : (xs.map (·.1))[k]? = some (DataW.lit (.int .i64 (mostL.getD k 0))) := by
   rw [hxs, List.getElem?_map, List.getD_eq_getElem?_getD, List.getElem?_eq_getElem (show k < mostL.length by simpa [mostL] using hk6)]
   rfl
  rw [List.getElem?_map, Option.map_eq_some_iff] at h1
  obtain ⟨⟨d, pl⟩, h2, h3⟩ := h1
  simp only at h3
  subst h3
  have h4 := hf k hk6
  rw [h2, cInt3] at h4
  obtain ⟨n, c0, c1, _⟩ := Go.DataW.trod_int (by kernel_rfl : Tryz.prog.underlying 3 = some (.int .i64)) h4
  simp only [Prod.mk.injEq, DataW.lit.injEq, Lit.int.injEq, true_and] at c1
  have a0 := World.var?_cell gMost hvar k
  refine a0.trans ?_
  have := congrArg (·[0]?) c0
  rw [c1.1]
  simpa [List.getElem?_take, List.getElem?_drop] using this
 exact ⟨World.block_lt_of_cell? W _ (key 0 (by decide)), key⟩
theorem Most.below {B : Nat} {w w' : World} (h : Most B w) (hb : Below B w w') : Most B w' :=
 ⟨h.1, fun k hk => (hb.cell (p := ⟨0, k, none⟩) h.1).trans (h.2 k hk)⟩
theorem Most.mono {B C : Nat} {w : World} (h : Most B w) (hle : B ≤ C) : Most C w := ⟨Nat.lt_of_lt_of_le h.1 hle, h.2⟩
theorem Most.on {w w' : World} (h : Most w.heap.size w) (hb : Below w.heap.size w w') : Most w'.heap.size w' := (h.below hb).mono hb.size
end Go.Proofs.YtknjamfjonapiaaGreatDoor
