import Derived.Test.YtknjamfjonapiaaGreatDoorZ01
import Derived.Test.YtknjamfjonapiaaGreatDoorRows
import Derived.Deep.QuietTactic
import Derived.BigQuiet
import Derived.Deep.RegionHeld3
import Derived.Laws.MakeOwn
import Derived.IntWalk
import Derived.Lib.Hide
import Derived.Test.YtknjamfjonapiaaGreatDoorZ05
namespace Go.Proofs.YtknjamfjonapiaaGreatDoor
open Go.RowKit
set_option maxRecDepth 100000
structure RG where
 cb : Option Nat
 cs : List Int
 first : Nat
 count : Nat
def ints (l : List Int) : List Value := l.map (Value.int .i64)
theorem ints_len (l : List Int) : (ints l).length = l.length := by simp [ints]
theorem ints_set (l : List Int) (i : Nat) (n : Int) : (ints l).set i (.int .i64 n) = ints (l.set i n) := by simp [ints, List.map_set]
theorem ints_at {l : List Int} {i : Nat} {n : Int} (h : l[i]? = some n) : (ints l)[i]? = some (.int .i64 n) := by simp [ints, h]
def RG.sl (g : RG) : Value := match g.cb with | none => .slice none 0 0 | some b => .slice (some ⟨b, 0, none⟩) g.cs.length g.cs.length
def RG.obj (g : RG) : Obj := .cells #[g.sl, .int .i64 g.first, .int .i64 g.count] 305
def intsObj (l : List Int) : Obj := .cells (ints l).toArray 3
def RG.cellsH (g : RG) : List (Nat × Obj) := match g.cb with | none => [] | some b => [(b, intsObj g.cs)]
def RG.place (g : RG) (i : Nat) : Nat := (g.first + i) % g.cs.length
def RG.row (g : RG) : List Int := (List.range g.count).map fun i => g.cs.getD (g.place i) 0
structure RG.Wf (g : RG) : Prop where
 bare : g.cb = none → g.cs = []
 first : g.first < g.cs.length ∨ g.first = 0 ∧ g.cs = []
 count : g.count ≤ g.cs.length
 top : g.cs.length ≤ 1073741824
theorem RG.row_len (g : RG) : g.row.length = g.count := by simp [RG.row]
theorem RG.row_at {g : RG} {i : Nat} (h : i < g.count) : g.row[i]? = some (g.cs.getD (g.place i) 0) := by simp [RG.row, h]
theorem RG.place_lt {g : RG} (h : 0 < g.cs.length) (i : Nat) : g.place i < g.cs.length := Nat.mod_lt _ h
theorem RG.place_of {g : RG} {i : Nat} (h1 : g.first < g.cs.length) (h2 : i < g.cs.length) : g.place i = if g.first + i < g.cs.length then g.first + i else g.first + i - g.cs.length := by
 unfold RG.place
 split
 ·exact Nat.mod_eq_of_lt (by assumption)
 ·rw [Nat.mod_eq_sub_mod (by omega), Nat.mod_eq_of_lt (by omega)]
theorem RG.place_inj {g : RG} {i j : Nat} (h1 : g.first < g.cs.length) (h2 : i < g.cs.length) (h3 : j < g.cs.length) (h : g.place i = g.place j) : i = j := by
 rw [RG.place_of h1 h2, RG.place_of h1 h3] at h
 split at h <;> split at h <;> omega
theorem RG.Wf.pos {g : RG} (h : g.Wf) {i : Nat} (hi : i < g.cs.length) : g.first < g.cs.length := by
 rcases h.first with h | ⟨_, h⟩
 ·exact h
 ·rw [h] at hi; simp at hi
def RG.pushed (g : RG) (n : Int) : RG := { g with cs := g.cs.set (g.place g.count) n, count := g.count + 1 }
theorem RG.pushed_row {g : RG} (wf : g.Wf) (h : g.count < g.cs.length) (n : Int) : (g.pushed n).row = g.row ++ [n] := by
 have hp := wf.pos h
 apply List.ext_getElem?
 intro i
 by_cases hi : i < g.count
 ·rw [RG.row_at (g := g.pushed n) (show i < g.count + 1 by omega), List.getElem?_append_left (by rw [RG.row_len]; exact hi), RG.row_at hi]
  have e : (g.pushed n).place i = g.place i := by simp [RG.place, RG.pushed]
  have hne : g.place g.count ≠ g.place i := fun e => by have := RG.place_inj hp h (by omega) e; omega
  rw [e]
  simp only [RG.pushed, List.getD_eq_getElem?_getD, List.getElem?_set_ne hne]
 ·by_cases hi2 : i = g.count
  ·subst hi2
   rw [RG.row_at (g := g.pushed n) (show g.count < g.count + 1 by omega), List.getElem?_append_right (by rw [RG.row_len]; omega), RG.row_len, Nat.sub_self]
   have e : (g.pushed n).place g.count = g.place g.count := by simp [RG.place, RG.pushed]
   rw [e]
   have hl : g.place g.count < g.cs.length := RG.place_lt (by omega) _
   simp only [RG.pushed, List.getD_eq_getElem?_getD, List.getElem?_set_self hl]
   rfl
  ·rw [List.getElem?_eq_none (by rw [RG.row_len]; simp only [RG.pushed]; omega), List.getElem?_eq_none (by rw [List.length_append, RG.row_len]; simp; omega)]
theorem RG.pushed_wf {g : RG} (wf : g.Wf) (h : g.count < g.cs.length) (n : Int) : (g.pushed n).Wf :=
 ⟨fun e => by simp [RG.pushed, wf.bare e], by simp only [RG.pushed, List.length_set]; exact .inl (wf.pos h), by simp only [RG.pushed, List.length_set]; omega, by simp only [RG.pushed, List.length_set]; exact wf.top⟩
def RG.ahead (g : RG) : Nat := g.place (g.cs.length - 1)
def RG.unshifted (g : RG) (n : Int) : RG := { g with cs := g.cs.set g.ahead n, first := g.ahead, count := g.count + 1 }
theorem RG.unshifted_row {g : RG} (wf : g.Wf) (h : g.count < g.cs.length) (n : Int) : (g.unshifted n).row = n :: g.row := by
 have hp := wf.pos h
 have ha : g.ahead = if g.first = 0 then g.cs.length - 1 else g.first - 1 := by
  unfold RG.ahead
  rw [RG.place_of hp (by omega)]
  split <;> split <;> omega
 have hal : g.ahead < g.cs.length := RG.place_lt (by omega) _
 apply List.ext_getElem?
 intro i
 have hq : ∀ j, j < g.cs.length → (g.unshifted n).place j = if g.ahead + j < g.cs.length then g.ahead + j else g.ahead + j - g.cs.length := by
  intro j hj
  have := RG.place_of (g := g.unshifted n) (i := j) (by simpa [RG.unshifted] using hal) (by simpa [RG.unshifted] using hj)
  simpa [RG.unshifted] using this
 cases i with
 | zero =>
  rw [RG.row_at (g := g.unshifted n) (show 0 < g.count + 1 by omega), hq 0 (by omega), if_pos (by omega)]
  simp only [RG.unshifted, List.getD_eq_getElem?_getD, Nat.add_zero, List.getElem?_set_self hal]
  rfl
 | succ i =>
  by_cases hi : i < g.count
  ·rw [RG.row_at (g := g.unshifted n) (show i + 1 < g.count + 1 by omega), List.getElem?_cons_succ, RG.row_at hi, hq (i + 1) (by omega)]
   have e : (if g.ahead + (i + 1) < g.cs.length then g.ahead + (i + 1) else g.ahead + (i + 1) - g.cs.length) = g.place i := by
    rw [RG.place_of hp (by omega), ha]
    repeat' split
    all_goals omega
   rw [e]
   have hne : g.ahead ≠ g.place i := fun e => by have := RG.place_inj hp (i := g.cs.length - 1) (by omega) (show i < _ by omega) e; omega
   simp only [RG.unshifted, List.getD_eq_getElem?_getD, List.getElem?_set_ne hne]
  ·rw [List.getElem?_eq_none (by rw [RG.row_len]; simp only [RG.unshifted]; omega), List.getElem?_eq_none (by rw [List.length_cons, RG.row_len]; omega)]
theorem RG.unshifted_wf {g : RG} (wf : g.Wf) (h : g.count < g.cs.length) (n : Int) : (g.unshifted n).Wf :=
 ⟨fun e => by simp [RG.unshifted, wf.bare e], by simp only [RG.unshifted, List.length_set]; exact .inl (RG.place_lt (by omega) _), by simp only [RG.unshifted, List.length_set]; omega, by simp only [RG.unshifted, List.length_set]; exact wf.top⟩
def RG.popped (g : RG) : RG := { g with count := g.count - 1 }
theorem RG.popped_row (g : RG) : g.popped.row = g.row.dropLast := by
 cases hc : g.count with
 | zero => simp [RG.popped, RG.row, hc]
 | succ k =>
  have e : g.row = g.popped.row ++ [g.cs.getD (g.place k) 0] := by
   unfold RG.row
   rw [hc, List.range_succ, List.map_append]
   simp [RG.popped, hc, RG.place]
  rw [e, List.dropLast_concat]
theorem RG.popped_wf {g : RG} (wf : g.Wf) : g.popped.Wf := ⟨wf.bare, wf.first, by have := wf.count; simp only [RG.popped]; omega, wf.top⟩
def RG.shifted (g : RG) : RG := { g with first := g.place 1, count := g.count - 1 }
theorem RG.shifted_row {g : RG} (wf : g.Wf) (h : 0 < g.count) : g.shifted.row = g.row.tail := by
 have hc := wf.count
 have hp := wf.pos (i := 0) (by omega)
 apply List.ext_getElem?
 intro i
 rw [List.getElem?_tail]
 by_cases hi : i + 1 < g.count
 ·rw [RG.row_at (g := g.shifted) (show i < g.count - 1 by omega), RG.row_at hi]
  have e : g.shifted.place i = g.place (i + 1) := by
   simp only [RG.shifted, RG.place]
   rw [Nat.mod_add_mod, Nat.add_assoc, Nat.add_comm 1 i]
  rw [e]
  rfl
 ·rw [List.getElem?_eq_none (by rw [RG.row_len]; simp only [RG.shifted]; omega), List.getElem?_eq_none (by rw [RG.row_len]; omega)]
theorem RG.shifted_wf {g : RG} (wf : g.Wf) (h : 0 < g.count) : g.shifted.Wf := by
 have hc := wf.count
 exact ⟨wf.bare, .inl (RG.place_lt (g := g) (by omega) _), by simp only [RG.shifted]; omega, wf.top⟩
def RG.laid (g : RG) (size : Nat) : List Int := g.row ++ List.replicate (size - g.count) 0
theorem RG.laid_len {g : RG} {size : Nat} (h : g.count ≤ size) : (g.laid size).length = size := by
 rw [RG.laid, List.length_append, RG.row_len, List.length_replicate]; omega
def RG.moved (g : RG) (b size : Nat) : RG := ⟨some b, g.laid size, 0, g.count⟩
theorem RG.moved_row {g : RG} {b size : Nat} (h : g.count ≤ size) : (g.moved b size).row = g.row := by
 apply List.ext_getElem?
 intro i
 by_cases hi : i < g.count
 ·rw [RG.row_at (g := g.moved b size) (show i < g.count from hi)]
  have e : (g.moved b size).place i = i := by
   simp only [RG.place, RG.moved, RG.laid_len h, Nat.zero_add]
   exact Nat.mod_eq_of_lt (by omega)
  rw [e]
  simp only [RG.moved, RG.laid, List.getD_eq_getElem?_getD]
  rw [List.getElem?_append_left (by rw [RG.row_len]; exact hi), RG.row_at hi]
  rfl
 ·rw [List.getElem?_eq_none (by rw [RG.row_len]; simp only [RG.moved]; omega), List.getElem?_eq_none (by rw [RG.row_len]; omega)]
theorem RG.moved_wf {g : RG} {b size : Nat} (h : g.count ≤ size) (h2 : size ≤ 1073741824) : (g.moved b size).Wf :=
 ⟨fun e => by simp [RG.moved] at e, by
  have := RG.laid_len h
  simp only [RG.moved]
  rcases Nat.eq_zero_or_pos size with h0 | h0
  ·right
   exact ⟨trivial, List.eq_nil_of_length_eq_zero (by omega)⟩
  ·left
   omega, by simp only [RG.moved, RG.laid_len h]; exact h, by simp only [RG.moved, RG.laid_len h]; exact h2⟩
def RG.part (g : RG) (size k : Nat) : List Int := g.row.take k ++ List.replicate (size - k) 0
theorem RG.part_zero (g : RG) (size : Nat) : g.part size 0 = List.replicate size 0 := by simp [RG.part]
theorem RG.part_all (g : RG) (size : Nat) : g.part size g.count = g.laid size := by
 unfold RG.part RG.laid
 rw [List.take_of_length_le (by rw [RG.row_len]; exact Nat.le_refl _)]
theorem RG.part_len {g : RG} {size k : Nat} (h : k ≤ g.count) (h2 : g.count ≤ size) : (g.part size k).length = size := by
 simp only [RG.part, List.length_append, List.length_take, RG.row_len, List.length_replicate]; omega
theorem RG.part_set {g : RG} {size k : Nat} (h : k < g.count) (h2 : g.count ≤ size) : (g.part size k).set k (g.cs.getD (g.place k) 0) = g.part size (k + 1) := by
 unfold RG.part
 have hl : (g.row.take k).length = k := by rw [List.length_take, RG.row_len]; omega
 have e : List.replicate (size - k) (0 : Int) = 0 :: List.replicate (size - (k + 1)) 0 := by
  rw [show size - k = (size - (k + 1)) + 1 by omega, List.replicate_succ]
 rw [List.set_append_right _ _ (by omega), hl, Nat.sub_self, e, List.set_cons_zero, List.take_add_one, RG.row_at h]
 simp
abbrev rptr (b : Nat) : Value := .pointer (some ⟨b, 0, none⟩)
theorem uIntsR : Tryz.prog.underlying 259 = some (.slice 3) := by kernel_rfl
theorem infIntR : (Tryz.prog.info? 3).map (fun i => (i.zero, i.size, i.bytes)) = some (some (.int .i64 0), 1, 8) := by kernel_rfl
section
variable {B : Nat} {w0 w : World} {rb : Nat} {g : RG} {F : List (Nat × Obj)}
def RingAt (B : Nat) (w0 w : World) (rb : Nat) (g : RG) (F : List (Nat × Obj)) : Prop := St B w0 w ((rb, g.obj) :: (g.cellsH ++ F))
theorem RingAt.c0 (h : RingAt B w0 w rb g F) : w.cell? ⟨rb, 0, none⟩ = some g.sl := h.cell List.mem_cons_self rfl
theorem RingAt.c1 (h : RingAt B w0 w rb g F) : w.cell? ⟨rb, 1, none⟩ = some (.int .i64 g.first) := h.cell List.mem_cons_self rfl
theorem RingAt.c2 (h : RingAt B w0 w rb g F) : w.cell? ⟨rb, 2, none⟩ = some (.int .i64 g.count) := h.cell List.mem_cons_self rfl
theorem RingAt.soft (h : RingAt B w0 w rb g F) (i : Nat) : w.frozen? ⟨rb, i, none⟩ = false := St.soft h List.mem_cons_self i
theorem RingAt.drewN (h : RingAt B w0 w rb g F) (n : Nat) : RingAt B w0 (w.drewN n) rb g F := St.drewN h n
theorem RG.Wf.block (wf : g.Wf) (h : 0 < g.cs.length) : ∃ b, g.cb = some b ∧ g.sl = .slice (some ⟨b, 0, none⟩) g.cs.length g.cs.length ∧ g.cellsH = [(b, intsObj g.cs)] := by
 cases hb : g.cb with
 | none => rw [wf.bare hb] at h; simp at h
 | some b => exact ⟨b, rfl, by simp [RG.sl, hb], by simp [RG.cellsH, hb]⟩
theorem RG.Wf.header (wf : g.Wf) : ∃ a, g.sl = .slice a g.cs.length g.cs.length := by
 cases hb : g.cb with
 | none => exact ⟨none, by simp [RG.sl, hb, wf.bare hb]⟩
 | some b => exact ⟨_, by simp [RG.sl, hb]; rfl⟩
theorem RingAt.elem (h : RingAt B w0 w rb g F) {b : Nat} (hb : g.cellsH = [(b, intsObj g.cs)]) {i : Nat} (hi : i < g.cs.length) : w.cell? ⟨b, i, none⟩ = some (.int .i64 (g.cs.getD i 0)) := by
 unfold RingAt at h
 rw [hb] at h
 refine h.cell (b := b) (c := (ints g.cs).toArray) (T := 3) (fr := (0, 0)) (by simp [intsObj]) (i := i) ?_
 rw [List.getElem?_toArray]
 exact ints_at (by simp [List.getD_eq_getElem?_getD, hi])
theorem RingAt.front {x : Nat × Obj} (h : St B w0 w (x :: (rb, g.obj) :: (g.cellsH ++ F))) : RingAt B w0 w rb g (x :: F) :=
 h.perm ((List.Perm.swap _ _ _).trans (.cons _ List.perm_middle.symm))
set_option maxHeartbeats 400000 in
theorem cellOf_any (h : RingAt B w0 w rb g F) (wf : g.Wf) (hp : 0 < g.cs.length) (i : Int) (h0 : 0 ≤ i) (h1 : i ≤ 1073741824) :
  Calls Tryz.prog 270 #[rptr rb, .int .i64 i] w fun e w' => e = .returned (.int .i64 (g.place i.toNat)) ∧ ∃ n, w' = w.drewN n := by
 obtain ⟨k, rfl⟩ : ∃ k : Nat, i = k := ⟨i.toNat, by omega⟩
 have c0 := h.c0
 have c1 := h.c1
 obtain ⟨a, ha⟩ := wf.header
 rw [ha] at c0
 have ht := wf.top
 have hf : (g.first : Int) ≤ 1073741824 := by rcases wf.first with h | ⟨h, _⟩ <;> omega
 have hN : (g.cs.length : Int) ≤ 1073741824 := by omega
 have hN0 : (0 : Int) < g.cs.length := by omega
 have hk1 : (k : Int) ≤ 1073741824 := h1
 have hk0 : (0 : Int) ≤ k := by omega
 have hf0 : (0 : Int) ≤ g.first := by omega
 have e : ((g.place k : Nat) : Int) = ((g.first : Int) + k) % g.cs.length := by simp [RG.place]
 have hne : ((g.cs.length : Int) == 0) = false := by rw [beq_eq_false_iff_ne]; omega
 rw [Int.toNat_natCast, e]
 clear e h wf ht ha hp h0 h1
 generalize g.cs.length = N at *
 generalize g.first = f at *
 go_enter Tryz.func270, Tryz.ntmps270
 go_wp2_with fail
 go_quiet (fail)
 go_wp2_with fail
 go_ret
 exact ⟨rfl, _, rfl⟩
set_option maxHeartbeats 400000 in
theorem rlen_any (h : RingAt B w0 w rb g F) : Calls Tryz.prog 252 #[rptr rb] w fun e w' => e = .returned (.int .i64 g.count) ∧ w = w' := by
 have h0 := h.c2
 clear h
 go_enter Tryz.func252, Tryz.ntmps252
 go_wp2
 go_ret
 exact ⟨rfl, rfl⟩
set_option maxHeartbeats 400000 in
theorem at_none (h : RingAt B w0 w rb g F) (i : Int) (hi : i < 0 ∨ (g.count : Int) ≤ i) : Calls Tryz.prog 279 #[rptr rb, .int .i64 i] w fun e w' => e = .returned (.tuple #[.int .i64 0, .bool false]) ∧ ∃ n, w' = w.drewN n := by
 have h0 := h.c2
 clear h
 rcases hi with hi | hi
 ·go_enter Tryz.func279, Tryz.ntmps279
  go_wp2_with fail
  go_ret2
  exact ⟨rfl, 0, rfl⟩
 ·by_cases hz : i < 0
  ·go_enter Tryz.func279, Tryz.ntmps279
   go_wp2_with fail
   go_ret2
   exact ⟨rfl, 0, rfl⟩
  ·have hz' : 0 ≤ i := by omega
   clear hz
   go_enter Tryz.func279, Tryz.ntmps279
   go_wp2_with fail
   go_ret2
   exact ⟨rfl, 0, rfl⟩
set_option maxHeartbeats 400000 in
theorem at_some (h : RingAt B w0 w rb g F) (wf : g.Wf) {i : Nat} (hi : i < g.count) : Calls Tryz.prog 279 #[rptr rb, .int .i64 i] w fun e w' => e = .returned (.tuple #[.int .i64 (g.cs.getD (g.place i) 0), .bool true]) ∧ ∃ n, w' = w.drewN n := by
 have hc := wf.count
 have ht := wf.top
 have hp : 0 < g.cs.length := by omega
 have hpl := RG.place_lt hp i
 obtain ⟨b, hb, hsl, hH⟩ := wf.block hp
 have c0 := h.c0
 have c2 := h.c2
 have ce := h.elem hH hpl
 have cc : Hid (∀ n, Calls Tryz.prog 270 #[rptr rb, .int .i64 i] (w.drewN n) fun e w' => e = .returned (.int .i64 (g.place i)) ∧ ∃ m, w' = (w.drewN n).drewN m) := fun n => by
  have := cellOf_any (h.drewN n) wf hp i (by omega) (by omega)
  rw [Int.toNat_natCast] at this
  exact this
 rw [hsl] at c0
 have hi0 : (0 : Int) ≤ i := by omega
 have hi1 : (i : Int) < g.count := by omega
 have hq0 : (0 : Int) ≤ g.place i := by omega
 have hq1 : (g.place i : Int) < g.cs.length := by omega
 generalize g.cs.getD (g.place i) 0 = x at *
 generalize g.place i = q at *
 clear h hb hsl hH hc ht hp hpl wf hi
 go_enter Tryz.func279, Tryz.ntmps279
 go_wp2_with fail
 go_quiet ((go_at_call 270; exact Calls.quiet_of (cc.out _)))
 go_wp2_with fail
 go_ret2
 exact ⟨rfl, _, rfl⟩
theorem mk_ints (w : World) (k : Int) (h0 : 0 ≤ k) (h1 : k ≤ 1073741824) :
  (Instr.makeSlice 259 (.int .i64 k) (.int .i64 k)).run Tryz.prog w = .ok (.slice (some ⟨w.heap.size, 0, none⟩) k.toNat k.toNat) (w.alloc (intsObj (List.replicate k.toNat 0))) := by
 obtain ⟨i0, hi, hz0, hz1, hz2⟩ := info_parts infIntR
 have h := run_make (P := Tryz.prog) w 259 3 i0 (.int .i64 0) uIntsR hi hz0 .i64 .i64 k k h0 (Int.le_refl _) (by rw [hz2]; omega) (by omega)
 rw [h]
 congr 2
 unfold intsObj
 congr 1
 apply Array.toList_inj.1
 rw [hz1, Nat.mul_one, show (Value.int .i64 0).cells = #[Value.int .i64 0] from rfl, toList_madeCells_one]
 simp [ints]
set_option maxHeartbeats 1000000 in
theorem laidOut_any (h : RingAt B w0 w rb g F) (wf : g.Wf) (size : Nat) (hs : g.count ≤ size) (hs1 : size ≤ 1073741824) :
  Calls Tryz.prog 236 #[rptr rb, .int .i64 size] w fun e w' => e = .returned (.slice (some ⟨w.heap.size, 0, none⟩) size size) ∧ St B w0 w' ((w.heap.size, intsObj (g.laid size)) :: (rb, g.obj) :: (g.cellsH ++ F)) := by
 have hmk := mk_ints w size (by omega) (by omega)
 rw [Int.toNat_natCast] at hmk
 have h1 : St B w0 (w.alloc (intsObj (List.replicate size 0))) ((w.heap.size, intsObj (g.part size 0)) :: (rb, g.obj) :: (g.cellsH ++ F)) := by
  rw [RG.part_zero]
  exact h.alloc _
 have h1 := Lib.hid h1
 clear h
 go_enter Tryz.func236, Tryz.ntmps236
 go_wp2_with fail
 refine wp_scope_label 0 (fun a' w' => ∃ k : Nat, k ≤ g.count ∧ Fr 30 [(0, rptr rb), (5, .slice (some ⟨w.heap.size, 0, none⟩) size size), (6, .int .i64 k)] a' ∧ St B w0 w' ((w.heap.size, intsObj (g.part size k)) :: (rb, g.obj) :: (g.cellsH ++ F)))
  (fun a' _ => g.count - (intOf (a'.tmps.getD 6 undef)).toNat) rfl ?_ ?_
 ·rintro a' w' ⟨k, hk, hf, hw⟩
  obtain ⟨f, rfl, hl⟩ := hf.lit
  clear hf
  simp only [List.mem_cons, List.not_mem_nil, or_false, forall_eq_or_imp, forall_eq] at hl
  obtain ⟨f0, f5, f6⟩ := hl
  simp only [List.range, List.range.loop, List.map, f0, f5, f6]
  clear f0 f5 f6 h1 hmk
  have hr := RingAt.front hw
  have c2 := hr.c2
  by_cases hlt : k < g.count
  ·have hc := wf.count
   have ht := wf.top
   have hp : 0 < g.cs.length := by omega
   have hpl := RG.place_lt hp k
   obtain ⟨b, hb, hsl, hH⟩ := wf.block hp
   have c0 := hr.c0
   have ce := hr.elem hH hpl
   have cc : Hid (∀ n, Calls Tryz.prog 270 #[rptr rb, .int .i64 k] (w'.drewN n) fun e w'' => e = .returned (.int .i64 (g.place k)) ∧ ∃ m, w'' = (w'.drewN n).drewN m) := fun n => by
    have := cellOf_any (hr.drewN n) wf hp k (by omega) (by omega)
    rw [Int.toNat_natCast] at this
    exact this
   rw [hsl] at c0
   have hi0 : (0 : Int) ≤ k := by omega
   have hi1 : (k : Int) < g.count := by omega
   have hi2 : (k : Int) < size := by omega
   have hq0 : (0 : Int) ≤ g.place k := by omega
   have hq1 : (g.place k : Int) < g.cs.length := by omega
   have hset := Lib.hid (RG.part_set hlt hs)
   have hk2 : k < (ints (g.part size k)).length := by rw [ints_len, RG.part_len hk hs]; omega
   have sc : w'.cell? ⟨w.heap.size, k, none⟩ = some ((ints (g.part size k))[k]) := hw.cell (b := w.heap.size) (c := (ints (g.part size k)).toArray) (T := 3) (fr := (0, 0)) List.mem_cons_self (i := k) (by simp [hk2])
   have sf := St.soft (b := w.heap.size) (c := (ints (g.part size k)).toArray) (T := 3) hw List.mem_cons_self k
   have hst : Hid (∀ n, St B w0 ((w'.drewN n).setCell ⟨w.heap.size, k, none⟩ (.int .i64 (g.cs.getD (g.place k) 0))) ((w.heap.size, intsObj (g.part size (k + 1))) :: (rb, g.obj) :: (g.cellsH ++ F))) := fun n => by
    have := (hw.drewN n).set0 k (.int .i64 (g.cs.getD (g.place k) 0))
    rw [List.setIfInBounds_toArray, ints_set, RG.part_set hlt hs] at this
    exact this
   have hkeep : Hid (∀ n, ((w'.drewN n).setCell ⟨w.heap.size, k, none⟩ (.int .i64 (g.cs.getD (g.place k) 0))).cell? ⟨rb, 0, none⟩ = some (.slice (some ⟨b, 0, none⟩) g.cs.length g.cs.length) ∧
     ((w'.drewN n).setCell ⟨w.heap.size, k, none⟩ (.int .i64 (g.cs.getD (g.place k) 0))).cell? ⟨b, g.place k, none⟩ = some (.int .i64 (g.cs.getD (g.place k) 0))) := fun n => by
    have hr2 := RingAt.front (hst.out n)
    have e0 := hr2.c0
    rw [hsl] at e0
    exact ⟨e0, hr2.elem hH hpl⟩
   generalize (ints (g.part size k))[k] = u at *
   generalize g.cs.getD (g.place k) 0 = x at *
   generalize g.place k = q at *
   clear hr hb hsl hH hc ht hp hpl wf hw hk2 hset
   go_wp2_with fail
   go_region_held3 (fun w'' => w''.cell? ⟨rb, 0, none⟩ = some (.slice (some ⟨b, 0, none⟩) g.cs.length g.cs.length) ∧ w''.cell? ⟨b, q, none⟩ = some (.int .i64 x)) (first | exact hkeep.out _ | go_keep) ((go_at_call 270; refine (cc.out _).mono ?_; rintro e w'' ⟨rfl, m, rfl⟩))
   go_wp2_with fail
   refine wp_goto ?_
   refine ⟨rfl, ⟨k + 1, by omega, ⟨rfl, rfl, by simp⟩, hst.out _⟩, ?_⟩
   simp [intOf]
   omega
  ·have hkc : k = g.count := by omega
   subst hkc
   rw [RG.part_all] at hw
   have hw := Lib.hid hw
   clear hr
   go_wp2_with fail
   simp only [Exit.jump]
   go_ret
   exact ⟨rfl, hw.out⟩
 ·intro H
  go_wp2_with fail
  refine wp_label ?_
  go_step
  go_step
  exact H _ _ ⟨0, Nat.zero_le _, ⟨rfl, rfl, by simp⟩, h1.out⟩
end
section
variable {B : Nat} {w0 w : World} {rb : Nat} {g : RG} {F : List (Nat × Obj)}
theorem RG.moved_obj {b size : Nat} (h : g.count ≤ size) : (g.moved b size).obj = .cells #[.slice (some ⟨b, 0, none⟩) size size, .int .i64 0, .int .i64 g.count] 305 := by
 simp [RG.obj, RG.sl, RG.moved, RG.laid_len h]
set_option maxHeartbeats 400000 in
theorem moveTo_any (h : RingAt B w0 w rb g F) (wf : g.Wf) (size : Int) (hs : (g.count : Int) ≤ size) (hs1 : size ≤ 1073741824) :
  Calls Tryz.prog 299 #[rptr rb, .int .i64 size] w fun e w' => e = .returned (.tuple #[]) ∧ ∃ b, RingAt B w0 w' rb (g.moved b size.toNat) F := by
 obtain ⟨s, rfl⟩ : ∃ s : Nat, size = s := ⟨size.toNat, by omega⟩
 rw [Int.toNat_natCast]
 have hcs : g.count ≤ s := by omega
 have cl := Lib.hid (laidOut_any h wf s hcs (by omega))
 have fin : Hid (∀ w', St B w0 w' ((w.heap.size, intsObj (g.laid s)) :: (rb, g.obj) :: (g.cellsH ++ F)) →
   RingAt B w0 ((w'.setCell ⟨rb, 0, none⟩ (.slice (some ⟨w.heap.size, 0, none⟩) s s)).setCell ⟨rb, 1, none⟩ (.int .i64 0)) rb (g.moved w.heap.size s) F) := by
  intro w' h'
  have h2 := (h'.perm (List.Perm.swap _ _ _)).set0 0 (.slice (some ⟨w.heap.size, 0, none⟩) s s)
  have h3 := h2.set0 1 (.int .i64 0)
  unfold RingAt
  rw [RG.moved_obj hcs]
  refine h3.sub ?_
  refine .cons_cons _ ?_
  show (([(w.heap.size, intsObj (g.laid s))] : List (Nat × Obj)) ++ F).Sublist ((w.heap.size, intsObj (g.laid s)) :: (g.cellsH ++ F))
  exact .cons_cons _ (List.sublist_append_right _ _)
 have fin2 : Hid (∀ w', St B w0 w' ((w.heap.size, intsObj (g.laid s)) :: (rb, g.obj) :: (g.cellsH ++ F)) → w'.cell? ⟨rb, 0, none⟩ = some g.sl ∧ w'.cell? ⟨rb, 1, none⟩ = some (.int .i64 g.first) ∧ ∀ i, w'.frozen? ⟨rb, i, none⟩ = false) := by
  intro w' h'
  have := RingAt.front h'
  exact ⟨this.c0, this.c1, this.soft⟩
 clear h wf hs hs1
 go_enter Tryz.func299, Tryz.ntmps299
 go_wp2_with fail
 refine cl.out.mono ?_
 rintro e w1 ⟨rfl, h1⟩
 obtain ⟨c0, c1, cf⟩ := fin2.out w1 h1
 have f0 := cf 0
 have f1 := cf 1
 have h1 := Lib.hid h1
 clear cf cl fin2
 go_wp2_with fail
 exact bodyPost_end (results_none rfl _ _ _) rfl ⟨rfl, w.heap.size, fin.out _ h1.out⟩
set_option maxHeartbeats 400000 in
theorem makeRoom_any (h : RingAt B w0 w rb g F) (wf : g.Wf) (hc : g.count < 536870912) :
  Calls Tryz.prog 281 #[rptr rb] w fun e w' => e = .returned (.tuple #[]) ∧ ∃ g', g'.Wf ∧ g'.row = g.row ∧ g'.count = g.count ∧ g'.count < g'.cs.length ∧ RingAt B w0 w' rb g' F := by
 have c0 := h.c0
 have c2 := h.c2
 obtain ⟨a, ha⟩ := wf.header
 rw [ha] at c0
 have ht := wf.top
 have hcl := wf.count
 by_cases hfull : g.count = g.cs.length
 ·have hb : ((g.count : Int) == g.cs.length) = true := by rw [beq_iff_eq]; omega
  have cm : Hid (∀ n (q : Int), (g.count : Int) < q → q ≤ 1073741824 → Calls Tryz.prog 299 #[rptr rb, .int .i64 q] (w.drewN n) fun e w' => e = .returned (.tuple #[]) ∧ ∃ g', g'.Wf ∧ g'.row = g.row ∧ g'.count = g.count ∧ g'.count < g'.cs.length ∧ RingAt B w0 w' rb g' F) :=
   fun n q h1 h2 => (moveTo_any (h.drewN n) wf q (by omega) h2).mono fun _ _ ⟨he, b, hw⟩ => ⟨he, _, RG.moved_wf (by omega) (by omega), RG.moved_row (by omega), rfl, by simp only [RG.moved, RG.laid_len (show g.count ≤ q.toNat by omega)]; omega, hw⟩
  have hN0 : (0 : Int) ≤ g.cs.length := by omega
  have hN1 : (g.cs.length : Int) ≤ 536870912 := by omega
  have hN2 : (g.count : Int) ≤ g.cs.length := by omega
  have hN3 : (g.cs.length : Int) ≤ 536870911 := by omega
  clear h wf hcl ht hfull ha
  go_enter Tryz.func281, Tryz.ntmps281
  go_wp2_with fail
  go_quiet (fail)
  go_wp2_with fail
  all_goals
   refine (cm.out _ _ (by omega) (by omega)).mono ?_
   rintro e w' ⟨rfl, hg⟩
   have hg := Lib.hid hg
   go_wp2_with fail
   exact bodyPost_end (results_none rfl _ _ _) rfl ⟨rfl, hg.out⟩
 ·have hb : ((g.count : Int) == g.cs.length) = false := by rw [beq_eq_false_iff_ne]; omega
  have fin := Lib.hid (fun n => h.drewN n)
  have hlt : g.count < g.cs.length := by omega
  have hlt := Lib.hid hlt
  clear h hcl ht hfull ha
  go_enter Tryz.func281, Tryz.ntmps281
  go_wp2_with fail
  go_quiet (fail)
  go_wp2_with fail
  exact bodyPost_end (results_none rfl _ _ _) rfl ⟨rfl, g, wf, rfl, rfl, hlt.out, fin.out _⟩
set_option maxHeartbeats 400000 in
theorem giveBack_ring (h : RingAt B w0 w rb g F) (wf : g.Wf) :
  Calls Tryz.prog 280 #[rptr rb] w fun e w' => e = .returned (.tuple #[]) ∧ ∃ g', g'.Wf ∧ g'.row = g.row ∧ RingAt B w0 w' rb g' F := by
 have c0 := h.c0
 have c2 := h.c2
 obtain ⟨a, ha⟩ := wf.header
 rw [ha] at c0
 have ht := wf.top
 have hcl := wf.count
 have hN0 : (0 : Int) ≤ g.cs.length := by omega
 have hN1 : (g.cs.length : Int) ≤ 1073741824 := by omega
 have fin := Lib.hid (fun n => h.drewN n)
 have cm : Hid (∀ n (q : Int), (g.count : Int) ≤ q → q ≤ 1073741824 → Calls Tryz.prog 299 #[rptr rb, .int .i64 q] (w.drewN n) fun e w' => e = .returned (.tuple #[]) ∧ ∃ g', g'.Wf ∧ g'.row = g.row ∧ RingAt B w0 w' rb g' F) :=
  fun n q h1 h2 => (moveTo_any (h.drewN n) wf q (by omega) h2).mono fun _ _ ⟨he, b, hw⟩ => ⟨he, _, RG.moved_wf (by omega) (by omega), RG.moved_row (by omega), hw⟩
 have wf := Lib.hid wf
 clear h ha
 by_cases h8 : (8 : Int) < g.cs.length
 ·by_cases hq : (g.count : Int) ≤ (g.cs.length : Int) / 4
  ·have hq2 : (g.count : Int) ≤ (g.cs.length : Int) / 2 := by omega
   have hq3 : (g.cs.length : Int) / 2 ≤ 1073741824 := by omega
   clear hcl ht
   go_enter Tryz.func280, Tryz.ntmps280
   go_wp2_with fail
   go_quiet (fail)
   go_wp2_with fail
   refine (cm.out _ _ hq2 hq3).mono ?_
   rintro e w' ⟨rfl, hg⟩
   have hg := Lib.hid hg
   go_wp2_with fail
   exact bodyPost_end (results_none rfl _ _ _) rfl ⟨rfl, hg.out⟩
  ·have hq' : decide ((g.count : Int) ≤ (g.cs.length : Int) / 4) = false := by simpa using hq
   clear hcl ht hq
   go_enter Tryz.func280, Tryz.ntmps280
   go_wp2_with fail
   go_quiet (fail)
   go_wp2_with fail
   exact bodyPost_end (results_none rfl _ _ _) rfl ⟨rfl, g, wf.out, rfl, fin.out _⟩
 ·have h8' : decide ((8 : Int) < g.cs.length) = false := by simpa using h8
  clear hcl ht h8
  go_enter Tryz.func280, Tryz.ntmps280
  go_wp2_with fail
  go_quiet (fail)
  go_wp2_with fail
  exact bodyPost_end (results_none rfl _ _ _) rfl ⟨rfl, g, wf.out, rfl, fin.out _⟩
set_option maxHeartbeats 1000000 in
theorem push_any (h : RingAt B w0 w rb g F) (wf : g.Wf) (hc : g.count < 536870912) (n : Int) :
  Calls Tryz.prog 255 #[rptr rb, .int .i64 n] w fun e w' => e = .returned (.tuple #[]) ∧ ∃ g', g'.Wf ∧ g'.row = g.row ++ [n] ∧ RingAt B w0 w' rb g' F := by
 have cm := Lib.hid (makeRoom_any h wf hc)
 clear h wf
 go_enter Tryz.func255, Tryz.ntmps255
 go_wp2_with fail
 refine cm.out.mono ?_
 rintro e w1 ⟨rfl, g1, wf1, hrow, hcnt, hlt, h1⟩
 have ht := wf1.top
 have hp : 0 < g1.cs.length := by omega
 have hpl := RG.place_lt hp g1.count
 obtain ⟨b, hb, hsl, hH⟩ := wf1.block hp
 have c0 := h1.c0
 have c2 := h1.c2
 have cf := h1.soft 2
 have hpush := RG.pushed_row wf1 hlt n
 rw [hrow] at hpush
 have hpush := Lib.hid hpush
 have hwf := Lib.hid (RG.pushed_wf wf1 hlt n)
 have cc : Hid (∀ n, Calls Tryz.prog 270 #[rptr rb, .int .i64 g1.count] (w1.drewN n) fun e w'' => e = .returned (.int .i64 (g1.place g1.count)) ∧ ∃ m, w'' = (w1.drewN n).drewN m) := fun n => by
  have := cellOf_any (h1.drewN n) wf1 hp g1.count (by omega) (by omega)
  rw [Int.toNat_natCast] at this
  exact this
 rw [hsl] at c0
 have h2 : St B w0 w1 ((b, intsObj g1.cs) :: (rb, g1.obj) :: F) := by
  have h := h1
  unfold RingAt at h
  rw [hH] at h
  exact h.perm (List.Perm.swap _ _ _)
 have hne : b ≠ rb := h2.ne List.mem_cons_self
 have hk2 : g1.place g1.count < (ints g1.cs).length := by rw [ints_len]; exact hpl
 have sc : w1.cell? ⟨b, g1.place g1.count, none⟩ = some ((ints g1.cs)[g1.place g1.count]) := h2.cell (b := b) (c := (ints g1.cs).toArray) (T := 3) (fr := (0, 0)) List.mem_cons_self (i := g1.place g1.count) (by simp [hk2])
 have sf := St.soft (b := b) (c := (ints g1.cs).toArray) (T := 3) h2 List.mem_cons_self (g1.place g1.count)
 have hst : Hid (∀ m, RingAt B w0 (((w1.drewN m).setCell ⟨b, g1.place g1.count, none⟩ (.int .i64 n)).setCell ⟨rb, 2, none⟩ (.int .i64 ((g1.count : Int) + 1))) rb (g1.pushed n) F) := fun m => by
  have h3 := (h2.drewN m).set0 (g1.place g1.count) (.int .i64 n)
  rw [List.setIfInBounds_toArray, ints_set] at h3
  have h4 := (h3.perm (List.Perm.swap _ _ _)).set0 2 (.int .i64 ((g1.count : Int) + 1))
  unfold RingAt
  have e1 : (g1.pushed n).cellsH = [(b, intsObj (g1.pushed n).cs)] := by simp [RG.cellsH, RG.pushed, hb]
  have e2 : (g1.pushed n).obj = .cells #[.slice (some ⟨b, 0, none⟩) g1.cs.length g1.cs.length, .int .i64 g1.first, .int .i64 ((g1.count : Int) + 1)] 305 := by simp [RG.obj, RG.sl, RG.pushed, hb]
  rw [e1, e2, ← hsl]
  exact h4
 have hq0 : (0 : Int) ≤ g1.place g1.count := by omega
 have hq1 : (g1.place g1.count : Int) < g1.cs.length := by omega
 have hi1 : (g1.count : Int) ≤ 536870912 := by omega
 have hkeep : Hid (∀ m, ((w1.drewN m).setCell ⟨b, g1.place g1.count, none⟩ (.int .i64 n)).cell? ⟨rb, 0, none⟩ = some (.slice (some ⟨b, 0, none⟩) g1.cs.length g1.cs.length) ∧
   ((w1.drewN m).setCell ⟨b, g1.place g1.count, none⟩ (.int .i64 n)).cell? ⟨rb, 2, none⟩ = some (.int .i64 g1.count)) := fun m => by
  refine ⟨?_, ?_⟩ <;> rw [World.cell?_setCell_other _ _ _ _ (by intro e; exact hne (congrArg Addr.block e))] <;> simpa
 have hn' := hne
 have hn' := Lib.hid hn'
 generalize (ints g1.cs)[g1.place g1.count] = u at *
 generalize hq : g1.place g1.count = q at *
 clear h1 wf1 hrow hcnt hlt ht hp hpl hb hH h2 hk2 hq hsl cm
 go_wp2_with fail
 go_region_held3 (fun w'' => w''.cell? ⟨rb, 0, none⟩ = some (.slice (some ⟨b, 0, none⟩) g1.cs.length g1.cs.length) ∧ w''.cell? ⟨rb, 2, none⟩ = some (.int .i64 g1.count)) (first | exact hkeep.out _ | go_keep) ((go_at_call 270; refine (cc.out _).mono ?_; rintro e w'' ⟨rfl, m, rfl⟩))
 have hk := (hkeep.out (1 + m)).2
 go_wp2_with fail
 exact bodyPost_end (results_none rfl _ _ _) rfl ⟨rfl, _, hwf.out, hpush.out, hst.out _⟩
end
section
variable {B : Nat} {w0 w : World} {rb : Nat} {g : RG} {F : List (Nat × Obj)}
set_option maxHeartbeats 1000000 in
theorem unshift_any (h : RingAt B w0 w rb g F) (wf : g.Wf) (hc : g.count < 536870912) (n : Int) :
  Calls Tryz.prog 300 #[rptr rb, .int .i64 n] w fun e w' => e = .returned (.tuple #[]) ∧ ∃ g', g'.Wf ∧ g'.row = n :: g.row ∧ RingAt B w0 w' rb g' F := by
 have cm := Lib.hid (makeRoom_any h wf hc)
 clear h wf
 go_enter Tryz.func300, Tryz.ntmps300
 go_wp2_with fail
 refine cm.out.mono ?_
 rintro e w1 ⟨rfl, g1, wf1, hrow, hcnt, hlt, h1⟩
 have ht := wf1.top
 have hp : 0 < g1.cs.length := by omega
 obtain ⟨b, hb, hsl, hH⟩ := wf1.block hp
 have c0 := h1.c0
 have c1 := h1.c1
 have c2 := h1.c2
 have cf := h1.soft 2
 have cf1 := h1.soft 1
 have hun := RG.unshifted_row wf1 hlt n
 rw [hrow] at hun
 replace hun := Lib.hid hun
 have hwf := Lib.hid (RG.unshifted_wf wf1 hlt n)
 have cc : Hid (Calls Tryz.prog 270 #[rptr rb, .int .i64 ((g1.cs.length : Int) - 1)] w1 fun e w'' => e = .returned (.int .i64 g1.ahead) ∧ ∃ m, w'' = w1.drewN m) := by
  have := cellOf_any h1 wf1 hp ((g1.cs.length : Int) - 1) (by omega) (by omega)
  rw [show ((g1.cs.length : Int) - 1).toNat = g1.cs.length - 1 by omega] at this
  exact this
 rw [hsl] at c0
 have h2 : St B w0 w1 ((b, intsObj g1.cs) :: (rb, g1.obj) :: F) := by
  have h := h1
  unfold RingAt at h
  rw [hH] at h
  exact h.perm (List.Perm.swap _ _ _)
 have hal : g1.ahead < g1.cs.length := RG.place_lt hp _
 have hne : b ≠ rb := h2.ne List.mem_cons_self
 have hk2 : g1.ahead < (ints g1.cs).length := by rw [ints_len]; exact hal
 have h3 : ∀ m, St B w0 ((w1.drewN m).setCell ⟨rb, 1, none⟩ (.int .i64 g1.ahead)) ((b, intsObj g1.cs) :: (rb, .cells #[g1.sl, .int .i64 g1.ahead, .int .i64 g1.count] 305) :: F) := fun m =>
  (((h2.drewN m).perm (List.Perm.swap _ _ _)).set0 1 (.int .i64 g1.ahead)).perm (List.Perm.swap _ _ _)
 have sc : ∀ m, ((w1.drewN m).setCell ⟨rb, 1, none⟩ (.int .i64 g1.ahead)).cell? ⟨b, g1.ahead, none⟩ = some ((ints g1.cs)[g1.ahead]) := fun m =>
  (h3 m).cell (b := b) (c := (ints g1.cs).toArray) (T := 3) (fr := (0, 0)) List.mem_cons_self (i := g1.ahead) (by simp [hk2])
 have sf : ∀ m, ((w1.drewN m).setCell ⟨rb, 1, none⟩ (.int .i64 g1.ahead)).frozen? ⟨b, g1.ahead, none⟩ = false := fun m => St.soft (b := b) (c := (ints g1.cs).toArray) (T := 3) (h3 m) List.mem_cons_self g1.ahead
 have hst : Hid (∀ m q, RingAt B w0 (((((w1.drewN m).setCell ⟨rb, 1, none⟩ (.int .i64 g1.ahead)).drewN q).setCell ⟨b, g1.ahead, none⟩ (.int .i64 n)).setCell ⟨rb, 2, none⟩ (.int .i64 ((g1.count : Int) + 1))) rb (g1.unshifted n) F) := fun m q => by
  have h4 := ((h3 m).drewN q).set0 g1.ahead (.int .i64 n)
  rw [List.setIfInBounds_toArray, ints_set] at h4
  have h5 := (h4.perm (List.Perm.swap _ _ _)).set0 2 (.int .i64 ((g1.count : Int) + 1))
  unfold RingAt
  have e1 : (g1.unshifted n).cellsH = [(b, intsObj (g1.unshifted n).cs)] := by simp [RG.cellsH, RG.unshifted, hb]
  have e2 : (g1.unshifted n).obj = .cells #[.slice (some ⟨b, 0, none⟩) g1.cs.length g1.cs.length, .int .i64 g1.ahead, .int .i64 ((g1.count : Int) + 1)] 305 := by simp [RG.obj, RG.sl, RG.unshifted, hb]
  rw [e1, e2, ← hsl]
  exact h5
 have hq0 : (0 : Int) ≤ g1.ahead := by omega
 have hq1 : (g1.ahead : Int) < g1.cs.length := by omega
 have hi1 : (g1.count : Int) ≤ 536870912 := by omega
 have hN1 : (1 : Int) ≤ g1.cs.length := by omega
 have hN2 : (g1.cs.length : Int) ≤ 1073741824 := by omega
 generalize (ints g1.cs)[g1.ahead] = u at *
 generalize hq : g1.ahead = q at *
 replace sc := Lib.hid sc
 replace sf := Lib.hid sf
 replace hne := Lib.hid hne
 clear h1 wf1 hrow hcnt hlt ht hp hb hH h2 h3 hk2 hq hsl cm hal
 go_wp2_with fail
 refine cc.out.mono ?_
 rintro e w2 ⟨rfl, m, rfl⟩
 have sc1 := sc.out m
 have sf1 := sf.out m
 have k0 : ((w1.drewN m).setCell ⟨rb, 1, none⟩ (.int .i64 q)).cell? ⟨rb, 0, none⟩ = some (.slice (some ⟨b, 0, none⟩) g1.cs.length g1.cs.length) := by rw [World.cell?_setCell_other _ _ _ _ (by simp)]; simpa
 have k1 : ((w1.drewN m).setCell ⟨rb, 1, none⟩ (.int .i64 q)).cell? ⟨rb, 1, none⟩ = some (.int .i64 q) := World.cell?_setCell_same _ _ _ (by simpa using c1)
 have k2 : ((w1.drewN m).setCell ⟨rb, 1, none⟩ (.int .i64 q)).cell? ⟨rb, 2, none⟩ = some (.int .i64 g1.count) := by rw [World.cell?_setCell_other _ _ _ _ (by simp)]; simpa
 have kf : ((w1.drewN m).setCell ⟨rb, 1, none⟩ (.int .i64 q)).frozen? ⟨rb, 2, none⟩ = false := by simpa
 have hst := Lib.hid (hst.out m)
 go_wp2_with fail
 clear sc sf cc c0 c1 c2 cf cf1
 generalize (w1.drewN m).setCell ⟨rb, 1, none⟩ (.int .i64 q) = W at *
 have hkeep : Hid (∀ j, ((W.drewN j).setCell ⟨b, q, none⟩ (.int .i64 n)).cell? ⟨rb, 0, none⟩ = some (.slice (some ⟨b, 0, none⟩) g1.cs.length g1.cs.length) ∧ ((W.drewN j).setCell ⟨b, q, none⟩ (.int .i64 n)).cell? ⟨rb, 1, none⟩ = some (.int .i64 q) ∧
   ((W.drewN j).setCell ⟨b, q, none⟩ (.int .i64 n)).cell? ⟨rb, 2, none⟩ = some (.int .i64 g1.count)) := fun j => by
  refine ⟨?_, ?_, ?_⟩ <;> rw [World.cell?_setCell_other _ _ _ _ (by intro e; exact hne.out (congrArg Addr.block e))] <;> simpa
 go_region_held3 (fun w'' => w''.cell? ⟨rb, 0, none⟩ = some (.slice (some ⟨b, 0, none⟩) g1.cs.length g1.cs.length) ∧ w''.cell? ⟨rb, 1, none⟩ = some (.int .i64 q) ∧ w''.cell? ⟨rb, 2, none⟩ = some (.int .i64 g1.count)) (first | exact hkeep.out 1 | exact hkeep.out _ | go_keep) (fail)
 have hk := (hkeep.out 1).2.2
 go_wp2_with fail
 exact bodyPost_end (results_none rfl _ _ _) rfl ⟨rfl, _, hwf.out, hun.out, hst.out 1⟩
set_option maxHeartbeats 400000 in
theorem pop_none (h : RingAt B w0 w rb g F) (hz : g.count = 0) : Calls Tryz.prog 301 #[rptr rb] w fun e w' => e = .returned (.tuple #[.int .i64 0, .bool false]) ∧ ∃ n, w' = w.drewN n := by
 have c2 := h.c2
 rw [hz] at c2
 have ca := Lib.hid (at_none h (-1) (by omega))
 clear h hz
 go_enter Tryz.func301, Tryz.ntmps301
 go_wp2_with fail
 refine ca.out.mono ?_
 rintro e w1 ⟨rfl, m, rfl⟩
 go_wp2_with fail
 go_ret2
 exact ⟨rfl, _, rfl⟩
theorem RingAt.recount (h : RingAt B w0 w rb g F) (k : Nat) : RingAt B w0 (w.setCell ⟨rb, 2, none⟩ (.int .i64 k)) rb { g with count := k } F := h.set0 2 (.int .i64 k)
theorem RingAt.refirst (h : RingAt B w0 w rb g F) (k : Nat) : RingAt B w0 (w.setCell ⟨rb, 1, none⟩ (.int .i64 k)) rb { g with first := k } F := h.set0 1 (.int .i64 k)
set_option maxHeartbeats 400000 in
theorem pop_some (h : RingAt B w0 w rb g F) (wf : g.Wf) (hz : 0 < g.count) : Calls Tryz.prog 301 #[rptr rb] w fun e w' => e = .returned (.tuple #[.int .i64 (g.cs.getD (g.place (g.count - 1)) 0), .bool true]) ∧ ∃ g', g'.Wf ∧ g'.row = g.row.dropLast ∧ RingAt B w0 w' rb g' F := by
 have c2 := h.c2
 have cf := h.soft 2
 have ht := wf.top
 have hcl := wf.count
 have hc0 : (1 : Int) ≤ g.count := by omega
 have hc1 : (g.count : Int) ≤ 1073741824 := by omega
 have ca := at_some h wf (i := g.count - 1) (by omega)
 rw [show ((g.count - 1 : Nat) : Int) = (g.count : Int) - 1 by omega] at ca
 replace ca := Lib.hid ca
 have cg : Hid (∀ m, Calls Tryz.prog 280 #[rptr rb] ((w.drewN m).setCell ⟨rb, 2, none⟩ (.int .i64 ((g.count : Int) - 1))) fun e w' => e = .returned (.tuple #[]) ∧ ∃ g', g'.Wf ∧ g'.row = g.row.dropLast ∧ RingAt B w0 w' rb g' F) := fun m => by
  rw [show (g.count : Int) - 1 = ((g.count - 1 : Nat) : Int) by omega, ← RG.popped_row g]
  exact giveBack_ring ((h.drewN m).recount (g.count - 1)) (RG.popped_wf wf)
 generalize g.cs.getD (g.place (g.count - 1)) 0 = x at *
 clear h wf hcl ht hz
 go_enter Tryz.func301, Tryz.ntmps301
 go_wp2_with fail
 refine ca.out.mono ?_
 rintro e w1 ⟨rfl, m, rfl⟩
 go_wp2_with fail
 refine (cg.out _).mono ?_
 rintro e w2 ⟨rfl, h2⟩
 replace h2 := Lib.hid h2
 go_wp2_with fail
 go_ret2
 exact ⟨rfl, h2.out⟩
set_option maxHeartbeats 400000 in
theorem shift_none (h : RingAt B w0 w rb g F) (hz : g.count = 0) : Calls Tryz.prog 253 #[rptr rb] w fun e w' => e = .returned (.tuple #[.int .i64 0, .bool false]) ∧ ∃ n, w' = w.drewN n := by
 have ca := Lib.hid (at_none h 0 (by omega))
 clear h hz
 go_enter Tryz.func253, Tryz.ntmps253
 go_wp2_with fail
 refine ca.out.mono ?_
 rintro e w1 ⟨rfl, m, rfl⟩
 go_wp2_with fail
 go_ret2
 exact ⟨rfl, _, rfl⟩
set_option maxHeartbeats 400000 in
theorem shift_some (h : RingAt B w0 w rb g F) (wf : g.Wf) (hz : 0 < g.count) : Calls Tryz.prog 253 #[rptr rb] w fun e w' => e = .returned (.tuple #[.int .i64 (g.cs.getD (g.place 0) 0), .bool true]) ∧ ∃ g', g'.Wf ∧ g'.row = g.row.tail ∧ RingAt B w0 w' rb g' F := by
 have c1 := h.c1
 have c2 := h.c2
 have cf1 := h.soft 1
 have cf := h.soft 2
 have ht := wf.top
 have hcl := wf.count
 have hc0 : (1 : Int) ≤ g.count := by omega
 have hc1 : (g.count : Int) ≤ 1073741824 := by omega
 have ca := at_some h wf (i := 0) (by omega)
 replace ca := Lib.hid ca
 have cc : Hid (∀ m, Calls Tryz.prog 270 #[rptr rb, .int .i64 1] (w.drewN m) fun e w'' => e = .returned (.int .i64 (g.place 1)) ∧ ∃ n, w'' = (w.drewN m).drewN n) :=
  fun m => cellOf_any (h.drewN m) wf (by omega) 1 (by omega) (by omega)
 have cg : Hid (∀ m, Calls Tryz.prog 280 #[rptr rb] (((w.drewN m).setCell ⟨rb, 1, none⟩ (.int .i64 (g.place 1))).setCell ⟨rb, 2, none⟩ (.int .i64 ((g.count : Int) - 1))) fun e w' => e = .returned (.tuple #[]) ∧ ∃ g', g'.Wf ∧ g'.row = g.row.tail ∧ RingAt B w0 w' rb g' F) := fun m => by
  rw [show (g.count : Int) - 1 = ((g.count - 1 : Nat) : Int) by omega, ← RG.shifted_row wf hz]
  exact giveBack_ring (((h.drewN m).refirst (g.place 1)).recount (g.count - 1)) (RG.shifted_wf wf hz)
 generalize g.cs.getD (g.place 0) 0 = x at *
 clear h wf hcl ht hz
 go_enter Tryz.func253, Tryz.ntmps253
 go_wp2_with fail
 refine ca.out.mono ?_
 rintro e w1 ⟨rfl, m, rfl⟩
 go_wp2_with fail
 refine (cc.out _).mono ?_
 rintro e w1 ⟨rfl, n, rfl⟩
 go_wp2_with fail
 refine (cg.out _).mono ?_
 rintro e w2 ⟨rfl, h2⟩
 replace h2 := Lib.hid h2
 go_wp2_with fail
 go_ret2
 exact ⟨rfl, h2.out⟩
set_option maxHeartbeats 400000 in
theorem all_any (h : RingAt B w0 w rb g F) (wf : g.Wf) : Calls Tryz.prog 192 #[rptr rb] w fun e w' => ∃ v A, e = .returned v ∧ SlIs 3 1 v g.count (ints g.row) A ∧ RingAt B w0 w' rb g (A ++ F) := by
 have c2 := h.c2
 have ht := wf.top
 have hcl := wf.count
 have hlaid : g.laid g.count = g.row := by simp [RG.laid]
 have cl := laidOut_any h wf g.count (Nat.le_refl _) (by omega)
 rw [hlaid] at cl
 replace cl := Lib.hid cl
 have hsl : SlIs 3 1 (.slice (some ⟨w.heap.size, 0, none⟩) g.count g.count) g.count (ints g.row) [(w.heap.size, intsObj g.row)] :=
  SlIs.made (by rw [ints_len, RG.row_len, Nat.mul_one]) (by unfold maxLen; omega)
 replace hsl := Lib.hid hsl
 clear h ht hcl hlaid
 go_enter Tryz.func192, Tryz.ntmps192
 go_wp2_with fail
 refine cl.out.mono ?_
 rintro e w1 ⟨rfl, h1⟩
 have h2 := Lib.hid (RingAt.front h1)
 clear h1
 go_wp2_with fail
 go_ret
 exact ⟨_, _, rfl, hsl.out, h2.out⟩
def RingIs (B : Nat) (w0 w : World) (rb : Nat) (l : List Int) (F : List (Nat × Obj)) : Prop := ∃ g : RG, g.Wf ∧ g.row = l ∧ RingAt B w0 w rb g F
def popR (l : List Int) : Value := match l.getLast? with | none => .tuple #[.int .i64 0, .bool false] | some x => .tuple #[.int .i64 x, .bool true]
def shiftR (l : List Int) : Value := match l.head? with | none => .tuple #[.int .i64 0, .bool false] | some x => .tuple #[.int .i64 x, .bool true]
def atR (l : List Int) (i : Int) : Value := if i < 0 then .tuple #[.int .i64 0, .bool false] else match l[i.toNat]? with | none => .tuple #[.int .i64 0, .bool false] | some x => .tuple #[.int .i64 x, .bool true]
variable {l : List Int}
theorem RingIs.st (h : RingIs B w0 w rb l F) : ∃ X, St B w0 w (X ++ F) ∧ ∀ w' F', St B w0 w' (X ++ F') → RingIs B w0 w' rb l F' := by
 obtain ⟨g, wf, hr, h⟩ := h
 refine ⟨(rb, g.obj) :: g.cellsH, h, fun w' F' h' => ⟨g, wf, hr, h'⟩⟩
theorem RingIs.alloc (h : RingIs B w0 w rb l F) (o : Obj) : RingIs B w0 (w.alloc o) rb l ((w.heap.size, o) :: F) := by
 obtain ⟨X, h1, h2⟩ := h.st
 exact h2 _ _ ((h1.alloc o).perm List.perm_middle.symm)
theorem RingIs.sub {F' : List (Nat × Obj)} (h : RingIs B w0 w rb l F) (hs : F'.Sublist F) : RingIs B w0 w rb l F' := by
 obtain ⟨X, h1, h2⟩ := h.st
 exact h2 _ _ (h1.sub ((List.Sublist.refl X).append hs))
theorem RingIs.perm {F' : List (Nat × Obj)} (h : RingIs B w0 w rb l F) (hp : F.Perm F') : RingIs B w0 w rb l F' := by
 obtain ⟨X, h1, h2⟩ := h.st
 exact h2 _ _ (h1.perm (hp.append_left X))
theorem RingIs.drewN (h : RingIs B w0 w rb l F) (n : Nat) : RingIs B w0 (w.drewN n) rb l F := by
 obtain ⟨X, h1, h2⟩ := h.st
 exact h2 _ _ (h1.drewN n)
theorem RingIs.base (h : RingIs B w0 w rb l F) : B ≤ w.heap.size := by
 obtain ⟨X, h1, h2⟩ := h.st
 exact h1.base
theorem RingIs.below (h : RingIs B w0 w rb l F) : Below B w0 w := by
 obtain ⟨X, h1, h2⟩ := h.st
 exact h1.below
theorem RingIs.cell (h : RingIs B w0 w rb l F) {b : Nat} {c : Array Value} {T : TypeId} (hm : (b, .cells c T) ∈ F) {i : Nat} {v : Value} (hi : c[i]? = some v) : w.cell? ⟨b, i, none⟩ = some v := by
 obtain ⟨X, h1, h2⟩ := h.st
 exact h1.cell (b := b) (i := i) (List.mem_append_right X hm) hi
set_option maxHeartbeats 400000 in
theorem ring_new (h : St B w0 w F) : Calls Tryz.prog 292 #[] w fun e w' => e = .returned (rptr w.heap.size) ∧ RingIs B w0 w' w.heap.size [] F := by
 have h1 : RingIs B w0 (w.alloc (.cells #[.slice none 0 0, .int .i64 0, .int .i64 0] 305)) w.heap.size [] F :=
  ⟨⟨none, [], 0, 0⟩, ⟨fun _ => rfl, .inr ⟨rfl, rfl⟩, Nat.le_refl _, by simp⟩, rfl, h.alloc _⟩
 replace h1 := Lib.hid h1
 clear h
 go_enter Tryz.func292, Tryz.ntmps292
 go_wp2_with fail
 go_ret
 exact ⟨rfl, h1.out⟩
theorem ring_push (h : RingIs B w0 w rb l F) (hl : l.length < 536870912) (n : Int) : Calls Tryz.prog 255 #[rptr rb, .int .i64 n] w fun e w' => e = .returned (.tuple #[]) ∧ RingIs B w0 w' rb (l ++ [n]) F := by
 obtain ⟨g, wf, rfl, h⟩ := h
 rw [RG.row_len] at hl
 exact push_any h wf hl n
theorem ring_unshift (h : RingIs B w0 w rb l F) (hl : l.length < 536870912) (n : Int) : Calls Tryz.prog 300 #[rptr rb, .int .i64 n] w fun e w' => e = .returned (.tuple #[]) ∧ RingIs B w0 w' rb (n :: l) F := by
 obtain ⟨g, wf, rfl, h⟩ := h
 rw [RG.row_len] at hl
 exact unshift_any h wf hl n
theorem ring_pop (h : RingIs B w0 w rb l F) : Calls Tryz.prog 301 #[rptr rb] w fun e w' => e = .returned (popR l) ∧ RingIs B w0 w' rb l.dropLast F := by
 obtain ⟨g, wf, rfl, h⟩ := h
 have hl := RG.row_len g
 by_cases hz : g.count = 0
 ·have e : g.row = [] := List.eq_nil_of_length_eq_zero (by omega)
  refine (pop_none h hz).mono ?_
  rintro _ _ ⟨rfl, n, rfl⟩
  rw [e]
  exact ⟨rfl, g, wf, e, h.drewN n⟩
 ·have e : g.row.getLast? = some (g.cs.getD (g.place (g.count - 1)) 0) := by
   rw [List.getLast?_eq_getElem?, hl, RG.row_at (by omega)]
  unfold popR
  rw [e]
  exact pop_some h wf (by omega)
theorem ring_shift (h : RingIs B w0 w rb l F) : Calls Tryz.prog 253 #[rptr rb] w fun e w' => e = .returned (shiftR l) ∧ RingIs B w0 w' rb l.tail F := by
 obtain ⟨g, wf, rfl, h⟩ := h
 have hl := RG.row_len g
 by_cases hz : g.count = 0
 ·have e : g.row = [] := List.eq_nil_of_length_eq_zero (by omega)
  refine (shift_none h hz).mono ?_
  rintro _ _ ⟨rfl, n, rfl⟩
  rw [e]
  exact ⟨rfl, g, wf, e, h.drewN n⟩
 ·have e : g.row.head? = some (g.cs.getD (g.place 0) 0) := by
   rw [List.head?_eq_getElem?, RG.row_at (by omega)]
  unfold shiftR
  rw [e]
  exact shift_some h wf (by omega)
theorem ring_at (h : RingIs B w0 w rb l F) (i : Int) : Calls Tryz.prog 279 #[rptr rb, .int .i64 i] w fun e w' => e = .returned (atR l i) ∧ ∃ n, w' = w.drewN n := by
 obtain ⟨g, wf, rfl, h⟩ := h
 have hl := RG.row_len g
 unfold atR
 by_cases h0 : i < 0
 ·rw [if_pos h0]
  exact at_none h i (.inl h0)
 ·rw [if_neg h0]
  obtain ⟨k, rfl⟩ : ∃ k : Nat, i = k := ⟨i.toNat, by omega⟩
  rw [Int.toNat_natCast]
  by_cases hk : k < g.count
  ·rw [RG.row_at hk]
   exact at_some h wf hk
  ·rw [List.getElem?_eq_none (by omega)]
   exact at_none h k (.inr (by omega))
theorem ring_len (h : RingIs B w0 w rb l F) : Calls Tryz.prog 252 #[rptr rb] w fun e w' => e = .returned (.int .i64 l.length) ∧ w = w' := by
 obtain ⟨g, wf, rfl, h⟩ := h
 rw [RG.row_len]
 exact rlen_any h
theorem ring_all (h : RingIs B w0 w rb l F) : Calls Tryz.prog 192 #[rptr rb] w fun e w' => ∃ v A, e = .returned v ∧ SlIs 3 1 v l.length (ints l) A ∧ RingIs B w0 w' rb l (A ++ F) := by
 obtain ⟨g, wf, rfl, h⟩ := h
 refine (all_any h wf).mono ?_
 rintro e w' ⟨v, A, rfl, hs, h'⟩
 exact ⟨v, A, rfl, by rw [RG.row_len]; exact hs, g, wf, rfl, h'⟩
end
end Go.Proofs.YtknjamfjonapiaaGreatDoor
