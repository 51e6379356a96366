import Derived.Test.YtknjamfjonapiaaGreatDoorY06
import Derived.Test.YtknjamfjonapiaaGreatDoorY03
import Derived.Laws.MakeOwn
import Derived.Lib.BufferWrite
import Derived.Deep.RegionHeld3
import Derived.Maps.RangeRun
import Derived.Deep.LoopGhost
import Derived.Lib.Hide
namespace Go.Proofs.YtknjamfjonapiaaGreatDoor
open Go.RowKit
set_option linter.unusedVariables false
set_option linter.unusedSectionVars false
set_option maxRecDepth 100000
theorem nearer_front (rb : Nat) {a b : Int} (h : a < b) (w : World) : Calls Tryz.prog 282 #[rptr rb, .int .i64 a, .int .i64 b] w fun e w' => e = .returned (.tuple #[EndV 253 300 rb, .int .i64 a]) ∧ Below w.heap.size w w' := by
 have hb := Lib.hid (new_below w (endO 253 300 rb))
 go_enter Tryz.func282, Tryz.ntmps282
 go_wp2_with fail
 exact bodyPost_ret (v := .tuple #[EndV 253 300 rb, .int .i64 a]) (by simp [results, Tryz.results282, go_sem]) rfl ⟨rfl, hb.out⟩
theorem nearer_back (rb : Nat) {a b : Int} (h : ¬ a < b) (w : World) : Calls Tryz.prog 282 #[rptr rb, .int .i64 a, .int .i64 b] w fun e w' => e = .returned (.tuple #[EndV 301 255 rb, .int .i64 b]) ∧ Below w.heap.size w w' := by
 have hb := Lib.hid (new_below w (endO 301 255 rb))
 go_enter Tryz.func282, Tryz.ntmps282
 go_wp2_with fail
 exact bodyPost_ret (v := .tuple #[EndV 301 255 rb, .int .i64 b]) (by simp [results, Tryz.results282, go_sem]) rfl ⟨rfl, hb.out⟩
theorem near_lay (rb : Nat) (l : List Int) {a : Nat} (ha : a ≤ l.length) : ∃ s tk pt v n, EndOk rb s tk pt ∧ sideL s v = l ∧ n ≤ v.length ∧ (∀ k, sideL s (v.take n ++ k :: v.drop n) = l.take a ++ k :: l.drop a) ∧
  ∀ w, Calls Tryz.prog 282 #[rptr rb, .int .i64 a, .int .i64 ((l.length : Int) - a)] w fun e w' => e = .returned (.tuple #[EndV tk pt rb, .int .i64 (n : Nat)]) ∧ Below w.heap.size w w' := by
 by_cases h : (a : Int) < (l.length : Int) - a
 ·exact ⟨true, _, _, l, a, front_ok rb, rfl, ha, fun k => rfl, fun w => nearer_front rb h w⟩
 ·refine ⟨false, _, _, l.reverse, l.length - a, back_ok rb, by simp [sideL], by rw [List.length_reverse]; omega, fun k => ?_, fun w => ?_⟩
  ·simp only [sideL, if_false, Bool.false_eq_true]
   rw [List.take_reverse, List.drop_reverse, show l.length - (l.length - a) = a by omega]
   simp
  ·rw [show ((l.length - a : Nat) : Int) = (l.length : Int) - a by omega]
   exact nearer_back rb h w
theorem near_lift (rb : Nat) (l : List Int) {a : Nat} (ha : a < l.length) : ∃ s tk pt v n, EndOk rb s tk pt ∧ sideL s v = l ∧ n < v.length ∧ sideL s (v.take n ++ v.drop (n + 1)) = l.eraseIdx a ∧
  ∀ w, Calls Tryz.prog 282 #[rptr rb, .int .i64 a, .int .i64 ((l.length : Int) - a - 1)] w fun e w' => e = .returned (.tuple #[EndV tk pt rb, .int .i64 (n : Nat)]) ∧ Below w.heap.size w w' := by
 by_cases h : (a : Int) < (l.length : Int) - a - 1
 ·exact ⟨true, _, _, l, a, front_ok rb, rfl, ha, (List.eraseIdx_eq_take_drop_succ _ _).symm, fun w => nearer_front rb h w⟩
 ·refine ⟨false, _, _, l.reverse, l.length - a - 1, back_ok rb, by simp [sideL], by rw [List.length_reverse]; omega, ?_, fun w => ?_⟩
  ·simp only [sideL, if_false, Bool.false_eq_true]
   rw [List.take_reverse, List.drop_reverse, show l.length - (l.length - a - 1) = a + 1 by omega, show l.length - (l.length - a - 1 + 1) = a by omega, List.eraseIdx_eq_take_drop_succ]
   simp
  ·rw [show ((l.length - a - 1 : Nat) : Int) = (l.length : Int) - a - 1 by omega]
   exact nearer_back rb h w
theorem RingIs.grow {B : Nat} {w0 w w' : World} {rb : Nat} {l : List Int} {F : List (Nat × Obj)} (h : RingIs B w0 w rb l F) (hb : Below w.heap.size w w') : RingIs B w0 w' rb l F := by
 obtain ⟨X, h1, h2⟩ := h.st
 exact h2 _ _ (h1.grow hb)
section
variable {B : Nat} {w0 w : World} {rb : Nat} {l : List Int} {F : List (Nat × Obj)}
set_option maxHeartbeats 1000000 in
theorem rkLay_any (h : RingIs B w0 w rb l F) {a : Nat} (ha : a ≤ l.length) (hl : l.length ≤ 100000) (k : Int) :
  Calls Tryz.prog 266 #[rptr rb, .int .i64 a, .int .i64 k] w fun e w' => e = .returned (.tuple #[]) ∧ RingIs B w0 w' rb (l.take a ++ k :: l.drop a) F := by
 obtain ⟨s, tk, pt, v, n, ok, hv, hn, hk, hc⟩ := near_lay rb l ha
 have cl := Lib.hid (fun w h => ring_len (B := B) (w0 := w0) (w := w) (rb := rb) (l := l) (F := F) h)
 have hlen : v.length = l.length := by rw [← hv, side_len]
 obtain ⟨goT, goP, cT, cP⟩ := id ok
 have hlv : v.length ≤ 100000 := by omega
 replace hc := Lib.hid hc
 replace hk := Lib.hid (hk k)
 have ha1 : (a : Int) ≤ l.length := by omega
 have hl1 : (l.length : Int) ≤ 100000 := by omega
 have ct := Lib.hid (fun w F (h : RingIs B w0 w rb (sideL s v) F) => takeOff_any (w := w) (F := F) ok h hn (by omega))
 have cb := Lib.hid (fun w F t (h : RingIs B w0 w rb (sideL s (k :: v.drop n)) ((t, intsObj (v.take n)) :: F)) => layBack_any (w := w) (F := F) (t := t) ok (show (v.take n).length = n by rw [List.length_take]; omega) h (by
  rw [List.length_cons, List.length_drop]
  omega))
 have cp := Lib.hid (fun w F (h : RingIs B w0 w rb (sideL s (v.drop n)) F) => cP B w0 w (v.drop n) F k h (by rw [List.length_drop]; omega))
 have hv2 := Lib.hid hv
 have c1 := cl.out w h
 replace c1 := Lib.hid c1
 replace h := Lib.hid h
 clear ok cT cP hlen hv hn hlv cl
 go_enter Tryz.func266, Tryz.ntmps266
 go_wp2_with fail
 refine c1.out.mono ?_
 rintro e w1 ⟨rfl, rfl⟩
 clear c1
 go_wp2_with fail
 refine (hc.out _).mono ?_
 rintro e w1 ⟨rfl, hb⟩
 have h1 := (h.out.grow hb).alloc (endO tk pt rb)
 rw [← hv2.out] at h1
 have e0 : (w1.alloc (endO tk pt rb)).cell? ⟨w1.heap.size, 0, none⟩ = some (.func (.func tk) #[rptr rb] #[]) := h1.cell (b := w1.heap.size) List.mem_cons_self rfl
 replace h1 := Lib.hid (ct.out _ _ h1)
 clear hb h hc ct
 go_wp2_with fail
 generalize w1.heap.size = nb at *
 refine h1.out.mono ?_
 rintro e w2 ⟨t, eb, rfl, h2⟩
 have k0 : w2.cell? ⟨nb, 0, none⟩ = some (.func (.func tk) #[rptr rb] #[]) := h2.cell (b := nb) (List.mem_cons_of_mem _ (List.mem_cons_of_mem _ List.mem_cons_self)) rfl
 have k1 : w2.cell? ⟨nb, 1, none⟩ = some (.func (.func pt) #[rptr rb] #[]) := h2.cell (b := nb) (List.mem_cons_of_mem _ (List.mem_cons_of_mem _ List.mem_cons_self)) rfl
 replace h2 := Lib.hid (cp.out _ _ h2)
 clear h1 e0
 go_wp2_with fail
 refine h2.out.mono ?_
 rintro e w3 ⟨rfl, h3⟩
 have m0 : w3.cell? ⟨nb, 0, none⟩ = some (.func (.func tk) #[rptr rb] #[]) := h3.cell (b := nb) (List.mem_cons_of_mem _ (List.mem_cons_of_mem _ List.mem_cons_self)) rfl
 have m1 : w3.cell? ⟨nb, 1, none⟩ = some (.func (.func pt) #[rptr rb] #[]) := h3.cell (b := nb) (List.mem_cons_of_mem _ (List.mem_cons_of_mem _ List.mem_cons_self)) rfl
 replace h3 := Lib.hid (cb.out _ _ _ h3)
 clear h2 k0 k1
 go_wp2_with fail
 refine h3.out.mono ?_
 rintro e w4 ⟨rfl, h4⟩
 rw [hk.out] at h4
 replace h4 := Lib.hid (h4.sub ((List.sublist_cons_self _ _).trans (List.sublist_cons_self _ _)))
 clear h3
 go_wp2_with fail
 exact bodyPost_end (results_none rfl _ _ _) rfl ⟨rfl, h4.out⟩
set_option maxHeartbeats 1000000 in
theorem lift_any (h : RingIs B w0 w rb l F) {a : Nat} (ha : a < l.length) (hl : l.length ≤ 100000) :
  Calls Tryz.prog 258 #[rptr rb, .int .i64 a] w fun e w' => e = .returned (.tuple #[]) ∧ RingIs B w0 w' rb (l.eraseIdx a) F := by
 obtain ⟨s, tk, pt, v, n, ok, hv, hn, hk, hc⟩ := near_lift rb l ha
 have cl := Lib.hid (fun w h => ring_len (B := B) (w0 := w0) (w := w) (rb := rb) (l := l) (F := F) h)
 have hlen : v.length = l.length := by rw [← hv, side_len]
 obtain ⟨goT, goP, cT, cP⟩ := id ok
 have hlv : v.length ≤ 100000 := by omega
 obtain ⟨x, hx⟩ : ∃ x, shiftR (v.drop n) = x := ⟨_, rfl⟩
 replace hc := Lib.hid hc
 replace hk := Lib.hid hk
 have ha1 : (a : Int) < l.length := by omega
 have hl1 : (l.length : Int) ≤ 100000 := by omega
 have ct := Lib.hid (fun w F (h : RingIs B w0 w rb (sideL s v) F) => takeOff_any (w := w) (F := F) ok h (Nat.le_of_lt hn) (by omega))
 have cb := Lib.hid (fun w F t (h : RingIs B w0 w rb (sideL s (v.drop (n + 1))) ((t, intsObj (v.take n)) :: F)) => layBack_any (w := w) (F := F) (t := t) ok (show (v.take n).length = n by rw [List.length_take]; omega) h (by
  rw [List.length_drop]
  omega))
 have cp := Lib.hid (fun w F (h : RingIs B w0 w rb (sideL s (v.drop n)) F) => (by
  have := cT B w0 w (v.drop n) F h
  rw [List.tail_drop, hx] at this
  exact this : Calls Tryz.prog tk #[rptr rb] w fun e w' => e = .returned x ∧ RingIs B w0 w' rb (sideL s (v.drop (n + 1))) F))
 have hv2 := Lib.hid hv
 have c1 := cl.out w h
 replace c1 := Lib.hid c1
 replace h := Lib.hid h
 clear ok cT cP hlen hv hn hlv cl hx
 go_enter Tryz.func258, Tryz.ntmps258
 go_wp2_with fail
 refine c1.out.mono ?_
 rintro e w1 ⟨rfl, rfl⟩
 clear c1
 go_wp2_with fail
 refine (hc.out _).mono ?_
 rintro e w1 ⟨rfl, hb⟩
 have h1 := (h.out.grow hb).alloc (endO tk pt rb)
 rw [← hv2.out] at h1
 have e0 : (w1.alloc (endO tk pt rb)).cell? ⟨w1.heap.size, 0, none⟩ = some (.func (.func tk) #[rptr rb] #[]) := h1.cell (b := w1.heap.size) List.mem_cons_self rfl
 replace h1 := Lib.hid (ct.out _ _ h1)
 clear hb h hc ct
 go_wp2_with fail
 generalize w1.heap.size = nb at *
 refine h1.out.mono ?_
 rintro e w2 ⟨t, eb, rfl, h2⟩
 have k0 : w2.cell? ⟨nb, 0, none⟩ = some (.func (.func tk) #[rptr rb] #[]) := h2.cell (b := nb) (List.mem_cons_of_mem _ (List.mem_cons_of_mem _ List.mem_cons_self)) rfl
 have k1 : w2.cell? ⟨nb, 1, none⟩ = some (.func (.func pt) #[rptr rb] #[]) := h2.cell (b := nb) (List.mem_cons_of_mem _ (List.mem_cons_of_mem _ List.mem_cons_self)) rfl
 replace h2 := Lib.hid (cp.out _ _ h2)
 clear h1 e0
 go_wp2_with fail
 refine h2.out.mono ?_
 rintro e w3 ⟨rfl, h3⟩
 have m0 : w3.cell? ⟨nb, 0, none⟩ = some (.func (.func tk) #[rptr rb] #[]) := h3.cell (b := nb) (List.mem_cons_of_mem _ (List.mem_cons_of_mem _ List.mem_cons_self)) rfl
 have m1 : w3.cell? ⟨nb, 1, none⟩ = some (.func (.func pt) #[rptr rb] #[]) := h3.cell (b := nb) (List.mem_cons_of_mem _ (List.mem_cons_of_mem _ List.mem_cons_self)) rfl
 replace h3 := Lib.hid (cb.out _ _ _ h3)
 clear h2 k0 k1
 go_wp2_with fail
 refine h3.out.mono ?_
 rintro e w4 ⟨rfl, h4⟩
 rw [hk.out] at h4
 replace h4 := Lib.hid (h4.sub ((List.sublist_cons_self _ _).trans (List.sublist_cons_self _ _)))
 clear h3
 go_wp2_with fail
 exact bodyPost_end (results_none rfl _ _ _) rfl ⟨rfl, h4.out⟩
end
end Go.Proofs.YtknjamfjonapiaaGreatDoor
namespace Go.Proofs.YtknjamfjonapiaaGreatDoor
open Go.RowKit
set_option linter.unusedVariables false
set_option maxRecDepth 100000
theorem uPu8 : Tryz.prog.underlying 331 = some (.pointer 5) := by kernel_rfl
abbrev laidW (w : World) (l : List UInt8) : World := (w.alloc (rowOf (List.replicate l.length 0))).setRow w.heap.size (Lib.byteCells l).toArray
theorem laid_at (w : World) (l : List UInt8) : (laidW w l).heap[w.heap.size]? = some (.cells (Lib.byteCells l).toArray 5 (0, 0)) :=
 setRow_heap _ _ _ _ _ (0, 0) (heap_alloc_new w _)
theorem laid_below (w : World) (l : List UInt8) : Below w.heap.size w (laidW w l) :=
 ((Below.refl _ w).alloc (Nat.le_refl _) _).trans ⟨rfl, rfl, rfl, by simp, fun k hk => setRow_other _ _ _ _ (by omega)⟩
theorem run_lay (w : World) (l : List UInt8) (ty : TypeId) :
  (Builtin.copy_ #[83, 9] ty #[.slice (some ⟨w.heap.size, 0, none⟩) l.length l.length, tx l]).run Tryz.prog (w.alloc (rowOf (List.replicate l.length 0))) = .ok (goInt l.length) (laidW w l) := by
 have h := Lib.run_copy_row_string (P := Tryz.prog) (w.alloc (rowOf (List.replicate l.length 0))) 83 9 ty 5 w.heap.size 0 l.length l.length ⟨l.toArray⟩ (Lib.byteCells (List.replicate l.length 0)).toArray 5 uBytes6
  (by obtain ⟨i0, hi, hz0, hz1, hz2⟩ := info_parts infU86; rw [hi]; simp [hz1]) (heap_alloc_new w _) (Nat.le_refl _) (by simp [Lib.byteCells, ByteArray.size])
 rw [h]
 simp [Lib.byteCells, ByteArray.size, laidW]
theorem run_told (w : World) (l : List UInt8) (ty : TypeId) (h0 : l ≠ []) (hl : l.length ≤ 140737488351232) :
  (Builtin.unsafeString_ #[331, 3] ty #[.pointer (some ⟨w.heap.size, 0, none⟩), .int .i64 l.length]).run Tryz.prog (laidW w l) = .ok (tx l) ((laidW w l).freeze ⟨w.heap.size, 0, none⟩ l.length) := by
 obtain ⟨i0, hi, hz0, hz1, hz2⟩ := info_parts infU86
 refine Lib.run_unsafeString_row (P := Tryz.prog) (laidW w l) 331 3 ty 5 uPu8 (by simp [Program.cellsOf, hi, hz1]) w.heap.size l.length ?_ l h0 (Nat.le_refl _) (by omega) fun j x hx => ?_
 ·unfold World.shape?
  rw [laid_at]
  simp [Lib.byteCells]
 ·rw [Go.WideShapes.add_plain]
  have e : (laidW w l).cell? ⟨w.heap.size, 0 + j, none⟩ = (Lib.byteCells l).toArray[0 + j]? := by
   unfold World.cell?
   simp only [laid_at]
   rfl
  rw [e]
  simp [Lib.byteCells, hx]
set_option maxRecDepth 100000 in
theorem sclone_any (l : List UInt8) (w : World) (hl : l.length ≤ 140737488351232) : Calls Tryz.prog 214 #[tx l] w fun e w' => e = .returned (tx l) ∧ Below w.heap.size w w' := by
 by_cases h0 : l = []
 ·subst h0
  go_enter Tryz.func214, Tryz.ntmps214
  go_wp2_with fail
  go_ret
  exact ⟨rfl, Below.refl _ _⟩
 ·have hpos : (0 : Int) < l.length := by
   have := List.length_pos_iff.2 h0
   omega
  have h1 := mk_row w l.length hl
  have h2 := run_lay w l 3
  have h3 := run_told w l 9 h0 hl
  have hb := Lib.hid (Lib.below_freeze (laid_below w l) (p := ⟨w.heap.size, 0, none⟩) (Nat.le_refl _) l.length)
  clear hl
  generalize laidW w l = w2 at *
  generalize w2.freeze ⟨w.heap.size, 0, none⟩ l.length = w3 at *
  go_enter Tryz.func214, Tryz.ntmps214
  go_wp2_with fail
  go_ret
  exact ⟨rfl, hb.out⟩
set_option maxRecDepth 100000 in
theorem clone_any (l : List UInt8) (w : World) (hl : l.length ≤ 140737488351232) : Calls Tryz.prog 154 #[tx l] w fun e w' => e = .returned (tx l) ∧ Below w.heap.size w w' := by
 have c1 := Lib.hid (fun w => sclone_any l w hl)
 clear hl
 go_enter Tryz.func154, Tryz.ntmps154
 go_wp2_with fail
 refine (c1.out _).mono ?_
 rintro e w1 ⟨rfl, hb⟩
 replace hb := Lib.hid hb
 go_wp2_with fail
 go_ret
 exact ⟨rfl, hb.out⟩
end Go.Proofs.YtknjamfjonapiaaGreatDoor
namespace Go.Proofs.YtknjamfjonapiaaGreatDoor
open Go.RowKit
open Go.ChangeMaps (setBlock)
set_option linter.unusedVariables false
set_option linter.unusedSectionVars false
set_option linter.unusedSimpArgs false
set_option maxRecDepth 100000
theorem isPrio_any (p : Int) (w : World) : Calls Tryz.prog 264 #[.int .i64 p] w fun e w' => e = .returned (.bool (decide (0 ≤ p ∧ p ≤ 3))) ∧ w = w' := by
 by_cases h1 : 0 ≤ p
 ·by_cases h2 : p ≤ 3
  ·have e : decide (0 ≤ p ∧ p ≤ 3) = true := by simp [h1, h2]
   rw [e]
   clear e
   go_enter Tryz.func264, Tryz.ntmps264
   go_wp2_with fail
   go_ret
   exact ⟨rfl, rfl⟩
  ·have e : decide (0 ≤ p ∧ p ≤ 3) = false := by simp [h2]
   rw [e]
   clear e
   go_enter Tryz.func264, Tryz.ntmps264
   go_wp2_with fail
   go_ret
   exact ⟨rfl, rfl⟩
 ·have e : decide (0 ≤ p ∧ p ≤ 3) = false := by simp [h1]
  rw [e]
  clear e
  go_enter Tryz.func264, Tryz.ntmps264
  go_wp2_with fail
  go_ret
  exact ⟨rfl, rfl⟩
section
variable {B : Nat} {w0 w : World} {rk q rb i : Nat} {rbs : List Nat} {R : List (List Int)} {H : List Ent} {F : List (Nat × Obj)} {l : List Int} {e : Ent}
set_option maxHeartbeats 1000000 in
theorem rowOf_any (h : RkAt B w0 w rk q rbs R H F) (hi : i < 4) (hp : e.prio = 3 - (i : Int)) (hb : rbs[i]? = some rb) :
  Calls Tryz.prog 257 #[rptr rk, enV e] w fun r w' => r = .returned (rptr rb) ∧ Below w.heap.size w w' := by
 have hnew := Lib.hid (fun n => bel (new_below w (enO e)) (drewN_below _ n))
 have h1 := h.grow (new_below w (enO e))
 have c0 := h1.c0
 have c1 := h1.at_ hb
 have hz : (3 : Int) - e.prio = i := by omega
 have hz0 : (0 : Int) ≤ e.prio := by omega
 have hz1 : e.prio ≤ (3 : Int) := by omega
 have hi0 : (0 : Int) ≤ i := by omega
 have hi1 : (i : Int) < 4 := by omega
 clear h h1 hp hb hi
 go_enter Tryz.func257, Tryz.ntmps257
 go_wp2_with fail
 go_quiet (fail)
 go_wp2_with fail
 go_ret
 exact ⟨rfl, hnew.out _⟩
def AheadJ (B : Nat) (w0 w : World) (rk q rb eb : Nat) (rbs : List Nat) (R : List (List Int)) (H : List Ent) (F : List (Nat × Obj)) (l : List Int) (e : Ent) (g : Nat) (a' : Act) (w' : World) : Prop :=
 ∃ f t : Nat, f + g = t ∧ t ≤ l.length ∧ Fr 41 [(0, rptr rk), (1, rptr rb), (5, .pointer (some ⟨eb, 0, none⟩)), (7, .int .i64 f), (8, .int .i64 t)] a' ∧ (∀ j x, j < f → l[j]? = some x → x < e.id) ∧ (∀ j x, t ≤ j → l[j]? = some x → ¬ x < e.id) ∧
  RkAt B w0 w' rk q rbs R H ((eb, enO e) :: F) ∧ Below w.heap.size w w'
theorem atR_at {l : List Int} {m : Nat} {x : Int} (h : l[m]? = some x) : atR l m = .tuple #[.int .i64 x, .bool true] := by
 unfold atR
 rw [if_neg (by omega), Int.toNat_natCast, h]
set_option maxHeartbeats 2000000 in
theorem ahead_any (h : RkAt B w0 w rk q rbs R H F) (hb : rbs[i]? = some rb) (hl : R[i]? = some l) (hs : l.Pairwise (· < ·)) (hm : ∀ k ∈ l, ∃ x ∈ H, x.id = k ∧ x.prio = e.prio) (hp : 0 ≤ e.prio ∧ e.prio ≤ 3) (hl2 : l.length ≤ 100000) :
  Calls Tryz.prog 259 #[rptr rk, rptr rb, enV e] w fun r w' => r = .returned (.int .i64 (cntL l e.id)) ∧ Below w.heap.size w w' := by
 have h1 : RkAt B w0 (w.alloc (enO e)) rk q rbs R H ((w.heap.size, enO e) :: F) := by
  obtain ⟨S, s1, s2⟩ := h.beside
  exact s2 _ _ ((s1.alloc (enO e)).perm List.perm_middle.symm)
 have hn0 := Lib.hid (new_below w (enO e))
 have cl : ∀ w', RkAt B w0 w' rk q rbs R H ((w.heap.size, enO e) :: F) → Calls Tryz.prog 252 #[rptr rb] w' fun e w'' => e = .returned (.int .i64 l.length) ∧ w' = w'' := fun w' h => by
  obtain ⟨Z, r1, -⟩ := h.ring hb hl
  exact ring_len r1
 have ca : Hid (∀ w' (m : Nat) (x : Int), RkAt B w0 w' rk q rbs R H ((w.heap.size, enO e) :: F) → l[m]? = some x → Calls Tryz.prog 279 #[rptr rb, .int .i64 m] w' fun e w'' => e = .returned (.tuple #[.int .i64 x, .bool true]) ∧ ∃ n, w'' = w'.drewN n) := Lib.hid fun w' m x h hx => by
  obtain ⟨Z, r1, -⟩ := h.ring hb hl
  have := ring_at r1 (m : Int)
  rw [atR_at hx] at this
  exact this
 have c1 := Lib.hid (cl _ h1)
 have hs2 : Hid (∀ (j m : Nat) (x y : Int), j < m → l[j]? = some x → l[m]? = some y → x < y) := Lib.hid fun j m x y hj hx hy => by
  obtain ⟨a1, a2⟩ := List.getElem?_eq_some_iff.1 hx
  obtain ⟨b1, b2⟩ := List.getElem?_eq_some_iff.1 hy
  rw [← a2, ← b2]
  exact List.pairwise_iff_getElem.1 hs j m a1 b1 hj
 replace hm := Lib.hid hm
 replace hp := Lib.hid hp
 replace h1 := Lib.hid h1
 replace hs := Lib.hid hs
 clear h cl
 go_enter Tryz.func259, Tryz.ntmps259
 go_wp2_with fail
 refine wp_scope_ghost 0 (AheadJ B w0 w rk q rb w.heap.size rbs R H F l e) rfl ?_ ?_
 ·rintro g a' wr ⟨f, t, hft, ht, hfr, hlo, hhi, hR, hbl⟩
  obtain ⟨fr, rfl, hl'⟩ := hfr.lit
  clear hfr h1 c1 hn0
  simp only [List.mem_cons, List.not_mem_nil, or_false, forall_eq_or_imp, forall_eq] at hl'
  obtain ⟨f0, f1, f5, f7, f8⟩ := hl'
  simp only [List.range, List.range.loop, List.map, f0, f1, f5, f7, f8]
  clear f0 f1 f5 f7 f8
  by_cases hz : g = 0
  ·obtain rfl : f = t := by omega
   have hc := cntL_is (k := e.id) ht hlo fun x hx => hhi f x (Nat.le_refl _) hx
   have fin : Hid (Ending.returned (.int .i64 f) = Ending.returned (.int .i64 (cntL l e.id)) ∧ Below w.heap.size w wr) := Lib.hid ⟨by rw [hc], hbl⟩
   clear hbl
   clear hR hlo hhi hc hft
   go_wp2_with fail
   simp only [Exit.jump]
   go_ret
   exact fin.out
  ·obtain ⟨d, hd⟩ : ∃ d, d = g / 2 := ⟨_, rfl⟩
   obtain ⟨m, hmd⟩ : ∃ m, m = f + d := ⟨_, rfl⟩
   have hx : l[m]? = some l[m] := List.getElem?_eq_getElem (by omega)
   generalize l[m] = k at hx
   obtain ⟨x, hxH, rfl, hxp⟩ := hm.out k (List.mem_of_getElem? hx)
   have hR2 : ∀ n, RkAt B w0 (wr.drewN n) rk q rbs R H ((w.heap.size, enO e) :: F) := fun n => hR.grow (drewN_below _ n)
   obtain ⟨mb, -, hlook⟩ := hR.look
   have cat := Lib.hid (ca.out wr m x.id hR hx)
   have ceb : ∀ n, EnAt (wr.drewN n) w.heap.size e := fun n => by
    obtain ⟨S, s1, -⟩ := (hR2 n).beside
    have hmem : (w.heap.size, enO e) ∈ S ++ (w.heap.size, enO e) :: F := List.mem_append_right _ List.mem_cons_self
    exact ⟨s1.cell hmem rfl, s1.cell hmem rfl, s1.cell hmem rfl, s1.cell hmem rfl, s1.cell hmem rfl, s1.cell hmem rfl, s1.cell hmem rfl, s1.cell hmem rfl, s1.cell hmem rfl, s1.cell hmem rfl⟩
   have hless : lessE x e = decide (x.id < e.id) := by
    unfold lessE
    exact decide_eq_decide.2 (by omega)
   have hp1 := hp.out
   have cls := fun w' => less_any x e ⟨by omega, by omega⟩ ⟨by omega, by omega⟩ w'
   rw [hless] at cls
   replace cls := Lib.hid cls
   have hlow : x.id < e.id → ∀ j y, j < m + 1 → l[j]? = some y → y < e.id := fun hlt j y hj hy => by
    by_cases hjm : j = m
    ·subst hjm
     rw [hx] at hy
     cases hy
     exact hlt
    ·have := hs2.out j m y x.id (by omega) hy hx
     omega
   have hhigh : ¬ x.id < e.id → ∀ j y, m ≤ j → l[j]? = some y → ¬ y < e.id := fun hlt j y hj hy => by
    by_cases hjm : j = m
    ·subst hjm
     rw [hx] at hy
     cases hy
     exact hlt
    ·have := hs2.out m j x.id y (by omega) hx hy
     omega
   have e1 : (t : Int) - f = g := by omega
   have e2 : (g : Int).tdiv 2 = d := by rw [Int.tdiv_eq_ediv_of_nonneg (by omega)]; omega
   have e3 : (f : Int) + d = m := by omega
   have hne : ((f : Int) == t) = false := by rw [beq_eq_false_iff_ne]; omega
   have b0 : (0 : Int) ≤ f := by omega
   have b1 : (t : Int) ≤ 100000 := by omega
   have b2 : (0 : Int) ≤ d := by omega
   have b3 : (d : Int) ≤ 100000 := by omega
   have b4 : (0 : Int) ≤ g := by omega
   have b5 : (g : Int) ≤ 100000 := by omega
   have b6 : (m : Int) ≤ 100000 := by omega
   have b7 : (0 : Int) ≤ m := by omega
   have fin1 : Hid (x.id < e.id → ∀ a' w', Fr 41 [(0, rptr rk), (1, rptr rb), (5, .pointer (some ⟨w.heap.size, 0, none⟩)), (7, .int .i64 ((m : Int) + 1)), (8, .int .i64 t)] a' → Below wr.heap.size wr w' → ∃ g', g' < g ∧ AheadJ B w0 w rk q rb w.heap.size rbs R H F l e g' a' w') := by
    refine Lib.hid fun hlt a' w' hf hbw => ⟨t - (m + 1), by omega, m + 1, t, by omega, ht, hf, hlow hlt, hhi, hR.grow hbw, bel hbl hbw⟩
   have fin2 : Hid (¬ x.id < e.id → ∀ a' w', Fr 41 [(0, rptr rk), (1, rptr rb), (5, .pointer (some ⟨w.heap.size, 0, none⟩)), (7, .int .i64 f), (8, .int .i64 m)] a' → Below wr.heap.size wr w' → ∃ g', g' < g ∧ AheadJ B w0 w rk q rb w.heap.size rbs R H F l e g' a' w') := by
    refine Lib.hid fun hlt a' w' hf hbw => ⟨m - f, by omega, f, m, by omega, by omega, hf, hlo, hhigh hlt, hR.grow hbw, bel hbl hbw⟩
   replace ceb := Lib.hid ceb
   replace hlook := Lib.hid hlook
   replace hxH := Lib.hid hxH
   have hdr := Lib.hid (drewN_below wr)
   clear hR hR2 hlow hhigh hlo hhi hx hbl hft ht hd hmd hxp hless hz hp1 ca
   generalize he3 : decide (x.id < e.id) = c at cls
   replace he3 := Lib.hid he3
   go_wp2_with fail
   refine cat.out.mono ?_
   rintro r w2 ⟨rfl, n, rfl⟩
   clear cat
   go_wp2_with fail
   have cells := ceb.out n
   obtain ⟨k0, k1, k2, k3, k4, k5, k6, k7, k8, k9⟩ := cells
   have m1 := (hlook.out _ (hdr.out n)).c1
   have hit := (hlook.out _ (hdr.out (n + 1))).hit x hxH.out false
   rw [if_neg (by decide)] at hit
   have hdr2 := Lib.hid (hdr.out (n + 1))
   change (Instr.lookup 255 (.map (some mb)) (.int .i64 x.id) false).run Tryz.prog (wr.drewN n).drew = .ok (enV x) (wr.drewN n).drew at hit
   replace hdr2 : Hid (Below wr.heap.size wr (wr.drewN n).drew) := hdr2
   generalize wr.drewN n = V at *
   go_still_tail 7, (by kernel_rfl)
   change wpList _ _ _ _ _ V.drew
   generalize V.drew = W at *
   clear hdr hlook ceb
   go_wp2_with fail
   refine (cls.out _).mono ?_
   rintro r w3 ⟨rfl, hb3⟩
   have hb4 := Lib.hid (bel hdr2.out hb3)
   clear cls hit k0 k1 k2 k3 k4 k5 k6 k7 k8 k9 m1 hb3
   cases c with
   | true =>
    have hlt : x.id < e.id := by simpa using he3.out
    replace hlt := Lib.hid hlt
    go_wp2_with fail
    refine wp_goto ?_
    exact ⟨rfl, fin1.out hlt.out _ _ ⟨rfl, rfl, by simp⟩ hb4.out⟩
   | false =>
    have hlt : ¬ x.id < e.id := by simpa using he3.out
    replace hlt := Lib.hid hlt
    go_wp2_with fail
    refine wp_goto ?_
    exact ⟨rfl, fin2.out hlt.out _ _ ⟨rfl, rfl, by simp⟩ hb4.out⟩
 ·intro HJ
  go_wp2_with fail
  refine c1.out.mono ?_
  rintro r w1 ⟨rfl, rfl⟩
  go_wp2_with fail
  refine wp_label ?_
  go_step
  go_step
  exact HJ l.length _ _ ⟨0, l.length, by omega, Nat.le_refl _, ⟨rfl, rfl, by simp⟩, fun j x hj => absurd hj (by omega), fun j x hj hx => absurd (List.getElem?_eq_some_iff.1 hx).1 (by omega), h1.out, hn0.out⟩
end
end Go.Proofs.YtknjamfjonapiaaGreatDoor
namespace Go.Proofs.YtknjamfjonapiaaGreatDoor
open Go.RowKit
open Go.ChangeMaps (setBlock)
set_option linter.unusedVariables false
set_option linter.unusedSectionVars false
set_option linter.unusedSimpArgs false
set_option maxRecDepth 100000
section
variable {w w' : World} {e : Ent}
def EOwnS (w : World) (e : Ent) (w' : World) : Prop := St w.heap.size w w' [(w.heap.size, enO e), (w.heap.size + 1, enO z0E)]
theorem EOwnS.start (w : World) (e : Ent) : EOwnS w e ((w.alloc (enO e)).alloc (enO z0E)) := by
 have h := ((St.start w).alloc (enO e)).alloc (enO z0E)
 rw [World.size_alloc] at h
 exact h.perm (List.Perm.swap _ _ _)
theorem EOwnS.from (h : EOwnS w e w') : w'.cell? ⟨w.heap.size, 3, none⟩ = some (tx e.exch) ∧ w'.cell? ⟨w.heap.size, 4, none⟩ = some (tx e.key) :=
 ⟨St.cell h List.mem_cons_self rfl, St.cell h List.mem_cons_self rfl⟩
theorem EOwnS.st3 (h : EOwnS w e w') : EOwnS w e (w'.setCell ⟨w.heap.size, 3, none⟩ (tx e.exch)) := St.set0 h 3 (tx e.exch)
theorem EOwnS.st4 (h : EOwnS w e w') : EOwnS w e (w'.setCell ⟨w.heap.size, 4, none⟩ (tx e.key)) := St.set0 h 4 (tx e.key)
theorem eclone_own (h : EOwnS w e w') {l : List UInt8} (hl : l.length ≤ 140737488351232) : Calls Tryz.prog 154 #[tx l] w' fun r w2 => r = .returned (tx l) ∧ EOwnS w e w2 ∧
  (w2.cell? ⟨w.heap.size, 3, none⟩ = some (tx e.exch) ∧ w2.cell? ⟨w.heap.size, 4, none⟩ = some (tx e.key)) ∧
  (w2.frozen? ⟨w.heap.size, 3, none⟩ = false ∧ w2.frozen? ⟨w.heap.size, 4, none⟩ = false) := by
 refine (clone_any l w' hl).mono ?_
 rintro r w2 ⟨rfl, hb⟩
 have h2 : EOwnS w e w2 := St.grow h hb
 exact ⟨rfl, h2, h2.from, St.soft h2 List.mem_cons_self 3, St.soft h2 List.mem_cons_self 4⟩
structure EOwnC (w : World) (e : Ent) (w' : World) : Prop where
 src : EnAt w' w.heap.size e
 dst : EnAt w' (w.heap.size + 1) z0E
 soft : ∀ i, w'.frozen? ⟨w.heap.size + 1, i, none⟩ = false
theorem EOwnS.cells (h : EOwnS w e w') : EOwnC w e w' :=
 have m0 : (w.heap.size, enO e) ∈ [(w.heap.size, enO e), (w.heap.size + 1, enO z0E)] := List.mem_cons_self
 have m1 : (w.heap.size + 1, enO z0E) ∈ [(w.heap.size, enO e), (w.heap.size + 1, enO z0E)] := List.mem_cons_of_mem _ List.mem_cons_self
 ⟨⟨St.cell h m0 rfl, St.cell h m0 rfl, St.cell h m0 rfl, St.cell h m0 rfl, St.cell h m0 rfl, St.cell h m0 rfl, St.cell h m0 rfl, St.cell h m0 rfl, St.cell h m0 rfl, St.cell h m0 rfl⟩,
  ⟨St.cell h m1 rfl, St.cell h m1 rfl, St.cell h m1 rfl, St.cell h m1 rfl, St.cell h m1 rfl, St.cell h m1 rfl, St.cell h m1 rfl, St.cell h m1 rfl, St.cell h m1 rfl, St.cell h m1 rfl⟩, fun i => St.soft h m1 i⟩
abbrev enPut (w : World) (b : Nat) (e : Ent) : World := (((((((((w.setCell ⟨b, 0, none⟩ (.int .i64 e.id)).setCell ⟨b, 1, none⟩ (.int .i64 e.body)).setCell ⟨b, 2, none⟩ (.int .i64 e.size)).setCell ⟨b, 3, none⟩ (tx e.exch)).setCell ⟨b, 4, none⟩ (tx e.key)).setCell ⟨b, 5, none⟩ (.int .i64 e.prio)).setCell ⟨b, 6, none⟩ (.int .i64 e.ttl)).setCell ⟨b, 7, none⟩ (.int .i64 e.til)).setCell ⟨b, 8, none⟩ (.bool e.again)).setCell ⟨b, 9, none⟩ (.int .i64 e.hops)
theorem St.enPut {B : Nat} {w0 w : World} {b : Nat} {e e0 : Ent} {C : List (Nat × Obj)} (h : St B w0 w ((b, enO e0) :: C)) : St B w0 (enPut w b e) ((b, enO e) :: C) := by
 have h10 := (((((((((h.set0 0 (.int .i64 e.id)).set0 1 (.int .i64 e.body)).set0 2 (.int .i64 e.size)).set0 3 (tx e.exch)).set0 4 (tx e.key)).set0 5 (.int .i64 e.prio)).set0 6 (.int .i64 e.ttl)).set0 7 (.int .i64 e.til)).set0 8 (.bool e.again)).set0 9 (.int .i64 e.hops)
 simp only [List.setIfInBounds_toArray, List.set_cons_zero, List.set_cons_succ] at h10
 exact h10
theorem St.enAt {B : Nat} {w0 w : World} {b : Nat} {e : Ent} {H : List (Nat × Obj)} (h : St B w0 w H) (m : (b, enO e) ∈ H) : EnAt w b e :=
 ⟨h.cell m rfl, h.cell m rfl, h.cell m rfl, h.cell m rfl, h.cell m rfl, h.cell m rfl, h.cell m rfl, h.cell m rfl, h.cell m rfl, h.cell m rfl⟩
theorem ret_entry {P : Program} {fn : Func} {d : Nat} {tmps : Array Value} (hr : fn.results = #[.cell 2 51]) (h2 : tmps[2]? = some (.pointer (some ⟨d, 0, none⟩))) (q : EnAt w d e) (hP : P = Tryz.prog) :
  (results fn tmps).run P w = .ok (enV e) w := by
 subst hP
 obtain ⟨q0, q1, q2, q3, q4, q5, q6, q7, q8, q9⟩ := q
 simp [results, hr, go_sem, h2, q0, q1, q2, q3, q4, q5, q6, q7, q8, q9]
set_option maxHeartbeats 2000000 in
theorem eown_any (e : Ent) (h1 : e.exch.length ≤ 140737488351232) (h2 : e.key.length ≤ 140737488351232) (w : World) : Calls Tryz.prog 267 #[enV e] w fun r w' => r = .returned (enV e) ∧ Below w.heap.size w w' := by
 have hs0 : EOwnS w e ((w.alloc (enO e)).alloc (enO z0E)).drew := St.drew (EOwnS.start w e)
 have hs1 := Lib.hid hs0.from
 have cc := Lib.hid (fun (w' : World) (h : EOwnS w e w') (l : List UInt8) (hl : l.length ≤ 140737488351232) => eclone_own h hl)
 go_enter Tryz.func267, Tryz.ntmps267
 go_wp2_with fail
 go_region_held3 (fun wr => wr.cell? ⟨w.heap.size, 3, none⟩ = some (tx e.exch) ∧ wr.cell? ⟨w.heap.size, 4, none⟩ = some (tx e.key)) (first | exact hS | exact hs1.out | exact (EOwnS.st3 hO).from | exact (EOwnS.st4 (EOwnS.st3 hO)).from | go_keep) ((go_at_call 154; refine (cc.out _ (by assumption) _ (by assumption)).mono ?_; rintro r w'' ⟨rfl, hO, hS, f3, f4⟩))
 have hO2 := EOwnS.st4 (EOwnS.st3 hO)
 clear cc hs1 hs0 f3 f4 hS hO h1 h2
 obtain ⟨W, hW⟩ : ∃ W, W = (w''.setCell ⟨w.heap.size, 3, none⟩ (tx e.exch)).setCell ⟨w.heap.size, 4, none⟩ (tx e.key) := ⟨_, rfl⟩
 rw [← hW] at hO2 ⊢
 clear hW
 obtain ⟨⟨k0, k1, k2, k3, k4, k5, k6, k7, k8, k9⟩, ⟨d0, d1, d2, d3, d4, d5, d6, d7, d8, d9⟩, sf⟩ := hO2.cells
 have hO3 : St w.heap.size w (enPut W (w.heap.size + 1) e) [(w.heap.size + 1, enO e), (w.heap.size, enO e)] := St.enPut (St.perm hO2 (List.Perm.swap _ _ _))
 have hE := Lib.hid (St.enAt hO3 List.mem_cons_self)
 have hB := Lib.hid hO3.below
 clear hO2 hO3
 go_wp2_with fail
 exact bodyPost_ret (ret_entry rfl rfl hE.out rfl) rfl ⟨rfl, hB.out⟩
end
end Go.Proofs.YtknjamfjonapiaaGreatDoor
namespace Go.Proofs.YtknjamfjonapiaaGreatDoor
open Go.RowKit
open Go.ChangeMaps (setBlock)
set_option linter.unusedVariables false
set_option linter.unusedSectionVars false
set_option linter.unusedSimpArgs false
set_option maxRecDepth 100000
theorem run_makeMapE (w : World) (k : Int) : (Instr.makeMap 255 (some (.int .i64 k))).run Tryz.prog w = .ok (.map (some w.heap.size)) (w.alloc (.map #[] 0)) := by
 simp [Instr.makeMap, run_underlying uMapE, asInt, asIntOf]
section
variable {B : Nat} {w0 w : World} {F : List (Nat × Obj)} {db sb r : Nat} {es : List (MapRow Int)} {clk : Nat} {H : List Ent}
def Copied (B : Nat) (w0 : World) (db sb r : Nat) (es : List (MapRow Int)) (clk : Nat) (F : List (Nat × Obj)) (done laid : List (MapRow Int)) (w' : World) : Prop :=
 IterAt w' sb r encI es clk done ∧ ∃ seen ds c2, ds.map (fun x => (x.1, x.2.1)) = laid.map (fun x => (x.1, x.2.1)) ∧ Born ds c2 ∧
  St B w0 w' ((db, .map (entsE encI ds) c2) :: (sb, .map (entsE encI es) clk) :: (r, .mapIter (some sb) clk seen clk) :: F)
theorem Copied.grow {done laid : List (MapRow Int)} {w' : World} (h : Copied B w0 db sb r es clk F done laid w) (hb : Below w.heap.size w w') : Copied B w0 db sb r es clk F done laid w' := by
 obtain ⟨hI, seen, ds, c2, h1, h2, h3⟩ := h
 exact ⟨hI.kept (hb.block _ (h3.lt (b := sb) (o := .map (entsE encI es) clk) (by simp))) (hb.block _ (h3.lt (b := r) (o := .mapIter (some sb) clk seen clk) (by simp))), seen, ds, c2, h1, h2, h3.grow hb⟩
theorem Copied.next {done : List (MapRow Int)} (h : Copied B w0 db sb r es clk F done done w) (hB : Born es clk) (hn : es.Nodup) (ty : TypeId) :
  (done.Perm es ∧ (Instr.next (.pointer (some ⟨r, 0, none⟩)) false ty).run Tryz.prog w = .ok (.tuple #[.bool false]) w) ∨
  ∃ e w', e ∈ es ∧ e ∉ done ∧ (Instr.next (.pointer (some ⟨r, 0, none⟩)) false ty).run Tryz.prog w = .ok (.tuple #[.bool true, encI e.1, e.2.1]) w' ∧ (Instr.entry (.pointer (some ⟨r, 0, none⟩))).run Tryz.prog w' = .ok (.tuple #[encI e.1, e.2.1]) w' ∧
   Copied B w0 db sb r es clk F (done ++ [e]) done w' := by
 obtain ⟨hI, seen, ds, c2, h1, h2, h3⟩ := h
 rcases hI.next (P := Tryz.prog) hB hn ty with ⟨hp, hr⟩ | ⟨e, he, hd, w', hr, hI', hk, hs, ho, ht, hu, hen⟩
 ·exact .inl ⟨hp, hr⟩
 ·obtain ⟨-, seen', hs', -⟩ := id hI'
  have pm : ∀ x : Obj, ((db, Obj.map (entsE encI ds) c2) :: (sb, .map (entsE encI es) clk) :: (r, x) :: F).Perm ([(db, Obj.map (entsE encI ds) c2), (sb, .map (entsE encI es) clk)] ++ (r, x) :: F) := fun x => List.Perm.refl _
  have h4 := ((h3.perm (pm _)).write hs' hk hs ho ht hu).perm (pm _).symm
  exact .inr ⟨e, w', he, hd, hr, hen, hI', seen', ds, c2, h1, h2, h4⟩
theorem Copied.laid {done : List (MapRow Int)} {e : MapRow Int} (h : Copied B w0 db sb r es clk F (done ++ [e]) done w) (hk : (es.map (·.1)).Nodup) (he : e ∈ es) (hd : e ∉ done) :
  ∃ w', (Instr.mapUpdate 255 (.map (some db)) (.int .i64 e.1) e.2.1).run Tryz.prog w = .ok () w' ∧ Copied B w0 db sb r es clk F (done ++ [e]) (done ++ [e]) w' := by
 obtain ⟨hI, seen, ds, c2, h1, h2, h3⟩ := h
 have hks : ds.map (·.1) = done.map (·.1) := by
  have := congrArg (List.map (·.1)) h1
  simpa [Function.comp_def] using this
 have hnk : e.1 ∉ ds.map (·.1) := by
  rw [hks]
  intro hm
  obtain ⟨x, hx, e1⟩ := List.mem_map.1 hm
  have hxe := hI.2.choose_spec.2.2.1 x (by simp [hx])
  have := (seek_some hk he).symm.trans (e1 ▸ seek_some hk hxe)
  rw [Option.some.inj this] at hd
  exact hd hx
 have hg := h3.get (b := db) List.mem_cons_self
 have h4 := h3.block0 (o' := .map (entsE encI (ds ++ [(e.1, e.2.1, c2)])) (c2 + 1))
 refine ⟨_, run_mapE_new keyI uMapE hg (k := e.1) trivial (fun _ _ => trivial) e.2.1 (seek_none.2 hnk), hI.kept ?_ ?_, seen, _, _, ?_, ?_, h4⟩
 ·exact (h4.get (b := sb) (o := .map (entsE encI es) clk) (by simp)).trans hI.1.symm
 ·exact (h4.get (b := r) (o := .mapIter (some sb) clk seen clk) (by simp)).trans (h3.get (b := r) (by simp)).symm
 ·rw [List.map_append, List.map_append, h1]
  rfl
 ·refine ⟨?_, ?_⟩
  ·rw [List.map_append, List.nodup_append]
   refine ⟨h2.1, by simp, ?_⟩
   rintro a ha b hb rfl
   simp only [List.map_cons, List.map_nil, List.mem_singleton] at hb
   subst hb
   obtain ⟨x, hx, e1⟩ := List.mem_map.1 ha
   have := h2.2 x hx
   omega
  ·intro x hx
   rcases List.mem_append.1 hx with hx | hx
   ·have := h2.2 x hx
    omega
   ·rw [List.mem_singleton] at hx
    subst hx
    exact Nat.lt_succ_self _
def CopyR (B : Nat) (w0 : World) (db sb : Nat) (es : List (MapRow Int)) (clk : Nat) (F : List (Nat × Obj)) (H : List Ent) (e : Ending) (w' : World) : Prop :=
 e = .returned (.tuple #[]) ∧ ∃ ds c2, HeldOf ds c2 H ∧ St B w0 w' ((db, .map (entsE encI ds) c2) :: (sb, .map (entsE encI es) clk) :: F)
set_option maxHeartbeats 1000000 in
theorem copyE_any (hst : St B w0 w ((db, .map (entsE encI []) 0) :: (sb, .map (entsE encI es) clk) :: F)) (ho : HeldOf es clk H) :
  Calls Tryz.prog 251 #[.map (some db), .map (some sb)] w (CopyR B w0 db sb es clk F H) := by
 have hg := hst.get (b := sb) (List.mem_cons_of_mem _ List.mem_cons_self)
 have hrg := run_range_map (P := Tryz.prog) w 255 _ _ sb _ _ uMapE hg
 have hs4 := (hst.alloc (.mapIter (some sb) clk #[] clk)).perm ((List.Perm.swap _ _ _).trans ((List.Perm.swap _ _ _).cons _))
 have start : Hid (Copied B w0 db sb w.heap.size es clk F [] [] (w.alloc (.mapIter (some sb) clk #[] clk))) := Lib.hid ⟨⟨hs4.get (b := sb) (by simp), #[], hs4.get (b := w.heap.size) (by simp), by simp, by simp, by simp⟩, #[], [], 0, rfl, ⟨by simp, by simp⟩, hs4⟩
 have hob := Lib.hid ho.born
 have hkn := Lib.hid ho.keys
 have hnd : Hid es.Nodup := Lib.hid (List.Pairwise.of_map (S := fun a b => a ≠ b) _ (fun a b h e => h (by rw [e])) ho.keys)
 have hva : Hid (∀ e ∈ es, ∃ x : Ent, e.2.1 = enV x) := Lib.hid fun e he => by
  have h1 := ho.rows.mem_iff.1 (List.mem_map_of_mem (f := fun x : MapRow Int => (x.1, x.2.1)) he)
  obtain ⟨x, -, e1⟩ := List.mem_map.1 h1
  simp only [Prod.mk.injEq] at e1
  exact ⟨x, e1.2.symm⟩
 have fin : Hid (∀ done w', Copied B w0 db sb w.heap.size es clk F done done w' → done.Perm es → CopyR B w0 db sb es clk F H (.returned (.tuple #[])) w') := Lib.hid (by
  rintro done w' ⟨-, seen, ds, c2, g1, g2, g3⟩ hp
  refine ⟨rfl, ds, c2, ⟨?_, g2, ho.ids⟩, g3.sub ?_⟩
  ·rw [g1]
   exact (hp.map _).trans ho.rows
  ·exact ((List.sublist_cons_self _ _).cons_cons _).cons_cons _)
 clear hst hg hs4 ho
 generalize w.heap.size = r at *
 generalize w.alloc (.mapIter (some sb) clk #[] clk) = W4 at *
 go_enter Tryz.func251, Tryz.ntmps251
 go_wp2_with fail
 go_loopg [4] es.length (fun g v4 wr => ∃ done, done.length + g = es.length ∧ Hid (Copied B w0 db sb r es clk F done done wr))
 case atStart => exact ⟨[], by simp, start⟩
 case round =>
  obtain ⟨done, hg, hM⟩ := hrel
  rcases hM.out.next hob.out hnd.out 0 with ⟨hp, hnx⟩ | ⟨e, w', he, hd, hnx, hen, hM2⟩
  ·have fin := Lib.hid (fin.out _ _ hM.out hp)
   go_wp2_with fail
   exact bodyPost_end (results_none rfl _ _ _) rfl fin.out
  ·obtain ⟨x, hev⟩ := hva.out e he
   have hle : done.length + 1 ≤ es.length := by
    have := nodup_len (l := done ++ [e]) (m := es) (hM2.1.2.choose_spec.2.1) hM2.1.2.choose_spec.2.2.1
    simpa using this
   have hM3 := hM2.grow (new_below w' (enO x))
   obtain ⟨w5, hup, hM4⟩ := hM3.laid hkn.out he hd
   replace hM4 := Lib.hid hM4
   rw [hev] at hnx hen hup
   clear hM hM2 hM3 hd he fin start hev
   go_wp2_with fail
   go_roundg (es.length - (done.length + 1))
   case measure => omega
   case rel => exact ⟨done ++ [e], by rw [List.length_append, List.length_singleton]; omega, hM4⟩
end
section
variable {B : Nat} {w0 w : World} {rk q rb i : Nat} {rbs : List Nat} {R : List (List Int)} {H : List Ent} {F : List (Nat × Obj)} {l : List Int} {e : Ent}
set_option maxHeartbeats 1000000 in
theorem giveRk_any (h : RkAt B w0 w rk q rbs R H F) : Calls Tryz.prog 210 #[rptr rk] w fun e w' => e = .returned (.tuple #[]) ∧ RkAt B w0 w' rk q rbs R H F := by
 obtain ⟨mb, es, clk, most, G, ⟨a1, a2, a3, a4, a5, a6⟩, h2⟩ := id h
 have c1 : w.cell? ⟨rk, 1, none⟩ = some (.map (some mb)) := h2.cell (b := rk) List.mem_cons_self rfl
 have c2 : w.cell? ⟨rk, 2, none⟩ = some (.int .i64 most) := h2.cell (b := rk) List.mem_cons_self rfl
 have gl := fun ty n => run_lenE (P := Tryz.prog) (ty := ty) uMapE ((h2.drewN n).get (b := mb) (List.mem_cons_of_mem _ (List.mem_cons_of_mem _ List.mem_cons_self)))
 obtain ⟨L, hL⟩ : ∃ L, L = es.length := ⟨_, rfl⟩
 obtain ⟨d, hd⟩ : ∃ d, d = most / 4 := ⟨_, rfl⟩
 rw [← hL] at gl
 have hHl : H.length = L := by rw [hL, a4.len]
 replace h := Lib.hid h
 replace hL := Lib.hid hL
 by_cases h8 : (most : Int) ≤ 8
 ·clear h2 a1 a2 a3 a4 a5 a6 hd hHl
  have hdr := Lib.hid (fun n => h.out.grow (drewN_below _ n))
  go_enter Tryz.func210, Tryz.ntmps210
  go_wp2_with fail
  go_quiet (fail)
  go_wp2_with fail
  exact bodyPost_ret (results_none rfl _ _ _) rfl ⟨rfl, hdr.out _⟩
 have hq0 : (0 : Int) ≤ most := by omega
 have hq1 : (most : Int) ≤ 100000 := by omega
 have hd1 : (most : Int) / 4 = d := by omega
 have hd3 : (most : Int).tdiv 4 = d := by rw [Int.tdiv_eq_ediv_of_nonneg (by omega)]; omega
 have hd2 : IntKind.i64.wrap (d : Int) = d := IntWalk.i64_in _ (by omega)
 have hd0 : (0 : Int) ≤ d := by omega
 have hd4 : (d : Int) ≤ 100000 := by omega
 by_cases hc : (d : Int) < L
 ·clear h2 a1 a2 a3 a4 a5 a6 hd hHl
  have hdr := Lib.hid (fun n => h.out.grow (drewN_below _ n))
  go_enter Tryz.func210, Tryz.ntmps210
  go_wp2_with fail
  go_quiet (fail)
  go_wp2_with fail
  exact bodyPost_ret (results_none rfl _ _ _) rfl ⟨rfl, hdr.out _⟩
 have fin0 : Hid (∀ n, St B w0 (w.drewN n) ((rk, rackO q mb most) :: (q, rowsO rbs) :: (mb, .map (entsE encI es) clk) :: (ringsH rbs G ++ F))) := Lib.hid fun n => h2.drewN n
 clear h2 h
 replace a1 := Lib.hid a1
 replace a2 := Lib.hid a2
 replace a3 := Lib.hid a3
 replace a4 := Lib.hid a4
 replace a5 := Lib.hid a5
 replace a6 := Lib.hid a6
 replace hHl := Lib.hid hHl
 replace hd := Lib.hid hd
 go_enter Tryz.func210, Tryz.ntmps210
 go_wp2_with fail
 go_quiet (fail)
 go_upto_region 1 with fail
 have h2 := fin0.out nq
 generalize w.drewN nq = w at *
 have c1 : w.cell? ⟨rk, 1, none⟩ = some (.map (some mb)) := h2.cell (b := rk) List.mem_cons_self rfl
 have c2 : w.cell? ⟨rk, 2, none⟩ = some (.int .i64 most) := h2.cell (b := rk) List.mem_cons_self rfl
 have gl := fun ty => run_lenE (P := Tryz.prog) (ty := ty) uMapE (h2.get (b := mb) (List.mem_cons_of_mem _ (List.mem_cons_of_mem _ List.mem_cons_self)))
 rw [← hL.out] at gl
 have hmk := run_makeMapE w
 have pm : ∀ x y z u (X : List (Nat × Obj)), ((u :: x :: y :: z :: X) : List (Nat × Obj)).Perm (u :: z :: x :: y :: X) := fun x y z u X => by
  classical
  exact List.perm_iff_count.2 fun a => by simp only [List.count_cons]; omega
 have h3 := (h2.alloc (.map #[] 0)).perm (pm _ _ _ _ _)
 have cc := Lib.hid (copyE_any (es := es) (clk := clk) (H := H) h3 a4.out)
 have k1 : (w.alloc (.map #[] 0)).cell? ⟨rk, 1, none⟩ = some (.map (some mb)) := h3.cell (b := rk) (c := #[.slice (some ⟨q, 0, none⟩) 4 4, .map (some mb), .int .i64 most]) (T := 257) (fr := (0, 0)) (by simp) rfl
 have fin : Hid (∀ w', CopyR B w0 w.heap.size mb es clk ((rk, rackO q mb most) :: (q, rowsO rbs) :: (ringsH rbs G ++ F)) H (.returned (.tuple #[])) w' → w'.cell? ⟨rk, 1, none⟩ = some (.map (some mb)) ∧ w'.cell? ⟨rk, 2, none⟩ = some (.int .i64 most) ∧
   w'.frozen? ⟨rk, 1, none⟩ = false ∧ w'.frozen? ⟨rk, 2, none⟩ = false ∧ (∀ ty, (Builtin.len_ #[255] ty #[.map (some w.heap.size)]).run Tryz.prog w' = .ok (.int .i64 L) w') ∧
   RkAt B w0 ((w'.setCell ⟨rk, 1, none⟩ (.map (some w.heap.size))).setCell ⟨rk, 2, none⟩ (.int .i64 L)) rk q rbs R H F) := Lib.hid (by
  rintro w' ⟨-, ds, c3, g1, g2⟩
  have m : (rk, rackO q mb most) ∈ (w.heap.size, Obj.map (entsE encI ds) c3) :: (mb, .map (entsE encI es) clk) :: (rk, rackO q mb most) :: (q, rowsO rbs) :: (ringsH rbs G ++ F) := by simp
  refine ⟨g2.cell (b := rk) m rfl, g2.cell (b := rk) m rfl, g2.soft (b := rk) m 1, g2.soft (b := rk) m 2, fun ty => ?_, ?_⟩
  ·have := run_lenE (P := Tryz.prog) (ty := ty) uMapE (g2.get (b := w.heap.size) List.mem_cons_self)
   rw [g1.len, hHl.out] at this
   exact this
  ·have g3 := g2.perm (H' := (rk, rackO q mb most) :: (q, rowsO rbs) :: (w.heap.size, .map (entsE encI ds) c3) :: (ringsH rbs G ++ ((mb, .map (entsE encI es) clk) :: F))) (by
    classical
    exact List.perm_iff_count.2 fun a => by simp only [List.count_cons, List.count_append]; omega)
   have g4 := (g3.set0 1 (.map (some w.heap.size))).set0 2 (.int .i64 L)
   refine ⟨w.heap.size, ds, c3, L, G, ⟨a1.out, a2.out, a3.out, g1, by have := a6.out; have := hHl.out; omega, a6.out⟩, g4.sub ?_⟩
   exact (((List.Sublist.refl _).append (List.sublist_cons_self _ _)).cons_cons _).cons_cons _ |>.cons_cons _)
 clear h2 h3 a1 a2 a3 a4 a5 a6 hd hHl pm fin0
 go_wp2_with fail
 refine cc.out.mono ?_
 rintro e w' hcr
 obtain rfl := hcr.1
 obtain ⟨q1, q2, f1, f2, gl2, hfin⟩ := fin.out _ hcr
 replace hfin := Lib.hid hfin
 clear hcr fin cc c1 c2 k1 gl hmk
 generalize w.heap.size = nb at *
 go_wp2_with fail
 exact bodyPost_end (results_none rfl _ _ _) rfl ⟨rfl, hfin.out⟩
end
end Go.Proofs.YtknjamfjonapiaaGreatDoor
namespace Go.Proofs.YtknjamfjonapiaaGreatDoor
open Go.RowKit
open Go.ChangeMaps (setBlock)
set_option linter.unusedVariables false
set_option linter.unusedSectionVars false
set_option linter.unusedSimpArgs false
set_option maxRecDepth 100000
theorem ret_entry2 {P : Program} {fn : Func} {a c d : Nat} {b : Bool} {tmps : Array Value} {w : World} {e : Ent} (hr : fn.results = #[.cell a 51, .tmp c]) (h2 : tmps[a]? = some (.pointer (some ⟨d, 0, none⟩))) (h3 : tmps[c]? = some (.bool b)) (q : EnAt w d e) (hP : P = Tryz.prog) :
  (results fn tmps).run P w = .ok (.tuple #[enV e, .bool b]) w := by
 subst hP
 obtain ⟨q0, q1, q2, q3, q4, q5, q6, q7, q8, q9⟩ := q
 simp [results, hr, go_sem, h2, h3, q0, q1, q2, q3, q4, q5, q6, q7, q8, q9]
theorem Below.enPut {B b : Nat} {a w : World} {e : Ent} (h : Below B a w) (hb : B ≤ b) : Below B a (enPut w b e) :=
 (Below.setCell (Below.setCell (Below.setCell (Below.setCell (Below.setCell (Below.setCell (Below.setCell (Below.setCell (Below.setCell (Below.setCell h (p := ⟨b, 0, none⟩) hb (.int .i64 e.id)) (p := ⟨b, 1, none⟩) hb (.int .i64 e.body)) (p := ⟨b, 2, none⟩) hb (.int .i64 e.size)) (p := ⟨b, 3, none⟩) hb (tx e.exch)) (p := ⟨b, 4, none⟩) hb (tx e.key)) (p := ⟨b, 5, none⟩) hb (.int .i64 e.prio)) (p := ⟨b, 6, none⟩) hb (.int .i64 e.ttl)) (p := ⟨b, 7, none⟩) hb (.int .i64 e.til)) (p := ⟨b, 8, none⟩) hb (.bool e.again)) (p := ⟨b, 9, none⟩) hb (.int .i64 e.hops))
structure Ahd (R : List (List Int)) (at_ step : Int) (X : List (List Int)) : Prop where
 way : step = 1 ∧ at_ + X.length = 4 ∧ 0 ≤ at_ ∧ X = R.drop at_.toNat ∨ step = -1 ∧ at_ + 1 = X.length ∧ X = (R.take X.length).reverse
 len : R.length = 4
theorem Ahd.none {R : List (List Int)} {a s : Int} (h : Ahd R a s []) : (s = 1 ∧ a = 4) ∨ (s = -1 ∧ a = -1) := by
 rcases h.way with ⟨h1, h2, -⟩ | ⟨h1, h2, -⟩ <;> simp at h2 <;> omega
theorem Ahd.some {R : List (List Int)} {a s : Int} {l : List Int} {X : List (List Int)} (h : Ahd R a s (l :: X)) : (s = 1 ∨ s = -1) ∧ ∃ i : Nat, a = i ∧ i < 4 ∧ R[i]? = some l ∧ Ahd R (a + s) s X := by
 have hlen := h.len
 rcases h.way with ⟨h1, h2, h3, h4⟩ | ⟨h1, h2, h4⟩
 ·refine ⟨.inl h1, a.toNat, by omega, ?_, ?_, .inl ⟨h1, ?_, by omega, ?_⟩, hlen⟩
  ·rw [List.length_cons] at h2; omega
  ·have := congrArg List.head? h4
   rw [List.head?_cons, List.head?_drop] at this
   exact this.symm
  ·rw [List.length_cons] at h2; omega
  ·have := congrArg List.tail h4
   rw [List.tail_cons, List.tail_drop] at this
   rw [this]
   congr 1
   omega
 ·rw [List.length_cons] at h2 h4
  have hX : X.length < 4 := by
   have := congrArg List.length h4
   rw [List.length_reverse, List.length_take, List.length_cons] at this
   omega
  have e := congrArg List.reverse h4
  rw [List.reverse_reverse, List.reverse_cons] at e
  have hx : R[X.length]? = Option.some l := by
   have e2 := congrArg (fun z => z[X.length]?) e
   rw [List.getElem?_append_right (by rw [List.length_reverse]; omega), List.length_reverse, Nat.sub_self, List.getElem?_take] at e2
   rw [if_pos (by omega)] at e2
   exact e2.symm
  refine ⟨.inr h1, X.length, by omega, hX, hx, .inr ⟨h1, by omega, ?_⟩, hlen⟩
  rw [List.take_add_one, hx] at e
  have := (List.append_inj' e rfl).1
  rw [← this, List.reverse_reverse]
section
variable {B : Nat} {w0 w : World} {rk q rb i : Nat} {rbs : List Nat} {R : List (List Int)} {H : List Ent} {F : List (Nat × Obj)} {l : List Int} {e : Ent}
def HeadR (H : List Ent) (k : Option Int) (w : World) (r : Ending) (w' : World) : Prop := (∃ (x : Ent) (b : Bool), r = .returned (.tuple #[enV x, .bool b]) ∧ match k with
 | none => x = z0E ∧ b = false
 | some k => x ∈ H ∧ x.id = k ∧ b = true) ∧ Below w.heap.size w w'
def HeadJ (B : Nat) (w0 w : World) (rk q : Nat) (rbs : List Nat) (R : List (List Int)) (H : List Ent) (F : List (Nat × Obj)) (s : Int) (k : Option Int) (g : Nat) (a' : Act) (w' : World) : Prop :=
 ∃ (at_ : Int) (X : List (List Int)), X.length = g ∧ Ahd R at_ s X ∧ lookR X = k ∧ Fr 43 [(0, rptr rk), (1, .int .i64 at_), (2, .int .i64 s), (6, .pointer (some ⟨w.heap.size, 0, none⟩))] a' ∧ RkAt B w0 w' rk q rbs R H ((w.heap.size, enO z0E) :: F) ∧ Below w.heap.size w w'
set_option maxHeartbeats 2000000 in
theorem head_any (h : RkAt B w0 w rk q rbs R H F) (hm : ∀ l ∈ R, ∀ k ∈ l, ∃ x ∈ H, x.id = k) {at_ s : Int} {X : List (List Int)} (ha : Ahd R at_ s X) :
  Calls Tryz.prog 256 #[rptr rk, .int .i64 at_, .int .i64 s] w (HeadR H (lookR X) w) := by
 have h1 : RkAt B w0 (w.alloc (enO z0E)) rk q rbs R H ((w.heap.size, enO z0E) :: F) := by
  obtain ⟨S, s1, s2⟩ := h.beside
  exact s2 _ _ ((s1.alloc (enO z0E)).perm List.perm_middle.symm)
 have hn0 := Lib.hid (new_below w (enO z0E))
 have ca : Hid (∀ w' (i rb : Nat) l, RkAt B w0 w' rk q rbs R H ((w.heap.size, enO z0E) :: F) → rbs[i]? = some rb → R[i]? = some l → Calls Tryz.prog 279 #[rptr rb, .int .i64 0] w' fun e w'' => e = .returned (atR l 0) ∧ ∃ n, w'' = w'.drewN n) := Lib.hid fun w' i rb l h hb hl => by
  obtain ⟨Z, r1, -⟩ := h.ring hb hl
  exact ring_at r1 0
 obtain ⟨k, hk⟩ : ∃ k, k = lookR X := ⟨_, rfl⟩
 rw [← hk]
 replace hm := Lib.hid hm
 replace h1 := Lib.hid h1
 replace hk := Lib.hid hk
 have h4 := Lib.hid h.len
 clear h
 go_enter Tryz.func256, Tryz.ntmps256
 go_wp2_with fail
 refine wp_scope_ghost 0 (HeadJ B w0 w rk q rbs R H F s k) rfl ?_ ?_
 ·clear ha h1 hn0 hk
  rintro g a' wr ⟨a, X, hX, ha, hk, hfr, hR, hbl⟩
  obtain ⟨fr, rfl, hl'⟩ := hfr.lit
  clear hfr
  simp only [List.mem_cons, List.not_mem_nil, or_false, forall_eq_or_imp, forall_eq] at hl'
  obtain ⟨f0, f1, f2, f6⟩ := hl'
  simp only [List.range, List.range.loop, List.map, f0, f1, f2, f6]
  clear f0 f1 f2 f6
  have c0 := hR.c0
  have hst : ∃ S, St B w0 wr (S ++ (w.heap.size, enO z0E) :: F) := by
   obtain ⟨S, s1, -⟩ := hR.beside
   exact ⟨S, s1⟩
  obtain ⟨S, hst⟩ := hst
  have hst1 := hst.perm (List.perm_middle (a := (w.heap.size, enO z0E)))
  match X, hX, ha, hk with
  | [], hX, ha, hk =>
   simp only [lookR] at hk
   subst hk
   obtain ⟨z0, z1, z2, z3, z4, z5, z6, z7, z8, z9⟩ := hst1.enAt List.mem_cons_self
   have zs := fun i => hst1.soft (b := w.heap.size) List.mem_cons_self i
   have fin := hst1.enPut (e := z0E)
   have finE := Lib.hid (fin.enAt List.mem_cons_self)
   have finB : Hid (Below w.heap.size w (enPut wr w.heap.size z0E)) := Lib.hid (Below.enPut hbl (Nat.le_refl _))
   clear hst hst1 fin hR hbl ca hX
   rcases ha.none with ⟨rfl, rfl⟩ | ⟨rfl, rfl⟩
   ·clear ha
    go_wp2_with fail
    simp only [Exit.jump]
    exact bodyPost_ret (ret_entry2 rfl rfl rfl finE.out rfl) rfl ⟨⟨_, _, rfl, rfl, rfl⟩, finB.out⟩
   ·clear ha
    go_wp2_with fail
    simp only [Exit.jump]
    exact bodyPost_ret (ret_entry2 rfl rfl rfl finE.out rfl) rfl ⟨⟨_, _, rfl, rfl, rfl⟩, finB.out⟩
  | l :: X, hX, ha, hk =>
   obtain ⟨hs, i, rfl, hi, hl, hnx⟩ := ha.some
   obtain ⟨rb, hb⟩ : ∃ rb, rbs[i]? = some rb := ⟨rbs[i]'(by have := h4.out; omega), List.getElem?_eq_getElem _⟩
   have c1 := hR.at_ hb
   have cat := ca.out wr i rb l hR hb hl
   have i0 : (0 : Int) ≤ i := by omega
   have i1 : (i : Int) < 4 := by omega
   cases l with
   | nil =>
    have e0 : atR [] 0 = .tuple #[.int .i64 0, .bool false] := rfl
    rw [e0] at cat
    replace cat := Lib.hid cat
    have s0 : -(1 : Int) ≤ s := by omega
    have s1 : s ≤ (1 : Int) := by omega
    have fin : Hid (∀ n a', Fr 43 [(0, rptr rk), (1, .int .i64 ((i : Int) + s)), (2, .int .i64 s), (6, .pointer (some ⟨w.heap.size, 0, none⟩))] a' → ∃ m, m < g ∧ HeadJ B w0 w rk q rbs R H F s k m a' (wr.drewN n)) := Lib.hid fun n a' hf =>
     ⟨X.length, by rw [List.length_cons] at hX; omega, _, X, rfl, hnx, hk, hf, hR.grow (drewN_below _ n), bel hbl (drewN_below _ n)⟩
    clear hst hst1 hR hbl ca hnx hX hk ha hl hb hm
    go_wp2_with fail
    refine cat.out.mono ?_
    rintro e w2 ⟨rfl, n, rfl⟩
    go_wp2_with fail
    refine wp_goto ?_
    exact ⟨rfl, fin.out n _ ⟨rfl, rfl, by simp⟩⟩
   | cons k0 l =>
    simp only [lookR] at hk
    subst hk
    have e0 : atR (k0 :: l) 0 = .tuple #[.int .i64 k0, .bool true] := rfl
    rw [e0] at cat
    replace cat := Lib.hid cat
    obtain ⟨x, hx, rfl⟩ := hm.out _ (List.mem_of_getElem? hl) k0 List.mem_cons_self
    obtain ⟨mb, -, hlook⟩ := hR.look
    have fin : Hid (∀ n, (wr.drewN n).cell? ⟨rk, 1, none⟩ = some (.map (some mb)) ∧ (Instr.lookup 255 (.map (some mb)) (.int .i64 x.id) false).run Tryz.prog (wr.drewN n) = .ok (enV x) (wr.drewN n) ∧
      EnAt (wr.drewN n) w.heap.size z0E ∧ (∀ i, (wr.drewN n).frozen? ⟨w.heap.size, i, none⟩ = false) ∧ EnAt (enPut (wr.drewN n) w.heap.size x) w.heap.size x ∧ Below w.heap.size w (enPut (wr.drewN n) w.heap.size x)) := Lib.hid fun n => by
     have hl := hlook _ (drewN_below wr n)
     have hbn := bel hbl (drewN_below wr n)
     have h9 := hst1.drewN n
     refine ⟨hl.c1, hl.hit x hx false, h9.enAt List.mem_cons_self, fun i => h9.soft (b := w.heap.size) List.mem_cons_self i, (h9.enPut (e := x)).enAt List.mem_cons_self, Below.enPut hbn (Nat.le_refl _)⟩
    replace hx := Lib.hid hx
    clear hst hst1 hR hbl ca hnx hX ha hl hb hm hlook hs
    go_wp2_with fail
    refine cat.out.mono ?_
    rintro e w2 ⟨rfl, n, rfl⟩
    obtain ⟨q1, q2, ⟨z0, z1, z2, z3, z4, z5, z6, z7, z8, z9⟩, zs, finE, finB⟩ := fin.out n
    replace finE := Lib.hid finE
    replace finB := Lib.hid finB
    clear fin cat c0 c1
    generalize wr.drewN n = V at *
    go_wp2_with fail
    simp only [Exit.jump]
    exact bodyPost_ret (ret_entry2 rfl rfl rfl finE.out rfl) rfl ⟨⟨_, _, rfl, hx.out, rfl, rfl⟩, finB.out⟩
 ·intro HJ
  go_wp2_with fail
  refine wp_label ?_
  go_step
  go_step
  exact HJ X.length _ _ ⟨at_, X, rfl, ha, hk.out.symm, ⟨rfl, rfl, by simp⟩, h1.out, hn0.out⟩
end
end Go.Proofs.YtknjamfjonapiaaGreatDoor
