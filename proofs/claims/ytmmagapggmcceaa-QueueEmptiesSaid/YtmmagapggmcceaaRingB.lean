/- The ring's inner functions: which cell the i-th lies in, and the row laid into new cells. -/
import Derived.Test.YtmmagapggmcceaaRows
import Derived.Test.YtmmagapggmcceaaRingA
import Derived.Deep.QuietTactic
import Derived.BigQuiet
import Derived.Deep.RegionHeld3
import Derived.Laws.MakeOwn
import Derived.IntWalk
import Derived.Lib.Hide
namespace Go.Proofs.Ytmmagapggmcceaa
open Go.RowKit

abbrev rptr (b : Nat) : Value := .pointer (some ⟨b, 0, none⟩)

theorem uIntsR : Try.prog.underlying 67 = some (.slice 3) := by kernel_rfl
theorem infIntR : (Try.prog.info? 3).map (fun i => (i.zero, i.size, i.bytes)) = some (some (.int .i64 0), 1, 8) := by kernel_rfl

section
variable {B : Nat} {w0 w : World} {rb : Nat} {g : RG} {F : List (Nat × Obj)}

/-- In w there lies the ring g at block rb. -/
def RingAt (B : Nat) (w0 w : World) (rb : Nat) (g : RG) (F : List (Nat × Obj)) : Prop := St B w0 w ((rb, g.obj) :: (g.cellsH ++ F))

theorem RingAt.c0 (h : RingAt B w0 w rb g F) : w.cell? ⟨rb, 0, none⟩ = some g.sl := h.cell List.mem_cons_self rfl
theorem RingAt.c1 (h : RingAt B w0 w rb g F) : w.cell? ⟨rb, 1, none⟩ = some (.int .i64 g.first) := h.cell List.mem_cons_self rfl
theorem RingAt.c2 (h : RingAt B w0 w rb g F) : w.cell? ⟨rb, 2, none⟩ = some (.int .i64 g.count) := h.cell List.mem_cons_self rfl
theorem RingAt.soft (h : RingAt B w0 w rb g F) (i : Nat) : w.frozen? ⟨rb, i, none⟩ = false := St.soft h List.mem_cons_self i
theorem RingAt.drewN (h : RingAt B w0 w rb g F) (n : Nat) : RingAt B w0 (w.drewN n) rb g F := St.drewN h n

theorem RG.Wf.block (wf : g.Wf) (h : 0 < g.cs.length) : ∃ b, g.cb = some b ∧ g.sl = .slice (some ⟨b, 0, none⟩) g.cs.length g.cs.length ∧ g.cellsH = [(b, intsObj g.cs)] := by
  cases hb : g.cb with
  | none => rw [wf.bare hb] at h; simp at h
  | some b => exact ⟨b, rfl, by simp [RG.sl, hb], by simp [RG.cellsH, hb]⟩

/-- The header of the cells, whether there are any or not. -/
theorem RG.Wf.header (wf : g.Wf) : ∃ a, g.sl = .slice a g.cs.length g.cs.length := by
  cases hb : g.cb with
  | none => exact ⟨none, by simp [RG.sl, hb, wf.bare hb]⟩
  | some b => exact ⟨_, by simp [RG.sl, hb]; rfl⟩

theorem RingAt.elem (h : RingAt B w0 w rb g F) {b : Nat} (hb : g.cellsH = [(b, intsObj g.cs)]) {i : Nat} (hi : i < g.cs.length) : w.cell? ⟨b, i, none⟩ = some (.int .i64 (g.cs.getD i 0)) := by
  unfold RingAt at h
  rw [hb] at h
  refine h.cell (b := b) (c := (ints g.cs).toArray) (T := 3) (fr := (0, 0)) (by simp [intsObj]) (i := i) ?_
  rw [List.getElem?_toArray]
  exact ints_at (by simp [List.getD_eq_getElem?_getD, hi])

/-- A block beside the ring. -/
theorem RingAt.front {x : Nat × Obj} (h : St B w0 w (x :: (rb, g.obj) :: (g.cellsH ++ F))) : RingAt B w0 w rb g (x :: F) :=
  h.perm ((List.Perm.swap _ _ _).trans (.cons _ List.perm_middle.symm))

set_option maxHeartbeats 400000 in
theorem cellOf_any (h : RingAt B w0 w rb g F) (wf : g.Wf) (hp : 0 < g.cs.length) (i : Int) (h0 : 0 ≤ i) (h1 : i ≤ 1073741824) :
    Calls Try.prog 61 #[rptr rb, .int .i64 i] w fun e w' => e = .returned (.int .i64 (g.place i.toNat)) ∧ ∃ n, w' = w.drewN n := by
  obtain ⟨k, rfl⟩ : ∃ k : Nat, i = k := ⟨i.toNat, by omega⟩
  have c0 := h.c0
  have c1 := h.c1
  obtain ⟨a, ha⟩ := wf.header
  rw [ha] at c0
  have ht := wf.top
  have hf : (g.first : Int) ≤ 1073741824 := by rcases wf.first with h | ⟨h, _⟩ <;> omega
  have hN : (g.cs.length : Int) ≤ 1073741824 := by omega
  have hN0 : (0 : Int) < g.cs.length := by omega
  have hk1 : (k : Int) ≤ 1073741824 := h1
  have hk0 : (0 : Int) ≤ k := by omega
  have hf0 : (0 : Int) ≤ g.first := by omega
  have e : ((g.place k : Nat) : Int) = ((g.first : Int) + k) % g.cs.length := by simp [RG.place]
  have hne : ((g.cs.length : Int) == 0) = false := by rw [beq_eq_false_iff_ne]; omega
  rw [Int.toNat_natCast, e]
  clear e h wf ht ha hp h0 h1
  generalize g.cs.length = N at *
  generalize g.first = f at *
  go_enter Try.func61, Try.ntmps61
  go_wp2_with fail
  go_quiet (fail)
  go_wp2_with fail
  go_ret
  exact ⟨rfl, _, rfl⟩

set_option maxHeartbeats 400000 in
theorem rlen_any (h : RingAt B w0 w rb g F) : Calls Try.prog 48 #[rptr rb] w fun e w' => e = .returned (.int .i64 g.count) ∧ w = w' := by
  have h0 := h.c2
  clear h
  go_enter Try.func48, Try.ntmps48
  go_wp2
  go_ret
  exact ⟨rfl, rfl⟩

set_option maxHeartbeats 400000 in
theorem at_none (h : RingAt B w0 w rb g F) (i : Int) (hi : i < 0 ∨ (g.count : Int) ≤ i) : Calls Try.prog 51 #[rptr rb, .int .i64 i] w fun e w' => e = .returned (.tuple #[.int .i64 0, .bool false]) ∧ ∃ n, w' = w.drewN n := by
  have h0 := h.c2
  clear h
  rcases hi with hi | hi
  · go_enter Try.func51, Try.ntmps51
    go_wp2_with fail
    go_ret2
    exact ⟨rfl, 0, rfl⟩
  · by_cases hz : i < 0
    · go_enter Try.func51, Try.ntmps51
      go_wp2_with fail
      go_ret2
      exact ⟨rfl, 0, rfl⟩
    · have hz' : 0 ≤ i := by omega
      clear hz
      go_enter Try.func51, Try.ntmps51
      go_wp2_with fail
      go_ret2
      exact ⟨rfl, 0, rfl⟩

set_option maxHeartbeats 400000 in
theorem at_some (h : RingAt B w0 w rb g F) (wf : g.Wf) {i : Nat} (hi : i < g.count) : Calls Try.prog 51 #[rptr rb, .int .i64 i] w fun e w' => e = .returned (.tuple #[.int .i64 (g.cs.getD (g.place i) 0), .bool true]) ∧ ∃ n, w' = w.drewN n := by
  have hc := wf.count
  have ht := wf.top
  have hp : 0 < g.cs.length := by omega
  have hpl := RG.place_lt hp i
  obtain ⟨b, hb, hsl, hH⟩ := wf.block hp
  have c0 := h.c0
  have c2 := h.c2
  have ce := h.elem hH hpl
  have cc : Hid (∀ n, Calls Try.prog 61 #[rptr rb, .int .i64 i] (w.drewN n) fun e w' => e = .returned (.int .i64 (g.place i)) ∧ ∃ m, w' = (w.drewN n).drewN m) := fun n => by
    have := cellOf_any (h.drewN n) wf hp i (by omega) (by omega)
    rw [Int.toNat_natCast] at this
    exact this
  rw [hsl] at c0
  have hi0 : (0 : Int) ≤ i := by omega
  have hi1 : (i : Int) < g.count := by omega
  have hq0 : (0 : Int) ≤ g.place i := by omega
  have hq1 : (g.place i : Int) < g.cs.length := by omega
  generalize g.cs.getD (g.place i) 0 = x at *
  generalize g.place i = q at *
  clear h hb hsl hH hc ht hp hpl wf hi
  go_enter Try.func51, Try.ntmps51
  go_wp2_with fail
  go_quiet ((go_at_call 61; exact Calls.quiet_of (cc.out _)))
  go_wp2_with fail
  go_ret2
  exact ⟨rfl, _, rfl⟩

theorem mk_ints (w : World) (k : Int) (h0 : 0 ≤ k) (h1 : k ≤ 1073741824) :
    (Instr.makeSlice 67 (.int .i64 k) (.int .i64 k)).run Try.prog w = .ok (.slice (some ⟨w.heap.size, 0, none⟩) k.toNat k.toNat) (w.alloc (intsObj (List.replicate k.toNat 0))) := by
  obtain ⟨i0, hi, hz0, hz1, hz2⟩ := info_parts infIntR
  have h := run_make (P := Try.prog) w 67 3 i0 (.int .i64 0) uIntsR hi hz0 .i64 .i64 k k h0 (Int.le_refl _) (by rw [hz2]; omega) (by omega)
  rw [h]
  congr 2
  unfold intsObj
  congr 1
  apply Array.toList_inj.1
  rw [hz1, Nat.mul_one, show (Value.int .i64 0).cells = #[Value.int .i64 0] from rfl, toList_madeCells_one]
  simp [ints]

set_option maxHeartbeats 1000000 in
theorem laidOut_any (h : RingAt B w0 w rb g F) (wf : g.Wf) (size : Nat) (hs : g.count ≤ size) (hs1 : size ≤ 1073741824) :
    Calls Try.prog 55 #[rptr rb, .int .i64 size] w fun e w' => e = .returned (.slice (some ⟨w.heap.size, 0, none⟩) size size) ∧ St B w0 w' ((w.heap.size, intsObj (g.laid size)) :: (rb, g.obj) :: (g.cellsH ++ F)) := by
  have hmk := mk_ints w size (by omega) (by omega)
  rw [Int.toNat_natCast] at hmk
  have h1 : St B w0 (w.alloc (intsObj (List.replicate size 0))) ((w.heap.size, intsObj (g.part size 0)) :: (rb, g.obj) :: (g.cellsH ++ F)) := by
    rw [RG.part_zero]
    exact h.alloc _
  have h1 := Lib.hid h1
  clear h
  go_enter Try.func55, Try.ntmps55
  go_wp2_with fail
  refine wp_scope_label 0 (fun a' w' => ∃ k : Nat, k ≤ g.count ∧ Fr 30 [(0, rptr rb), (5, .slice (some ⟨w.heap.size, 0, none⟩) size size), (6, .int .i64 k)] a' ∧ St B w0 w' ((w.heap.size, intsObj (g.part size k)) :: (rb, g.obj) :: (g.cellsH ++ F)))
    (fun a' _ => g.count - (intOf (a'.tmps.getD 6 undef)).toNat) rfl ?_ ?_
  · rintro a' w' ⟨k, hk, hf, hw⟩
    obtain ⟨f, rfl, hl⟩ := hf.lit
    clear hf
    simp only [List.mem_cons, List.not_mem_nil, or_false, forall_eq_or_imp, forall_eq] at hl
    obtain ⟨f0, f5, f6⟩ := hl
    simp only [List.range, List.range.loop, List.map, f0, f5, f6]
    clear f0 f5 f6 h1 hmk
    have hr := RingAt.front hw
    have c2 := hr.c2
    by_cases hlt : k < g.count
    · have hc := wf.count
      have ht := wf.top
      have hp : 0 < g.cs.length := by omega
      have hpl := RG.place_lt hp k
      obtain ⟨b, hb, hsl, hH⟩ := wf.block hp
      have c0 := hr.c0
      have ce := hr.elem hH hpl
      have cc : Hid (∀ n, Calls Try.prog 61 #[rptr rb, .int .i64 k] (w'.drewN n) fun e w'' => e = .returned (.int .i64 (g.place k)) ∧ ∃ m, w'' = (w'.drewN n).drewN m) := fun n => by
        have := cellOf_any (hr.drewN n) wf hp k (by omega) (by omega)
        rw [Int.toNat_natCast] at this
        exact this
      rw [hsl] at c0
      have hi0 : (0 : Int) ≤ k := by omega
      have hi1 : (k : Int) < g.count := by omega
      have hi2 : (k : Int) < size := by omega
      have hq0 : (0 : Int) ≤ g.place k := by omega
      have hq1 : (g.place k : Int) < g.cs.length := by omega
      have hset := Lib.hid (RG.part_set hlt hs)
      have hk2 : k < (ints (g.part size k)).length := by rw [ints_len, RG.part_len hk hs]; omega
      have sc : w'.cell? ⟨w.heap.size, k, none⟩ = some ((ints (g.part size k))[k]) := hw.cell (b := w.heap.size) (c := (ints (g.part size k)).toArray) (T := 3) (fr := (0, 0)) List.mem_cons_self (i := k) (by simp [hk2])
      have sf := St.soft (b := w.heap.size) (c := (ints (g.part size k)).toArray) (T := 3) hw List.mem_cons_self k
      have hst : Hid (∀ n, St B w0 ((w'.drewN n).setCell ⟨w.heap.size, k, none⟩ (.int .i64 (g.cs.getD (g.place k) 0))) ((w.heap.size, intsObj (g.part size (k + 1))) :: (rb, g.obj) :: (g.cellsH ++ F))) := fun n => by
        have := (hw.drewN n).set0 k (.int .i64 (g.cs.getD (g.place k) 0))
        rw [List.setIfInBounds_toArray, ints_set, RG.part_set hlt hs] at this
        exact this
      have hkeep : Hid (∀ n, ((w'.drewN n).setCell ⟨w.heap.size, k, none⟩ (.int .i64 (g.cs.getD (g.place k) 0))).cell? ⟨rb, 0, none⟩ = some (.slice (some ⟨b, 0, none⟩) g.cs.length g.cs.length) ∧
          ((w'.drewN n).setCell ⟨w.heap.size, k, none⟩ (.int .i64 (g.cs.getD (g.place k) 0))).cell? ⟨b, g.place k, none⟩ = some (.int .i64 (g.cs.getD (g.place k) 0))) := fun n => by
        have hr2 := RingAt.front (hst.out n)
        have e0 := hr2.c0
        rw [hsl] at e0
        exact ⟨e0, hr2.elem hH hpl⟩
      generalize (ints (g.part size k))[k] = u at *
      generalize g.cs.getD (g.place k) 0 = x at *
      generalize g.place k = q at *
      clear hr hb hsl hH hc ht hp hpl wf hw hk2 hset
      go_wp2_with fail
      go_region_held3 (fun w'' => w''.cell? ⟨rb, 0, none⟩ = some (.slice (some ⟨b, 0, none⟩) g.cs.length g.cs.length) ∧ w''.cell? ⟨b, q, none⟩ = some (.int .i64 x)) (first | exact hkeep.out _ | go_keep) ((go_at_call 61; refine (cc.out _).mono ?_; rintro e w'' ⟨rfl, m, rfl⟩))
      go_wp2_with fail
      refine wp_goto ?_
      refine ⟨rfl, ⟨k + 1, by omega, ⟨rfl, rfl, by simp⟩, hst.out _⟩, ?_⟩
      simp [intOf]
      omega
    · have hkc : k = g.count := by omega
      subst hkc
      rw [RG.part_all] at hw
      have hw := Lib.hid hw
      clear hr
      go_wp2_with fail
      simp only [Exit.jump]
      go_ret
      exact ⟨rfl, hw.out⟩
  · intro H
    go_wp2_with fail
    refine wp_label ?_
    go_step
    go_step
    exact H _ _ ⟨0, Nat.zero_le _, ⟨rfl, rfl, by simp⟩, h1.out⟩
end
end Go.Proofs.Ytmmagapggmcceaa
