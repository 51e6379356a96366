/- The ring as its callers see it: a row of numbers, and each method as a function on that. -/
import Derived.Test.YtmmagapggmcceaaRingC
import Derived.Test.YtmmagapggmcceaaSl
namespace Go.Proofs.Ytmmagapggmcceaa
open Go.RowKit

section
variable {B : Nat} {w0 w : World} {rb : Nat} {g : RG} {F : List (Nat × Obj)}

set_option maxHeartbeats 1000000 in
theorem unshift_any (h : RingAt B w0 w rb g F) (wf : g.Wf) (hc : g.count < 536870912) (n : Int) :
    Calls Try.prog 59 #[rptr rb, .int .i64 n] w fun e w' => e = .returned (.tuple #[]) ∧ ∃ g', g'.Wf ∧ g'.row = n :: g.row ∧ RingAt B w0 w' rb g' F := by
  have cm := Lib.hid (makeRoom_any h wf hc)
  clear h wf
  go_enter Try.func59, Try.ntmps59
  go_wp2_with fail
  refine cm.out.mono ?_
  rintro e w1 ⟨rfl, g1, wf1, hrow, hcnt, hlt, h1⟩
  have ht := wf1.top
  have hp : 0 < g1.cs.length := by omega
  obtain ⟨b, hb, hsl, hH⟩ := wf1.block hp
  have c0 := h1.c0
  have c1 := h1.c1
  have c2 := h1.c2
  have cf := h1.soft 2
  have cf1 := h1.soft 1
  have hun := RG.unshifted_row wf1 hlt n
  rw [hrow] at hun
  replace hun := Lib.hid hun
  have hwf := Lib.hid (RG.unshifted_wf wf1 hlt n)
  have cc : Hid (Calls Try.prog 61 #[rptr rb, .int .i64 ((g1.cs.length : Int) - 1)] w1 fun e w'' => e = .returned (.int .i64 g1.ahead) ∧ ∃ m, w'' = w1.drewN m) := by
    have := cellOf_any h1 wf1 hp ((g1.cs.length : Int) - 1) (by omega) (by omega)
    rw [show ((g1.cs.length : Int) - 1).toNat = g1.cs.length - 1 by omega] at this
    exact this
  rw [hsl] at c0
  have h2 : St B w0 w1 ((b, intsObj g1.cs) :: (rb, g1.obj) :: F) := by
    have h := h1
    unfold RingAt at h
    rw [hH] at h
    exact h.perm (List.Perm.swap _ _ _)
  have hal : g1.ahead < g1.cs.length := RG.place_lt hp _
  have hne : b ≠ rb := h2.ne List.mem_cons_self
  have hk2 : g1.ahead < (ints g1.cs).length := by rw [ints_len]; exact hal
  have h3 : ∀ m, St B w0 ((w1.drewN m).setCell ⟨rb, 1, none⟩ (.int .i64 g1.ahead)) ((b, intsObj g1.cs) :: (rb, .cells #[g1.sl, .int .i64 g1.ahead, .int .i64 g1.count] 85) :: F) := fun m =>
    (((h2.drewN m).perm (List.Perm.swap _ _ _)).set0 1 (.int .i64 g1.ahead)).perm (List.Perm.swap _ _ _)
  have sc : ∀ m, ((w1.drewN m).setCell ⟨rb, 1, none⟩ (.int .i64 g1.ahead)).cell? ⟨b, g1.ahead, none⟩ = some ((ints g1.cs)[g1.ahead]) := fun m =>
    (h3 m).cell (b := b) (c := (ints g1.cs).toArray) (T := 3) (fr := (0, 0)) List.mem_cons_self (i := g1.ahead) (by simp [hk2])
  have sf : ∀ m, ((w1.drewN m).setCell ⟨rb, 1, none⟩ (.int .i64 g1.ahead)).frozen? ⟨b, g1.ahead, none⟩ = false := fun m => St.soft (b := b) (c := (ints g1.cs).toArray) (T := 3) (h3 m) List.mem_cons_self g1.ahead
  have hst : Hid (∀ m q, RingAt B w0 (((((w1.drewN m).setCell ⟨rb, 1, none⟩ (.int .i64 g1.ahead)).drewN q).setCell ⟨b, g1.ahead, none⟩ (.int .i64 n)).setCell ⟨rb, 2, none⟩ (.int .i64 ((g1.count : Int) + 1))) rb (g1.unshifted n) F) := fun m q => by
    have h4 := ((h3 m).drewN q).set0 g1.ahead (.int .i64 n)
    rw [List.setIfInBounds_toArray, ints_set] at h4
    have h5 := (h4.perm (List.Perm.swap _ _ _)).set0 2 (.int .i64 ((g1.count : Int) + 1))
    unfold RingAt
    have e1 : (g1.unshifted n).cellsH = [(b, intsObj (g1.unshifted n).cs)] := by simp [RG.cellsH, RG.unshifted, hb]
    have e2 : (g1.unshifted n).obj = .cells #[.slice (some ⟨b, 0, none⟩) g1.cs.length g1.cs.length, .int .i64 g1.ahead, .int .i64 ((g1.count : Int) + 1)] 85 := by simp [RG.obj, RG.sl, RG.unshifted, hb]
    rw [e1, e2, ← hsl]
    exact h5
  have hq0 : (0 : Int) ≤ g1.ahead := by omega
  have hq1 : (g1.ahead : Int) < g1.cs.length := by omega
  have hi1 : (g1.count : Int) ≤ 536870912 := by omega
  have hN1 : (1 : Int) ≤ g1.cs.length := by omega
  have hN2 : (g1.cs.length : Int) ≤ 1073741824 := by omega
  generalize (ints g1.cs)[g1.ahead] = u at *
  generalize hq : g1.ahead = q at *
  replace sc := Lib.hid sc
  replace sf := Lib.hid sf
  replace hne := Lib.hid hne
  clear h1 wf1 hrow hcnt hlt ht hp hb hH h2 h3 hk2 hq hsl cm hal
  go_wp2_with fail
  refine cc.out.mono ?_
  rintro e w2 ⟨rfl, m, rfl⟩
  have sc1 := sc.out m
  have sf1 := sf.out m
  have k0 : ((w1.drewN m).setCell ⟨rb, 1, none⟩ (.int .i64 q)).cell? ⟨rb, 0, none⟩ = some (.slice (some ⟨b, 0, none⟩) g1.cs.length g1.cs.length) := by rw [World.cell?_setCell_other _ _ _ _ (by simp)]; simpa
  have k1 : ((w1.drewN m).setCell ⟨rb, 1, none⟩ (.int .i64 q)).cell? ⟨rb, 1, none⟩ = some (.int .i64 q) := World.cell?_setCell_same _ _ _ (by simpa using c1)
  have k2 : ((w1.drewN m).setCell ⟨rb, 1, none⟩ (.int .i64 q)).cell? ⟨rb, 2, none⟩ = some (.int .i64 g1.count) := by rw [World.cell?_setCell_other _ _ _ _ (by simp)]; simpa
  have kf : ((w1.drewN m).setCell ⟨rb, 1, none⟩ (.int .i64 q)).frozen? ⟨rb, 2, none⟩ = false := by simpa
  have hst := Lib.hid (hst.out m)
  go_wp2_with fail
  clear sc sf cc c0 c1 c2 cf cf1
  generalize (w1.drewN m).setCell ⟨rb, 1, none⟩ (.int .i64 q) = W at *
  have hkeep : Hid (∀ j, ((W.drewN j).setCell ⟨b, q, none⟩ (.int .i64 n)).cell? ⟨rb, 0, none⟩ = some (.slice (some ⟨b, 0, none⟩) g1.cs.length g1.cs.length) ∧ ((W.drewN j).setCell ⟨b, q, none⟩ (.int .i64 n)).cell? ⟨rb, 1, none⟩ = some (.int .i64 q) ∧
      ((W.drewN j).setCell ⟨b, q, none⟩ (.int .i64 n)).cell? ⟨rb, 2, none⟩ = some (.int .i64 g1.count)) := fun j => by
    refine ⟨?_, ?_, ?_⟩ <;> rw [World.cell?_setCell_other _ _ _ _ (by intro e; exact hne.out (congrArg Addr.block e))] <;> simpa
  go_region_held3 (fun w'' => w''.cell? ⟨rb, 0, none⟩ = some (.slice (some ⟨b, 0, none⟩) g1.cs.length g1.cs.length) ∧ w''.cell? ⟨rb, 1, none⟩ = some (.int .i64 q) ∧ w''.cell? ⟨rb, 2, none⟩ = some (.int .i64 g1.count)) (first | exact hkeep.out 1 | exact hkeep.out _ | go_keep) (fail)
  have hk := (hkeep.out 1).2.2
  go_wp2_with fail
  exact bodyPost_end (results_none rfl _ _ _) rfl ⟨rfl, _, hwf.out, hun.out, hst.out 1⟩

set_option maxHeartbeats 400000 in
theorem pop_none (h : RingAt B w0 w rb g F) (hz : g.count = 0) : Calls Try.prog 60 #[rptr rb] w fun e w' => e = .returned (.tuple #[.int .i64 0, .bool false]) ∧ ∃ n, w' = w.drewN n := by
  have c2 := h.c2
  rw [hz] at c2
  have ca := Lib.hid (at_none h (-1) (by omega))
  clear h hz
  go_enter Try.func60, Try.ntmps60
  go_wp2_with fail
  refine ca.out.mono ?_
  rintro e w1 ⟨rfl, m, rfl⟩
  go_wp2_with fail
  go_ret2
  exact ⟨rfl, _, rfl⟩

theorem RingAt.recount (h : RingAt B w0 w rb g F) (k : Nat) : RingAt B w0 (w.setCell ⟨rb, 2, none⟩ (.int .i64 k)) rb { g with count := k } F := h.set0 2 (.int .i64 k)
theorem RingAt.refirst (h : RingAt B w0 w rb g F) (k : Nat) : RingAt B w0 (w.setCell ⟨rb, 1, none⟩ (.int .i64 k)) rb { g with first := k } F := h.set0 1 (.int .i64 k)

set_option maxHeartbeats 400000 in
theorem pop_some (h : RingAt B w0 w rb g F) (wf : g.Wf) (hz : 0 < g.count) : Calls Try.prog 60 #[rptr rb] w fun e w' => e = .returned (.tuple #[.int .i64 (g.cs.getD (g.place (g.count - 1)) 0), .bool true]) ∧ ∃ g', g'.Wf ∧ g'.row = g.row.dropLast ∧ RingAt B w0 w' rb g' F := by
  have c2 := h.c2
  have cf := h.soft 2
  have ht := wf.top
  have hcl := wf.count
  have hc0 : (1 : Int) ≤ g.count := by omega
  have hc1 : (g.count : Int) ≤ 1073741824 := by omega
  have ca := at_some h wf (i := g.count - 1) (by omega)
  rw [show ((g.count - 1 : Nat) : Int) = (g.count : Int) - 1 by omega] at ca
  replace ca := Lib.hid ca
  have cg : Hid (∀ m, Calls Try.prog 63 #[rptr rb] ((w.drewN m).setCell ⟨rb, 2, none⟩ (.int .i64 ((g.count : Int) - 1))) fun e w' => e = .returned (.tuple #[]) ∧ ∃ g', g'.Wf ∧ g'.row = g.row.dropLast ∧ RingAt B w0 w' rb g' F) := fun m => by
    rw [show (g.count : Int) - 1 = ((g.count - 1 : Nat) : Int) by omega, ← RG.popped_row g]
    exact giveBack_ring ((h.drewN m).recount (g.count - 1)) (RG.popped_wf wf)
  generalize g.cs.getD (g.place (g.count - 1)) 0 = x at *
  clear h wf hcl ht hz
  go_enter Try.func60, Try.ntmps60
  go_wp2_with fail
  refine ca.out.mono ?_
  rintro e w1 ⟨rfl, m, rfl⟩
  go_wp2_with fail
  refine (cg.out _).mono ?_
  rintro e w2 ⟨rfl, h2⟩
  replace h2 := Lib.hid h2
  go_wp2_with fail
  go_ret2
  exact ⟨rfl, h2.out⟩

set_option maxHeartbeats 400000 in
theorem shift_none (h : RingAt B w0 w rb g F) (hz : g.count = 0) : Calls Try.prog 56 #[rptr rb] w fun e w' => e = .returned (.tuple #[.int .i64 0, .bool false]) ∧ ∃ n, w' = w.drewN n := by
  have ca := Lib.hid (at_none h 0 (by omega))
  clear h hz
  go_enter Try.func56, Try.ntmps56
  go_wp2_with fail
  refine ca.out.mono ?_
  rintro e w1 ⟨rfl, m, rfl⟩
  go_wp2_with fail
  go_ret2
  exact ⟨rfl, _, rfl⟩

set_option maxHeartbeats 400000 in
theorem shift_some (h : RingAt B w0 w rb g F) (wf : g.Wf) (hz : 0 < g.count) : Calls Try.prog 56 #[rptr rb] w fun e w' => e = .returned (.tuple #[.int .i64 (g.cs.getD (g.place 0) 0), .bool true]) ∧ ∃ g', g'.Wf ∧ g'.row = g.row.tail ∧ RingAt B w0 w' rb g' F := by
  have c1 := h.c1
  have c2 := h.c2
  have cf1 := h.soft 1
  have cf := h.soft 2
  have ht := wf.top
  have hcl := wf.count
  have hc0 : (1 : Int) ≤ g.count := by omega
  have hc1 : (g.count : Int) ≤ 1073741824 := by omega
  have ca := at_some h wf (i := 0) (by omega)
  replace ca := Lib.hid ca
  have cc : Hid (∀ m, Calls Try.prog 61 #[rptr rb, .int .i64 1] (w.drewN m) fun e w'' => e = .returned (.int .i64 (g.place 1)) ∧ ∃ n, w'' = (w.drewN m).drewN n) :=
    fun m => cellOf_any (h.drewN m) wf (by omega) 1 (by omega) (by omega)
  have cg : Hid (∀ m, Calls Try.prog 63 #[rptr rb] (((w.drewN m).setCell ⟨rb, 1, none⟩ (.int .i64 (g.place 1))).setCell ⟨rb, 2, none⟩ (.int .i64 ((g.count : Int) - 1))) fun e w' => e = .returned (.tuple #[]) ∧ ∃ g', g'.Wf ∧ g'.row = g.row.tail ∧ RingAt B w0 w' rb g' F) := fun m => by
    rw [show (g.count : Int) - 1 = ((g.count - 1 : Nat) : Int) by omega, ← RG.shifted_row wf hz]
    exact giveBack_ring (((h.drewN m).refirst (g.place 1)).recount (g.count - 1)) (RG.shifted_wf wf hz)
  generalize g.cs.getD (g.place 0) 0 = x at *
  clear h wf hcl ht hz
  go_enter Try.func56, Try.ntmps56
  go_wp2_with fail
  refine ca.out.mono ?_
  rintro e w1 ⟨rfl, m, rfl⟩
  go_wp2_with fail
  refine (cc.out _).mono ?_
  rintro e w1 ⟨rfl, n, rfl⟩
  go_wp2_with fail
  refine (cg.out _).mono ?_
  rintro e w2 ⟨rfl, h2⟩
  replace h2 := Lib.hid h2
  go_wp2_with fail
  go_ret2
  exact ⟨rfl, h2.out⟩

set_option maxHeartbeats 400000 in
theorem all_any (h : RingAt B w0 w rb g F) (wf : g.Wf) : Calls Try.prog 43 #[rptr rb] w fun e w' => ∃ v A, e = .returned v ∧ SlIs 3 1 v g.count (ints g.row) A ∧ RingAt B w0 w' rb g (A ++ F) := by
  have c2 := h.c2
  have ht := wf.top
  have hcl := wf.count
  have hlaid : g.laid g.count = g.row := by simp [RG.laid]
  have cl := laidOut_any h wf g.count (Nat.le_refl _) (by omega)
  rw [hlaid] at cl
  replace cl := Lib.hid cl
  have hsl : SlIs 3 1 (.slice (some ⟨w.heap.size, 0, none⟩) g.count g.count) g.count (ints g.row) [(w.heap.size, intsObj g.row)] :=
    SlIs.made (by rw [ints_len, RG.row_len, Nat.mul_one]) (by unfold maxLen; omega)
  replace hsl := Lib.hid hsl
  clear h ht hcl hlaid
  go_enter Try.func43, Try.ntmps43
  go_wp2_with fail
  refine cl.out.mono ?_
  rintro e w1 ⟨rfl, h1⟩
  have h2 := Lib.hid (RingAt.front h1)
  clear h1
  go_wp2_with fail
  go_ret
  exact ⟨_, _, rfl, hsl.out, h2.out⟩

/-! ### the row that the callers see -/
def RingIs (B : Nat) (w0 w : World) (rb : Nat) (l : List Int) (F : List (Nat × Obj)) : Prop := ∃ g : RG, g.Wf ∧ g.row = l ∧ RingAt B w0 w rb g F

def popR (l : List Int) : Value := match l.getLast? with | none => .tuple #[.int .i64 0, .bool false] | some x => .tuple #[.int .i64 x, .bool true]
def shiftR (l : List Int) : Value := match l.head? with | none => .tuple #[.int .i64 0, .bool false] | some x => .tuple #[.int .i64 x, .bool true]
def atR (l : List Int) (i : Int) : Value := if i < 0 then .tuple #[.int .i64 0, .bool false] else match l[i.toNat]? with | none => .tuple #[.int .i64 0, .bool false] | some x => .tuple #[.int .i64 x, .bool true]

variable {l : List Int}

theorem RingIs.st (h : RingIs B w0 w rb l F) : ∃ X, St B w0 w (X ++ F) ∧ ∀ w' F', St B w0 w' (X ++ F') → RingIs B w0 w' rb l F' := by
  obtain ⟨g, wf, hr, h⟩ := h
  refine ⟨(rb, g.obj) :: g.cellsH, h, fun w' F' h' => ⟨g, wf, hr, h'⟩⟩
theorem RingIs.alloc (h : RingIs B w0 w rb l F) (o : Obj) : RingIs B w0 (w.alloc o) rb l ((w.heap.size, o) :: F) := by
  obtain ⟨X, h1, h2⟩ := h.st
  exact h2 _ _ ((h1.alloc o).perm List.perm_middle.symm)
theorem RingIs.sub {F' : List (Nat × Obj)} (h : RingIs B w0 w rb l F) (hs : F'.Sublist F) : RingIs B w0 w rb l F' := by
  obtain ⟨X, h1, h2⟩ := h.st
  exact h2 _ _ (h1.sub ((List.Sublist.refl X).append hs))
theorem RingIs.perm {F' : List (Nat × Obj)} (h : RingIs B w0 w rb l F) (hp : F.Perm F') : RingIs B w0 w rb l F' := by
  obtain ⟨X, h1, h2⟩ := h.st
  exact h2 _ _ (h1.perm (hp.append_left X))
theorem RingIs.drewN (h : RingIs B w0 w rb l F) (n : Nat) : RingIs B w0 (w.drewN n) rb l F := by
  obtain ⟨X, h1, h2⟩ := h.st
  exact h2 _ _ (h1.drewN n)
theorem RingIs.base (h : RingIs B w0 w rb l F) : B ≤ w.heap.size := by
  obtain ⟨X, h1, h2⟩ := h.st
  exact h1.base
theorem RingIs.below (h : RingIs B w0 w rb l F) : Below B w0 w := by
  obtain ⟨X, h1, h2⟩ := h.st
  exact h1.below
theorem RingIs.cell (h : RingIs B w0 w rb l F) {b : Nat} {c : Array Value} {T : TypeId} (hm : (b, .cells c T) ∈ F) {i : Nat} {v : Value} (hi : c[i]? = some v) : w.cell? ⟨b, i, none⟩ = some v := by
  obtain ⟨X, h1, h2⟩ := h.st
  exact h1.cell (b := b) (i := i) (List.mem_append_right X hm) hi

set_option maxHeartbeats 400000 in
theorem ring_new (h : St B w0 w F) : Calls Try.prog 46 #[] w fun e w' => e = .returned (rptr w.heap.size) ∧ RingIs B w0 w' w.heap.size [] F := by
  have h1 : RingIs B w0 (w.alloc (.cells #[.slice none 0 0, .int .i64 0, .int .i64 0] 85)) w.heap.size [] F :=
    ⟨⟨none, [], 0, 0⟩, ⟨fun _ => rfl, .inr ⟨rfl, rfl⟩, Nat.le_refl _, by simp⟩, rfl, h.alloc _⟩
  replace h1 := Lib.hid h1
  clear h
  go_enter Try.func46, Try.ntmps46
  go_wp2_with fail
  go_ret
  exact ⟨rfl, h1.out⟩

theorem ring_push (h : RingIs B w0 w rb l F) (hl : l.length < 536870912) (n : Int) : Calls Try.prog 58 #[rptr rb, .int .i64 n] w fun e w' => e = .returned (.tuple #[]) ∧ RingIs B w0 w' rb (l ++ [n]) F := by
  obtain ⟨g, wf, rfl, h⟩ := h
  rw [RG.row_len] at hl
  exact push_any h wf hl n
theorem ring_unshift (h : RingIs B w0 w rb l F) (hl : l.length < 536870912) (n : Int) : Calls Try.prog 59 #[rptr rb, .int .i64 n] w fun e w' => e = .returned (.tuple #[]) ∧ RingIs B w0 w' rb (n :: l) F := by
  obtain ⟨g, wf, rfl, h⟩ := h
  rw [RG.row_len] at hl
  exact unshift_any h wf hl n
theorem ring_pop (h : RingIs B w0 w rb l F) : Calls Try.prog 60 #[rptr rb] w fun e w' => e = .returned (popR l) ∧ RingIs B w0 w' rb l.dropLast F := by
  obtain ⟨g, wf, rfl, h⟩ := h
  have hl := RG.row_len g
  by_cases hz : g.count = 0
  · have e : g.row = [] := List.eq_nil_of_length_eq_zero (by omega)
    refine (pop_none h hz).mono ?_
    rintro _ _ ⟨rfl, n, rfl⟩
    rw [e]
    exact ⟨rfl, g, wf, e, h.drewN n⟩
  · have e : g.row.getLast? = some (g.cs.getD (g.place (g.count - 1)) 0) := by
      rw [List.getLast?_eq_getElem?, hl, RG.row_at (by omega)]
    unfold popR
    rw [e]
    exact pop_some h wf (by omega)
theorem ring_shift (h : RingIs B w0 w rb l F) : Calls Try.prog 56 #[rptr rb] w fun e w' => e = .returned (shiftR l) ∧ RingIs B w0 w' rb l.tail F := by
  obtain ⟨g, wf, rfl, h⟩ := h
  have hl := RG.row_len g
  by_cases hz : g.count = 0
  · have e : g.row = [] := List.eq_nil_of_length_eq_zero (by omega)
    refine (shift_none h hz).mono ?_
    rintro _ _ ⟨rfl, n, rfl⟩
    rw [e]
    exact ⟨rfl, g, wf, e, h.drewN n⟩
  · have e : g.row.head? = some (g.cs.getD (g.place 0) 0) := by
      rw [List.head?_eq_getElem?, RG.row_at (by omega)]
    unfold shiftR
    rw [e]
    exact shift_some h wf (by omega)
theorem ring_at (h : RingIs B w0 w rb l F) (i : Int) : Calls Try.prog 51 #[rptr rb, .int .i64 i] w fun e w' => e = .returned (atR l i) ∧ ∃ n, w' = w.drewN n := by
  obtain ⟨g, wf, rfl, h⟩ := h
  have hl := RG.row_len g
  unfold atR
  by_cases h0 : i < 0
  · rw [if_pos h0]
    exact at_none h i (.inl h0)
  · rw [if_neg h0]
    obtain ⟨k, rfl⟩ : ∃ k : Nat, i = k := ⟨i.toNat, by omega⟩
    rw [Int.toNat_natCast]
    by_cases hk : k < g.count
    · rw [RG.row_at hk]
      exact at_some h wf hk
    · rw [List.getElem?_eq_none (by omega)]
      exact at_none h k (.inr (by omega))
theorem ring_len (h : RingIs B w0 w rb l F) : Calls Try.prog 48 #[rptr rb] w fun e w' => e = .returned (.int .i64 l.length) ∧ w = w' := by
  obtain ⟨g, wf, rfl, h⟩ := h
  rw [RG.row_len]
  exact rlen_any h
theorem ring_all (h : RingIs B w0 w rb l F) : Calls Try.prog 43 #[rptr rb] w fun e w' => ∃ v A, e = .returned v ∧ SlIs 3 1 v l.length (ints l) A ∧ RingIs B w0 w' rb l (A ++ F) := by
  obtain ⟨g, wf, rfl, h⟩ := h
  refine (all_any h wf).mono ?_
  rintro e w' ⟨v, A, rfl, hs, h'⟩
  exact ⟨v, A, rfl, by rw [RG.row_len]; exact hs, g, wf, rfl, h'⟩
end
end Go.Proofs.Ytmmagapggmcceaa
