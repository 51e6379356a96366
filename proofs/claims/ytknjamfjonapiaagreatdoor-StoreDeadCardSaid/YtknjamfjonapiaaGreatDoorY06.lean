import Derived.Test.YtknjamfjonapiaaGreatDoorY05
import Derived.Test.YtknjamfjonapiaaGreatDoorY01
import Derived.Test.YtknjamfjonapiaaGreatDoorY03
import Derived.Deep.DeepCutAuto
import Derived.Deep.CutBlock
import Derived.Deep.Fields
import Derived.StillTailTactics
import Derived.Laws.EntriesVeiled
namespace Go.Proofs.YtknjamfjonapiaaGreatDoor
open Go.RowKit
set_option maxRecDepth 100000
section
variable {B : Nat} {w0 w : World} {rb : Nat} {g : RG} {F : List (Nat × Obj)}
theorem RG.moved_obj {b size : Nat} (h : g.count ≤ size) : (g.moved b size).obj = .cells #[.slice (some ⟨b, 0, none⟩) size size, .int .i64 0, .int .i64 g.count] 305 := by
 simp [RG.obj, RG.sl, RG.moved, RG.laid_len h]
set_option maxHeartbeats 400000 in
theorem moveTo_any (h : RingAt B w0 w rb g F) (wf : g.Wf) (size : Int) (hs : (g.count : Int) ≤ size) (hs1 : size ≤ 1073741824) :
  Calls Tryz.prog 299 #[rptr rb, .int .i64 size] w fun e w' => e = .returned (.tuple #[]) ∧ ∃ b, RingAt B w0 w' rb (g.moved b size.toNat) F := by
 obtain ⟨s, rfl⟩ : ∃ s : Nat, size = s := ⟨size.toNat, by omega⟩
 rw [Int.toNat_natCast]
 have hcs : g.count ≤ s := by omega
 have cl := Lib.hid (laidOut_any h wf s hcs (by omega))
 have fin : Hid (∀ w', St B w0 w' ((w.heap.size, intsObj (g.laid s)) :: (rb, g.obj) :: (g.cellsH ++ F)) →
   RingAt B w0 ((w'.setCell ⟨rb, 0, none⟩ (.slice (some ⟨w.heap.size, 0, none⟩) s s)).setCell ⟨rb, 1, none⟩ (.int .i64 0)) rb (g.moved w.heap.size s) F) := by
  intro w' h'
  have h2 := (h'.perm (List.Perm.swap _ _ _)).set0 0 (.slice (some ⟨w.heap.size, 0, none⟩) s s)
  have h3 := h2.set0 1 (.int .i64 0)
  unfold RingAt
  rw [RG.moved_obj hcs]
  refine h3.sub ?_
  refine .cons_cons _ ?_
  show (([(w.heap.size, intsObj (g.laid s))] : List (Nat × Obj)) ++ F).Sublist ((w.heap.size, intsObj (g.laid s)) :: (g.cellsH ++ F))
  exact .cons_cons _ (List.sublist_append_right _ _)
 have fin2 : Hid (∀ w', St B w0 w' ((w.heap.size, intsObj (g.laid s)) :: (rb, g.obj) :: (g.cellsH ++ F)) → w'.cell? ⟨rb, 0, none⟩ = some g.sl ∧ w'.cell? ⟨rb, 1, none⟩ = some (.int .i64 g.first) ∧ ∀ i, w'.frozen? ⟨rb, i, none⟩ = false) := by
  intro w' h'
  have := RingAt.front h'
  exact ⟨this.c0, this.c1, this.soft⟩
 clear h wf hs hs1
 go_enter Tryz.func299, Tryz.ntmps299
 go_wp2_with fail
 refine cl.out.mono ?_
 rintro e w1 ⟨rfl, h1⟩
 obtain ⟨c0, c1, cf⟩ := fin2.out w1 h1
 have f0 := cf 0
 have f1 := cf 1
 have h1 := Lib.hid h1
 clear cf cl fin2
 go_wp2_with fail
 exact bodyPost_end (results_none rfl _ _ _) rfl ⟨rfl, w.heap.size, fin.out _ h1.out⟩
set_option maxHeartbeats 400000 in
theorem makeRoom_any (h : RingAt B w0 w rb g F) (wf : g.Wf) (hc : g.count < 536870912) :
  Calls Tryz.prog 281 #[rptr rb] w fun e w' => e = .returned (.tuple #[]) ∧ ∃ g', g'.Wf ∧ g'.row = g.row ∧ g'.count = g.count ∧ g'.count < g'.cs.length ∧ RingAt B w0 w' rb g' F := by
 have c0 := h.c0
 have c2 := h.c2
 obtain ⟨a, ha⟩ := wf.header
 rw [ha] at c0
 have ht := wf.top
 have hcl := wf.count
 by_cases hfull : g.count = g.cs.length
 ·have hb : ((g.count : Int) == g.cs.length) = true := by rw [beq_iff_eq]; omega
  have cm : Hid (∀ n (q : Int), (g.count : Int) < q → q ≤ 1073741824 → Calls Tryz.prog 299 #[rptr rb, .int .i64 q] (w.drewN n) fun e w' => e = .returned (.tuple #[]) ∧ ∃ g', g'.Wf ∧ g'.row = g.row ∧ g'.count = g.count ∧ g'.count < g'.cs.length ∧ RingAt B w0 w' rb g' F) :=
   fun n q h1 h2 => (moveTo_any (h.drewN n) wf q (by omega) h2).mono fun _ _ ⟨he, b, hw⟩ => ⟨he, _, RG.moved_wf (by omega) (by omega), RG.moved_row (by omega), rfl, by simp only [RG.moved, RG.laid_len (show g.count ≤ q.toNat by omega)]; omega, hw⟩
  have hN0 : (0 : Int) ≤ g.cs.length := by omega
  have hN1 : (g.cs.length : Int) ≤ 536870912 := by omega
  have hN2 : (g.count : Int) ≤ g.cs.length := by omega
  have hN3 : (g.cs.length : Int) ≤ 536870911 := by omega
  clear h wf hcl ht hfull ha
  go_enter Tryz.func281, Tryz.ntmps281
  go_wp2_with fail
  go_quiet (fail)
  go_wp2_with fail
  all_goals
   refine (cm.out _ _ (by omega) (by omega)).mono ?_
   rintro e w' ⟨rfl, hg⟩
   have hg := Lib.hid hg
   go_wp2_with fail
   exact bodyPost_end (results_none rfl _ _ _) rfl ⟨rfl, hg.out⟩
 ·have hb : ((g.count : Int) == g.cs.length) = false := by rw [beq_eq_false_iff_ne]; omega
  have fin := Lib.hid (fun n => h.drewN n)
  have hlt : g.count < g.cs.length := by omega
  have hlt := Lib.hid hlt
  clear h hcl ht hfull ha
  go_enter Tryz.func281, Tryz.ntmps281
  go_wp2_with fail
  go_quiet (fail)
  go_wp2_with fail
  exact bodyPost_end (results_none rfl _ _ _) rfl ⟨rfl, g, wf, rfl, rfl, hlt.out, fin.out _⟩
set_option maxHeartbeats 400000 in
theorem giveBack_ring (h : RingAt B w0 w rb g F) (wf : g.Wf) :
  Calls Tryz.prog 280 #[rptr rb] w fun e w' => e = .returned (.tuple #[]) ∧ ∃ g', g'.Wf ∧ g'.row = g.row ∧ RingAt B w0 w' rb g' F := by
 have c0 := h.c0
 have c2 := h.c2
 obtain ⟨a, ha⟩ := wf.header
 rw [ha] at c0
 have ht := wf.top
 have hcl := wf.count
 have hN0 : (0 : Int) ≤ g.cs.length := by omega
 have hN1 : (g.cs.length : Int) ≤ 1073741824 := by omega
 have fin := Lib.hid (fun n => h.drewN n)
 have cm : Hid (∀ n (q : Int), (g.count : Int) ≤ q → q ≤ 1073741824 → Calls Tryz.prog 299 #[rptr rb, .int .i64 q] (w.drewN n) fun e w' => e = .returned (.tuple #[]) ∧ ∃ g', g'.Wf ∧ g'.row = g.row ∧ RingAt B w0 w' rb g' F) :=
  fun n q h1 h2 => (moveTo_any (h.drewN n) wf q (by omega) h2).mono fun _ _ ⟨he, b, hw⟩ => ⟨he, _, RG.moved_wf (by omega) (by omega), RG.moved_row (by omega), hw⟩
 have wf := Lib.hid wf
 clear h ha
 by_cases h8 : (8 : Int) < g.cs.length
 ·by_cases hq : (g.count : Int) ≤ (g.cs.length : Int) / 4
  ·have hq2 : (g.count : Int) ≤ (g.cs.length : Int) / 2 := by omega
   have hq3 : (g.cs.length : Int) / 2 ≤ 1073741824 := by omega
   clear hcl ht
   go_enter Tryz.func280, Tryz.ntmps280
   go_wp2_with fail
   go_quiet (fail)
   go_wp2_with fail
   refine (cm.out _ _ hq2 hq3).mono ?_
   rintro e w' ⟨rfl, hg⟩
   have hg := Lib.hid hg
   go_wp2_with fail
   exact bodyPost_end (results_none rfl _ _ _) rfl ⟨rfl, hg.out⟩
  ·have hq' : decide ((g.count : Int) ≤ (g.cs.length : Int) / 4) = false := by simpa using hq
   clear hcl ht hq
   go_enter Tryz.func280, Tryz.ntmps280
   go_wp2_with fail
   go_quiet (fail)
   go_wp2_with fail
   exact bodyPost_end (results_none rfl _ _ _) rfl ⟨rfl, g, wf.out, rfl, fin.out _⟩
 ·have h8' : decide ((8 : Int) < g.cs.length) = false := by simpa using h8
  clear hcl ht h8
  go_enter Tryz.func280, Tryz.ntmps280
  go_wp2_with fail
  go_quiet (fail)
  go_wp2_with fail
  exact bodyPost_end (results_none rfl _ _ _) rfl ⟨rfl, g, wf.out, rfl, fin.out _⟩
set_option maxHeartbeats 1000000 in
theorem push_any (h : RingAt B w0 w rb g F) (wf : g.Wf) (hc : g.count < 536870912) (n : Int) :
  Calls Tryz.prog 255 #[rptr rb, .int .i64 n] w fun e w' => e = .returned (.tuple #[]) ∧ ∃ g', g'.Wf ∧ g'.row = g.row ++ [n] ∧ RingAt B w0 w' rb g' F := by
 have cm := Lib.hid (makeRoom_any h wf hc)
 clear h wf
 go_enter Tryz.func255, Tryz.ntmps255
 go_wp2_with fail
 refine cm.out.mono ?_
 rintro e w1 ⟨rfl, g1, wf1, hrow, hcnt, hlt, h1⟩
 have ht := wf1.top
 have hp : 0 < g1.cs.length := by omega
 have hpl := RG.place_lt hp g1.count
 obtain ⟨b, hb, hsl, hH⟩ := wf1.block hp
 have c0 := h1.c0
 have c2 := h1.c2
 have cf := h1.soft 2
 have hpush := RG.pushed_row wf1 hlt n
 rw [hrow] at hpush
 have hpush := Lib.hid hpush
 have hwf := Lib.hid (RG.pushed_wf wf1 hlt n)
 have cc : Hid (∀ n, Calls Tryz.prog 270 #[rptr rb, .int .i64 g1.count] (w1.drewN n) fun e w'' => e = .returned (.int .i64 (g1.place g1.count)) ∧ ∃ m, w'' = (w1.drewN n).drewN m) := fun n => by
  have := cellOf_any (h1.drewN n) wf1 hp g1.count (by omega) (by omega)
  rw [Int.toNat_natCast] at this
  exact this
 rw [hsl] at c0
 have h2 : St B w0 w1 ((b, intsObj g1.cs) :: (rb, g1.obj) :: F) := by
  have h := h1
  unfold RingAt at h
  rw [hH] at h
  exact h.perm (List.Perm.swap _ _ _)
 have hne : b ≠ rb := h2.ne List.mem_cons_self
 have hk2 : g1.place g1.count < (ints g1.cs).length := by rw [ints_len]; exact hpl
 have sc : w1.cell? ⟨b, g1.place g1.count, none⟩ = some ((ints g1.cs)[g1.place g1.count]) := h2.cell (b := b) (c := (ints g1.cs).toArray) (T := 3) (fr := (0, 0)) List.mem_cons_self (i := g1.place g1.count) (by simp [hk2])
 have sf := St.soft (b := b) (c := (ints g1.cs).toArray) (T := 3) h2 List.mem_cons_self (g1.place g1.count)
 have hst : Hid (∀ m, RingAt B w0 (((w1.drewN m).setCell ⟨b, g1.place g1.count, none⟩ (.int .i64 n)).setCell ⟨rb, 2, none⟩ (.int .i64 ((g1.count : Int) + 1))) rb (g1.pushed n) F) := fun m => by
  have h3 := (h2.drewN m).set0 (g1.place g1.count) (.int .i64 n)
  rw [List.setIfInBounds_toArray, ints_set] at h3
  have h4 := (h3.perm (List.Perm.swap _ _ _)).set0 2 (.int .i64 ((g1.count : Int) + 1))
  unfold RingAt
  have e1 : (g1.pushed n).cellsH = [(b, intsObj (g1.pushed n).cs)] := by simp [RG.cellsH, RG.pushed, hb]
  have e2 : (g1.pushed n).obj = .cells #[.slice (some ⟨b, 0, none⟩) g1.cs.length g1.cs.length, .int .i64 g1.first, .int .i64 ((g1.count : Int) + 1)] 305 := by simp [RG.obj, RG.sl, RG.pushed, hb]
  rw [e1, e2, ← hsl]
  exact h4
 have hq0 : (0 : Int) ≤ g1.place g1.count := by omega
 have hq1 : (g1.place g1.count : Int) < g1.cs.length := by omega
 have hi1 : (g1.count : Int) ≤ 536870912 := by omega
 have hkeep : Hid (∀ m, ((w1.drewN m).setCell ⟨b, g1.place g1.count, none⟩ (.int .i64 n)).cell? ⟨rb, 0, none⟩ = some (.slice (some ⟨b, 0, none⟩) g1.cs.length g1.cs.length) ∧
   ((w1.drewN m).setCell ⟨b, g1.place g1.count, none⟩ (.int .i64 n)).cell? ⟨rb, 2, none⟩ = some (.int .i64 g1.count)) := fun m => by
  refine ⟨?_, ?_⟩ <;> rw [World.cell?_setCell_other _ _ _ _ (by intro e; exact hne (congrArg Addr.block e))] <;> simpa
 have hn' := hne
 have hn' := Lib.hid hn'
 generalize (ints g1.cs)[g1.place g1.count] = u at *
 generalize hq : g1.place g1.count = q at *
 clear h1 wf1 hrow hcnt hlt ht hp hpl hb hH h2 hk2 hq hsl cm
 go_wp2_with fail
 go_region_held3 (fun w'' => w''.cell? ⟨rb, 0, none⟩ = some (.slice (some ⟨b, 0, none⟩) g1.cs.length g1.cs.length) ∧ w''.cell? ⟨rb, 2, none⟩ = some (.int .i64 g1.count)) (first | exact hkeep.out _ | go_keep) ((go_at_call 270; refine (cc.out _).mono ?_; rintro e w'' ⟨rfl, m, rfl⟩))
 have hk := (hkeep.out (1 + m)).2
 go_wp2_with fail
 exact bodyPost_end (results_none rfl _ _ _) rfl ⟨rfl, _, hwf.out, hpush.out, hst.out _⟩
end
end Go.Proofs.YtknjamfjonapiaaGreatDoor
namespace Go.Proofs.YtknjamfjonapiaaGreatDoor
open Go.RowKit
set_option maxRecDepth 100000
section
variable {B : Nat} {w0 w : World} {rb : Nat} {g : RG} {F : List (Nat × Obj)}
set_option maxHeartbeats 1000000 in
theorem unshift_any (h : RingAt B w0 w rb g F) (wf : g.Wf) (hc : g.count < 536870912) (n : Int) :
  Calls Tryz.prog 300 #[rptr rb, .int .i64 n] w fun e w' => e = .returned (.tuple #[]) ∧ ∃ g', g'.Wf ∧ g'.row = n :: g.row ∧ RingAt B w0 w' rb g' F := by
 have cm := Lib.hid (makeRoom_any h wf hc)
 clear h wf
 go_enter Tryz.func300, Tryz.ntmps300
 go_wp2_with fail
 refine cm.out.mono ?_
 rintro e w1 ⟨rfl, g1, wf1, hrow, hcnt, hlt, h1⟩
 have ht := wf1.top
 have hp : 0 < g1.cs.length := by omega
 obtain ⟨b, hb, hsl, hH⟩ := wf1.block hp
 have c0 := h1.c0
 have c1 := h1.c1
 have c2 := h1.c2
 have cf := h1.soft 2
 have cf1 := h1.soft 1
 have hun := RG.unshifted_row wf1 hlt n
 rw [hrow] at hun
 replace hun := Lib.hid hun
 have hwf := Lib.hid (RG.unshifted_wf wf1 hlt n)
 have cc : Hid (Calls Tryz.prog 270 #[rptr rb, .int .i64 ((g1.cs.length : Int) - 1)] w1 fun e w'' => e = .returned (.int .i64 g1.ahead) ∧ ∃ m, w'' = w1.drewN m) := by
  have := cellOf_any h1 wf1 hp ((g1.cs.length : Int) - 1) (by omega) (by omega)
  rw [show ((g1.cs.length : Int) - 1).toNat = g1.cs.length - 1 by omega] at this
  exact this
 rw [hsl] at c0
 have h2 : St B w0 w1 ((b, intsObj g1.cs) :: (rb, g1.obj) :: F) := by
  have h := h1
  unfold RingAt at h
  rw [hH] at h
  exact h.perm (List.Perm.swap _ _ _)
 have hal : g1.ahead < g1.cs.length := RG.place_lt hp _
 have hne : b ≠ rb := h2.ne List.mem_cons_self
 have hk2 : g1.ahead < (ints g1.cs).length := by rw [ints_len]; exact hal
 have h3 : ∀ m, St B w0 ((w1.drewN m).setCell ⟨rb, 1, none⟩ (.int .i64 g1.ahead)) ((b, intsObj g1.cs) :: (rb, .cells #[g1.sl, .int .i64 g1.ahead, .int .i64 g1.count] 305) :: F) := fun m =>
  (((h2.drewN m).perm (List.Perm.swap _ _ _)).set0 1 (.int .i64 g1.ahead)).perm (List.Perm.swap _ _ _)
 have sc : ∀ m, ((w1.drewN m).setCell ⟨rb, 1, none⟩ (.int .i64 g1.ahead)).cell? ⟨b, g1.ahead, none⟩ = some ((ints g1.cs)[g1.ahead]) := fun m =>
  (h3 m).cell (b := b) (c := (ints g1.cs).toArray) (T := 3) (fr := (0, 0)) List.mem_cons_self (i := g1.ahead) (by simp [hk2])
 have sf : ∀ m, ((w1.drewN m).setCell ⟨rb, 1, none⟩ (.int .i64 g1.ahead)).frozen? ⟨b, g1.ahead, none⟩ = false := fun m => St.soft (b := b) (c := (ints g1.cs).toArray) (T := 3) (h3 m) List.mem_cons_self g1.ahead
 have hst : Hid (∀ m q, RingAt B w0 (((((w1.drewN m).setCell ⟨rb, 1, none⟩ (.int .i64 g1.ahead)).drewN q).setCell ⟨b, g1.ahead, none⟩ (.int .i64 n)).setCell ⟨rb, 2, none⟩ (.int .i64 ((g1.count : Int) + 1))) rb (g1.unshifted n) F) := fun m q => by
  have h4 := ((h3 m).drewN q).set0 g1.ahead (.int .i64 n)
  rw [List.setIfInBounds_toArray, ints_set] at h4
  have h5 := (h4.perm (List.Perm.swap _ _ _)).set0 2 (.int .i64 ((g1.count : Int) + 1))
  unfold RingAt
  have e1 : (g1.unshifted n).cellsH = [(b, intsObj (g1.unshifted n).cs)] := by simp [RG.cellsH, RG.unshifted, hb]
  have e2 : (g1.unshifted n).obj = .cells #[.slice (some ⟨b, 0, none⟩) g1.cs.length g1.cs.length, .int .i64 g1.ahead, .int .i64 ((g1.count : Int) + 1)] 305 := by simp [RG.obj, RG.sl, RG.unshifted, hb]
  rw [e1, e2, ← hsl]
  exact h5
 have hq0 : (0 : Int) ≤ g1.ahead := by omega
 have hq1 : (g1.ahead : Int) < g1.cs.length := by omega
 have hi1 : (g1.count : Int) ≤ 536870912 := by omega
 have hN1 : (1 : Int) ≤ g1.cs.length := by omega
 have hN2 : (g1.cs.length : Int) ≤ 1073741824 := by omega
 generalize (ints g1.cs)[g1.ahead] = u at *
 generalize hq : g1.ahead = q at *
 replace sc := Lib.hid sc
 replace sf := Lib.hid sf
 replace hne := Lib.hid hne
 clear h1 wf1 hrow hcnt hlt ht hp hb hH h2 h3 hk2 hq hsl cm hal
 go_wp2_with fail
 refine cc.out.mono ?_
 rintro e w2 ⟨rfl, m, rfl⟩
 have sc1 := sc.out m
 have sf1 := sf.out m
 have k0 : ((w1.drewN m).setCell ⟨rb, 1, none⟩ (.int .i64 q)).cell? ⟨rb, 0, none⟩ = some (.slice (some ⟨b, 0, none⟩) g1.cs.length g1.cs.length) := by rw [World.cell?_setCell_other _ _ _ _ (by simp)]; simpa
 have k1 : ((w1.drewN m).setCell ⟨rb, 1, none⟩ (.int .i64 q)).cell? ⟨rb, 1, none⟩ = some (.int .i64 q) := World.cell?_setCell_same _ _ _ (by simpa using c1)
 have k2 : ((w1.drewN m).setCell ⟨rb, 1, none⟩ (.int .i64 q)).cell? ⟨rb, 2, none⟩ = some (.int .i64 g1.count) := by rw [World.cell?_setCell_other _ _ _ _ (by simp)]; simpa
 have kf : ((w1.drewN m).setCell ⟨rb, 1, none⟩ (.int .i64 q)).frozen? ⟨rb, 2, none⟩ = false := by simpa
 have hst := Lib.hid (hst.out m)
 go_wp2_with fail
 clear sc sf cc c0 c1 c2 cf cf1
 generalize (w1.drewN m).setCell ⟨rb, 1, none⟩ (.int .i64 q) = W at *
 have hkeep : Hid (∀ j, ((W.drewN j).setCell ⟨b, q, none⟩ (.int .i64 n)).cell? ⟨rb, 0, none⟩ = some (.slice (some ⟨b, 0, none⟩) g1.cs.length g1.cs.length) ∧ ((W.drewN j).setCell ⟨b, q, none⟩ (.int .i64 n)).cell? ⟨rb, 1, none⟩ = some (.int .i64 q) ∧
   ((W.drewN j).setCell ⟨b, q, none⟩ (.int .i64 n)).cell? ⟨rb, 2, none⟩ = some (.int .i64 g1.count)) := fun j => by
  refine ⟨?_, ?_, ?_⟩ <;> rw [World.cell?_setCell_other _ _ _ _ (by intro e; exact hne.out (congrArg Addr.block e))] <;> simpa
 go_region_held3 (fun w'' => w''.cell? ⟨rb, 0, none⟩ = some (.slice (some ⟨b, 0, none⟩) g1.cs.length g1.cs.length) ∧ w''.cell? ⟨rb, 1, none⟩ = some (.int .i64 q) ∧ w''.cell? ⟨rb, 2, none⟩ = some (.int .i64 g1.count)) (first | exact hkeep.out 1 | exact hkeep.out _ | go_keep) (fail)
 have hk := (hkeep.out 1).2.2
 go_wp2_with fail
 exact bodyPost_end (results_none rfl _ _ _) rfl ⟨rfl, _, hwf.out, hun.out, hst.out 1⟩
set_option maxHeartbeats 400000 in
theorem pop_none (h : RingAt B w0 w rb g F) (hz : g.count = 0) : Calls Tryz.prog 301 #[rptr rb] w fun e w' => e = .returned (.tuple #[.int .i64 0, .bool false]) ∧ ∃ n, w' = w.drewN n := by
 have c2 := h.c2
 rw [hz] at c2
 have ca := Lib.hid (at_none h (-1) (by omega))
 clear h hz
 go_enter Tryz.func301, Tryz.ntmps301
 go_wp2_with fail
 refine ca.out.mono ?_
 rintro e w1 ⟨rfl, m, rfl⟩
 go_wp2_with fail
 go_ret2
 exact ⟨rfl, _, rfl⟩
theorem RingAt.recount (h : RingAt B w0 w rb g F) (k : Nat) : RingAt B w0 (w.setCell ⟨rb, 2, none⟩ (.int .i64 k)) rb { g with count := k } F := h.set0 2 (.int .i64 k)
theorem RingAt.refirst (h : RingAt B w0 w rb g F) (k : Nat) : RingAt B w0 (w.setCell ⟨rb, 1, none⟩ (.int .i64 k)) rb { g with first := k } F := h.set0 1 (.int .i64 k)
set_option maxHeartbeats 400000 in
theorem pop_some (h : RingAt B w0 w rb g F) (wf : g.Wf) (hz : 0 < g.count) : Calls Tryz.prog 301 #[rptr rb] w fun e w' => e = .returned (.tuple #[.int .i64 (g.cs.getD (g.place (g.count - 1)) 0), .bool true]) ∧ ∃ g', g'.Wf ∧ g'.row = g.row.dropLast ∧ RingAt B w0 w' rb g' F := by
 have c2 := h.c2
 have cf := h.soft 2
 have ht := wf.top
 have hcl := wf.count
 have hc0 : (1 : Int) ≤ g.count := by omega
 have hc1 : (g.count : Int) ≤ 1073741824 := by omega
 have ca := at_some h wf (i := g.count - 1) (by omega)
 rw [show ((g.count - 1 : Nat) : Int) = (g.count : Int) - 1 by omega] at ca
 replace ca := Lib.hid ca
 have cg : Hid (∀ m, Calls Tryz.prog 280 #[rptr rb] ((w.drewN m).setCell ⟨rb, 2, none⟩ (.int .i64 ((g.count : Int) - 1))) fun e w' => e = .returned (.tuple #[]) ∧ ∃ g', g'.Wf ∧ g'.row = g.row.dropLast ∧ RingAt B w0 w' rb g' F) := fun m => by
  rw [show (g.count : Int) - 1 = ((g.count - 1 : Nat) : Int) by omega, ← RG.popped_row g]
  exact giveBack_ring ((h.drewN m).recount (g.count - 1)) (RG.popped_wf wf)
 generalize g.cs.getD (g.place (g.count - 1)) 0 = x at *
 clear h wf hcl ht hz
 go_enter Tryz.func301, Tryz.ntmps301
 go_wp2_with fail
 refine ca.out.mono ?_
 rintro e w1 ⟨rfl, m, rfl⟩
 go_wp2_with fail
 refine (cg.out _).mono ?_
 rintro e w2 ⟨rfl, h2⟩
 replace h2 := Lib.hid h2
 go_wp2_with fail
 go_ret2
 exact ⟨rfl, h2.out⟩
set_option maxHeartbeats 400000 in
theorem shift_none (h : RingAt B w0 w rb g F) (hz : g.count = 0) : Calls Tryz.prog 253 #[rptr rb] w fun e w' => e = .returned (.tuple #[.int .i64 0, .bool false]) ∧ ∃ n, w' = w.drewN n := by
 have ca := Lib.hid (at_none h 0 (by omega))
 clear h hz
 go_enter Tryz.func253, Tryz.ntmps253
 go_wp2_with fail
 refine ca.out.mono ?_
 rintro e w1 ⟨rfl, m, rfl⟩
 go_wp2_with fail
 go_ret2
 exact ⟨rfl, _, rfl⟩
set_option maxHeartbeats 400000 in
theorem shift_some (h : RingAt B w0 w rb g F) (wf : g.Wf) (hz : 0 < g.count) : Calls Tryz.prog 253 #[rptr rb] w fun e w' => e = .returned (.tuple #[.int .i64 (g.cs.getD (g.place 0) 0), .bool true]) ∧ ∃ g', g'.Wf ∧ g'.row = g.row.tail ∧ RingAt B w0 w' rb g' F := by
 have c1 := h.c1
 have c2 := h.c2
 have cf1 := h.soft 1
 have cf := h.soft 2
 have ht := wf.top
 have hcl := wf.count
 have hc0 : (1 : Int) ≤ g.count := by omega
 have hc1 : (g.count : Int) ≤ 1073741824 := by omega
 have ca := at_some h wf (i := 0) (by omega)
 replace ca := Lib.hid ca
 have cc : Hid (∀ m, Calls Tryz.prog 270 #[rptr rb, .int .i64 1] (w.drewN m) fun e w'' => e = .returned (.int .i64 (g.place 1)) ∧ ∃ n, w'' = (w.drewN m).drewN n) :=
  fun m => cellOf_any (h.drewN m) wf (by omega) 1 (by omega) (by omega)
 have cg : Hid (∀ m, Calls Tryz.prog 280 #[rptr rb] (((w.drewN m).setCell ⟨rb, 1, none⟩ (.int .i64 (g.place 1))).setCell ⟨rb, 2, none⟩ (.int .i64 ((g.count : Int) - 1))) fun e w' => e = .returned (.tuple #[]) ∧ ∃ g', g'.Wf ∧ g'.row = g.row.tail ∧ RingAt B w0 w' rb g' F) := fun m => by
  rw [show (g.count : Int) - 1 = ((g.count - 1 : Nat) : Int) by omega, ← RG.shifted_row wf hz]
  exact giveBack_ring (((h.drewN m).refirst (g.place 1)).recount (g.count - 1)) (RG.shifted_wf wf hz)
 generalize g.cs.getD (g.place 0) 0 = x at *
 clear h wf hcl ht hz
 go_enter Tryz.func253, Tryz.ntmps253
 go_wp2_with fail
 refine ca.out.mono ?_
 rintro e w1 ⟨rfl, m, rfl⟩
 go_wp2_with fail
 refine (cc.out _).mono ?_
 rintro e w1 ⟨rfl, n, rfl⟩
 go_wp2_with fail
 refine (cg.out _).mono ?_
 rintro e w2 ⟨rfl, h2⟩
 replace h2 := Lib.hid h2
 go_wp2_with fail
 go_ret2
 exact ⟨rfl, h2.out⟩
set_option maxHeartbeats 400000 in
theorem all_any (h : RingAt B w0 w rb g F) (wf : g.Wf) : Calls Tryz.prog 192 #[rptr rb] w fun e w' => ∃ v A, e = .returned v ∧ SlIs 3 1 v g.count (ints g.row) A ∧ RingAt B w0 w' rb g (A ++ F) := by
 have c2 := h.c2
 have ht := wf.top
 have hcl := wf.count
 have hlaid : g.laid g.count = g.row := by simp [RG.laid]
 have cl := laidOut_any h wf g.count (Nat.le_refl _) (by omega)
 rw [hlaid] at cl
 replace cl := Lib.hid cl
 have hsl : SlIs 3 1 (.slice (some ⟨w.heap.size, 0, none⟩) g.count g.count) g.count (ints g.row) [(w.heap.size, intsObj g.row)] :=
  SlIs.made (by rw [ints_len, RG.row_len, Nat.mul_one]) (by unfold maxLen; omega)
 replace hsl := Lib.hid hsl
 clear h ht hcl hlaid
 go_enter Tryz.func192, Tryz.ntmps192
 go_wp2_with fail
 refine cl.out.mono ?_
 rintro e w1 ⟨rfl, h1⟩
 have h2 := Lib.hid (RingAt.front h1)
 clear h1
 go_wp2_with fail
 go_ret
 exact ⟨_, _, rfl, hsl.out, h2.out⟩
def RingIs (B : Nat) (w0 w : World) (rb : Nat) (l : List Int) (F : List (Nat × Obj)) : Prop := ∃ g : RG, g.Wf ∧ g.row = l ∧ RingAt B w0 w rb g F
def popR (l : List Int) : Value := match l.getLast? with | none => .tuple #[.int .i64 0, .bool false] | some x => .tuple #[.int .i64 x, .bool true]
def shiftR (l : List Int) : Value := match l.head? with | none => .tuple #[.int .i64 0, .bool false] | some x => .tuple #[.int .i64 x, .bool true]
def atR (l : List Int) (i : Int) : Value := if i < 0 then .tuple #[.int .i64 0, .bool false] else match l[i.toNat]? with | none => .tuple #[.int .i64 0, .bool false] | some x => .tuple #[.int .i64 x, .bool true]
variable {l : List Int}
theorem RingIs.st (h : RingIs B w0 w rb l F) : ∃ X, St B w0 w (X ++ F) ∧ ∀ w' F', St B w0 w' (X ++ F') → RingIs B w0 w' rb l F' := by
 obtain ⟨g, wf, hr, h⟩ := h
 refine ⟨(rb, g.obj) :: g.cellsH, h, fun w' F' h' => ⟨g, wf, hr, h'⟩⟩
theorem RingIs.alloc (h : RingIs B w0 w rb l F) (o : Obj) : RingIs B w0 (w.alloc o) rb l ((w.heap.size, o) :: F) := by
 obtain ⟨X, h1, h2⟩ := h.st
 exact h2 _ _ ((h1.alloc o).perm List.perm_middle.symm)
theorem RingIs.sub {F' : List (Nat × Obj)} (h : RingIs B w0 w rb l F) (hs : F'.Sublist F) : RingIs B w0 w rb l F' := by
 obtain ⟨X, h1, h2⟩ := h.st
 exact h2 _ _ (h1.sub ((List.Sublist.refl X).append hs))
theorem RingIs.perm {F' : List (Nat × Obj)} (h : RingIs B w0 w rb l F) (hp : F.Perm F') : RingIs B w0 w rb l F' := by
 obtain ⟨X, h1, h2⟩ := h.st
 exact h2 _ _ (h1.perm (hp.append_left X))
theorem RingIs.drewN (h : RingIs B w0 w rb l F) (n : Nat) : RingIs B w0 (w.drewN n) rb l F := by
 obtain ⟨X, h1, h2⟩ := h.st
 exact h2 _ _ (h1.drewN n)
theorem RingIs.base (h : RingIs B w0 w rb l F) : B ≤ w.heap.size := by
 obtain ⟨X, h1, h2⟩ := h.st
 exact h1.base
theorem RingIs.below (h : RingIs B w0 w rb l F) : Below B w0 w := by
 obtain ⟨X, h1, h2⟩ := h.st
 exact h1.below
theorem RingIs.cell (h : RingIs B w0 w rb l F) {b : Nat} {c : Array Value} {T : TypeId} (hm : (b, .cells c T) ∈ F) {i : Nat} {v : Value} (hi : c[i]? = some v) : w.cell? ⟨b, i, none⟩ = some v := by
 obtain ⟨X, h1, h2⟩ := h.st
 exact h1.cell (b := b) (i := i) (List.mem_append_right X hm) hi
set_option maxHeartbeats 400000 in
theorem ring_new (h : St B w0 w F) : Calls Tryz.prog 292 #[] w fun e w' => e = .returned (rptr w.heap.size) ∧ RingIs B w0 w' w.heap.size [] F := by
 have h1 : RingIs B w0 (w.alloc (.cells #[.slice none 0 0, .int .i64 0, .int .i64 0] 305)) w.heap.size [] F :=
  ⟨⟨none, [], 0, 0⟩, ⟨fun _ => rfl, .inr ⟨rfl, rfl⟩, Nat.le_refl _, by simp⟩, rfl, h.alloc _⟩
 replace h1 := Lib.hid h1
 clear h
 go_enter Tryz.func292, Tryz.ntmps292
 go_wp2_with fail
 go_ret
 exact ⟨rfl, h1.out⟩
theorem ring_push (h : RingIs B w0 w rb l F) (hl : l.length < 536870912) (n : Int) : Calls Tryz.prog 255 #[rptr rb, .int .i64 n] w fun e w' => e = .returned (.tuple #[]) ∧ RingIs B w0 w' rb (l ++ [n]) F := by
 obtain ⟨g, wf, rfl, h⟩ := h
 rw [RG.row_len] at hl
 exact push_any h wf hl n
theorem ring_unshift (h : RingIs B w0 w rb l F) (hl : l.length < 536870912) (n : Int) : Calls Tryz.prog 300 #[rptr rb, .int .i64 n] w fun e w' => e = .returned (.tuple #[]) ∧ RingIs B w0 w' rb (n :: l) F := by
 obtain ⟨g, wf, rfl, h⟩ := h
 rw [RG.row_len] at hl
 exact unshift_any h wf hl n
theorem ring_pop (h : RingIs B w0 w rb l F) : Calls Tryz.prog 301 #[rptr rb] w fun e w' => e = .returned (popR l) ∧ RingIs B w0 w' rb l.dropLast F := by
 obtain ⟨g, wf, rfl, h⟩ := h
 have hl := RG.row_len g
 by_cases hz : g.count = 0
 ·have e : g.row = [] := List.eq_nil_of_length_eq_zero (by omega)
  refine (pop_none h hz).mono ?_
  rintro _ _ ⟨rfl, n, rfl⟩
  rw [e]
  exact ⟨rfl, g, wf, e, h.drewN n⟩
 ·have e : g.row.getLast? = some (g.cs.getD (g.place (g.count - 1)) 0) := by
   rw [List.getLast?_eq_getElem?, hl, RG.row_at (by omega)]
  unfold popR
  rw [e]
  exact pop_some h wf (by omega)
theorem ring_shift (h : RingIs B w0 w rb l F) : Calls Tryz.prog 253 #[rptr rb] w fun e w' => e = .returned (shiftR l) ∧ RingIs B w0 w' rb l.tail F := by
 obtain ⟨g, wf, rfl, h⟩ := h
 have hl := RG.row_len g
 by_cases hz : g.count = 0
 ·have e : g.row = [] := List.eq_nil_of_length_eq_zero (by omega)
  refine (shift_none h hz).mono ?_
  rintro _ _ ⟨rfl, n, rfl⟩
  rw [e]
  exact ⟨rfl, g, wf, e, h.drewN n⟩
 ·have e : g.row.head? = some (g.cs.getD (g.place 0) 0) := by
   rw [List.head?_eq_getElem?, RG.row_at (by omega)]
  unfold shiftR
  rw [e]
  exact shift_some h wf (by omega)
theorem ring_at (h : RingIs B w0 w rb l F) (i : Int) : Calls Tryz.prog 279 #[rptr rb, .int .i64 i] w fun e w' => e = .returned (atR l i) ∧ ∃ n, w' = w.drewN n := by
 obtain ⟨g, wf, rfl, h⟩ := h
 have hl := RG.row_len g
 unfold atR
 by_cases h0 : i < 0
 ·rw [if_pos h0]
  exact at_none h i (.inl h0)
 ·rw [if_neg h0]
  obtain ⟨k, rfl⟩ : ∃ k : Nat, i = k := ⟨i.toNat, by omega⟩
  rw [Int.toNat_natCast]
  by_cases hk : k < g.count
  ·rw [RG.row_at hk]
   exact at_some h wf hk
  ·rw [List.getElem?_eq_none (by omega)]
   exact at_none h k (.inr (by omega))
theorem ring_len (h : RingIs B w0 w rb l F) : Calls Tryz.prog 252 #[rptr rb] w fun e w' => e = .returned (.int .i64 l.length) ∧ w = w' := by
 obtain ⟨g, wf, rfl, h⟩ := h
 rw [RG.row_len]
 exact rlen_any h
theorem ring_all (h : RingIs B w0 w rb l F) : Calls Tryz.prog 192 #[rptr rb] w fun e w' => ∃ v A, e = .returned v ∧ SlIs 3 1 v l.length (ints l) A ∧ RingIs B w0 w' rb l (A ++ F) := by
 obtain ⟨g, wf, rfl, h⟩ := h
 refine (all_any h wf).mono ?_
 rintro e w' ⟨v, A, rfl, hs, h'⟩
 exact ⟨v, A, rfl, by rw [RG.row_len]; exact hs, g, wf, rfl, h'⟩
end
end Go.Proofs.YtknjamfjonapiaaGreatDoor
namespace Go.Proofs.YtknjamfjonapiaaGreatDoor
open Go.RowKit
open Go.ChangeMaps (setBlock)
set_option linter.unusedVariables false
set_option linter.unusedSectionVars false
abbrev z0E : Ent := ⟨0, 0, 0, [], [], 0, 0, 0, false, 0⟩
theorem zEnt (w : World) : (zeroValue 51).run Tryz.prog w = .ok (enV z0E) w := Tryz.zeroValue51 w
theorem uMapE : Tryz.prog.underlying 255 = some (.map 3 51) := by kernel_rfl
structure HeldOf (es : List (MapRow Int)) (clk : Nat) (H : List Ent) : Prop where
 rows : (es.map fun x => (x.1, x.2.1)).Perm (H.map fun e => (e.id, enV e))
 born : Born es clk
 ids : (H.map (·.id)).Nodup
section
variable {es : List (MapRow Int)} {clk : Nat} {H H' : List Ent} {e : Ent} {k : Int}
theorem HeldOf.keysP (h : HeldOf es clk H) : (es.map (·.1)).Perm (H.map (·.id)) := by
 have := h.rows.map (·.1)
 simpa [Function.comp_def] using this
theorem HeldOf.keys (h : HeldOf es clk H) : (es.map (·.1)).Nodup := h.keysP.nodup_iff.2 h.ids
theorem HeldOf.len (h : HeldOf es clk H) : es.length = H.length := by
 have := h.keysP.length_eq
 simpa using this
theorem HeldOf.nil : HeldOf [] 0 [] := ⟨List.Perm.refl _, ⟨by simp, by simp⟩, by simp⟩
theorem HeldOf.perm (h : HeldOf es clk H) (hp : H.Perm H') : HeldOf es clk H' := ⟨h.rows.trans (hp.map _), h.born, (hp.map (·.id)).nodup_iff.1 h.ids⟩
theorem HeldOf.seek (h : HeldOf es clk H) (he : e ∈ H) : (seek es e.id).map (·.2.1) = some (enV e) ∧ (seek es e.id).isSome = true := by
 have h1 : (e.id, enV e) ∈ H.map fun e => (e.id, enV e) := List.mem_map.2 ⟨e, he, rfl⟩
 obtain ⟨x, hx, e1⟩ := List.mem_map.1 (h.rows.mem_iff.2 h1)
 simp only [Prod.mk.injEq] at e1
 have h2 := seek_some h.keys hx
 rw [e1.1] at h2
 rw [h2]
 simp [e1.2]
theorem HeldOf.none (h : HeldOf es clk H) (hk : k ∉ H.map (·.id)) : Go.Proofs.YtknjamfjonapiaaGreatDoor.seek es k = Option.none := seek_none.2 fun hm => hk (h.keysP.mem_iff.1 hm)
theorem HeldOf.put (h : HeldOf es clk H) (hk : e.id ∉ H.map (·.id)) : HeldOf (es ++ [(e.id, enV e, clk)]) (clk + 1) (e :: H) := by
 refine ⟨?_, ⟨?_, ?_⟩, ?_⟩
 ·rw [List.map_append]
  exact (List.perm_append_singleton (e.id, enV e) _).trans (h.rows.cons _)
 ·simp only [List.map_append, List.map_cons, List.map_nil]
  rw [List.nodup_append]
  refine ⟨h.born.1, by simp, ?_⟩
  rintro a ha b hb rfl
  rw [List.mem_singleton] at hb
  subst hb
  obtain ⟨x, hx, e1⟩ := List.mem_map.1 ha
  have := h.born.2 x hx
  omega
 ·intro x hx
  rcases List.mem_append.1 hx with hx | hx
  ·have := h.born.2 x hx
   omega
  ·rw [List.mem_singleton] at hx
   subst hx
   exact Nat.lt_succ_self _
 ·rw [List.map_cons, List.nodup_cons]
  exact ⟨hk, h.ids⟩
theorem HeldOf.del (h : HeldOf es clk H) (k : Int) : HeldOf (restE es k) clk (delM H k) := by
 refine ⟨?_, ⟨h.born.1.sublist ((rest_sub es k).map _), fun x hx => h.born.2 x ((rest_sub es k).subset hx)⟩, h.ids.sublist (List.filter_sublist.map _)⟩
 rw [rest_eq h.keys]
 have h1 := h.rows.filter (fun x => decide (x.1 ≠ k))
 have e1 : (es.map fun x => (x.1, x.2.1)).filter (fun x => decide (x.1 ≠ k)) = (es.filter fun x => decide (x.1 ≠ k)).map fun x => (x.1, x.2.1) := by rw [List.filter_map]; rfl
 have e2 : (H.map fun e => (e.id, enV e)).filter (fun x => decide (x.1 ≠ k)) = (delM H k).map fun e => (e.id, enV e) := by rw [List.filter_map]; rfl
 rw [e1, e2] at h1
 exact h1
end
def ringsH : List Nat → List RG → List (Nat × Obj)
 | b :: bs, g :: gs => (b, g.obj) :: (g.cellsH ++ ringsH bs gs)
 | _, _ => []
theorem rings_at : ∀ {bs : List Nat} {gs : List RG} {i : Nat} {b : Nat} {g : RG}, bs[i]? = some b → gs[i]? = some g →
  ∃ Y, (ringsH bs gs).Perm ((b, g.obj) :: (g.cellsH ++ Y)) ∧ ∀ g', ((b, g'.obj) :: (g'.cellsH ++ Y)).Perm (ringsH bs (gs.set i g'))
 | c :: bs, f :: gs, 0, b, g, h1, h2 => by
  simp at h1 h2
  subst h1 h2
  exact ⟨ringsH bs gs, List.Perm.refl _, fun g' => List.Perm.refl _⟩
 | c :: bs, f :: gs, i + 1, b, g, h1, h2 => by
  obtain ⟨Y, p1, p2⟩ := rings_at (bs := bs) (gs := gs) (i := i) (by simpa using h1) (by simpa using h2)
  have key : ∀ g' : RG, ((c, f.obj) :: (f.cellsH ++ ((b, g'.obj) :: (g'.cellsH ++ Y)))).Perm ((b, g'.obj) :: (g'.cellsH ++ ((c, f.obj) :: (f.cellsH ++ Y)))) := fun g' => by
   classical
   exact List.perm_iff_count.2 fun a => by simp only [List.count_append, List.count_cons]; omega
  exact ⟨(c, f.obj) :: (f.cellsH ++ Y), ((p1.append_left f.cellsH).cons _).trans (key g), fun g' => (key g').symm.trans (((p2 g').append_left f.cellsH).cons _)⟩
 | [], _, i, b, g, h1, _ => by simp at h1
 | _ :: _, [], i, b, g, _, h2 => by simp at h2
abbrev rackO (q mb most : Nat) : Obj := .cells #[.slice (some ⟨q, 0, none⟩) 4 4, .map (some mb), .int .i64 most] 257
abbrev rowsO (rbs : List Nat) : Obj := .cells (rbs.map rptr).toArray 260
def RkAt (B : Nat) (w0 w : World) (rk q : Nat) (rbs : List Nat) (R : List (List Int)) (H : List Ent) (F : List (Nat × Obj)) : Prop :=
 ∃ (mb : Nat) (es : List (MapRow Int)) (clk most : Nat) (G : List RG), (rbs.length = 4 ∧ (∀ g ∈ G, g.Wf) ∧ G.map RG.row = R ∧ HeldOf es clk H ∧ most ≤ 100000 ∧ H.length ≤ 100000) ∧
  St B w0 w ((rk, rackO q mb most) :: (q, rowsO rbs) :: (mb, .map (entsE encI es) clk) :: (ringsH rbs G ++ F))
section
variable {B : Nat} {w0 w w' : World} {rk q rb i : Nat} {rbs : List Nat} {R : List (List Int)} {H H' : List Ent} {F F' : List (Nat × Obj)} {l : List Int} {e : Ent}
theorem RkAt.len (h : RkAt B w0 w rk q rbs R H F) : rbs.length = 4 := by obtain ⟨mb, es, clk, most, G, ⟨h1, -⟩, -⟩ := h; exact h1
theorem RkAt.few (h : RkAt B w0 w rk q rbs R H F) : H.length ≤ 100000 := by obtain ⟨mb, es, clk, most, G, ⟨-, -, -, -, -, h1⟩, -⟩ := h; exact h1
theorem RkAt.beside (h : RkAt B w0 w rk q rbs R H F) : ∃ S, St B w0 w (S ++ F) ∧ ∀ w' F', St B w0 w' (S ++ F') → RkAt B w0 w' rk q rbs R H F' := by
 obtain ⟨mb, es, clk, most, G, h1, h2⟩ := h
 exact ⟨(rk, rackO q mb most) :: (q, rowsO rbs) :: (mb, .map (entsE encI es) clk) :: ringsH rbs G, h2, fun w' F' h' => ⟨mb, es, clk, most, G, h1, h'⟩⟩
theorem RkAt.grow (h : RkAt B w0 w rk q rbs R H F) (hb : Below w.heap.size w w') : RkAt B w0 w' rk q rbs R H F := by
 obtain ⟨S, h1, h2⟩ := h.beside
 exact h2 _ _ (h1.grow hb)
theorem RkAt.sub (h : RkAt B w0 w rk q rbs R H F) (hs : F'.Sublist F) : RkAt B w0 w rk q rbs R H F' := by
 obtain ⟨S, h1, h2⟩ := h.beside
 exact h2 _ _ (h1.sub ((List.Sublist.refl S).append hs))
theorem RkAt.permF (h : RkAt B w0 w rk q rbs R H F) (hp : F.Perm F') : RkAt B w0 w rk q rbs R H F' := by
 obtain ⟨S, h1, h2⟩ := h.beside
 exact h2 _ _ (h1.perm (hp.append_left S))
theorem RkAt.below (h : RkAt B w0 w rk q rbs R H F) : Below B w0 w := by
 obtain ⟨S, h1, -⟩ := h.beside
 exact h1.below
theorem RkAt.c0 (h : RkAt B w0 w rk q rbs R H F) : w.cell? ⟨rk, 0, none⟩ = some (.slice (some ⟨q, 0, none⟩) 4 4) := by
 obtain ⟨mb, es, clk, most, G, -, h2⟩ := h
 exact h2.cell (b := rk) List.mem_cons_self rfl
theorem RkAt.soft (h : RkAt B w0 w rk q rbs R H F) (i : Nat) : w.frozen? ⟨rk, i, none⟩ = false := by
 obtain ⟨mb, es, clk, most, G, -, h2⟩ := h
 exact St.soft (b := rk) h2 List.mem_cons_self i
theorem RkAt.at_ (h : RkAt B w0 w rk q rbs R H F) (hb : rbs[i]? = some rb) : w.cell? ⟨q, i, none⟩ = some (rptr rb) := by
 obtain ⟨mb, es, clk, most, G, -, h2⟩ := h
 exact h2.cell (b := q) (List.mem_cons_of_mem _ List.mem_cons_self) (by simp [hb])
theorem RkAt.reset (h : RkAt B w0 w rk q rbs R H F) (hp : H.Perm H') : RkAt B w0 w rk q rbs R H' F := by
 obtain ⟨mb, es, clk, most, G, ⟨a1, a2, a3, a4, a5, a6⟩, h2⟩ := h
 exact ⟨mb, es, clk, most, G, ⟨a1, a2, a3, a4.perm hp, a5, hp.length_eq ▸ a6⟩, h2⟩
theorem RkAt.ring (h : RkAt B w0 w rk q rbs R H F) (hb : rbs[i]? = some rb) (hl : R[i]? = some l) :
  ∃ Z, RingIs B w0 w rb l (Z ++ F) ∧ ∀ w' l' F', RingIs B w0 w' rb l' (Z ++ F') → RkAt B w0 w' rk q rbs (R.set i l') H F' := by
 obtain ⟨mb, es, clk, most, G, ⟨a1, a2, a3, a4, a5, a6⟩, h2⟩ := h
 subst a3
 rw [List.getElem?_map, Option.map_eq_some_iff] at hl
 obtain ⟨g, hg, rfl⟩ := hl
 obtain ⟨Y, p1, p2⟩ := rings_at hb hg
 refine ⟨(rk, rackO q mb most) :: (q, rowsO rbs) :: (mb, .map (entsE encI es) clk) :: Y, ⟨g, a2 g (List.mem_of_getElem? hg), rfl, h2.perm ?_⟩, ?_⟩
 ·classical
  have p1' := List.perm_iff_count.1 p1
  exact List.perm_iff_count.2 fun a => by
   have := p1' a
   simp only [List.count_append, List.count_cons] at this ⊢
   omega
 ·rintro w' l' F' ⟨g', wf, rfl, h'⟩
  refine ⟨mb, es, clk, most, G.set i g', ⟨a1, ?_, by rw [List.map_set], a4, a5, a6⟩, St.perm h' ?_⟩
  ·intro x hx
   rcases List.mem_or_eq_of_mem_set hx with hx | rfl
   ·exact a2 x hx
   ·exact wf
  ·classical
   have p2' := List.perm_iff_count.1 (p2 g')
   exact List.perm_iff_count.2 fun a => by
    have := p2' a
    simp only [List.count_append, List.count_cons] at this ⊢
    omega
theorem RkAt.map (h : RkAt B w0 w rk q rbs R H F) : ∃ mb es clk, w.cell? ⟨rk, 1, none⟩ = some (.map (some mb)) ∧ w.heap[mb]? = some (.map (entsE encI es) clk) ∧ HeldOf es clk H ∧
  ∀ es' clk' H', HeldOf es' clk' H' → H'.length ≤ 100000 → RkAt B w0 (setBlock w mb (.map (entsE encI es') clk')) rk q rbs R H' F := by
 obtain ⟨mb, es, clk, most, G, ⟨a1, a2, a3, a4, a5, a6⟩, h2⟩ := h
 refine ⟨mb, es, clk, h2.cell (b := rk) List.mem_cons_self rfl, h2.get (b := mb) (List.mem_cons_of_mem _ (List.mem_cons_of_mem _ List.mem_cons_self)), a4, fun es' clk' H' h3 h4 => ⟨mb, es', clk', most, G, ⟨a1, a2, a3, h3, a5, h4⟩, ?_⟩⟩
 have p : ∀ o : Obj, ((rk, rackO q mb most) :: (q, rowsO rbs) :: (mb, o) :: (ringsH rbs G ++ F)).Perm ((mb, o) :: (rk, rackO q mb most) :: (q, rowsO rbs) :: (ringsH rbs G ++ F)) := fun o => by
  classical
  exact List.perm_iff_count.2 fun a => by simp only [List.count_cons]; omega
 exact ((h2.perm (p _)).block0).perm (p _).symm
structure LookAt (w : World) (rk : Nat) (H : List Ent) (mb : Nat) : Prop where
 c1 : w.cell? ⟨rk, 1, none⟩ = some (.map (some mb))
 hit : ∀ e ∈ H, ∀ c, (Instr.lookup 255 (.map (some mb)) (.int .i64 e.id) c).run Tryz.prog w = .ok (if c then .tuple #[enV e, .bool true] else enV e) w
 miss : ∀ k, k ∉ H.map (·.id) → ∀ c, (Instr.lookup 255 (.map (some mb)) (.int .i64 k) c).run Tryz.prog w = .ok (if c then .tuple #[enV z0E, .bool false] else enV z0E) w
 len : ∀ ty, (Builtin.len_ #[255] ty #[.map (some mb)]).run Tryz.prog w = .ok (.int .i64 H.length) w
theorem RkAt.look (h : RkAt B w0 w rk q rbs R H F) : ∃ mb, LookAt w rk H mb ∧ (∀ w', Below w.heap.size w w' → LookAt w' rk H mb) := by
 obtain ⟨mb, es, clk, c1, hg, ho, -⟩ := h.map
 have key : ∀ w', Below w.heap.size w w' → LookAt w' rk H mb := fun w' hb => by
  have hg' : w'.heap[mb]? = some (.map (entsE encI es) clk) := (hb.block _ (Array.getElem?_eq_some_iff.1 hg).1).trans hg
  refine ⟨cellUp c1 hb, fun e he c => ?_, fun k hk c => ?_, fun ty => ?_⟩
  ·obtain ⟨q1, q2⟩ := ho.seek he
   have := run_lookE (P := Tryz.prog) (c := c) keyI uMapE (zEnt w') hg' (k := e.id) trivial (fun _ _ => trivial)
   rw [q1, q2] at this
   exact this
  ·have q1 := ho.none hk
   have := run_lookE (P := Tryz.prog) (c := c) keyI uMapE (zEnt w') hg' (k := k) trivial (fun _ _ => trivial)
   rw [q1] at this
   exact this
  ·have := run_lenE (P := Tryz.prog) (ty := ty) uMapE hg'
   rw [ho.len] at this
   exact this
 exact ⟨mb, key w (Below.refl _ _), key⟩
end
end Go.Proofs.YtknjamfjonapiaaGreatDoor
namespace Go.Proofs.YtknjamfjonapiaaGreatDoor
open Go.RowKit
set_option linter.unusedVariables false
set_option linter.unusedSectionVars false
set_option maxRecDepth 100000
theorem RingIs.setF {B : Nat} {w0 w : World} {rb t : Nat} {l : List Int} {c : Array Value} {T : TypeId} {F : List (Nat × Obj)} (h : RingIs B w0 w rb l ((t, .cells c T) :: F)) (i : Nat) (v : Value) :
  RingIs B w0 (w.setCell ⟨t, i, none⟩ v) rb l ((t, .cells (c.setIfInBounds i v) T) :: F) := by
 obtain ⟨X, h1, h2⟩ := h.st
 exact h2 _ _ (St.perm ((h1.perm List.perm_middle).set0 i v) List.perm_middle.symm)
theorem RingIs.softF {B : Nat} {w0 w : World} {rb t : Nat} {l : List Int} {c : Array Value} {T : TypeId} {F : List (Nat × Obj)} (h : RingIs B w0 w rb l ((t, .cells c T) :: F)) (i : Nat) : w.frozen? ⟨t, i, none⟩ = false := by
 obtain ⟨X, h1, h2⟩ := h.st
 exact St.soft (h1.perm List.perm_middle) List.mem_cons_self i
def sideL (s : Bool) (v : List Int) : List Int := if s then v else v.reverse
theorem side_len (s : Bool) (v : List Int) : (sideL s v).length = v.length := by cases s <;> simp [sideL]
abbrev EndV (tk pt rb : Nat) : Value := .agg #[.func (.func tk) #[rptr rb] #[], .func (.func pt) #[rptr rb] #[]]
abbrev endO (tk pt rb : Nat) : Obj := .cells #[.func (.func tk) #[rptr rb] #[], .func (.func pt) #[rptr rb] #[]] 351
structure EndOk (rb : Nat) (s : Bool) (tk pt : Nat) : Prop where
 goT : ∀ args w, (callFunc tk args).run Tryz.prog w = .ok (.enter tk args) w
 goP : ∀ args w, (callFunc pt args).run Tryz.prog w = .ok (.enter pt args) w
 take : ∀ B w0 w v F, RingIs B w0 w rb (sideL s v) F → Calls Tryz.prog tk #[rptr rb] w fun e w' => e = .returned (shiftR v) ∧ RingIs B w0 w' rb (sideL s v.tail) F
 put : ∀ B w0 w v F x, RingIs B w0 w rb (sideL s v) F → v.length < 536870912 → Calls Tryz.prog pt #[rptr rb, .int .i64 x] w fun e w' => e = .returned (.tuple #[]) ∧ RingIs B w0 w' rb (sideL s (x :: v)) F
theorem front_ok (rb : Nat) : EndOk rb true 253 300 :=
 ⟨goesIn Tryz.func253 (by kernel_rfl) rfl, goesIn Tryz.func300 (by kernel_rfl) rfl, fun B w0 w v F h => ring_shift h, fun B w0 w v F x h hl => ring_unshift h hl x⟩
theorem back_ok (rb : Nat) : EndOk rb false 301 255 :=
 ⟨goesIn Tryz.func301 (by kernel_rfl) rfl, goesIn Tryz.func255 (by kernel_rfl) rfl,
  fun B w0 w v F h => by
   have := ring_pop h
   have e1 : popR (sideL false v) = shiftR v := by cases v <;> simp [sideL, popR, shiftR]
   have e2 : (sideL false v).dropLast = sideL false v.tail := by cases v <;> simp [sideL]
   rw [e1, e2] at this
   exact this,
  fun B w0 w v F x h hl => by
   have := ring_push h (by rw [side_len]; exact hl) x
   have e1 : sideL false v ++ [x] = sideL false (x :: v) := by simp [sideL]
   rw [e1] at this
   exact this⟩
theorem ints_setA (l : List Int) (i : Nat) (x : Int) : (ints l).toArray.setIfInBounds i (.int .i64 x) = (ints (l.set i x)).toArray := by rw [List.setIfInBounds_toArray, ints_set]
section
variable {B : Nat} {w0 w : World} {rb tk pt : Nat} {s : Bool} {v : List Int} {F : List (Nat × Obj)}
def takenL (v : List Int) (i n : Nat) : List Int := v.take i ++ List.replicate (n - i) 0
theorem taken_zero (v : List Int) (n : Nat) : takenL v 0 n = List.replicate n 0 := by simp [takenL]
theorem taken_all (v : List Int) (n : Nat) : takenL v n n = v.take n := by simp [takenL]
theorem taken_len {v : List Int} {i n : Nat} (h : i ≤ n) (h2 : n ≤ v.length) : (takenL v i n).length = n := by
 unfold takenL
 rw [List.length_append, List.length_take, List.length_replicate]
 omega
theorem taken_set {v : List Int} {i n : Nat} {x : Int} (h : i < n) (h2 : n ≤ v.length) (hx : v[i]? = some x) : (takenL v i n).set i x = takenL v (i + 1) n := by
 unfold takenL
 have hl : (v.take i).length = i := by rw [List.length_take]; omega
 rw [List.set_append_right _ _ (by omega), hl, Nat.sub_self, show n - i = (n - (i + 1)) + 1 by omega, List.replicate_succ, List.set_cons_zero, List.take_add_one, hx, List.append_assoc]
 rfl
def TakeJ (B : Nat) (w0 : World) (rb : Nat) (s : Bool) (tk pt : Nat) (v : List Int) (n eb t : Nat) (F : List (Nat × Obj)) (g : Nat) (a' : Act) (w' : World) : Prop :=
 ∃ i : Nat, i + g = n ∧ Fr 24 [(1, .int .i64 n), (2, .pointer (some ⟨eb, 0, none⟩)), (5, .slice (some ⟨t, 0, none⟩) n n), (6, .int .i64 i)] a' ∧ RingIs B w0 w' rb (sideL s (v.drop i)) ((t, intsObj (takenL v i n)) :: (eb, endO tk pt rb) :: F)
set_option maxHeartbeats 2000000 in
theorem takeOff_any (ok : EndOk rb s tk pt) (h : RingIs B w0 w rb (sideL s v) F) {n : Nat} (hn : n ≤ v.length) (hv : v.length ≤ 1000000) :
  Calls Tryz.prog 283 #[EndV tk pt rb, .int .i64 n] w fun e w' => ∃ t eb, e = .returned (.slice (some ⟨t, 0, none⟩) n n) ∧ RingIs B w0 w' rb (sideL s (v.drop n)) ((t, intsObj (v.take n)) :: (eb, endO tk pt rb) :: F) := by
 obtain ⟨goT, -, cT, -⟩ := ok
 replace cT := Lib.hid cT
 have hmk := mk_ints (w.alloc (endO tk pt rb)) n (by omega) (by omega)
 rw [Int.toNat_natCast] at hmk
 have h1 := (h.alloc (endO tk pt rb)).alloc (intsObj (List.replicate n 0))
 rw [← taken_zero v n] at h1
 replace h1 := Lib.hid h1
 clear h
 go_enter Tryz.func283, Tryz.ntmps283
 go_wp2_with fail
 refine wp_scope_ghost 0 (TakeJ B w0 rb s tk pt v n w.heap.size (w.alloc (endO tk pt rb)).heap.size F) rfl ?_ ?_
 ·rintro g a' wr ⟨i, hi, hfr, hR⟩
  generalize w.heap.size = eb at *
  generalize (w.alloc (endO tk pt rb)).heap.size = t at *
  obtain ⟨f, rfl, hl'⟩ := hfr.lit
  clear hfr h1 hmk
  simp only [List.mem_cons, List.not_mem_nil, or_false, forall_eq_or_imp, forall_eq] at hl'
  obtain ⟨f1, f2, f5, f6⟩ := hl'
  simp only [List.range, List.range.loop, List.map, f1, f2, f5, f6]
  clear f1 f2 f5 f6
  have c0 : wr.cell? ⟨eb, 0, none⟩ = some (.func (.func tk) #[rptr rb] #[]) := hR.cell (b := eb) (List.mem_cons_of_mem _ List.mem_cons_self) rfl
  by_cases hlt : i < n
  ·have hx : v[i]? = some v[i] := List.getElem?_eq_getElem (by omega)
   generalize v[i] = x at hx
   have hd : v.drop i = x :: v.drop (i + 1) := by
    have h1 := (List.getElem?_eq_some_iff.1 hx)
    obtain ⟨h2, h3⟩ := h1
    rw [List.drop_eq_getElem_cons h2, h3]
   have cc := cT.out _ _ _ _ _ hR
   rw [hd] at cc
   have cc2 : Hid (Calls Tryz.prog tk #[rptr rb] wr fun e w' => e = .returned (.tuple #[.int .i64 x, .bool true]) ∧ RingIs B w0 w' rb (sideL s (v.drop (i + 1))) ((t, intsObj (takenL v i n)) :: (eb, endO tk pt rb) :: F)) := Lib.hid cc
   clear cc hR
   have hi0 : (0 : Int) ≤ i := by omega
   have hi1 : (i : Int) < n := by omega
   have hiB : ((i : Int) == n) = false := by rw [beq_eq_false_iff_ne]; omega
   have hlen := taken_len (v := v) (i := i) (n := n) (by omega) hn
   have hset := taken_set hlt hn hx
   have hnx : (n : Int) ≤ 1000000 := by omega
   replace hlen := Lib.hid hlen
   replace hset := Lib.hid hset
   replace hd := Lib.hid hd
   replace hx := Lib.hid hx
   go_wp2_with fail
   refine cc2.out.mono ?_
   rintro e w2 ⟨rfl, h2⟩
   have s0 := h2.softF i
   have hk : w2.cell? ⟨t, i, none⟩ = some ((ints (takenL v i n))[i]'(by rw [ints_len, hlen.out]; omega)) := by
    exact h2.cell (b := t) List.mem_cons_self (by simp [ints, hlen.out, hlt])
   have h3 := h2.setF i (.int .i64 x)
   rw [ints_setA, hset.out] at h3
   have fin : Hid (∀ a', Fr 24 [(1, .int .i64 n), (2, .pointer (some ⟨eb, 0, none⟩)), (5, .slice (some ⟨t, 0, none⟩) n n), (6, .int .i64 ((i : Int) + 1))] a' → ∃ m, m < g ∧ TakeJ B w0 rb s tk pt v n eb t F m a' (w2.setCell ⟨t, i, none⟩ (.int .i64 x))) := by
    refine Lib.hid fun a' hf => ⟨g - 1, by omega, i + 1, by omega, hf, h3⟩
   generalize (ints (takenL v i n))[i]'(by rw [ints_len, hlen.out]; omega) = u at hk
   clear h2 h3 cc2
   go_wp2_with fail
   refine wp_goto ?_
   exact ⟨rfl, fin.out _ ⟨rfl, rfl, by simp⟩⟩
  ·have hin : i = n := by omega
   subst hin
   rw [taken_all] at hR
   replace hR := Lib.hid hR
   go_wp2_with fail
   simp only [Exit.jump]
   go_ret
   exact ⟨_, _, rfl, hR.out⟩
 ·intro H
  go_wp2_with fail
  refine wp_label ?_
  go_step
  go_step
  exact H n _ _ ⟨0, by omega, ⟨rfl, rfl, by simp⟩, h1.out⟩
def BackJ (B : Nat) (w0 : World) (rb : Nat) (s : Bool) (tk pt : Nat) (v u : List Int) (eb t n : Nat) (F : List (Nat × Obj)) (g : Nat) (a' : Act) (w' : World) : Prop :=
 g ≤ n ∧ Fr 18 [(1, .slice (some ⟨t, 0, none⟩) n n), (2, .pointer (some ⟨eb, 0, none⟩)), (4, .int .i64 g)] a' ∧ RingIs B w0 w' rb (sideL s (u.drop g ++ v)) ((eb, endO tk pt rb) :: (t, intsObj u) :: F)
set_option maxHeartbeats 2000000 in
theorem layBack_any (ok : EndOk rb s tk pt) {u : List Int} {t n : Nat} (hu : u.length = n) (h : RingIs B w0 w rb (sideL s v) ((t, intsObj u) :: F)) (hv : v.length + n ≤ 1000000) :
  Calls Tryz.prog 284 #[EndV tk pt rb, .slice (some ⟨t, 0, none⟩) n n] w fun e w' => e = .returned (.tuple #[]) ∧ RingIs B w0 w' rb (sideL s (u ++ v)) F := by
 obtain ⟨-, goP, -, cP⟩ := ok
 replace cP := Lib.hid cP
 have h1 := h.alloc (endO tk pt rb)
 rw [show v = u.drop n ++ v by rw [← hu]; simp] at h1
 replace h1 := Lib.hid h1
 clear h
 go_enter Tryz.func284, Tryz.ntmps284
 go_wp2_with fail
 refine wp_scope_ghost 0 (BackJ B w0 rb s tk pt v u w.heap.size t n F) rfl ?_ ?_
 ·rintro g a' wr ⟨hg, hfr, hR⟩
  generalize w.heap.size = eb at *
  obtain ⟨f, rfl, hl'⟩ := hfr.lit
  clear hfr h1
  simp only [List.mem_cons, List.not_mem_nil, or_false, forall_eq_or_imp, forall_eq] at hl'
  obtain ⟨f1, f2, f4⟩ := hl'
  simp only [List.range, List.range.loop, List.map, f1, f2, f4]
  clear f1 f2 f4
  have c0 : wr.cell? ⟨eb, 1, none⟩ = some (.func (.func pt) #[rptr rb] #[]) := hR.cell (b := eb) List.mem_cons_self rfl
  by_cases hlt : 0 < g
  ·obtain ⟨j, rfl⟩ : ∃ j, g = j + 1 := ⟨g - 1, by omega⟩
   have hx : u[j]? = some u[j] := List.getElem?_eq_getElem (by omega)
   generalize u[j] = x at hx
   have hd : u.drop j = x :: u.drop (j + 1) := by
    obtain ⟨h2, h3⟩ := List.getElem?_eq_some_iff.1 hx
    rw [List.drop_eq_getElem_cons h2, h3]
   have cx : wr.cell? ⟨t, j, none⟩ = some (.int .i64 x) := by
    exact hR.cell (b := t) (List.mem_cons_of_mem _ List.mem_cons_self) (by simp [ints, hx])
   have cc := cP.out _ _ _ _ _ x (hR.drewN 1) (by rw [List.length_append, List.length_drop]; omega)
   rw [← List.cons_append, ← hd] at cc
   replace cc := Lib.hid cc
   clear hR hd hx
   have hj0 : (0 : Int) ≤ j := by omega
   have hj1 : (j : Int) < n := by omega
   have hj2 : (0 : Int) < (j : Int) + 1 := by omega
   have hn2 : (n : Int) ≤ 1000000 := by omega
   have e1 : ((j + 1 : Nat) : Int) = (j : Int) + 1 := by omega
   rw [e1]
   replace e1 := Lib.hid e1
   go_wp2_with fail
   go_still_tail 6, (by kernel_rfl)
   change wpList _ _ _ _ _ wr.drew
   go_wp2_with fail
   refine cc.out.mono ?_
   rintro e w2 ⟨rfl, h2⟩
   replace h2 := Lib.hid h2
   go_wp2_with fail
   refine wp_goto ?_
   exact ⟨rfl, j, by omega, by omega, ⟨rfl, rfl, by simp⟩, h2.out⟩
  ·have hin : g = 0 := by omega
   subst hin
   rw [List.drop_zero] at hR
   have fin := Lib.hid (hR.sub (F' := F) ((List.sublist_cons_self _ _).trans (List.sublist_cons_self _ _)))
   clear hR
   simp only [Int.cast_ofNat_Int]
   go_wp2_with fail
   simp only [Exit.jump]
   exact bodyPost_end (results_none rfl _ _ _) rfl ⟨rfl, fin.out⟩
 ·intro H
  go_wp2_with fail
  refine wp_label ?_
  go_step
  go_step
  exact H n _ _ ⟨Nat.le_refl _, ⟨rfl, rfl, by simp⟩, h1.out⟩
end
end Go.Proofs.YtknjamfjonapiaaGreatDoor
