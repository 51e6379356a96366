/- The ring's methods, each told by what it answers and by the ring behind it. -/
import Derived.Test.YtmmagapggmcceaaRingB
namespace Go.Proofs.Ytmmagapggmcceaa
open Go.RowKit

section
variable {B : Nat} {w0 w : World} {rb : Nat} {g : RG} {F : List (Nat × Obj)}

theorem RG.moved_obj {b size : Nat} (h : g.count ≤ size) : (g.moved b size).obj = .cells #[.slice (some ⟨b, 0, none⟩) size size, .int .i64 0, .int .i64 g.count] 85 := by
  simp [RG.obj, RG.sl, RG.moved, RG.laid_len h]

set_option maxHeartbeats 400000 in
theorem moveTo_any (h : RingAt B w0 w rb g F) (wf : g.Wf) (size : Int) (hs : (g.count : Int) ≤ size) (hs1 : size ≤ 1073741824) :
    Calls Try.prog 65 #[rptr rb, .int .i64 size] w fun e w' => e = .returned (.tuple #[]) ∧ ∃ b, RingAt B w0 w' rb (g.moved b size.toNat) F := by
  obtain ⟨s, rfl⟩ : ∃ s : Nat, size = s := ⟨size.toNat, by omega⟩
  rw [Int.toNat_natCast]
  have hcs : g.count ≤ s := by omega
  have cl := Lib.hid (laidOut_any h wf s hcs (by omega))
  have fin : Hid (∀ w', St B w0 w' ((w.heap.size, intsObj (g.laid s)) :: (rb, g.obj) :: (g.cellsH ++ F)) →
      RingAt B w0 ((w'.setCell ⟨rb, 0, none⟩ (.slice (some ⟨w.heap.size, 0, none⟩) s s)).setCell ⟨rb, 1, none⟩ (.int .i64 0)) rb (g.moved w.heap.size s) F) := by
    intro w' h'
    have h2 := (h'.perm (List.Perm.swap _ _ _)).set0 0 (.slice (some ⟨w.heap.size, 0, none⟩) s s)
    have h3 := h2.set0 1 (.int .i64 0)
    unfold RingAt
    rw [RG.moved_obj hcs]
    refine h3.sub ?_
    refine .cons_cons _ ?_
    show (([(w.heap.size, intsObj (g.laid s))] : List (Nat × Obj)) ++ F).Sublist ((w.heap.size, intsObj (g.laid s)) :: (g.cellsH ++ F))
    exact .cons_cons _ (List.sublist_append_right _ _)
  have fin2 : Hid (∀ w', St B w0 w' ((w.heap.size, intsObj (g.laid s)) :: (rb, g.obj) :: (g.cellsH ++ F)) → w'.cell? ⟨rb, 0, none⟩ = some g.sl ∧ w'.cell? ⟨rb, 1, none⟩ = some (.int .i64 g.first) ∧ ∀ i, w'.frozen? ⟨rb, i, none⟩ = false) := by
    intro w' h'
    have := RingAt.front h'
    exact ⟨this.c0, this.c1, this.soft⟩
  clear h wf hs hs1
  go_enter Try.func65, Try.ntmps65
  go_wp2_with fail
  refine cl.out.mono ?_
  rintro e w1 ⟨rfl, h1⟩
  obtain ⟨c0, c1, cf⟩ := fin2.out w1 h1
  have f0 := cf 0
  have f1 := cf 1
  have h1 := Lib.hid h1
  clear cf cl fin2
  go_wp2_with fail
  exact bodyPost_end (results_none rfl _ _ _) rfl ⟨rfl, w.heap.size, fin.out _ h1.out⟩

set_option maxHeartbeats 400000 in
theorem makeRoom_any (h : RingAt B w0 w rb g F) (wf : g.Wf) (hc : g.count < 536870912) :
    Calls Try.prog 64 #[rptr rb] w fun e w' => e = .returned (.tuple #[]) ∧ ∃ g', g'.Wf ∧ g'.row = g.row ∧ g'.count = g.count ∧ g'.count < g'.cs.length ∧ RingAt B w0 w' rb g' F := by
  have c0 := h.c0
  have c2 := h.c2
  obtain ⟨a, ha⟩ := wf.header
  rw [ha] at c0
  have ht := wf.top
  have hcl := wf.count
  by_cases hfull : g.count = g.cs.length
  · have hb : ((g.count : Int) == g.cs.length) = true := by rw [beq_iff_eq]; omega
    have cm : Hid (∀ n (q : Int), (g.count : Int) < q → q ≤ 1073741824 → Calls Try.prog 65 #[rptr rb, .int .i64 q] (w.drewN n) fun e w' => e = .returned (.tuple #[]) ∧ ∃ g', g'.Wf ∧ g'.row = g.row ∧ g'.count = g.count ∧ g'.count < g'.cs.length ∧ RingAt B w0 w' rb g' F) :=
      fun n q h1 h2 => (moveTo_any (h.drewN n) wf q (by omega) h2).mono fun _ _ ⟨he, b, hw⟩ => ⟨he, _, RG.moved_wf (by omega) (by omega), RG.moved_row (by omega), rfl, by simp only [RG.moved, RG.laid_len (show g.count ≤ q.toNat by omega)]; omega, hw⟩
    have hN0 : (0 : Int) ≤ g.cs.length := by omega
    have hN1 : (g.cs.length : Int) ≤ 536870912 := by omega
    have hN2 : (g.count : Int) ≤ g.cs.length := by omega
    have hN3 : (g.cs.length : Int) ≤ 536870911 := by omega
    clear h wf hcl ht hfull ha
    go_enter Try.func64, Try.ntmps64
    go_wp2_with fail
    go_quiet (fail)
    go_wp2_with fail
    all_goals
      refine (cm.out _ _ (by omega) (by omega)).mono ?_
      rintro e w' ⟨rfl, hg⟩
      have hg := Lib.hid hg
      go_wp2_with fail
      exact bodyPost_end (results_none rfl _ _ _) rfl ⟨rfl, hg.out⟩
  · have hb : ((g.count : Int) == g.cs.length) = false := by rw [beq_eq_false_iff_ne]; omega
    have fin := Lib.hid (fun n => h.drewN n)
    have hlt : g.count < g.cs.length := by omega
    have hlt := Lib.hid hlt
    clear h hcl ht hfull ha
    go_enter Try.func64, Try.ntmps64
    go_wp2_with fail
    go_quiet (fail)
    go_wp2_with fail
    exact bodyPost_end (results_none rfl _ _ _) rfl ⟨rfl, g, wf, rfl, rfl, hlt.out, fin.out _⟩

set_option maxHeartbeats 400000 in
theorem giveBack_ring (h : RingAt B w0 w rb g F) (wf : g.Wf) :
    Calls Try.prog 63 #[rptr rb] w fun e w' => e = .returned (.tuple #[]) ∧ ∃ g', g'.Wf ∧ g'.row = g.row ∧ RingAt B w0 w' rb g' F := by
  have c0 := h.c0
  have c2 := h.c2
  obtain ⟨a, ha⟩ := wf.header
  rw [ha] at c0
  have ht := wf.top
  have hcl := wf.count
  have hN0 : (0 : Int) ≤ g.cs.length := by omega
  have hN1 : (g.cs.length : Int) ≤ 1073741824 := by omega
  have fin := Lib.hid (fun n => h.drewN n)
  have cm : Hid (∀ n (q : Int), (g.count : Int) ≤ q → q ≤ 1073741824 → Calls Try.prog 65 #[rptr rb, .int .i64 q] (w.drewN n) fun e w' => e = .returned (.tuple #[]) ∧ ∃ g', g'.Wf ∧ g'.row = g.row ∧ RingAt B w0 w' rb g' F) :=
    fun n q h1 h2 => (moveTo_any (h.drewN n) wf q (by omega) h2).mono fun _ _ ⟨he, b, hw⟩ => ⟨he, _, RG.moved_wf (by omega) (by omega), RG.moved_row (by omega), hw⟩
  have wf := Lib.hid wf
  clear h ha
  by_cases h8 : (8 : Int) < g.cs.length
  · by_cases hq : (g.count : Int) ≤ (g.cs.length : Int) / 4
    · have hq2 : (g.count : Int) ≤ (g.cs.length : Int) / 2 := by omega
      have hq3 : (g.cs.length : Int) / 2 ≤ 1073741824 := by omega
      clear hcl ht
      go_enter Try.func63, Try.ntmps63
      go_wp2_with fail
      go_quiet (fail)
      go_wp2_with fail
      refine (cm.out _ _ hq2 hq3).mono ?_
      rintro e w' ⟨rfl, hg⟩
      have hg := Lib.hid hg
      go_wp2_with fail
      exact bodyPost_end (results_none rfl _ _ _) rfl ⟨rfl, hg.out⟩
    · have hq' : decide ((g.count : Int) ≤ (g.cs.length : Int) / 4) = false := by simpa using hq
      clear hcl ht hq
      go_enter Try.func63, Try.ntmps63
      go_wp2_with fail
      go_quiet (fail)
      go_wp2_with fail
      exact bodyPost_end (results_none rfl _ _ _) rfl ⟨rfl, g, wf.out, rfl, fin.out _⟩
  · have h8' : decide ((8 : Int) < g.cs.length) = false := by simpa using h8
    clear hcl ht h8
    go_enter Try.func63, Try.ntmps63
    go_wp2_with fail
    go_quiet (fail)
    go_wp2_with fail
    exact bodyPost_end (results_none rfl _ _ _) rfl ⟨rfl, g, wf.out, rfl, fin.out _⟩

set_option maxHeartbeats 1000000 in
theorem push_any (h : RingAt B w0 w rb g F) (wf : g.Wf) (hc : g.count < 536870912) (n : Int) :
    Calls Try.prog 58 #[rptr rb, .int .i64 n] w fun e w' => e = .returned (.tuple #[]) ∧ ∃ g', g'.Wf ∧ g'.row = g.row ++ [n] ∧ RingAt B w0 w' rb g' F := by
  have cm := Lib.hid (makeRoom_any h wf hc)
  clear h wf
  go_enter Try.func58, Try.ntmps58
  go_wp2_with fail
  refine cm.out.mono ?_
  rintro e w1 ⟨rfl, g1, wf1, hrow, hcnt, hlt, h1⟩
  have ht := wf1.top
  have hp : 0 < g1.cs.length := by omega
  have hpl := RG.place_lt hp g1.count
  obtain ⟨b, hb, hsl, hH⟩ := wf1.block hp
  have c0 := h1.c0
  have c2 := h1.c2
  have cf := h1.soft 2
  have hpush := RG.pushed_row wf1 hlt n
  rw [hrow] at hpush
  have hpush := Lib.hid hpush
  have hwf := Lib.hid (RG.pushed_wf wf1 hlt n)
  have cc : Hid (∀ n, Calls Try.prog 61 #[rptr rb, .int .i64 g1.count] (w1.drewN n) fun e w'' => e = .returned (.int .i64 (g1.place g1.count)) ∧ ∃ m, w'' = (w1.drewN n).drewN m) := fun n => by
    have := cellOf_any (h1.drewN n) wf1 hp g1.count (by omega) (by omega)
    rw [Int.toNat_natCast] at this
    exact this
  rw [hsl] at c0
  have h2 : St B w0 w1 ((b, intsObj g1.cs) :: (rb, g1.obj) :: F) := by
    have h := h1
    unfold RingAt at h
    rw [hH] at h
    exact h.perm (List.Perm.swap _ _ _)
  have hne : b ≠ rb := h2.ne List.mem_cons_self
  have hk2 : g1.place g1.count < (ints g1.cs).length := by rw [ints_len]; exact hpl
  have sc : w1.cell? ⟨b, g1.place g1.count, none⟩ = some ((ints g1.cs)[g1.place g1.count]) := h2.cell (b := b) (c := (ints g1.cs).toArray) (T := 3) (fr := (0, 0)) List.mem_cons_self (i := g1.place g1.count) (by simp [hk2])
  have sf := St.soft (b := b) (c := (ints g1.cs).toArray) (T := 3) h2 List.mem_cons_self (g1.place g1.count)
  have hst : Hid (∀ m, RingAt B w0 (((w1.drewN m).setCell ⟨b, g1.place g1.count, none⟩ (.int .i64 n)).setCell ⟨rb, 2, none⟩ (.int .i64 ((g1.count : Int) + 1))) rb (g1.pushed n) F) := fun m => by
    have h3 := (h2.drewN m).set0 (g1.place g1.count) (.int .i64 n)
    rw [List.setIfInBounds_toArray, ints_set] at h3
    have h4 := (h3.perm (List.Perm.swap _ _ _)).set0 2 (.int .i64 ((g1.count : Int) + 1))
    unfold RingAt
    have e1 : (g1.pushed n).cellsH = [(b, intsObj (g1.pushed n).cs)] := by simp [RG.cellsH, RG.pushed, hb]
    have e2 : (g1.pushed n).obj = .cells #[.slice (some ⟨b, 0, none⟩) g1.cs.length g1.cs.length, .int .i64 g1.first, .int .i64 ((g1.count : Int) + 1)] 85 := by simp [RG.obj, RG.sl, RG.pushed, hb]
    rw [e1, e2, ← hsl]
    exact h4
  have hq0 : (0 : Int) ≤ g1.place g1.count := by omega
  have hq1 : (g1.place g1.count : Int) < g1.cs.length := by omega
  have hi1 : (g1.count : Int) ≤ 536870912 := by omega
  have hkeep : Hid (∀ m, ((w1.drewN m).setCell ⟨b, g1.place g1.count, none⟩ (.int .i64 n)).cell? ⟨rb, 0, none⟩ = some (.slice (some ⟨b, 0, none⟩) g1.cs.length g1.cs.length) ∧
      ((w1.drewN m).setCell ⟨b, g1.place g1.count, none⟩ (.int .i64 n)).cell? ⟨rb, 2, none⟩ = some (.int .i64 g1.count)) := fun m => by
    refine ⟨?_, ?_⟩ <;> rw [World.cell?_setCell_other _ _ _ _ (by intro e; exact hne (congrArg Addr.block e))] <;> simpa
  have hn' := hne
  have hn' := Lib.hid hn'
  generalize (ints g1.cs)[g1.place g1.count] = u at *
  generalize hq : g1.place g1.count = q at *
  clear h1 wf1 hrow hcnt hlt ht hp hpl hb hH h2 hk2 hq hsl cm
  go_wp2_with fail
  go_region_held3 (fun w'' => w''.cell? ⟨rb, 0, none⟩ = some (.slice (some ⟨b, 0, none⟩) g1.cs.length g1.cs.length) ∧ w''.cell? ⟨rb, 2, none⟩ = some (.int .i64 g1.count)) (first | exact hkeep.out _ | go_keep) ((go_at_call 61; refine (cc.out _).mono ?_; rintro e w'' ⟨rfl, m, rfl⟩))
  have hk := (hkeep.out (1 + m)).2
  go_wp2_with fail
  exact bodyPost_end (results_none rfl _ _ _) rfl ⟨rfl, _, hwf.out, hpush.out, hst.out _⟩
end
end Go.Proofs.Ytmmagapggmcceaa
