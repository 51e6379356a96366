/- The program's table is turned: New, Add, Drop, DropQueue, DropExchange. -/
import Derived.Test.YtpogfbnaendfoaaBdF
import Derived.Deep.RegionWith
import Derived.Deep.RegionLaw
import Derived.StillTailTactics
import Derived.Deep.DeepCutAuto
import Derived.Deep.CutBlock
namespace Go.Proofs.Ytpogfbnaendfoaa
open Go.RowKit
set_option linter.unusedVariables false

section
variable {B : Nat} {w0 w w' : World} {S F A X : List (Nat × Obj)} {T : TypeId} {tb : Nat} {v u : Value} {L : List Bnd} {b : Bnd}

theorem new_any (h : St B w0 w A) : Calls Try.prog 7 #[] w fun e w' => e = .returned (bpt w.heap.size) ∧ TbIs 55 B w0 w' w.heap.size [] A := by
  have fin := Lib.hid (TbIs.start (T := 55) h)
  clear h
  go_enter Try.func7, Try.ntmps7
  go_wp2_with fail
  go_ret
  exact ⟨rfl, fin.out⟩

/-- A table's cell turned to other rows that are owned. -/
theorem TbIs.turn {w1 : World} {m : List Bnd} {z : Value} {R : List (Nat × Obj)} (h : TbIs T B w0 w tb L A) (hz : BnsIs z m R) (hst : St w.heap.size w w1 (S ++ R)) : TbIs T B w0 (w1.setCell ⟨tb, 0, none⟩ z) tb m (A ++ S) := by
  obtain ⟨v, F, -, hst0⟩ := h
  have h1 := hst0.join hst
  have h2 : St B w0 w1 ((A ++ F ++ S) ++ (tb, .cells #[v] T) :: R) := h1.perm (by
    simp only [List.append_assoc, List.cons_append]
    refine List.Perm.append_left A ?_
    have e : F ++ (S ++ (tb, Obj.cells #[v] T) :: R) = (F ++ S) ++ (tb, .cells #[v] T) :: R := (List.append_assoc _ _ _).symm
    rw [e, ← List.append_assoc]
    exact List.perm_middle.symm)
  have h3 := h2.set 0 z
  refine ⟨z, R, hz, ?_⟩
  have h4 : St B w0 (w1.setCell ⟨tb, 0, none⟩ z) ((A ++ F ++ S) ++ (tb, .cells #[z] T) :: R) := h3
  refine h4.sub ?_
  refine List.Sublist.append ?_ (List.Sublist.refl _)
  exact (List.sublist_append_left A F).append (List.Sublist.refl S)
/-- Behind cut, seen as a table. -/
theorem CutR.table {l m : List Bnd} {e : Ending} (hc : CutR w tb l m e w') (h : TbIs 55 B w0 w tb L A) : ∃ u S, e = .returned u ∧ BnsIs u l S ∧ TbIs 55 B w0 w' tb m (A ++ S) := by
  obtain ⟨u, S, z, R, w1, rfl, hs, hz, hst, rfl⟩ := hc
  exact ⟨u, S, rfl, hs, h.turn hz hst⟩

def CutsR (T : TypeId) (B : Nat) (w0 : World) (tb : Nat) (L : List Bnd) (A : List (Nat × Obj)) (v : Value) (e : Ending) (w' : World) : Prop := e = .returned v ∧ TbIs T B w0 w' tb L A

set_option maxHeartbeats 1000000 in
theorem drop_any (h : TbIs 55 B w0 w tb L A) (hL : L.length ≤ 10000) (x : Bnd) : Calls Try.prog 10 #[bpt tb, bV x] w (CutsR 55 B w0 tb (L.filter fun b => !(b == x)) A (.bool (decide (0 < (L.filter fun b => b == x).length)))) := by
  have h1 := h.alloc (bO x)
  obtain ⟨v, ho, hv⟩ := h1.one
  have hq : (w.alloc (bO x)).cell? ⟨w.heap.size, 0, none⟩ = some (tx x.1) ∧ (w.alloc (bO x)).cell? ⟨w.heap.size, 1, none⟩ = some (tx x.2.1) ∧ (w.alloc (bO x)).cell? ⟨w.heap.size, 2, none⟩ = some (tx x.2.2) := by
    refine ⟨?_, ?_, ?_⟩ <;> simp
  have c1 := Lib.hid (cut_any ho hv hL (tells_drop hq))
  have hmf : ∀ (fn : Fn) (first cap : Array Value) (w : World), (Instr.makeFunc fn first cap).run Try.prog w = .ok (.func fn first cap) w := fun _ _ _ _ => rfl
  have tab : Hid (∀ e w', CutR (w.alloc (bO x)) tb (L.filter fun b => b == x) (L.filter fun b => !(b == x)) e w' → ∃ a cap, e = .returned (.slice a (L.filter fun b => b == x).length cap) ∧ TbIs 55 B w0 w' tb (L.filter fun b => !(b == x)) A) := by
    refine Lib.hid fun e w' hc => ?_
    obtain ⟨u, S, rfl, hs, ht⟩ := hc.table h1
    obtain ⟨a, cap, rfl⟩ := hs.form
    exact ⟨a, cap, rfl, ht.sub (by rw [List.cons_append]; exact ((List.sublist_append_left A S)).trans (List.sublist_cons_self _ _))⟩
  generalize (L.filter fun b => !(b == x)) = M at *
  generalize (L.filter fun b => b == x).length = q at *
  obtain ⟨x1, x2, x3⟩ := x
  clear h h1 ho hv hq
  go_enter Try.func10, Try.ntmps10
  go_wp2_with fail
  refine c1.out.mono ?_
  intro e w1 hc
  obtain ⟨a, cap, rfl, ht⟩ := tab.out _ _ hc
  replace ht := Lib.hid ht
  clear hc c1 tab
  go_wp2_with fail
  go_ret
  exact ⟨ret_bool (decide_eq_decide.2 (by omega)), ht.out⟩

set_option maxHeartbeats 1000000 in
theorem dropE_any (h : TbIs 55 B w0 w tb L A) (hL : L.length ≤ 10000) (x : List UInt8) : Calls Try.prog 15 #[bpt tb, tx x] w (CutsR 55 B w0 tb (L.filter fun b => !(b.1 == x)) A (.tuple #[])) := by
  have h1 := h.alloc (.cells #[tx x] 9)
  obtain ⟨v, ho, hv⟩ := h1.one
  have hq : (w.alloc (.cells #[tx x] 9)).cell? ⟨w.heap.size, 0, none⟩ = some (tx x) := by simp
  have c1 := Lib.hid (cut_any ho hv hL (tells_dropE hq))
  have hmf : ∀ (fn : Fn) (first cap : Array Value) (w : World), (Instr.makeFunc fn first cap).run Try.prog w = .ok (.func fn first cap) w := fun _ _ _ _ => rfl
  have tab : Hid (∀ e w', CutR (w.alloc (.cells #[tx x] 9)) tb (L.filter fun b => b.1 == x) (L.filter fun b => !(b.1 == x)) e w' → ∃ a cap, e = .returned (.slice a (L.filter fun b => b.1 == x).length cap) ∧ TbIs 55 B w0 w' tb (L.filter fun b => !(b.1 == x)) A) := by
    refine Lib.hid fun e w' hc => ?_
    obtain ⟨u, S, rfl, hs, ht⟩ := hc.table h1
    obtain ⟨a, cap, rfl⟩ := hs.form
    exact ⟨a, cap, rfl, ht.sub (by rw [List.cons_append]; exact ((List.sublist_append_left A S)).trans (List.sublist_cons_self _ _))⟩
  generalize (L.filter fun b => !(b.1 == x)) = M at *
  generalize (L.filter fun b => b.1 == x).length = q at *
  clear h h1 ho hv hq
  go_enter Try.func15, Try.ntmps15
  go_wp2_with fail
  refine c1.out.mono ?_
  intro e w1 hc
  obtain ⟨a, cap, rfl, ht⟩ := tab.out _ _ hc
  replace ht := Lib.hid ht
  clear hc c1 tab
  go_wp2_with fail
  exact bodyPost_end (results_none rfl _ _ _) rfl ⟨rfl, ht.out⟩

def CutNR (T : TypeId) (B : Nat) (w0 : World) (tb : Nat) (L : List Bnd) (A : List (Nat × Obj)) (l : List (List UInt8)) (e : Ending) (w' : World) : Prop := ∃ u S, e = .returned u ∧ TssIs u l S ∧ TbIs T B w0 w' tb L (A ++ S)

set_option maxHeartbeats 1000000 in
theorem dropQ_any (h : TbIs 55 B w0 w tb L A) (hL : L.length ≤ 10000) (hfit : ∀ b ∈ L, FitB b) (x : List UInt8) :
    Calls Try.prog 13 #[bpt tb, tx x] w (CutNR 55 B w0 tb (L.filter fun b => !(b.2.1 == x)) A (onceL [] ((L.filter fun b => b.2.1 == x).map (·.1)))) := by
  have h1 := h.alloc (.cells #[tx x] 9)
  obtain ⟨v, ho, hv⟩ := h1.one
  have hq : (w.alloc (.cells #[tx x] 9)).cell? ⟨w.heap.size, 0, none⟩ = some (tx x) := by simp
  have c1 := Lib.hid (cut_any ho hv hL (tells_dropQ hq))
  have hmf : ∀ (fn : Fn) (first cap : Array Value) (w : World), (Instr.makeFunc fn first cap).run Try.prog w = .ok (.func fn first cap) w := fun _ _ _ _ => rfl
  obtain ⟨K, hK⟩ : ∃ K, K = L.filter fun b => b.2.1 == x := ⟨_, rfl⟩
  have hKl : K.length ≤ 10000 := by rw [hK]; exact Nat.le_trans (List.length_filter_le _ _) hL
  have hKf : ∀ b ∈ K, b.1.length ≤ maxLen := fun b hb => by
    rw [hK] at hb
    have := (hfit b (List.mem_filter.1 hb).1).1
    unfold maxLen
    omega
  rw [← hK] at c1 ⊢
  generalize (L.filter fun b => !(b.2.1 == x)) = M at *
  have tab : Hid (∀ e w', CutR (w.alloc (.cells #[tx x] 9)) tb K M e w' → ∃ a cap, e = .returned (.slice a K.length cap) ∧
      Calls Try.prog 27 #[.slice a K.length cap, .func (.func 28) #[] #[]] w' (CutNR 55 B w0 tb M A (onceL [] (K.map (·.1))))) := by
    refine Lib.hid fun e w' hc => ?_
    obtain ⟨u, S, rfl, hs, ht⟩ := hc.table h1
    obtain ⟨a, cap, rfl⟩ := hs.form
    have hrd : ReadBs w' (.slice a K.length cap) K := by
      obtain ⟨X, hX, -⟩ := ht.beside
      exact hs.read (A := X ++ ((w.heap.size, .cells #[tx x] 9) :: A)) (by rw [List.append_assoc]; exact hX)
    refine ⟨a, cap, rfl, (once_any hrd hKl hKf (names_dropQ w')).mono ?_⟩
    rintro e w2 ⟨u2, S2, rfl, hs2, hst2⟩
    exact ⟨u2, S2, rfl, hs2, (ht.sub (by rw [List.cons_append]; exact ((List.sublist_append_left A S)).trans (List.sublist_cons_self _ _))).more hst2⟩
  clear h h1 ho hv hq hK hKf hfit hKl
  go_enter Try.func13, Try.ntmps13
  go_wp2_with fail
  refine c1.out.mono ?_
  intro e w1 hc
  obtain ⟨a, cap, rfl, c2⟩ := tab.out _ _ hc
  replace c2 := Lib.hid c2
  clear hc c1 tab
  go_wp2_with fail
  refine c2.out.mono ?_
  rintro e w2 ⟨u, S, rfl, hu, ht⟩
  have fin : Hid (CutNR 55 B w0 tb M A (onceL [] (K.map (·.1))) (.returned u) w2) := Lib.hid ⟨u, S, rfl, hu, ht⟩
  clear hu ht c2
  go_wp2_with fail
  go_ret
  exact fin.out

/-- Behind Add. -/
def AddR (T : TypeId) (B : Nat) (w0 : World) (tb : Nat) (L : List Bnd) (b : Bnd) (A : List (Nat × Obj)) (e : Ending) (w' : World) : Prop :=
  e = .returned (.tuple #[.bool (addL L b).2.1, .int .i64 (addL L b).2.2]) ∧ TbIs T B w0 w' tb (addL L b).1 A

set_option maxHeartbeats 4000000 in
theorem add_any (h : TbIs 55 B w0 w tb L A) (hL : L.length ≤ 40) (hb : FitB b) : Calls Try.prog 8 #[bpt tb, bV b] w (AddR 55 B w0 tb L b A) := by
  have h1 := h.alloc (bO b)
  have q0 : (w.alloc (bO b)).cell? ⟨w.heap.size, 0, none⟩ = some (tx b.1) := by simp
  have q1 : (w.alloc (bO b)).cell? ⟨w.heap.size, 1, none⟩ = some (tx b.2.1) := by simp
  have q2 : (w.alloc (bO b)).cell? ⟨w.heap.size, 2, none⟩ = some (tx b.2.2) := by simp
  obtain ⟨W1, hW⟩ : ∃ W1, W1 = w.alloc (bO b) := ⟨_, rfl⟩
  rw [← hW] at h1 q0 q1 q2
  obtain ⟨v, ho, hv⟩ := h1.one
  have hdr : Below W1.heap.size W1 W1.drew := (Below.refl _ W1).drew
  have c1 := Lib.hid (containsB_any (hv.below hdr) (by omega) b)
  obtain ⟨a, cap, rfl, -⟩ := id hv
  have ct := ho.cell
  have hx : Hid (∀ w2, Below W1.heap.size W1 w2 → w2.cell? ⟨tb, 0, none⟩ = some (.slice a L.length cap) ∧ w2.cell? ⟨w.heap.size, 0, none⟩ = some (tx b.1) ∧ w2.cell? ⟨w.heap.size, 1, none⟩ = some (tx b.2.1) ∧ w2.cell? ⟨w.heap.size, 2, none⟩ = some (tx b.2.2)) := Lib.hid fun w2 hb2 =>
    ⟨cellOn (c := (tb, 0)) ct hb2, cellOn (c := (_, 0)) q0 hb2, cellOn (c := (_, 1)) q1 hb2, cellOn (c := (_, 2)) q2 hb2⟩
  have toW : Hid (∀ w2, Below W1.drew.heap.size W1.drew w2 → Below W1.heap.size W1 w2) := Lib.hid fun w2 hb2 => bel hdr hb2
  by_cases hin : b ∈ L
  · rw [decide_eq_true hin] at c1
    have fin : Hid (∀ w2, Below W1.heap.size W1 w2 → AddR 55 B w0 tb L b A (.returned (.tuple #[.bool false, .int .i64 0])) w2) := Lib.hid fun w2 hb2 => by
      refine ⟨?_, ?_⟩
      · rw [addL, if_pos hin]
      · rw [addL, if_pos hin]
        exact (h1.grow hb2).sub (List.sublist_cons_self _ _)
    obtain ⟨b1, b2, b3⟩ := b
    simp only at q0 q1 q2
    replace hW : Hid (w.alloc (.cells #[tx b1, tx b2, tx b3] 31) = W1) := Lib.hid hW.symm
    clear h h1 ho hv hin hb hdr
    go_enter Try.func8, Try.ntmps8
    go_upto_region 1 with fail
    rw [hW.out]
    go_still_tail 5, (by kernel_rfl)
    change wpList _ _ _ _ _ W1.drew
    go_wp2_with fail
    refine c1.out.mono ?_
    rintro e w2 ⟨rfl, hb2⟩
    replace fin := Lib.hid (fin.out _ (toW.out _ hb2))
    clear hb2 hx toW q0 q1 q2 ct
    go_wp2_with fail
    go_ret2
    exact fin.out
  rw [decide_eq_false hin] at c1
  by_cases hfull : 40 ≤ L.length
  · have hfI : (40 : Int) ≤ L.length := by omega
    have fin : Hid (∀ w2, Below W1.heap.size W1 w2 → AddR 55 B w0 tb L b A (.returned (.tuple #[.bool false, .int .i64 12])) w2) := Lib.hid fun w2 hb2 => by
      refine ⟨?_, ?_⟩
      · rw [addL, if_neg hin, if_pos hfull]
      · rw [addL, if_neg hin, if_pos hfull]
        exact (h1.grow hb2).sub (List.sublist_cons_self _ _)
    obtain ⟨b1, b2, b3⟩ := b
    simp only at q0 q1 q2
    replace hW : Hid (w.alloc (.cells #[tx b1, tx b2, tx b3] 31) = W1) := Lib.hid hW.symm
    clear h h1 ho hv hin hb hdr
    go_enter Try.func8, Try.ntmps8
    go_upto_region 1 with fail
    rw [hW.out]
    go_still_tail 5, (by kernel_rfl)
    change wpList _ _ _ _ _ W1.drew
    go_wp2_with fail
    refine c1.out.mono ?_
    rintro e w2 ⟨rfl, hb2⟩
    replace fin := Lib.hid (fin.out _ (toW.out _ hb2))
    have ct2 := (hx.out _ (toW.out _ hb2)).1
    clear hb2 hx toW q0 q1 q2 ct
    go_wp2_with fail
    go_ret2
    exact fin.out
  · have hfI : ¬ (40 : Int) ≤ L.length := by omega
    have ap : Hid (∀ w2, Below W1.heap.size W1 w2 → ∃ a2 cap2 W3, (Builtin.append_ #[27, 27] 0 #[.slice a L.length cap, .slice (some ⟨w2.heap.size, 0, none⟩) 1 1]).run Try.prog (w2.alloc (bO b)) = .ok (.slice a2 (L.length + 1) cap2) W3 ∧
        (W3.cell? ⟨tb, 0, none⟩ = some (.slice a L.length cap) ∧ W3.frozen? ⟨tb, 0, none⟩ = false) ∧ AddR 55 B w0 tb L b A (.returned (.tuple #[.bool true, .int .i64 0])) (W3.setCell ⟨tb, 0, none⟩ (.slice a2 (L.length + 1) cap2))) := by
      refine Lib.hid fun w2 hb2 => ?_
      obtain ⟨v', S, hs, hst⟩ := h1.grow hb2
      have e : v' = .slice a L.length cap := by
        have e1 := hst.cell (b := tb) (i := 0) (v := v') (List.mem_append_right _ List.mem_cons_self) rfl
        have e2 := cellOn (c := (tb, 0)) ct hb2
        exact Option.some.inj (e1.symm.trans e2)
      subst e
      obtain ⟨a2, cap2, W3, F2, hrun, hs2, hst2⟩ := bnd_append (X := ((w.heap.size, bO b) :: A) ++ [(tb, .cells #[.slice a L.length cap] 55)]) hs (by simpa using hst) b (by omega)
      have hst3 : St B w0 W3 (((w.heap.size, bO b) :: A) ++ (tb, .cells #[.slice a L.length cap] 55) :: F2) := by simpa using hst2
      refine ⟨a2, cap2, W3, hrun, ⟨hst3.cell (b := tb) (i := 0) (List.mem_append_right _ List.mem_cons_self) rfl, St.soft (b := tb) hst3 (List.mem_append_right _ List.mem_cons_self) 0⟩, ?_, ?_⟩
      · rw [addL, if_neg hin, if_neg hfull]
      · rw [addL, if_neg hin, if_neg hfull]
        have h5 := hst3.set 0 (.slice a2 (L.length + 1) cap2)
        exact ⟨_, F2, hs2, h5.sub (by rw [List.cons_append]; exact List.sublist_cons_self _ _)⟩
    have co := Lib.hid (fun w2 => own_any hb w2)
    obtain ⟨b1, b2, b3⟩ := b
    simp only at q0 q1 q2
    replace hW : Hid (w.alloc (.cells #[tx b1, tx b2, tx b3] 31) = W1) := Lib.hid hW.symm
    clear h h1 ho hv hin hb hdr
    go_enter Try.func8, Try.ntmps8
    go_upto_region 1 with fail
    rw [hW.out]
    go_still_tail 5, (by kernel_rfl)
    change wpList _ _ _ _ _ W1.drew
    go_wp2_with fail
    refine c1.out.mono ?_
    rintro e w2 ⟨rfl, hb2⟩
    replace hb2 := toW.out _ hb2
    obtain ⟨ct2, r0, r1, r2⟩ := hx.out _ hb2
    have toX : Hid (∀ w3, Below w2.drew.heap.size w2.drew w3 → Below W1.heap.size W1 w3) := Lib.hid fun w3 hb3 => bel hb2 (bel (Below.refl _ w2).drew hb3)
    clear hb2 q0 q1 q2 ct
    go_wp2_with fail
    go_region_law (first
      | (refine step_append_go rfl (.tmp 24) (.tmp 27) 27 27 rfl _ _ rfl rfl hrun ?_)
      | (go_simp; go_at_call 23; refine (co.out _).mono ?_; rintro e w3 ⟨rfl, hb3⟩; obtain ⟨ct3, s0, s1, s2⟩ := hx.out _ (toX.out _ hb3); have ct4 := cellOn (c := (tb, 0)) ct3 (new_below w3 (.cells #[tx b1, tx b2, tx b3] 31)); obtain ⟨a2, cap2, W3, hrun, ⟨k0, k1⟩, fin⟩ := ap.out _ (toX.out _ hb3); replace fin := Lib.hid fin; clear hb3))
    all_goals
      go_wp2_with fail
      go_ret2
      exact fin.out
end
end Go.Proofs.Ytpogfbnaendfoaa
