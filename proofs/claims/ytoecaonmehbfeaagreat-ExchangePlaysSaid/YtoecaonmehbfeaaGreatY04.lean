/- The program's table is turned: New, Add, Drop, DropQueue, DropExchange, The document's own table: what its loops hold, The document's table inside its exchanges: the second cell of a block, The document's table inside its exchanges: Of, DropExchange, Drop, Keys with stars, plain: words, patterns held against words (at once, greedily, by a table), names. -/
import Derived.Test.YtoecaonmehbfeaaGreatY03
import Derived.Deep.RegionWith
import Derived.Deep.RegionLaw
import Derived.StillTailTactics
import Derived.Deep.DeepCutAuto
import Derived.Deep.CutBlock
import Derived.Test.YtoecaonmehbfeaaGreatY01
import Derived.Lib.Bytealg
/- The program's table is turned: New, Add, Drop, DropQueue, DropExchange. -/
namespace Go.Proofs.YtoecaonmehbfeaaGreat
open Go.RowKit
set_option linter.unusedVariables false
set_option maxRecDepth 100000

section
variable {B : Nat} {w0 w w' : World} {S F A X : List (Nat × Obj)} {T : TypeId} {tb : Nat} {v u : Value} {L : List Bnd} {b : Bnd}

theorem new_any (h : St B w0 w A) : Calls Tryz.prog 67 #[] w fun e w' => e = .returned (bpt w.heap.size) ∧ TbIs 99 B w0 w' w.heap.size [] A := by
  have fin := Lib.hid (TbIs.start (T := 99) h)
  clear h
  go_enter Tryz.func67, Tryz.ntmps67
  go_wp2_with fail
  go_ret
  exact ⟨rfl, fin.out⟩

/-- A table's cell turned to other rows that are owned. -/
theorem TbIs.turn {w1 : World} {m : List Bnd} {z : Value} {R : List (Nat × Obj)} (h : TbIs T B w0 w tb L A) (hz : BnsIs z m R) (hst : St w.heap.size w w1 (S ++ R)) : TbIs T B w0 (w1.setCell ⟨tb, 0, none⟩ z) tb m (A ++ S) := by
  obtain ⟨v, F, -, hst0⟩ := h
  have h1 := hst0.join hst
  have h2 : St B w0 w1 ((A ++ F ++ S) ++ (tb, .cells #[v] T) :: R) := h1.perm (by
    simp only [List.append_assoc, List.cons_append]
    refine List.Perm.append_left A ?_
    have e : F ++ (S ++ (tb, Obj.cells #[v] T) :: R) = (F ++ S) ++ (tb, .cells #[v] T) :: R := (List.append_assoc _ _ _).symm
    rw [e, ← List.append_assoc]
    exact List.perm_middle.symm)
  have h3 := h2.set 0 z
  refine ⟨z, R, hz, ?_⟩
  have h4 : St B w0 (w1.setCell ⟨tb, 0, none⟩ z) ((A ++ F ++ S) ++ (tb, .cells #[z] T) :: R) := h3
  refine h4.sub ?_
  refine List.Sublist.append ?_ (List.Sublist.refl _)
  exact (List.sublist_append_left A F).append (List.Sublist.refl S)
/-- Behind cut, seen as a table. -/
theorem CutR.table {l m : List Bnd} {e : Ending} (hc : CutR w tb l m e w') (h : TbIs 99 B w0 w tb L A) : ∃ u S, e = .returned u ∧ BnsIs u l S ∧ TbIs 99 B w0 w' tb m (A ++ S) := by
  obtain ⟨u, S, z, R, w1, rfl, hs, hz, hst, rfl⟩ := hc
  exact ⟨u, S, rfl, hs, h.turn hz hst⟩

def CutsR (T : TypeId) (B : Nat) (w0 : World) (tb : Nat) (L : List Bnd) (A : List (Nat × Obj)) (v : Value) (e : Ending) (w' : World) : Prop := e = .returned v ∧ TbIs T B w0 w' tb L A

set_option maxHeartbeats 1000000 in
theorem drop_any (h : TbIs 99 B w0 w tb L A) (hL : L.length ≤ 10000) (x : Bnd) : Calls Tryz.prog 50 #[bpt tb, bV x] w (CutsR 99 B w0 tb (L.filter fun b => !(b == x)) A (.bool (decide (0 < (L.filter fun b => b == x).length)))) := by
  have h1 := h.alloc (bO x)
  obtain ⟨v, ho, hv⟩ := h1.one
  have hq : (w.alloc (bO x)).cell? ⟨w.heap.size, 0, none⟩ = some (tx x.1) ∧ (w.alloc (bO x)).cell? ⟨w.heap.size, 1, none⟩ = some (tx x.2.1) ∧ (w.alloc (bO x)).cell? ⟨w.heap.size, 2, none⟩ = some (tx x.2.2) := by
    refine ⟨?_, ?_, ?_⟩ <;> simp
  have c1 := Lib.hid (cut_any ho hv hL (tells_drop hq))
  have hmf : ∀ (fn : Fn) (first cap : Array Value) (w : World), (Instr.makeFunc fn first cap).run Tryz.prog w = .ok (.func fn first cap) w := fun _ _ _ _ => rfl
  have tab : Hid (∀ e w', CutR (w.alloc (bO x)) tb (L.filter fun b => b == x) (L.filter fun b => !(b == x)) e w' → ∃ a cap, e = .returned (.slice a (L.filter fun b => b == x).length cap) ∧ TbIs 99 B w0 w' tb (L.filter fun b => !(b == x)) A) := by
    refine Lib.hid fun e w' hc => ?_
    obtain ⟨u, S, rfl, hs, ht⟩ := hc.table h1
    obtain ⟨a, cap, rfl⟩ := hs.form
    exact ⟨a, cap, rfl, ht.sub (by rw [List.cons_append]; exact ((List.sublist_append_left A S)).trans (List.sublist_cons_self _ _))⟩
  generalize (L.filter fun b => !(b == x)) = M at *
  generalize (L.filter fun b => b == x).length = q at *
  obtain ⟨x1, x2, x3⟩ := x
  clear h h1 ho hv hq
  go_enter Tryz.func50, Tryz.ntmps50
  go_wp2_with fail
  refine c1.out.mono ?_
  intro e w1 hc
  obtain ⟨a, cap, rfl, ht⟩ := tab.out _ _ hc
  replace ht := Lib.hid ht
  clear hc c1 tab
  go_wp2_with fail
  go_ret
  exact ⟨ret_bool (decide_eq_decide.2 (by omega)), ht.out⟩

set_option maxHeartbeats 1000000 in
theorem dropE_any (h : TbIs 99 B w0 w tb L A) (hL : L.length ≤ 10000) (x : List UInt8) : Calls Tryz.prog 40 #[bpt tb, tx x] w (CutsR 99 B w0 tb (L.filter fun b => !(b.1 == x)) A (.tuple #[])) := by
  have h1 := h.alloc (.cells #[tx x] 9)
  obtain ⟨v, ho, hv⟩ := h1.one
  have hq : (w.alloc (.cells #[tx x] 9)).cell? ⟨w.heap.size, 0, none⟩ = some (tx x) := by simp
  have c1 := Lib.hid (cut_any ho hv hL (tells_dropE hq))
  have hmf : ∀ (fn : Fn) (first cap : Array Value) (w : World), (Instr.makeFunc fn first cap).run Tryz.prog w = .ok (.func fn first cap) w := fun _ _ _ _ => rfl
  have tab : Hid (∀ e w', CutR (w.alloc (.cells #[tx x] 9)) tb (L.filter fun b => b.1 == x) (L.filter fun b => !(b.1 == x)) e w' → ∃ a cap, e = .returned (.slice a (L.filter fun b => b.1 == x).length cap) ∧ TbIs 99 B w0 w' tb (L.filter fun b => !(b.1 == x)) A) := by
    refine Lib.hid fun e w' hc => ?_
    obtain ⟨u, S, rfl, hs, ht⟩ := hc.table h1
    obtain ⟨a, cap, rfl⟩ := hs.form
    exact ⟨a, cap, rfl, ht.sub (by rw [List.cons_append]; exact ((List.sublist_append_left A S)).trans (List.sublist_cons_self _ _))⟩
  generalize (L.filter fun b => !(b.1 == x)) = M at *
  generalize (L.filter fun b => b.1 == x).length = q at *
  clear h h1 ho hv hq
  go_enter Tryz.func40, Tryz.ntmps40
  go_wp2_with fail
  refine c1.out.mono ?_
  intro e w1 hc
  obtain ⟨a, cap, rfl, ht⟩ := tab.out _ _ hc
  replace ht := Lib.hid ht
  clear hc c1 tab
  go_wp2_with fail
  exact bodyPost_end (results_none rfl _ _ _) rfl ⟨rfl, ht.out⟩

def CutNR (T : TypeId) (B : Nat) (w0 : World) (tb : Nat) (L : List Bnd) (A : List (Nat × Obj)) (l : List (List UInt8)) (e : Ending) (w' : World) : Prop := ∃ u S, e = .returned u ∧ TssIs u l S ∧ TbIs T B w0 w' tb L (A ++ S)

set_option maxHeartbeats 1000000 in
theorem dropQ_any (h : TbIs 99 B w0 w tb L A) (hL : L.length ≤ 10000) (hfit : ∀ b ∈ L, FitB b) (x : List UInt8) :
    Calls Tryz.prog 55 #[bpt tb, tx x] w (CutNR 99 B w0 tb (L.filter fun b => !(b.2.1 == x)) A (onceL [] ((L.filter fun b => b.2.1 == x).map (·.1)))) := by
  have h1 := h.alloc (.cells #[tx x] 9)
  obtain ⟨v, ho, hv⟩ := h1.one
  have hq : (w.alloc (.cells #[tx x] 9)).cell? ⟨w.heap.size, 0, none⟩ = some (tx x) := by simp
  have c1 := Lib.hid (cut_any ho hv hL (tells_dropQ hq))
  have hmf : ∀ (fn : Fn) (first cap : Array Value) (w : World), (Instr.makeFunc fn first cap).run Tryz.prog w = .ok (.func fn first cap) w := fun _ _ _ _ => rfl
  obtain ⟨K, hK⟩ : ∃ K, K = L.filter fun b => b.2.1 == x := ⟨_, rfl⟩
  have hKl : K.length ≤ 10000 := by rw [hK]; exact Nat.le_trans (List.length_filter_le _ _) hL
  have hKf : ∀ b ∈ K, b.1.length ≤ maxLen := fun b hb => by
    rw [hK] at hb
    have := (hfit b (List.mem_filter.1 hb).1).1
    unfold maxLen
    omega
  rw [← hK] at c1 ⊢
  generalize (L.filter fun b => !(b.2.1 == x)) = M at *
  have tab : Hid (∀ e w', CutR (w.alloc (.cells #[tx x] 9)) tb K M e w' → ∃ a cap, e = .returned (.slice a K.length cap) ∧
      Calls Tryz.prog 79 #[.slice a K.length cap, .func (.func 80) #[] #[]] w' (CutNR 99 B w0 tb M A (onceL [] (K.map (·.1))))) := by
    refine Lib.hid fun e w' hc => ?_
    obtain ⟨u, S, rfl, hs, ht⟩ := hc.table h1
    obtain ⟨a, cap, rfl⟩ := hs.form
    have hrd : ReadBs w' (.slice a K.length cap) K := by
      obtain ⟨X, hX, -⟩ := ht.beside
      exact hs.read (A := X ++ ((w.heap.size, .cells #[tx x] 9) :: A)) (by rw [List.append_assoc]; exact hX)
    refine ⟨a, cap, rfl, (once_any hrd hKl hKf (names_dropQ w')).mono ?_⟩
    rintro e w2 ⟨u2, S2, rfl, hs2, hst2⟩
    exact ⟨u2, S2, rfl, hs2, (ht.sub (by rw [List.cons_append]; exact ((List.sublist_append_left A S)).trans (List.sublist_cons_self _ _))).more hst2⟩
  clear h h1 ho hv hq hK hKf hfit hKl
  go_enter Tryz.func55, Tryz.ntmps55
  go_wp2_with fail
  refine c1.out.mono ?_
  intro e w1 hc
  obtain ⟨a, cap, rfl, c2⟩ := tab.out _ _ hc
  replace c2 := Lib.hid c2
  clear hc c1 tab
  go_wp2_with fail
  refine c2.out.mono ?_
  rintro e w2 ⟨u, S, rfl, hu, ht⟩
  have fin : Hid (CutNR 99 B w0 tb M A (onceL [] (K.map (·.1))) (.returned u) w2) := Lib.hid ⟨u, S, rfl, hu, ht⟩
  clear hu ht c2
  go_wp2_with fail
  go_ret
  exact fin.out

/-- Behind Add. -/
def AddR (T : TypeId) (B : Nat) (w0 : World) (tb : Nat) (L : List Bnd) (b : Bnd) (A : List (Nat × Obj)) (e : Ending) (w' : World) : Prop :=
  e = .returned (.tuple #[.bool (addL L b).2.1, .int .i64 (addL L b).2.2]) ∧ TbIs T B w0 w' tb (addL L b).1 A

set_option maxHeartbeats 4000000 in
theorem add_any (h : TbIs 99 B w0 w tb L A) (hL : L.length ≤ 40) (hb : FitB b) : Calls Tryz.prog 44 #[bpt tb, bV b] w (AddR 99 B w0 tb L b A) := by
  have h1 := h.alloc (bO b)
  have q0 : (w.alloc (bO b)).cell? ⟨w.heap.size, 0, none⟩ = some (tx b.1) := by simp
  have q1 : (w.alloc (bO b)).cell? ⟨w.heap.size, 1, none⟩ = some (tx b.2.1) := by simp
  have q2 : (w.alloc (bO b)).cell? ⟨w.heap.size, 2, none⟩ = some (tx b.2.2) := by simp
  obtain ⟨W1, hW⟩ : ∃ W1, W1 = w.alloc (bO b) := ⟨_, rfl⟩
  rw [← hW] at h1 q0 q1 q2
  obtain ⟨v, ho, hv⟩ := h1.one
  have hdr : Below W1.heap.size W1 W1.drew := (Below.refl _ W1).drew
  have c1 := Lib.hid (containsB_any (hv.below hdr) (by omega) b)
  obtain ⟨a, cap, rfl, -⟩ := id hv
  have ct := ho.cell
  have hx : Hid (∀ w2, Below W1.heap.size W1 w2 → w2.cell? ⟨tb, 0, none⟩ = some (.slice a L.length cap) ∧ w2.cell? ⟨w.heap.size, 0, none⟩ = some (tx b.1) ∧ w2.cell? ⟨w.heap.size, 1, none⟩ = some (tx b.2.1) ∧ w2.cell? ⟨w.heap.size, 2, none⟩ = some (tx b.2.2)) := Lib.hid fun w2 hb2 =>
    ⟨cellOn (c := (tb, 0)) ct hb2, cellOn (c := (_, 0)) q0 hb2, cellOn (c := (_, 1)) q1 hb2, cellOn (c := (_, 2)) q2 hb2⟩
  have toW : Hid (∀ w2, Below W1.drew.heap.size W1.drew w2 → Below W1.heap.size W1 w2) := Lib.hid fun w2 hb2 => bel hdr hb2
  by_cases hin : b ∈ L
  · rw [decide_eq_true hin] at c1
    have fin : Hid (∀ w2, Below W1.heap.size W1 w2 → AddR 99 B w0 tb L b A (.returned (.tuple #[.bool false, .int .i64 0])) w2) := Lib.hid fun w2 hb2 => by
      refine ⟨?_, ?_⟩
      · rw [addL, if_pos hin]
      · rw [addL, if_pos hin]
        exact (h1.grow hb2).sub (List.sublist_cons_self _ _)
    obtain ⟨b1, b2, b3⟩ := b
    simp only at q0 q1 q2
    replace hW : Hid (w.alloc (.cells #[tx b1, tx b2, tx b3] 34) = W1) := Lib.hid hW.symm
    clear h h1 ho hv hin hb hdr
    go_enter Tryz.func44, Tryz.ntmps44
    go_upto_region 1 with fail
    rw [hW.out]
    go_still_tail 5, (by kernel_rfl)
    change wpList _ _ _ _ _ W1.drew
    go_wp2_with fail
    refine c1.out.mono ?_
    rintro e w2 ⟨rfl, hb2⟩
    replace fin := Lib.hid (fin.out _ (toW.out _ hb2))
    clear hb2 hx toW q0 q1 q2 ct
    go_wp2_with fail
    go_ret2
    exact fin.out
  rw [decide_eq_false hin] at c1
  by_cases hfull : 40 ≤ L.length
  · have hfI : (40 : Int) ≤ L.length := by omega
    have fin : Hid (∀ w2, Below W1.heap.size W1 w2 → AddR 99 B w0 tb L b A (.returned (.tuple #[.bool false, .int .i64 12])) w2) := Lib.hid fun w2 hb2 => by
      refine ⟨?_, ?_⟩
      · rw [addL, if_neg hin, if_pos hfull]
      · rw [addL, if_neg hin, if_pos hfull]
        exact (h1.grow hb2).sub (List.sublist_cons_self _ _)
    obtain ⟨b1, b2, b3⟩ := b
    simp only at q0 q1 q2
    replace hW : Hid (w.alloc (.cells #[tx b1, tx b2, tx b3] 34) = W1) := Lib.hid hW.symm
    clear h h1 ho hv hin hb hdr
    go_enter Tryz.func44, Tryz.ntmps44
    go_upto_region 1 with fail
    rw [hW.out]
    go_still_tail 5, (by kernel_rfl)
    change wpList _ _ _ _ _ W1.drew
    go_wp2_with fail
    refine c1.out.mono ?_
    rintro e w2 ⟨rfl, hb2⟩
    replace fin := Lib.hid (fin.out _ (toW.out _ hb2))
    have ct2 := (hx.out _ (toW.out _ hb2)).1
    clear hb2 hx toW q0 q1 q2 ct
    go_wp2_with fail
    go_ret2
    exact fin.out
  · have hfI : ¬ (40 : Int) ≤ L.length := by omega
    have ap : Hid (∀ w2, Below W1.heap.size W1 w2 → ∃ a2 cap2 W3, (Builtin.append_ #[28, 28] 0 #[.slice a L.length cap, .slice (some ⟨w2.heap.size, 0, none⟩) 1 1]).run Tryz.prog (w2.alloc (bO b)) = .ok (.slice a2 (L.length + 1) cap2) W3 ∧
        (W3.cell? ⟨tb, 0, none⟩ = some (.slice a L.length cap) ∧ W3.frozen? ⟨tb, 0, none⟩ = false) ∧ AddR 99 B w0 tb L b A (.returned (.tuple #[.bool true, .int .i64 0])) (W3.setCell ⟨tb, 0, none⟩ (.slice a2 (L.length + 1) cap2))) := by
      refine Lib.hid fun w2 hb2 => ?_
      obtain ⟨v', S, hs, hst⟩ := h1.grow hb2
      have e : v' = .slice a L.length cap := by
        have e1 := hst.cell (b := tb) (i := 0) (v := v') (List.mem_append_right _ List.mem_cons_self) rfl
        have e2 := cellOn (c := (tb, 0)) ct hb2
        exact Option.some.inj (e1.symm.trans e2)
      subst e
      obtain ⟨a2, cap2, W3, F2, hrun, hs2, hst2⟩ := bnd_append (X := ((w.heap.size, bO b) :: A) ++ [(tb, .cells #[.slice a L.length cap] 99)]) hs (by simpa using hst) b (by omega)
      have hst3 : St B w0 W3 (((w.heap.size, bO b) :: A) ++ (tb, .cells #[.slice a L.length cap] 99) :: F2) := by simpa using hst2
      refine ⟨a2, cap2, W3, hrun, ⟨hst3.cell (b := tb) (i := 0) (List.mem_append_right _ List.mem_cons_self) rfl, St.soft (b := tb) hst3 (List.mem_append_right _ List.mem_cons_self) 0⟩, ?_, ?_⟩
      · rw [addL, if_neg hin, if_neg hfull]
      · rw [addL, if_neg hin, if_neg hfull]
        have h5 := hst3.set 0 (.slice a2 (L.length + 1) cap2)
        exact ⟨_, F2, hs2, h5.sub (by rw [List.cons_append]; exact List.sublist_cons_self _ _)⟩
    have co := Lib.hid (fun w2 => own_any hb w2)
    obtain ⟨b1, b2, b3⟩ := b
    simp only at q0 q1 q2
    replace hW : Hid (w.alloc (.cells #[tx b1, tx b2, tx b3] 34) = W1) := Lib.hid hW.symm
    clear h h1 ho hv hin hb hdr
    go_enter Tryz.func44, Tryz.ntmps44
    go_upto_region 1 with fail
    rw [hW.out]
    go_still_tail 5, (by kernel_rfl)
    change wpList _ _ _ _ _ W1.drew
    go_wp2_with fail
    refine c1.out.mono ?_
    rintro e w2 ⟨rfl, hb2⟩
    replace hb2 := toW.out _ hb2
    obtain ⟨ct2, r0, r1, r2⟩ := hx.out _ hb2
    have toX : Hid (∀ w3, Below w2.drew.heap.size w2.drew w3 → Below W1.heap.size W1 w3) := Lib.hid fun w3 hb3 => bel hb2 (bel (Below.refl _ w2).drew hb3)
    clear hb2 q0 q1 q2 ct
    go_wp2_with fail
    go_region_law (first
      | (refine step_append_go rfl (.tmp 24) (.tmp 27) 28 28 rfl _ _ rfl rfl hrun ?_)
      | (go_simp; go_at_call 74; refine (co.out _).mono ?_; rintro e w3 ⟨rfl, hb3⟩; obtain ⟨ct3, s0, s1, s2⟩ := hx.out _ (toX.out _ hb3); have ct4 := cellOn (c := (tb, 0)) ct3 (new_below w3 (.cells #[tx b1, tx b2, tx b3] 34)); obtain ⟨a2, cap2, W3, hrun, ⟨k0, k1⟩, fin⟩ := ap.out _ (toX.out _ hb3); replace fin := Lib.hid fin; clear hb3))
    all_goals
      go_wp2_with fail
      go_ret2
      exact fin.out
end
end Go.Proofs.YtoecaonmehbfeaaGreat

/- The document's own table: what its loops hold. -/
namespace Go.Proofs.YtoecaonmehbfeaaGreat
open Go.RowKit
set_option linter.unusedVariables false
set_option maxRecDepth 100000

section
variable {B : Nat} {w0 w w' : World} {S F A X : List (Nat × Obj)} {T : TypeId} {tb : Nat} {v u : Value} {L l : List Bnd} {b : Bnd}

theorem bnd_copy (hs : BnsIs v L S) (hst : St B w0 w (X ++ S)) (hL : L.length ≤ 100000) :
    ∃ a cap W2 F2, (Builtin.append_ #[28, 28] 0 #[.slice none 0 0, v]).run Tryz.prog w = .ok (.slice a L.length cap) W2 ∧ BnsIs (.slice a L.length cap) L F2 ∧ St B w0 W2 ((X ++ S) ++ F2) := by
  obtain ⟨i0, hi0, hz0, hz1, hz2⟩ := info_parts infBnd
  have hs' : SlIs 34 3 v L.length (bndsV L) S := hs
  obtain ⟨v2, W2, F2, hr, hs2, hst2⟩ := run_append_sl (P := Tryz.prog) 28 0 34 i0 _ 3 48 uBnds hi0 hz0 hz1 hz2 rfl (SlIs.nil (T := 34) (size := 3)) (A := X ++ S) (by simpa using hst) (hs'.reads hst)
    (bndsV_one L) (by unfold maxLen; omega) (by omega)
  rw [Nat.zero_add, List.nil_append] at hs2
  obtain ⟨a, cap, rfl, -⟩ := hs2.form
  exact ⟨a, cap, W2, F2, hr, hs2, hst2⟩
theorem bnd_put (hs : BnsIs v l S) (hst : St B w0 w (X ++ S)) {p : Nat} (hp : (p, bO b) ∈ X) (hl : l.length ≤ 100000) :
    ∃ a cap W2 F2, (Builtin.append_ #[28, 28] 0 #[v, .slice (some ⟨p, 0, none⟩) 1 1]).run Tryz.prog w = .ok (.slice a (l.length + 1) cap) W2 ∧
      BnsIs (.slice a (l.length + 1) cap) (l ++ [b]) F2 ∧ St B w0 W2 (X ++ F2) := by
  obtain ⟨i0, hi0, hz0, hz1, hz2⟩ := info_parts infBnd
  have hb : w.heap[p]? = some (.cells [tx b.1, tx b.2.1, tx b.2.2].toArray 34) := hst.get (List.mem_append_left _ hp)
  have hrd : Reads w (.slice (some ⟨p, 0, none⟩) 1 1) 1 3 [tx b.1, tx b.2.1, tx b.2.2] := Reads.block hb rfl 1
  obtain ⟨v2, W2, F2, hr, hs2, hst2⟩ := run_append_sl (P := Tryz.prog) 28 0 34 i0 _ 3 48 uBnds hi0 hz0 hz1 hz2 rfl hs hst hrd (bndsV_one [b]) (by unfold maxLen; omega) (by omega)
  obtain ⟨a, cap, rfl, -⟩ := hs2.form
  refine ⟨a, cap, W2, F2, hr, ?_, hst2⟩
  unfold BnsIs
  rw [List.length_append, List.length_singleton, bndsV_append]
  exact hs2

/-! ### Of -/
def RofAt (w : World) (L : List Bnd) (p : Bnd → Bool) (u : Value) (i : Nat) (w' : World) : Prop := ∃ S, BnsIs u ((L.take i).filter p) S ∧ St w.heap.size w w' S
/-- One row more, or none. -/
theorem RofAt.put {p : Bnd → Bool} {i : Nat} {x : Bnd} (h : RofAt w L p u i w') (hx : L[i]? = some x) (hpx : p x = true) (hL : L.length ≤ 10000) : ∃ au cu a cap W2, u = .slice au ((L.take i).filter p).length cu ∧
    (Builtin.append_ #[28, 28] 0 #[u, .slice (some ⟨w'.heap.size, 0, none⟩) 1 1]).run Tryz.prog (w'.alloc (bO x)) = .ok (.slice a (((L.take i).filter p).length + 1) cap) W2 ∧ RofAt w L p (.slice a (((L.take i).filter p).length + 1) cap) (i + 1) W2 := by
  obtain ⟨S, hs, hst⟩ := h
  have hlt := (List.getElem?_eq_some_iff.1 hx).1
  have hlen := filter_len_take (L := L) p i
  obtain ⟨au, cu, e⟩ := hs.form
  obtain ⟨a, cap, W2, F2, hrun, hs2, hst2⟩ := bnd_append (X := []) hs hst x (by omega)
  refine ⟨au, cu, a, cap, W2, e, hrun, F2, ?_, hst2⟩
  rw [filter_step hx, hpx, if_pos rfl]
  exact hs2
theorem RofAt.pass {p : Bnd → Bool} {i : Nat} {x : Bnd} (h : RofAt w L p u i w') (hx : L[i]? = some x) (hpx : p x = false) : ∃ au cu, u = .slice au ((L.take i).filter p).length cu ∧ RofAt w L p u (i + 1) w' := by
  obtain ⟨S, hs, hst⟩ := h
  obtain ⟨au, cu, e⟩ := hs.form
  refine ⟨au, cu, e, S, ?_, hst⟩
  rw [filter_step hx, hpx, if_neg (by decide), List.append_nil]
  exact hs
theorem RofAt.start (w : World) (L : List Bnd) (p : Bnd → Bool) : RofAt w L p (.slice none 0 0) 0 w := ⟨[], BnsIs.nil, St.start w⟩
theorem RofAt.end_ {p : Bnd → Bool} {i : Nat} (h : RofAt w L p u i w') (hi : L.length ≤ i) : ∃ S au cu, u = .slice au (L.filter p).length cu ∧ BnsIs u (L.filter p) S ∧ St w.heap.size w w' S := by
  obtain ⟨S, hs, hst⟩ := h
  rw [List.take_of_length_le hi] at hs
  obtain ⟨au, cu, e⟩ := hs.form
  exact ⟨S, au, cu, e, hs, hst⟩
/-- The table's cell, one row's cells: wherever only new blocks came. -/
theorem rows_at (h : OneAt T w tb v) (hv : ReadBs w v L) : ∃ a cap, v = .slice a L.length cap ∧ Hid (∀ w', Below w.heap.size w w' → (w'.cell? ⟨tb, 0, none⟩ = some v ∧ w'.frozen? ⟨tb, 0, none⟩ = false) ∧
    ∀ (i : Nat) x, L[i]? = some x → ∃ b1 o1, a = some ⟨b1, o1, none⟩ ∧ w'.cell? ⟨b1, o1 + i * 3, none⟩ = some (tx x.1) ∧ w'.cell? ⟨b1, o1 + i * 3 + 1, none⟩ = some (tx x.2.1) ∧ w'.cell? ⟨b1, o1 + i * 3 + 2, none⟩ = some (tx x.2.2)) := by
  obtain ⟨a, cap, rfl, -⟩ := id hv
  refine ⟨a, cap, rfl, Lib.hid fun w' hb => ⟨⟨(h.below hb).cell, (h.below hb).soft⟩, fun i x hx => ?_⟩⟩
  obtain ⟨a1, c1, e, hc⟩ := hv.below hb
  cases e
  exact hc i x hx
end
end Go.Proofs.YtoecaonmehbfeaaGreat

/- The document's table inside its exchanges: the second cell of a block. -/
namespace Go.Proofs.YtoecaonmehbfeaaGreat
open Go.RowKit
set_option linter.unusedVariables false
set_option maxRecDepth 100000

abbrev rpt (b : Nat) : Value := .pointer (some ⟨b, 1, none⟩)
def SecAt (T : TypeId) (x0 : Value) (w : World) (tb : Nat) (v : Value) : Prop := w.heap[tb]? = some (.cells #[x0, v] T (0, 0))
def TcIs (T : TypeId) (x0 : Value) (B : Nat) (w0 w : World) (tb : Nat) (L : List Bnd) (A : List (Nat × Obj)) : Prop :=
  ∃ v S, BnsIs v L S ∧ St B w0 w (A ++ (tb, .cells #[x0, v] T) :: S)
def CutsC (T : TypeId) (x0 : Value) (B : Nat) (w0 : World) (tb : Nat) (L : List Bnd) (A : List (Nat × Obj)) (v : Value) (e : Ending) (w' : World) : Prop := e = .returned v ∧ TcIs T x0 B w0 w' tb L A
def CutNC (T : TypeId) (x0 : Value) (B : Nat) (w0 : World) (tb : Nat) (L : List Bnd) (A : List (Nat × Obj)) (l : List (List UInt8)) (e : Ending) (w' : World) : Prop := ∃ u S, e = .returned u ∧ TssIs u l S ∧ TcIs T x0 B w0 w' tb L (A ++ S)
def AddC (T : TypeId) (x0 : Value) (B : Nat) (w0 : World) (tb : Nat) (L : List Bnd) (b : Bnd) (A : List (Nat × Obj)) (e : Ending) (w' : World) : Prop :=
  e = .returned (.tuple #[.bool (addL L b).2.1, .int .i64 (addL L b).2.2]) ∧ TcIs T x0 B w0 w' tb (addL L b).1 A
section
variable {x0 : Value} {B : Nat} {w0 w w' : World} {S F A A' X : List (Nat × Obj)} {T : TypeId} {tb : Nat} {v u : Value} {L l : List Bnd} {b : Bnd}
theorem SecAt.cell (h : SecAt T x0 w tb v) : w.cell? ⟨tb, 1, none⟩ = some v := by
  unfold SecAt at h
  simp [World.cell?, h]
theorem SecAt.soft (h : SecAt T x0 w tb v) : w.frozen? ⟨tb, 1, none⟩ = false := by
  unfold SecAt at h
  simp [World.frozen?, h]
theorem SecAt.lt (h : SecAt T x0 w tb v) : tb < w.heap.size := (Array.getElem?_eq_some_iff.1 h).1
theorem SecAt.below (h : SecAt T x0 w tb v) (hb : Below w.heap.size w w') : SecAt T x0 w' tb v := (hb.block _ h.lt).trans h
theorem TcIs.one (h : TcIs T x0 B w0 w tb L A) : ∃ v, SecAt T x0 w tb v ∧ ReadBs w v L := by
  obtain ⟨v, S, hs, hst⟩ := h
  exact ⟨v, hst.get (b := tb) (by simp), hs.read (A := A ++ [(tb, .cells #[x0, v] T)]) (by simpa using hst)⟩
theorem TcIs.grow (h : TcIs T x0 B w0 w tb L A) (hb : Below w.heap.size w w') : TcIs T x0 B w0 w' tb L A := by
  obtain ⟨v, S, hs, hst⟩ := h
  exact ⟨v, S, hs, hst.grow hb⟩
theorem TcIs.alloc (h : TcIs T x0 B w0 w tb L A) (o : Obj) : TcIs T x0 B w0 (w.alloc o) tb L ((w.heap.size, o) :: A) := by
  obtain ⟨v, S, hs, hst⟩ := h
  exact ⟨v, S, hs, hst.alloc o⟩
theorem TcIs.sub (h : TcIs T x0 B w0 w tb L A) (hs' : A'.Sublist A) : TcIs T x0 B w0 w tb L A' := by
  obtain ⟨v, S, hs, hst⟩ := h
  exact ⟨v, S, hs, hst.sub (hs'.append (List.Sublist.refl _))⟩
theorem TcIs.turn {w1 : World} {m : List Bnd} {z : Value} {R : List (Nat × Obj)} (h : TcIs T x0 B w0 w tb L A) (hz : BnsIs z m R) (hst : St w.heap.size w w1 (S ++ R)) : TcIs T x0 B w0 (w1.setCell ⟨tb, 1, none⟩ z) tb m (A ++ S) := by
  obtain ⟨v, F, -, hst0⟩ := h
  have h1 := hst0.join hst
  have h2 : St B w0 w1 ((A ++ F ++ S) ++ (tb, .cells #[x0, v] T) :: R) := h1.perm (by
    simp only [List.append_assoc, List.cons_append]
    refine List.Perm.append_left A ?_
    have e : F ++ (S ++ (tb, Obj.cells #[x0, v] T) :: R) = (F ++ S) ++ (tb, .cells #[x0, v] T) :: R := (List.append_assoc _ _ _).symm
    rw [e, ← List.append_assoc]
    exact List.perm_middle.symm)
  have h3 := h2.set 1 z
  refine ⟨z, R, hz, ?_⟩
  have h4 : St B w0 (w1.setCell ⟨tb, 1, none⟩ z) ((A ++ F ++ S) ++ (tb, .cells #[x0, z] T) :: R) := h3
  refine h4.sub ?_
  refine List.Sublist.append ?_ (List.Sublist.refl _)
  exact (List.sublist_append_left A F).append (List.Sublist.refl S)
theorem rows_at2 (h : SecAt T x0 w tb v) (hv : ReadBs w v L) : ∃ a cap, v = .slice a L.length cap ∧ Hid (∀ w', Below w.heap.size w w' → (w'.cell? ⟨tb, 1, none⟩ = some v ∧ w'.frozen? ⟨tb, 1, none⟩ = false) ∧
    ∀ (i : Nat) x, L[i]? = some x → ∃ b1 o1, a = some ⟨b1, o1, none⟩ ∧ w'.cell? ⟨b1, o1 + i * 3, none⟩ = some (tx x.1) ∧ w'.cell? ⟨b1, o1 + i * 3 + 1, none⟩ = some (tx x.2.1) ∧ w'.cell? ⟨b1, o1 + i * 3 + 2, none⟩ = some (tx x.2.2)) := by
  obtain ⟨a, cap, rfl, -⟩ := id hv
  refine ⟨a, cap, rfl, Lib.hid fun w' hb => ⟨⟨(h.below hb).cell, (h.below hb).soft⟩, fun i x hx => ?_⟩⟩
  obtain ⟨a1, c1, e, hc⟩ := hv.below hb
  cases e
  exact hc i x hx
end
end Go.Proofs.YtoecaonmehbfeaaGreat

/- The document's table inside its exchanges: Of, DropExchange, Drop. -/
namespace Go.Proofs.YtoecaonmehbfeaaGreat
open Go.RowKit
set_option linter.unusedVariables false
set_option maxRecDepth 100000

section
variable {x0 : Value} {B : Nat} {w0 w w' : World} {S F A X : List (Nat × Obj)} {T : TypeId} {tb : Nat} {v u : Value} {L l : List Bnd} {b : Bnd}

set_option maxHeartbeats 1000000 in
theorem xrof_any (h : SecAt T x0 w tb v) (hv : ReadBs w v L) (hL : L.length ≤ 10000) (x : List UInt8) : Calls Tryz.prog 27 #[rpt tb, tx x] w (OfR w (L.filter fun b => b.1 == x)) := by
  obtain ⟨a, cap, rfl, hr⟩ := rows_at2 h hv
  have h0 := Lib.hid (RofAt.start w L (fun b => b.1 == x))
  clear h hv
  go_enter Tryz.func27, Tryz.ntmps27
  go_wp2_with fail
  go_loopg [5, 6] L.length (fun g v5 v6 wr => ∃ i : Nat, v6 = .int .i64 i ∧ i + g = L.length ∧ Hid (RofAt w L (fun b => b.1 == x) v5 i wr))
  case atStart => exact ⟨0, rfl, by omega, h0⟩
  case round =>
    clear h0
    obtain ⟨i, rfl, hi, hR⟩ := hrel
    have hi0 : (0 : Int) ≤ i := by omega
    obtain ⟨⟨ct, -⟩, hrows⟩ := hr.out wr (by obtain ⟨S, -, hst⟩ := hR.out; exact hst.below)
    by_cases hlt : i < L.length
    · have hi1 : (i : Int) < L.length := by omega
      have hx : L[i]? = some L[i] := List.getElem?_eq_getElem hlt
      generalize L[i] = y at hx
      obtain ⟨b1, o1, rfl, k1, k2, k3⟩ := hrows i y hx
      cases hpx : (y.1 == x) with
      | true =>
        obtain ⟨au, cu, a2, cap2, W2, rfl, hrun, fin⟩ := hR.out.put hx hpx hL
        replace fin := Lib.hid fin
        obtain ⟨y1, y2, y3⟩ := y
        simp only at k1 k2 k3 hpx
        obtain rfl := beq_iff_eq.1 hpx
        generalize ((L.take i).filter fun b => b.1 == y1).length = q0 at *
        clear hR hx hr hrows hpx
        go_wp2_with (at_builtin; refine wpList_append_go rfl (.tmp 26) (.tmp 34) 28 28 rfl _ _ rfl rfl hrun ?_)
        go_roundg (L.length - (i + 1))
        case measure => omega
        case rel => exact ⟨i + 1, by go_num, by omega, fin⟩
      | false =>
        obtain ⟨au, cu, rfl, fin⟩ := hR.out.pass hx hpx
        replace fin := Lib.hid fin
        obtain ⟨y1, y2, y3⟩ := y
        simp only at k1 k2 k3 hpx
        generalize ((L.take i).filter fun b => b.1 == x).length = q0 at *
        clear hR hx hr hrows
        go_wp2_with fail
        go_roundg (L.length - (i + 1))
        case measure => omega
        case rel => exact ⟨i + 1, by go_num, by omega, fin⟩
    · obtain ⟨S, au, cu, rfl, hs, hst⟩ := hR.out.end_ (by omega)
      have fin : Hid (OfR w (L.filter fun b => b.1 == x) (.returned (.slice au (L.filter fun b => b.1 == x).length cu)) wr) := Lib.hid ⟨_, rfl, hs.read (A := []) hst, hst.below⟩
      clear hs hst hR hr hrows
      go_wp2_with fail
      go_ret
      exact fin.out

/-! ### DropExchange, Drop -/
set_option maxHeartbeats 1000000 in
theorem xrdropE_any (h : TcIs T x0 B w0 w tb L A) (hL : L.length ≤ 10000) (x : List UInt8) : Calls Tryz.prog 72 #[rpt tb, tx x] w (CutsC T x0 B w0 tb (L.filter fun b => !(b.1 == x)) A (.tuple #[])) := by
  obtain ⟨v, ho, hv⟩ := h.one
  obtain ⟨a, cap, rfl, hr⟩ := rows_at2 ho hv
  have h0 := Lib.hid (RofAt.start w L (fun b => !(b.1 == x)))
  have ht := Lib.hid (fun (w1 : World) (m : List Bnd) (z : Value) (R : List (Nat × Obj)) (hz : BnsIs z m R) (hst : St w.heap.size w w1 R) => TcIs.turn (S := []) h hz hst)
  obtain ⟨M, hM⟩ : ∃ M, M = L.filter fun b => !(b.1 == x) := ⟨_, rfl⟩
  rw [← hM]
  replace hM := Lib.hid hM
  clear h hv ho
  go_enter Tryz.func72, Tryz.ntmps72
  go_wp2_with fail
  go_loopg [4, 5] L.length (fun g v5 v6 wr => ∃ i : Nat, v6 = .int .i64 i ∧ i + g = L.length ∧ Hid (RofAt w L (fun b => !(b.1 == x)) v5 i wr))
  case atStart => exact ⟨0, rfl, by omega, h0⟩
  case round =>
    clear h0
    obtain ⟨i, rfl, hi, hR⟩ := hrel
    have hi0 : (0 : Int) ≤ i := by omega
    obtain ⟨⟨ct, fz⟩, hrows⟩ := hr.out wr (by obtain ⟨S, -, hst⟩ := hR.out; exact hst.below)
    by_cases hlt : i < L.length
    · have hi1 : (i : Int) < L.length := by omega
      have hx : L[i]? = some L[i] := List.getElem?_eq_getElem hlt
      generalize L[i] = y at hx
      obtain ⟨b1, o1, rfl, k1, k2, k3⟩ := hrows i y hx
      cases hpx : (y.1 == x) with
      | false =>
        obtain ⟨au, cu, a2, cap2, W2, rfl, hrun, fin⟩ := hR.out.put hx (by rw [hpx]; rfl) hL
        replace fin := Lib.hid fin
        obtain ⟨y1, y2, y3⟩ := y
        simp only at k1 k2 k3 hpx
        generalize ((L.take i).filter fun b => !(b.1 == x)).length = q0 at *
        clear hR hx hr hrows ht fz
        go_wp2_with (at_builtin; refine wpList_append_go rfl (.tmp 25) (.tmp 33) 28 28 rfl _ _ rfl rfl hrun ?_)
        go_roundg (L.length - (i + 1))
        case measure => omega
        case rel => exact ⟨i + 1, by go_num, by omega, fin⟩
      | true =>
        obtain ⟨au, cu, rfl, fin⟩ := hR.out.pass hx (by rw [hpx]; rfl)
        replace fin := Lib.hid fin
        obtain ⟨y1, y2, y3⟩ := y
        simp only at k1 k2 k3 hpx
        obtain rfl := beq_iff_eq.1 hpx
        generalize ((L.take i).filter fun b => !(b.1 == y1)).length = q0 at *
        clear hR hx hr hrows ht fz hpx
        go_wp2_with fail
        go_roundg (L.length - (i + 1))
        case measure => omega
        case rel => exact ⟨i + 1, by go_num, by omega, fin⟩
    · obtain ⟨S, au, cu, rfl, hs, hst⟩ := hR.out.end_ (by omega)
      rw [← hM.out] at hs
      have fin := Lib.hid (ht.out _ _ _ _ hs hst)
      rw [← hM.out]
      clear hs hst hR hr hrows ht hM
      go_wp2_with fail
      exact bodyPost_end (results_none rfl _ _ _) rfl ⟨rfl, by simpa using fin.out⟩

set_option maxHeartbeats 2000000 in
theorem xrdrop_any (h : TcIs T x0 B w0 w tb L A) (hL : L.length ≤ 10000) (x : Bnd) : Calls Tryz.prog 52 #[rpt tb, bV x] w (CutsC T x0 B w0 tb (L.filter fun b => !(b == x)) A (.bool (decide ((L.filter fun b => !(b == x)).length < L.length)))) := by
  have h1 := h.alloc (bO x)
  have q0 : (w.alloc (bO x)).cell? ⟨w.heap.size, 0, none⟩ = some (tx x.1) := by simp
  have q1 : (w.alloc (bO x)).cell? ⟨w.heap.size, 1, none⟩ = some (tx x.2.1) := by simp
  have q2 : (w.alloc (bO x)).cell? ⟨w.heap.size, 2, none⟩ = some (tx x.2.2) := by simp
  obtain ⟨W1, hW⟩ : ∃ W1, W1 = w.alloc (bO x) := ⟨_, rfl⟩
  rw [← hW] at h1 q0 q1 q2
  obtain ⟨v, ho, hv⟩ := h1.one
  obtain ⟨a, cap, rfl, hr⟩ := rows_at2 ho hv
  have h0 := Lib.hid (RofAt.start W1 L (fun b => !(b == x)))
  have ht := Lib.hid (fun (w1 : World) (m : List Bnd) (z : Value) (R : List (Nat × Obj)) (hz : BnsIs z m R) (hst : St W1.heap.size W1 w1 R) => TcIs.turn (S := []) (h1.sub (List.sublist_cons_self _ _)) hz hst)
  have hq : Hid (∀ w2, Below W1.heap.size W1 w2 → w2.cell? ⟨w.heap.size, 0, none⟩ = some (tx x.1) ∧ w2.cell? ⟨w.heap.size, 1, none⟩ = some (tx x.2.1) ∧ w2.cell? ⟨w.heap.size, 2, none⟩ = some (tx x.2.2)) := Lib.hid fun w2 hb2 =>
    ⟨cellOn (c := (_, 0)) q0 hb2, cellOn (c := (_, 1)) q1 hb2, cellOn (c := (_, 2)) q2 hb2⟩
  obtain ⟨p, hp⟩ : ∃ p : Bnd → Bool, p = fun b => !(b == x) := ⟨_, rfl⟩
  have py : Hid (∀ y : Bnd, (p y = true ∧ ((y.1 == x.1) = false ∨ (y.1 = x.1 ∧ (y.2.1 == x.2.1) = false) ∨ (y.1 = x.1 ∧ y.2.1 = x.2.1 ∧ (y.2.2 == x.2.2) = false))) ∨ (p y = false ∧ y = x)) := Lib.hid fun y => by
    rcases bnd_cases y x with h | h
    · exact .inr ⟨by rw [hp, h]; simp, h⟩
    · exact .inl ⟨by rw [hp]; simpa using bnd_ne h, h⟩
  rw [← hp] at h0 ⊢
  obtain ⟨M, hM⟩ : ∃ M, M = L.filter p := ⟨_, rfl⟩
  rw [← hM]
  replace hM := Lib.hid hM
  obtain ⟨x1, x2, x3⟩ := x
  simp only at py hq
  replace hW : Hid (w.alloc (.cells #[tx x1, tx x2, tx x3] 34) = W1) := Lib.hid hW.symm
  clear h h1 hv ho q0 q1 q2 hp
  go_enter Tryz.func52, Tryz.ntmps52
  go_upto_region 2 with fail
  rw [hW.out]
  go_wp2_with fail
  go_loopg [5, 6] L.length (fun g v5 v6 wr => ∃ i : Nat, v6 = .int .i64 i ∧ i + g = L.length ∧ Hid (RofAt W1 L p v5 i wr))
  case atStart => exact ⟨0, rfl, by omega, h0⟩
  case round =>
    clear h0
    obtain ⟨i, rfl, hi, hR⟩ := hrel
    have hi0 : (0 : Int) ≤ i := by omega
    have hbel : Below W1.heap.size W1 wr := by obtain ⟨S, -, hst⟩ := hR.out; exact hst.below
    obtain ⟨⟨ct, fz⟩, hrows⟩ := hr.out wr hbel
    obtain ⟨q0, q1, q2⟩ := hq.out wr hbel
    replace hbel := Lib.hid hbel
    by_cases hlt : i < L.length
    · have hi1 : (i : Int) < L.length := by omega
      have hx : L[i]? = some L[i] := List.getElem?_eq_getElem hlt
      generalize L[i] = y at hx
      obtain ⟨b1, o1, rfl, k1, k2, k3⟩ := hrows i y hx
      rcases py.out y with ⟨hpy, hc⟩ | ⟨hpy, rfl⟩
      · obtain ⟨S, hs, hst⟩ := hR.out
        obtain ⟨au, cu, rfl⟩ := hs.form
        have ap : Hid (∀ n, ∃ a cap W2, (Builtin.append_ #[28, 28] 0 #[.slice au ((L.take i).filter p).length cu, .slice (some ⟨wr.heap.size, 0, none⟩) 1 1]).run Tryz.prog ((wr.drewN n).alloc (bO y)) = .ok (.slice a (((L.take i).filter p).length + 1) cap) W2 ∧ RofAt W1 L p (.slice a (((L.take i).filter p).length + 1) cap) (i + 1) W2) :=
          Lib.hid fun n => by
            have h2 : RofAt W1 L p (.slice au ((L.take i).filter p).length cu) i (wr.drewN n) := ⟨S, hs, hst.drewN n⟩
            obtain ⟨_, _, a, cap, W2, _, hrun, hf⟩ := h2.put hx hpy hL
            exact ⟨a, cap, W2, hrun, hf⟩
        obtain ⟨y1, y2, y3⟩ := y
        simp only at k1 k2 k3 hc
        clear hR hx hr hrows ht fz py hq hs hst hM
        generalize ((L.take i).filter p).length = q0 at *
        rcases hc with hc | ⟨rfl, hc⟩ | ⟨rfl, rfl, hc⟩
        all_goals
          go_wp2_with fail
          go_quiet (fail)
          obtain ⟨a2, cap2, W2, hrun, fin⟩ := ap.out nq
          replace fin := Lib.hid fin
          go_wp2_with (at_builtin; refine wpList_append_go rfl (.tmp 26) (.tmp 34) 28 28 rfl _ _ rfl rfl hrun ?_)
          go_roundg (L.length - (i + 1))
          case measure => omega
          case rel => exact ⟨i + 1, by go_num, by omega, fin⟩
      · obtain ⟨au, cu, rfl, fin⟩ := hR.out.pass hx hpy
        have fin2 : Hid (∀ n, RofAt W1 L p (.slice au ((L.take i).filter p).length cu) (i + 1) (wr.drewN n)) := Lib.hid fun n => by
          obtain ⟨S, hs, hst⟩ := fin
          exact ⟨S, hs, hst.drewN n⟩
        simp only at k1 k2 k3
        clear hR hx hr hrows ht fz py hq fin hM
        generalize ((L.take i).filter p).length = q0 at *
        go_wp2_with fail
        go_quiet (fail)
        go_wp2_with fail
        go_roundg (L.length - (i + 1))
        case measure => omega
        case rel => exact ⟨i + 1, by go_num, by omega, Lib.hid (fin2.out _)⟩
    · obtain ⟨S, au, cu, rfl, hs, hst⟩ := hR.out.end_ (by omega)
      rw [← hM.out] at hs
      have fin := Lib.hid (ht.out _ _ _ _ hs hst)
      rw [← hM.out]
      clear hs hst hR hr hrows ht hM py hq
      go_wp2_with fail
      go_ret
      exact ⟨ret_bool (decide_eq_decide.2 (by omega)), by simpa using fin.out⟩
end
end Go.Proofs.YtoecaonmehbfeaaGreat

/- Keys with stars, plain: words, patterns held against words (at once, greedily, by a table), names. -/
namespace Go.Proofs.YtoecaonmehbfeaaGreat
open Go.RowKit
set_option linter.unusedVariables false

/-! ### words -/
/-- What stands between points. -/
def wordsL : List UInt8 → List (List UInt8)
  | [] => [[]]
  | c :: l => if c = 46 then [] :: wordsL l else match wordsL l with
    | [] => [[c]]
    | w :: r => (c :: w) :: r
theorem words_pos (l : List UInt8) : 0 < (wordsL l).length := by
  cases l with
  | nil => simp [wordsL]
  | cons c l =>
    unfold wordsL
    split
    · simp
    · split <;> simp
theorem words_len (l : List UInt8) : (wordsL l).length ≤ l.length + 1 := by
  induction l with
  | nil => simp [wordsL]
  | cons c l ih =>
    unfold wordsL
    split
    · simpa using ih
    · split
      · simp
      · rename_i w r h
        rw [h] at ih
        simp only [List.length_cons] at ih ⊢
        omega
theorem words_none {l : List UInt8} (h : 46 ∉ l) : wordsL l = [l] := by
  induction l with
  | nil => rfl
  | cons c l ih =>
    simp only [List.mem_cons, not_or] at h
    rw [wordsL, if_neg (fun e => h.1 e.symm), ih h.2]
theorem words_cut {w : List UInt8} (h : 46 ∉ w) (r : List UInt8) : wordsL (w ++ 46 :: r) = w :: wordsL r := by
  induction w with
  | nil => simp [wordsL]
  | cons c w ih =>
    simp only [List.mem_cons, not_or] at h
    rw [List.cons_append, wordsL, if_neg (fun e => h.1 e.symm), ih h.2]
theorem cut_cases (l : List UInt8) : 46 ∉ l ∨ ∃ w r, l = w ++ 46 :: r ∧ 46 ∉ w := by
  induction l with
  | nil => exact .inl (by simp)
  | cons c l ih =>
    by_cases hc : c = 46
    · subst hc
      exact .inr ⟨[], l, rfl, by simp⟩
    · rcases ih with h | ⟨w, r, rfl, h⟩
      · exact .inl (by simp only [List.mem_cons, not_or]; exact ⟨fun e => hc e.symm, h⟩)
      · exact .inr ⟨c :: w, r, rfl, by simp only [List.mem_cons, not_or]; exact ⟨fun e => hc e.symm, h⟩⟩
theorem index_none {l : List UInt8} (h : 46 ∉ l) : Lib.indexByte l 46 = -1 := by
  induction l with
  | nil => rfl
  | cons c l ih =>
    simp only [List.mem_cons, not_or] at h
    have hb : (c == (46 : UInt8)) = false := by simpa using fun e => h.1 e.symm
    rw [Lib.indexByte, hb, ih h.2]
    rfl
theorem index_some {w : List UInt8} (h : 46 ∉ w) (r : List UInt8) : Lib.indexByte (w ++ 46 :: r) 46 = w.length := by
  induction w with
  | nil => simp [Lib.indexByte]
  | cons c w ih =>
    simp only [List.mem_cons, not_or] at h
    have hb : (c == (46 : UInt8)) = false := by simpa using fun e => h.1 e.symm
    have hn : (((w.length : Nat) : Int) == -1) = false := by
      rw [beq_eq_false_iff_ne]
      omega
    rw [List.cons_append, Lib.indexByte, hb, ih h.2, hn]
    simp
/-- What is behind the last point, of the rest. -/
theorem words_step {l w : List UInt8} {i : Nat} {f : Nat} (hw : (l.drop f).take (i - f) = w) (hf : f ≤ i) (h : 46 ∉ w) (hi : l[i]? = some 46) : wordsL (l.drop f) = w :: wordsL (l.drop (i + 1)) := by
  have e : l.drop f = w ++ 46 :: l.drop (i + 1) := by
    conv => lhs; rw [← List.take_append_drop (i - f) (l.drop f)]
    rw [hw, List.drop_drop, show f + (i - f) = i by omega]
    have hlt := (List.getElem?_eq_some_iff.1 hi).1
    rw [List.drop_eq_getElem_cons hlt, List.getElem?_eq_getElem hlt] at *
    rw [Option.some.inj hi]
  rw [e, words_cut h]

/-! ### patterns -/
abbrev Wds := List (List UInt8)
def stands (p x : List UInt8) : Bool := p == [42] || p == x
def hashL (f : Wds → Bool) : Wds → Bool
  | [] => f []
  | x :: k => f (x :: k) || hashL f k
/-- May the pattern's words stand for the key's. -/
def gl : Wds → Wds → Bool
  | [], k => k.isEmpty
  | p :: ps, k => if p = [35] then hashL (gl ps) k else match k with
    | [] => false
    | x :: ks => stands p x && gl ps ks
theorem gl_nil (k : Wds) : gl [] k = k.isEmpty := rfl
theorem gl_hash (ps k : Wds) : gl ([35] :: ps) k = hashL (gl ps) k := by
  cases k with
  | nil =>
    show (if [35] = [35] then hashL (gl ps) [] else false) = _
    rw [if_pos rfl]
  | cons x k =>
    show (if [35] = [35] then hashL (gl ps) (x :: k) else (stands [35] x && gl ps k)) = _
    rw [if_pos rfl]
theorem gl_short {p : List UInt8} (h : p ≠ [35]) (ps : Wds) : gl (p :: ps) [] = false := by
  show (if p = [35] then hashL (gl ps) [] else false) = false
  rw [if_neg h]
theorem gl_one {p : List UInt8} (h : p ≠ [35]) (ps : Wds) (x : List UInt8) (k : Wds) : gl (p :: ps) (x :: k) = (stands p x && gl ps k) := by
  show (if p = [35] then hashL (gl ps) (x :: k) else (stands p x && gl ps k)) = _
  rw [if_neg h]
theorem hashL_iff (f : Wds → Bool) (k : Wds) : hashL f k = true ↔ ∃ j, j ≤ k.length ∧ f (k.drop j) = true := by
  induction k with
  | nil =>
    rw [hashL]
    constructor
    · exact fun h => ⟨0, Nat.le_refl _, h⟩
    · rintro ⟨j, _, h⟩
      rwa [List.drop_nil] at h
  | cons x k ih =>
    rw [hashL, Bool.or_eq_true, ih]
    constructor
    · rintro (h | ⟨j, hj, h⟩)
      · exact ⟨0, Nat.zero_le _, h⟩
      · exact ⟨j + 1, by simpa using hj, h⟩
    · rintro ⟨j, hj, h⟩
      cases j with
      | zero => exact .inl h
      | succ j => exact .inr ⟨j, by simpa using hj, h⟩

/-! ### greedily -/
/-- These words of a pattern, no hash, stand for these of a key one by one. -/
def Fit : Wds → Wds → Prop
  | [], [] => True
  | s :: S, a :: A => s ≠ [35] ∧ stands s a = true ∧ Fit S A
  | _, _ => False
theorem Fit.len : ∀ {S A : Wds}, Fit S A → S.length = A.length
  | [], [], _ => rfl
  | s :: S, a :: A, h => by simp [Fit.len (S := S) (A := A) h.2.2]
  | [], _ :: _, h => h.elim
  | _ :: _, [], h => h.elim
theorem Fit.gl_eq : ∀ {S A : Wds} (h : Fit S A) (R Y : Wds), gl (S ++ R) (A ++ Y) = gl R Y
  | [], [], _, _, _ => rfl
  | s :: S, a :: A, h, R, Y => by rw [List.cons_append, List.cons_append, gl_one h.1, h.2.1, Bool.true_and, Fit.gl_eq h.2.2]
  | [], _ :: _, h, _, _ => h.elim
  | _ :: _, [], h, _, _ => h.elim
theorem Fit.snoc : ∀ {S A : Wds} {s a : List UInt8}, Fit S A → s ≠ [35] → stands s a = true → Fit (S ++ [s]) (A ++ [a])
  | [], [], _, _, _, h1, h2 => ⟨h1, h2, trivial⟩
  | _ :: _, _ :: _, _, _, h, h1, h2 => ⟨h.1, h.2.1, Fit.snoc h.2.2 h1 h2⟩
  | [], _ :: _, _, _, h, _, _ => h.elim
  | _ :: _, [], _, _, h, _, _ => h.elim
theorem Fit.plain : ∀ {S A : Wds}, Fit S A → ∀ s ∈ S, s ≠ [35]
  | [], [], _ => by simp
  | s :: S, a :: A, h => by
    intro x hx
    rcases List.mem_cons.1 hx with rfl | hx
    · exact h.1
    · exact Fit.plain h.2.2 x hx
  | [], _ :: _, h => h.elim
  | _ :: _, [], h => h.elim
theorem gl_plain : ∀ {S : Wds} (h : ∀ s ∈ S, s ≠ [35]) {T Z : Wds}, gl (S ++ T) Z = true → S.length ≤ Z.length ∧ gl T (Z.drop S.length) = true
  | [], _, T, Z, h => ⟨Nat.zero_le _, by simpa using h⟩
  | s :: S, hs, T, [], h => by
    rw [List.cons_append, gl_short (hs s (by simp))] at h
    cases h
  | s :: S, hs, T, z :: Z, h => by
    rw [List.cons_append, gl_one (hs s (by simp)), Bool.and_eq_true] at h
    have := gl_plain (fun x hx => hs x (by simp [hx])) h.2
    exact ⟨by simpa using this.1, by simpa using this.2⟩

/-- What holds where the words at, to are looked at next: behind, free tell the last hash and what it stands for, if there was one. -/
def Held (P K : Wds) (at_ to_ : Nat) (behind : Int) (free : Nat) : Prop :=
  at_ ≤ P.length ∧ to_ ≤ K.length ∧ free ≤ to_ ∧ ((behind = -1 ∧ free = 0 ∧ gl P K = gl (P.drop at_) (K.drop to_)) ∨
    ∃ (b : Nat) (S A : Wds), behind = b ∧ b ≤ at_ ∧ P.drop b = S ++ P.drop at_ ∧ K.drop free = A ++ K.drop to_ ∧ Fit S A ∧ gl P K = hashL (gl (P.drop b)) (K.drop free))
/-- Neither goes on there, nor is all met. -/
def Miss (P K : Wds) (at_ to_ : Nat) : Prop := ¬ (at_ = P.length ∧ to_ = K.length) ∧ ∀ p, P[at_]? = some p → p ≠ [35] ∧ ∀ x, K[to_]? = some x → stands p x = false

section
variable {P K : Wds} {a t f : Nat} {b : Int}
theorem drop_at {l : Wds} {i : Nat} {x : List UInt8} (h : l[i]? = some x) : l.drop i = x :: l.drop (i + 1) := by
  have hlt := (List.getElem?_eq_some_iff.1 h).1
  rw [List.drop_eq_getElem_cons hlt]
  rw [List.getElem?_eq_getElem hlt] at h
  rw [Option.some.inj h]
theorem Held.start (P K : Wds) : Held P K 0 0 (-1) 0 := ⟨Nat.zero_le _, Nat.zero_le _, Nat.le_refl _, .inl ⟨rfl, rfl, rfl⟩⟩
theorem Miss.gl_eq (h : Miss P K a t) (ha : a ≤ P.length) (ht : t ≤ K.length) : gl (P.drop a) (K.drop t) = false := by
  by_cases hp : a < P.length
  · have e := List.getElem?_eq_getElem hp
    obtain ⟨h1, h2⟩ := h.2 _ e
    rw [drop_at e]
    by_cases hk : t < K.length
    · have e2 := List.getElem?_eq_getElem hk
      rw [drop_at e2, gl_one h1, h2 _ e2, Bool.false_and]
    · rw [List.drop_of_length_le (show K.length ≤ t by omega), gl_short h1]
  · have hk : t < K.length := by
      have := h.1
      omega
    rw [List.drop_of_length_le (by omega), gl_nil, drop_at (List.getElem?_eq_getElem hk)]
    rfl
theorem Held.hash (h : Held P K a t b f) (hp : P[a]? = some [35]) : Held P K (a + 1) t ((a + 1 : Nat) : Int) t := by
  obtain ⟨h1, h2, h3, h⟩ := h
  have hlt := (List.getElem?_eq_some_iff.1 hp).1
  have e := drop_at hp
  refine ⟨hlt, h2, Nat.le_refl _, .inr ⟨a + 1, [], [], rfl, Nat.le_refl _, rfl, rfl, trivial, ?_⟩⟩
  rcases h with ⟨rfl, rfl, hg⟩ | ⟨b, S, A, rfl, hb, hP, hK, hF, hg⟩
  · rw [hg, e, gl_hash]
  · rw [hg, hP, e, hK]
    apply Bool.eq_iff_iff.2
    constructor
    · intro h
      obtain ⟨j, hj, h⟩ := (hashL_iff _ _).1 h
      obtain ⟨h4, h5⟩ := gl_plain hF.plain h
      rw [gl_hash, List.drop_drop] at h5
      obtain ⟨i, hi, h5⟩ := (hashL_iff _ _).1 h5
      have hl := hF.len
      rw [List.drop_drop] at h5
      have e2 : (A ++ List.drop t K).drop (j + S.length + i) = (List.drop t K).drop (j + i) := by
        rw [show j + S.length + i = A.length + (j + i) by omega, List.drop_append]
        simp
      rw [e2] at h5
      refine (hashL_iff _ _).2 ?_
      by_cases hji : j + i ≤ (K.drop t).length
      · exact ⟨j + i, hji, h5⟩
      · refine ⟨(K.drop t).length, Nat.le_refl _, ?_⟩
        rw [List.drop_of_length_le (l := List.drop t K) (by omega)] at h5
        rw [List.drop_of_length_le (Nat.le_refl _)]
        exact h5
    · intro h
      refine (hashL_iff _ _).2 ⟨0, Nat.zero_le _, ?_⟩
      rw [List.drop_zero, hF.gl_eq, gl_hash]
      exact h
theorem Held.one (h : Held P K a t b f) {p x : List UInt8} (hp : P[a]? = some p) (hn : p ≠ [35]) (hx : K[t]? = some x) (hs : stands p x = true) : Held P K (a + 1) (t + 1) b f := by
  obtain ⟨h1, h2, h3, h⟩ := h
  have hlt := (List.getElem?_eq_some_iff.1 hp).1
  have hlt2 := (List.getElem?_eq_some_iff.1 hx).1
  refine ⟨hlt, hlt2, by omega, ?_⟩
  rcases h with ⟨rfl, rfl, hg⟩ | ⟨b, S, A, rfl, hb, hP, hK, hF, hg⟩
  · refine .inl ⟨rfl, rfl, ?_⟩
    rw [hg, drop_at hp, drop_at hx, gl_one hn, hs, Bool.true_and]
  · refine .inr ⟨b, S ++ [p], A ++ [x], rfl, by omega, ?_, ?_, hF.snoc hn hs, hg⟩
    · rw [hP, drop_at hp]; simp
    · rw [hK, drop_at hx]; simp
theorem Held.met (h : Held P K P.length K.length b f) : gl P K = true := by
  obtain ⟨h1, h2, h3, h⟩ := h
  rcases h with ⟨rfl, rfl, hg⟩ | ⟨b, S, A, rfl, hb, hP, hK, hF, hg⟩
  · rw [hg, List.drop_of_length_le (Nat.le_refl _), List.drop_of_length_le (Nat.le_refl _)]
    rfl
  · rw [hg]
    refine (hashL_iff _ _).2 ⟨0, Nat.zero_le _, ?_⟩
    rw [List.drop_zero, hP, hK, hF.gl_eq, List.drop_of_length_le (Nat.le_refl _), List.drop_of_length_le (Nat.le_refl _)]
    rfl
theorem Held.not (h : Held P K a t b f) (hm : Miss P K a t) (hc : b < 0 ∨ t = K.length) : gl P K = false := by
  obtain ⟨h1, h2, h3, h⟩ := h
  rcases h with ⟨rfl, rfl, hg⟩ | ⟨b, S, A, rfl, hb, hP, hK, hF, hg⟩
  · rw [hg, hm.gl_eq h1 h2]
  · obtain rfl : t = K.length := by omega
    rw [hg]
    apply Bool.eq_false_iff.2
    intro hh
    obtain ⟨j, hj, hh⟩ := (hashL_iff _ _).1 hh
    have hp : a < P.length := by
      have := hm.1
      omega
    have e := List.getElem?_eq_getElem hp
    obtain ⟨n1, _⟩ := hm.2 _ e
    rw [hP, drop_at e, hK, show S ++ P[a] :: List.drop (a + 1) P = (S ++ [P[a]]) ++ List.drop (a + 1) P by simp] at hh
    have := gl_plain (S := S ++ [P[a]]) (fun x hx => by
      rcases List.mem_append.1 hx with hx | hx
      · exact hF.plain x hx
      · rw [List.mem_singleton] at hx
        rw [hx]
        exact n1) hh
    have hl := hF.len
    simp only [List.length_append, List.length_drop, List.length_singleton] at this
    omega
theorem Held.more (h : Held P K a t b f) (hm : Miss P K a t) (hc : ¬ b < 0) (ht : t < K.length) : ∃ n : Nat, b = n ∧ n ≤ P.length ∧ Held P K n (f + 1) b (f + 1) := by
  obtain ⟨h1, h2, h3, h⟩ := h
  rcases h with ⟨rfl, rfl, hg⟩ | ⟨b, S, A, rfl, hb, hP, hK, hF, hg⟩
  · omega
  · refine ⟨b, rfl, by omega, by omega, by omega, Nat.le_refl _, .inr ⟨b, [], [], rfl, Nat.le_refl _, rfl, rfl, trivial, ?_⟩⟩
    have hg2 := hm.gl_eq h1 h2
    have e := List.getElem?_eq_getElem (show f < K.length by omega)
    have e0 : gl (P.drop b) (K.drop f) = false := by rw [hP, hK, hF.gl_eq, hg2]
    rw [drop_at e] at e0
    rw [hg, drop_at e, hashL, e0, Bool.false_or]
end

/-! ### by a table -/
section
variable {P K : Wds}
/-- The row behind a word of the pattern that is a hash. -/
def hashR (r : Nat → Bool) : Nat → Bool
  | 0 => r 0
  | k + 1 => r (k + 1) || hashR r k
/-- .. that is none. -/
def oneR (r : Nat → Bool) (p : List UInt8) (K : Wds) : Nat → Bool
  | 0 => false
  | k + 1 => r k && stands p (K.getD k [])
def nextR (r : Nat → Bool) (p : List UInt8) (K : Wds) : Nat → Bool := if p = [35] then hashR r else oneR r p K
def rowR (P K : Wds) : Nat → Nat → Bool
  | 0 => fun k => k == 0
  | i + 1 => nextR (rowR P K i) (P.getD i []) K
theorem hashR_iff (r : Nat → Bool) (k : Nat) : hashR r k = true ↔ ∃ j, j ≤ k ∧ r j = true := by
  induction k with
  | zero =>
    rw [hashR]
    constructor
    · exact fun h => ⟨0, Nat.le_refl _, h⟩
    · rintro ⟨j, hj, h⟩
      obtain rfl : j = 0 := by omega
      exact h
  | succ k ih =>
    rw [hashR, Bool.or_eq_true, ih]
    constructor
    · rintro (h | ⟨j, hj, h⟩)
      · exact ⟨k + 1, Nat.le_refl _, h⟩
      · exact ⟨j, by omega, h⟩
    · rintro ⟨j, hj, h⟩
      by_cases e : j = k + 1
      · subst e; exact .inl h
      · exact .inr ⟨j, by omega, h⟩
theorem row_inv {i : Nat} (hi : i ≤ P.length) : gl P K = true ↔ ∃ k, k ≤ K.length ∧ rowR P K i k = true ∧ gl (P.drop i) (K.drop k) = true := by
  induction i with
  | zero =>
    constructor
    · exact fun h => ⟨0, Nat.zero_le _, rfl, h⟩
    · rintro ⟨k, _, h1, h2⟩
      obtain rfl : k = 0 := by simpa [rowR] using h1
      exact h2
  | succ i ih =>
    rw [ih (by omega)]
    have e : P[i]? = some P[i] := List.getElem?_eq_getElem (by omega)
    have hd : P.getD i [] = P[i] := by simp [List.getD_eq_getElem?_getD, e]
    rw [drop_at e, rowR, hd]
    generalize P[i] = p at *
    generalize List.drop (i + 1) P = R
    unfold nextR
    by_cases hp : p = [35]
    · subst hp
      rw [if_pos rfl]
      constructor
      · rintro ⟨k, hk, h1, h2⟩
        rw [gl_hash] at h2
        obtain ⟨j, hj, h2⟩ := (hashL_iff _ _).1 h2
        rw [List.length_drop] at hj
        rw [List.drop_drop] at h2
        exact ⟨k + j, by omega, (hashR_iff _ _).2 ⟨k, by omega, h1⟩, h2⟩
      · rintro ⟨k, hk, h1, h2⟩
        obtain ⟨j, hj, h1⟩ := (hashR_iff _ _).1 h1
        refine ⟨j, by omega, h1, ?_⟩
        rw [gl_hash]
        refine (hashL_iff _ _).2 ⟨k - j, by rw [List.length_drop]; omega, ?_⟩
        rw [List.drop_drop, show j + (k - j) = k by omega]
        exact h2
    · rw [if_neg hp]
      constructor
      · rintro ⟨k, hk, h1, h2⟩
        by_cases hlt : k < K.length
        · have e2 : K[k]? = some K[k] := List.getElem?_eq_getElem hlt
          rw [drop_at e2, gl_one hp, Bool.and_eq_true] at h2
          refine ⟨k + 1, by omega, ?_, h2.2⟩
          rw [oneR, h1, Bool.true_and]
          simp [List.getD_eq_getElem?_getD, e2, h2.1]
        · rw [List.drop_of_length_le (by omega), gl_short hp] at h2
          cases h2
      · rintro ⟨k, hk, h1, h2⟩
        cases k with
        | zero => cases h1
        | succ k =>
          rw [oneR, Bool.and_eq_true] at h1
          have e2 : K[k]? = some K[k] := List.getElem?_eq_getElem hk
          refine ⟨k, by omega, h1.1, ?_⟩
          rw [drop_at e2, gl_one hp, Bool.and_eq_true]
          refine ⟨?_, h2⟩
          have := h1.2
          simpa [List.getD_eq_getElem?_getD, e2] using this
theorem row_last : rowR P K P.length K.length = gl P K := by
  apply Bool.eq_iff_iff.2
  rw [row_inv (Nat.le_refl _)]
  constructor
  · intro h
    refine ⟨K.length, Nat.le_refl _, h, ?_⟩
    rw [List.drop_of_length_le (Nat.le_refl _), List.drop_of_length_le (Nat.le_refl _)]
    rfl
  · rintro ⟨k, hk, h1, h2⟩
    rw [List.drop_of_length_le (Nat.le_refl _), gl_nil, List.isEmpty_iff, List.drop_eq_nil_iff] at h2
    obtain rfl : k = K.length := by omega
    exact h1
end

/-! ### names -/
def inNm (c : UInt8) : Bool := decide (97 ≤ c.toNat ∧ c.toNat ≤ 122) || decide (65 ≤ c.toNat ∧ c.toNat ≤ 90) || decide (48 ≤ c.toNat ∧ c.toNat ≤ 57) || decide (c.toNat = 45)
def isNm (l : List UInt8) : Bool := decide (1 ≤ l.length) && decide (l.length ≤ 12) && l.all inNm
end Go.Proofs.YtoecaonmehbfeaaGreat
