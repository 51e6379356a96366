import Derived.Test.YtknjamfjonapiaaGreatDoorY14
import Derived.Test.YtknjamfjonapiaaGreatDoorY13
import Derived.Test.YtknjamfjonapiaaGreatDoorY12
import Derived.Deep.LoopGhost
import Derived.Deep.QuietTactic
import Derived.BigQuiet
import Derived.Lib.Hide
namespace Go.Proofs.YtknjamfjonapiaaGreatDoor
open Go.RowKit Go.Sort Go.Shelf
theorem sortI_laid (blk off cap : Nat) (zs : List Int) (w : World) (hH : Holds (Value.int .i64) w blk off zs.toArray) (hblk : blk < w.heap.size) (hsz : zs.length < 4611686018427387904) :
  Calls Tryz.prog 277 #[.slice (some ⟨blk, off, none⟩) zs.length cap] w fun e w' => e = .returned (.tuple #[]) ∧ ∃ n os, w' = grow (putRow (Value.int .i64) (Sort.ahead w n) blk off (zs.mergeSort fun x y => decide (x ≤ y)).toArray) os :=
 Any.slices_Sort_int Tryz.lays189 blk off cap zs w hH hblk hsz
theorem sortI_none (p : Option Addr) (cap : Nat) (w : World) : Calls Tryz.prog 277 #[.slice p 0 cap] w fun e w' => e = .returned (.tuple #[]) ∧ w' = w := Any.slices_Sort_int_none Tryz.lays189 p cap w
theorem compactI_laid (blk off cap : Nat) (zs : List Int) (w : World) (hH : Holds (Value.int .i64) w blk off zs.toArray) (hsz : zs.length ≤ 9223372036854775807) (hcap : zs.length ≤ cap) :
  Calls Tryz.prog 278 #[.slice (some ⟨blk, off, none⟩) zs.length cap] w fun e w' => e = .returned (.slice (some ⟨blk, off, none⟩) (Lib.compact zs).length cap) ∧ ∃ q, w' = putRow (Value.int .i64) (Sort.ahead w q) blk off (Lib.compact zs ++ List.replicate (zs.length - (Lib.compact zs).length) 0).toArray :=
 Any.slices_Compact_int Tryz.lays220 blk off cap zs w hH hsz hcap
theorem compactI_none (p : Option Addr) (cap : Nat) (w : World) : Calls Tryz.prog 278 #[.slice p 0 cap] w fun e w' => e = .returned (.slice p 0 cap) ∧ w' = w := Any.slices_Compact_int_empty Tryz.lays220 p cap w
end Go.Proofs.YtknjamfjonapiaaGreatDoor
namespace Go.Proofs.YtknjamfjonapiaaGreatDoor
open Go.RowKit
set_option linter.unusedVariables false
set_option linter.unusedSectionVars false
set_option linter.unusedSimpArgs false
set_option maxRecDepth 100000
abbrev Rises1 (l : List Int) : Prop := l.Pairwise (· < ·)
theorem rises_eq {l m : List Int} (hl : Rises1 l) (hm : Rises1 m) (h : ∀ x, x ∈ l ↔ x ∈ m) : l = m := by
 have nl : l.Nodup := hl.imp fun h => Int.ne_of_lt h
 have nm : m.Nodup := hm.imp fun h => Int.ne_of_lt h
 exact List.Perm.eq_of_pairwise (le := (· < ·)) (fun a b _ _ h1 h2 => by omega) hl hm ((List.perm_ext_iff_of_nodup nl nm).2 h)
theorem compact_up {d : Array Int} (hd : ∀ i j, i < j → j < d.size → d[i]! ≤ d[j]!) : ∀ m, m ≤ d.size → Rises1 (Lib.compactUpTo d m) ∧ ∀ x, x ∈ Lib.compactUpTo d m ↔ ∃ j, j < m ∧ d[j]! = x
 | 0, _ => ⟨by simp [Lib.compactUpTo], fun x => by simp [Lib.compactUpTo]⟩
 | m + 1, hm => by
  obtain ⟨h1, h2⟩ := compact_up hd m (by omega)
  rw [Lib.compactUpTo_succ]
  cases hk : Lib.keeps d m with
  | true =>
   have hk : m = 0 ∨ d[m]! ≠ d[m - 1]! := by simpa [Lib.keeps] using hk
   refine ⟨?_, fun x => ?_⟩
   ·rw [if_pos rfl]
    refine List.pairwise_append.2 ⟨h1, by simp, ?_⟩
    intro a ha b hb
    rw [List.mem_singleton] at hb
    subst hb
    obtain ⟨j, hj, rfl⟩ := (h2 a).1 ha
    have hm1 : d[m - 1]! ≤ d[m]! := hd (m - 1) m (by omega) (by omega)
    have hjm : d[j]! ≤ d[m - 1]! := by
     by_cases e : j = m - 1
     ·rw [e]; exact Int.le_refl _
     ·exact hd j (m - 1) (by omega) (by omega)
    rcases hk with hk | hk
    ·omega
    ·have : d[m - 1]! ≠ d[m]! := fun e => hk e.symm
     omega
   ·rw [if_pos rfl, List.mem_append, List.mem_singleton, h2]
    constructor
    ·rintro (⟨j, hj, e⟩ | rfl)
     ·exact ⟨j, by omega, e⟩
     ·exact ⟨m, by omega, rfl⟩
    ·rintro ⟨j, hj, e⟩
     by_cases e1 : j = m
     ·subst e1; exact .inr e.symm
     ·exact .inl ⟨j, by omega, e⟩
  | false =>
   have hk : ¬ (m = 0 ∨ d[m]! ≠ d[m - 1]!) := by simpa [Lib.keeps] using hk
   have hk0 : m ≠ 0 := fun e => hk (.inl e)
   have hk1 : d[m]! = d[m - 1]! := by
    rcases Int.lt_or_le d[m]! d[m - 1]! with h | h
    ·exact absurd (.inr (by omega)) hk
    ·rcases Int.lt_or_le d[m - 1]! d[m]! with h | h
     ·exact absurd (.inr (by omega)) hk
     ·omega
   rw [if_neg (by simp), List.append_nil]
   refine ⟨h1, fun x => ?_⟩
   rw [h2]
   constructor
   ·rintro ⟨j, hj, e⟩
    exact ⟨j, by omega, e⟩
   ·rintro ⟨j, hj, e⟩
    by_cases e1 : j = m
    ·subst e1; exact ⟨j - 1, by omega, by rw [← hk1, e]⟩
    ·exact ⟨j, by omega, e⟩
abbrev sortL (l : List Int) : List Int := l.mergeSort fun x y => decide (x ≤ y)
theorem onceI (l : List Int) : Rises1 (Lib.compact (sortL l)) ∧ ∀ x, x ∈ Lib.compact (sortL l) ↔ x ∈ l := by
 have hs : (sortL l).Pairwise (fun x y => decide (x ≤ y) = true) := List.pairwise_mergeSort (fun a b c h1 h2 => by simp only [decide_eq_true_eq] at *; omega) (fun a b => by simp only [Bool.or_eq_true, decide_eq_true_eq]; omega) l
 have hd : ∀ i j, i < j → j < (sortL l).toArray.size → (sortL l).toArray[i]! ≤ (sortL l).toArray[j]! := by
  intro i j hij hj
  have hj' : j < (sortL l).length := by simpa using hj
  have := List.pairwise_iff_getElem.1 hs i j (by omega) hj' hij
  rw [decide_eq_true_eq] at this
  have e1 : (sortL l).toArray[i]! = (sortL l)[i] := by rw [getElem!_pos (sortL l).toArray i (by rw [List.size_toArray]; omega)]; simp
  have e2 : (sortL l).toArray[j]! = (sortL l)[j] := by rw [getElem!_pos (sortL l).toArray j (by simpa using hj')]; simp
  rw [e1, e2]
  exact this
 obtain ⟨h1, h2⟩ := compact_up hd (sortL l).length (by simp)
 refine ⟨h1, fun x => ?_⟩
 show x ∈ Lib.compactUpTo _ _ ↔ _
 rw [h2, ← (List.mergeSort_perm l fun x y => decide (x ≤ y)).mem_iff, List.mem_iff_getElem]
 constructor
 ·rintro ⟨j, hj, e⟩
  rw [getElem!_pos (sortL l).toArray j (by simpa using hj)] at e
  exact ⟨j, hj, by simpa using e⟩
 ·rintro ⟨j, hj, e⟩
  refine ⟨j, hj, ?_⟩
  rw [getElem!_pos (sortL l).toArray j (by simpa using hj)]
  simpa using e
section
variable {B : Nat} {w0 w : World} {X S : List (Nat × Obj)} {v : Value} {l : List Int}
theorem uInts12 : Tryz.prog.underlying 259 = some (.slice 3) := by kernel_rfl
theorem infInt12 : (Tryz.prog.info? 3).map (fun i => (i.zero, i.size, i.bytes)) = some (some (.int .i64 0), 1, 8) := by kernel_rfl
theorem ints_push (hs : SlIs 3 1 v l.length (l.map encI) S) (hst : St B w0 w (X ++ S)) (k : Int) (hl : l.length ≤ 1000000000000) :
  ∃ a cap, v = .slice a l.length cap ∧ ∃ a' cap' W2 S2, (Builtin.append_ #[259, 259] 0 #[.slice a l.length cap, .slice (some ⟨w.heap.size, 0, none⟩) 1 1]).run Tryz.prog (w.alloc (.cells #[.int .i64 k] 3)) = .ok (.slice a' (l.length + 1) cap') W2 ∧
   SlIs 3 1 (.slice a' (l.length + 1) cap') (l ++ [k]).length ((l ++ [k]).map encI) S2 ∧ St B w0 W2 (X ++ S2) := by
 obtain ⟨a, cap, rfl, -⟩ := hs.form
 obtain ⟨i0, hi0, hz0, hz1, hz2⟩ := info_parts12 infInt12
 have hrd := Reads.one w (.int .i64 k) 3
 obtain ⟨v2, W2, F2, hr, hs2, hst2⟩ := run_append_sl (P := Tryz.prog) 259 0 3 i0 _ 1 8 uInts12 hi0 hz0 hz1 hz2 rfl hs (A := (w.heap.size, .cells #[.int .i64 k] 3) :: X) (hst.alloc _) hrd
  (by intro u hu; rw [List.mem_singleton] at hu; subst hu; rfl) (by unfold maxLen; omega) (by omega)
 obtain ⟨a', cap', rfl, -⟩ := hs2.form
 refine ⟨a, cap, rfl, a', cap', W2, F2, hr, ?_, hst2.sub (List.sublist_cons_self _ _)⟩
 rw [List.length_append, List.length_singleton, List.map_append]
 exact hs2
open Go.Sort in
theorem row_st {g off cap n : Nat} {d : List Int} {m : Nat} (hs : SlIs 3 1 (.slice (some ⟨g, off, none⟩) l.length cap) l.length (l.map encI) S) (hst : St B w0 w (X ++ S)) (hd : d.length = l.length) (hm : m ≤ d.length) :
  ∃ S', SlIs 3 1 (.slice (some ⟨g, off, none⟩) m cap) m ((d.take m).map encI) S' ∧ St B w0 (putRow (Value.int .i64) (Sort.ahead w n) g off d.toArray) (X ++ S') := by
 obtain ⟨hl, ⟨h1, _⟩ | ⟨g', off', cap', cur, h1, rfl, h3, h4, h5, h6⟩⟩ := hs
 ·cases h1
 ·cases h1
  have hb := hst.get (b := g) (o := .cells cur 3 (0, 0)) (by simp)
  have e1 : (putRow (Value.int .i64) (Sort.ahead w n) g off d.toArray).heap[g]? = some (.cells (putCells (Value.int .i64) off d.toArray cur) 3 (0, 0)) := by
   simp [putRow, mapBlock, Sort.ahead, Array.getElem?_modify, hb, onCells]
  have e2 : ∀ k, k ≠ g → (putRow (Value.int .i64) (Sort.ahead w n) g off d.toArray).heap[k]? = w.heap[k]? := fun k hk => by
   simp [putRow, mapBlock, Sort.ahead, Array.getElem?_modify, Ne.symm hk]
  refine ⟨[(g, .cells (putCells (Value.int .i64) off d.toArray cur) 3 (0, 0))], ⟨by simp; omega, .inr ⟨g, off, cap, _, rfl, rfl, by omega, h4, by simpa [putCells] using h5, ?_⟩⟩, hst.write (C := []) e1 e2 (by simp [putRow, mapBlock, Sort.ahead]) rfl rfl rfl⟩
  apply List.ext_getElem?
  intro j
  rw [Nat.mul_one, List.getElem?_take]
  by_cases hj : j < m
  ·rw [if_pos hj, List.getElem?_drop, Array.getElem?_toList]
   have hx : d[j]? = some d[j] := List.getElem?_eq_getElem (by omega)
   have hc : off + j < cur.size := by omega
   simp only [putCells, Array.getElem?_mapIdx]
   rw [Array.getElem?_eq_getElem hc]
   have hcond : off ≤ off + j ∧ off + j < off + d.toArray.size := by simp; omega
   rw [Option.map_some, if_pos hcond, List.getElem?_map, List.getElem?_take, if_pos hj, hx, Nat.add_sub_cancel_left, getElem!_pos d.toArray j (by simp; omega)]
   simp
  ·rw [if_neg hj, List.getElem?_map, List.getElem?_take, if_neg hj]
   rfl
open Go.Sort in
theorem sortI_any (hs : SlIs 3 1 v l.length (l.map encI) S) (hst : St B w0 w (X ++ S)) (hl : l.length ≤ 1000000000000) :
  Calls Tryz.prog 277 #[v] w fun e w' => e = .returned (.tuple #[]) ∧ ∃ S', SlIs 3 1 v (sortL l).length ((sortL l).map encI) S' ∧ St B w0 w' (X ++ S') := by
 have hlen : (sortL l).length = l.length := List.length_mergeSort _
 have hs' := hs
 obtain ⟨hl0, ⟨rfl, h2, rfl⟩ | ⟨g, off, cap, cur, rfl, rfl, h3, h4, h5, h6⟩⟩ := hs
 ·have hl1 : l = [] := List.eq_nil_of_length_eq_zero h2
  subst hl1
  refine (sortI_none none 0 w).mono ?_
  rintro e w' ⟨rfl, rfl⟩
  exact ⟨rfl, [], by simpa using SlIs.nil, hst⟩
 ·have hH : Holds (Value.int .i64) w g off l.toArray := fun j hj => by
   have hj' : j < l.length := by simpa using hj
   refine ⟨?_, hs'.soft hst _⟩
   rw [getElem!_pos l.toArray j hj]
   exact hs'.cellAt hst (by simp [hj'])
  have hg := hst.lt (b := g) (o := .cells cur 3 (0, 0)) (by simp)
  refine (sortI_laid g off cap l w hH hg (by omega)).mono ?_
  rintro e w' ⟨rfl, n, os, rfl⟩
  obtain ⟨S', k1, k2⟩ := row_st (n := n) (d := sortL l) (m := (sortL l).length) hs' hst hlen (Nat.le_refl _)
  rw [List.take_length] at k1
  refine ⟨rfl, S', by rw [hlen] at k1 ⊢; exact k1, k2.grow ⟨rfl, rfl, rfl, by simp, fun k hk => ?_⟩⟩
  simp only [Sort.grow]
  rw [Array.getElem?_append_left hk]
open Go.Sort in
theorem compactI_any (hs : SlIs 3 1 v l.length (l.map encI) S) (hst : St B w0 w (X ++ S)) (hl : l.length ≤ 1000000000000) :
  Calls Tryz.prog 278 #[v] w fun e w' => ∃ v' S', e = .returned v' ∧ SlIs 3 1 v' (Lib.compact l).length ((Lib.compact l).map encI) S' ∧ St B w0 w' (X ++ S') := by
 have hs' := hs
 obtain ⟨hl0, ⟨rfl, h2, rfl⟩ | ⟨g, off, cap, cur, rfl, rfl, h3, h4, h5, h6⟩⟩ := hs
 ·have hl1 : l = [] := List.eq_nil_of_length_eq_zero h2
  subst hl1
  refine (compactI_none none 0 w).mono ?_
  rintro e w' ⟨rfl, rfl⟩
  exact ⟨_, [], rfl, by simpa [Lib.compact, Lib.compactUpTo] using SlIs.nil, hst⟩
 ·have hH : Holds (Value.int .i64) w g off l.toArray := fun j hj => by
   have hj' : j < l.length := by simpa using hj
   refine ⟨?_, hs'.soft hst _⟩
   rw [getElem!_pos l.toArray j hj]
   exact hs'.cellAt hst (by simp [hj'])
  have hcl : (Lib.compact l).length ≤ l.length := by
   unfold Lib.compact Lib.compactUpTo
   rw [List.length_map]
   exact Nat.le_trans (List.length_filter_le _ _) (by simp)
  refine (compactI_laid g off cap l w hH (by omega) h3).mono ?_
  rintro e w' ⟨rfl, n, rfl⟩
  obtain ⟨S', k1, k2⟩ := row_st (n := n) (d := Lib.compact l ++ List.replicate (l.length - (Lib.compact l).length) 0) (m := (Lib.compact l).length) hs' hst (by simp; omega) (by simp)
  rw [List.take_left] at k1
  exact ⟨_, S', rfl, k1, k2⟩
end
end Go.Proofs.YtknjamfjonapiaaGreatDoor
namespace Go.Proofs.YtknjamfjonapiaaGreatDoor
open Go.RowKit
open Go.ChangeMaps (setBlock)
set_option linter.unusedVariables false
set_option linter.unusedSectionVars false
set_option linter.unusedSimpArgs false
set_option maxRecDepth 100000
section
variable {B : Nat} {w0 w : World} {F S : List (Nat × Obj)} {L : List Nd} {tb c wb kb clk : Nat} {n m : Nd} {K K0 : Kn} {H A X : List Nd} {kes : List (MapRow Nat)} {o0 o : Option Nd}
theorem WkAt.beside (h : WkAt B w0 w wb L H A K F) : ∃ O, St B w0 w (O ++ F) ∧ ∀ w' F', St B w0 w' (O ++ F') → WkAt B w0 w' wb L H A K F' := by
 obtain ⟨hv, av, SH, SA, kb, kes, clk, s1, s2, s3, hst⟩ := h
 have e : ∀ G : List (Nat × Obj), objsL L ++ ((wb, .cells #[hv, av, .map (some kb)] 346) :: ((kb, .map (entsE np kes) clk) :: (SH ++ (SA ++ G)))) = (objsL L ++ ((wb, .cells #[hv, av, .map (some kb)] 346) :: ((kb, .map (entsE np kes) clk) :: (SH ++ SA)))) ++ G := fun G => by simp
 refine ⟨_, (e F) ▸ hst, fun w' F' h => ⟨hv, av, SH, SA, kb, kes, clk, s1, s2, s3, (e F').symm ▸ h⟩⟩
theorem WkAt.tabI (h : WkAt B w0 w wb L H A K F) (hn : n ∈ L) : TbAt w n.b 4 encI n.i := by
 obtain ⟨hv, av, SH, SA, kb, kes, clk, s1, s2, s3, hst⟩ := h
 exact hst.tabI hn
theorem WkAt.tree (h : WkAt B w0 w wb L H A K F) : St B w0 w (objsL L ++ F) := by
 obtain ⟨hv, av, SH, SA, kb, kes, clk, s1, s2, s3, hst⟩ := h
 refine hst.sub ((List.Sublist.refl _).append ?_)
 exact ((List.sublist_append_right SA F).trans (List.sublist_append_right SH _)).trans ((List.sublist_cons_self _ _).trans (List.sublist_cons_self _ _))
theorem WkAt.growF {w' : World} (h : WkAt B w0 w wb L H A K F) (hb : Below w.heap.size w w') : WkAt B w0 w' wb L H A K F := by
 obtain ⟨O, h1, h2⟩ := h.beside
 exact h2 _ _ (h1.grow hb)
def StartR (B : Nat) (w0 : World) (wb : Nat) (L : List Nd) (F : List (Nat × Obj)) (e : Ending) (w' : World) : Prop :=
 e = .returned (.tuple #[]) ∧ ∃ K X, Here L [] K X ∧ WkAt B w0 w' wb L X [] K F
theorem start_any (h : WkAt B w0 w wb L [] [] (fun _ => 0) F) (ht : TreeOk L tb c) (hc : c ≤ 800000) (hn : n ∈ L) (h0 : n.p = []) (hb : n.b = tb) : Calls Tryz.prog 274 #[np wb, np tb] w (StartR B w0 wb L F) := by
 have c1 := reach_any h ht hc (ReachOk.start (o := some n) (KOk.zero L) (by simp) (by simp) (by simp) (fun y hy => by cases hy; exact ⟨hn, fun _ => by simp⟩))
 have e1 : ov (some n) = np tb := by rw [← hb]; rfl
 rw [e1] at c1
 replace c1 := Lib.hid c1
 have nx : Hid (∀ K X o, ReachOk L (fun _ => 0) [] (some n) K X o → Stop K o → Here L [] K X) := Lib.hid fun K X o R hs => Here.start ht hn h0 R hs
 clear h ht hn h0 hb e1
 go_enter Tryz.func274, Tryz.ntmps274
 go_wp2_with fail
 refine c1.out.mono ?_
 rintro e w1 ⟨rfl, K, X, o, R, hs, hw⟩
 have hH := Lib.hid (nx.out K X o R hs)
 have c2 := Lib.hid (step_any (by simpa using hw))
 clear R hs hw nx c1
 go_wp2_with fail
 refine c2.out.mono ?_
 rintro e w2 ⟨rfl, hw2⟩
 have fin : Hid (StartR B w0 wb L F (.returned (.tuple #[])) w2) := Lib.hid ⟨rfl, K, X, hH.out, hw2⟩
 clear hw2 c2 hH
 go_wp2_with fail
 exact bodyPost_end (results_none rfl _ _ _) rfl fin.out
def IdsIn (B : Nat) (w0 : World) (wb : Nat) (L H : List Nd) (K : Kn) (F : List (Nat × Obj)) (l : List Int) (mb r : Nat) (es : List (MapRow Int)) (clk : Nat) (done laid : List (MapRow Int)) (v : Value) (w' : World) : Prop :=
 ∃ S seen, SlIs 3 1 v (l ++ laid.map (·.1)).length ((l ++ laid.map (·.1)).map encI) S ∧ IterAt w' mb r encI es clk done ∧ WkAt B w0 w' wb L H [] K ((r, .mapIter (some mb) clk seen clk) :: (S ++ F))
theorem perm_i {α : Type} (O S F : List α) (x : α) : (O ++ (x :: (S ++ F))).Perm ((O ++ (x :: F)) ++ S) := by
 classical
 exact List.perm_iff_count.2 fun a => by simp only [List.count_append, List.count_cons]; omega
theorem IdsIn.next {l : List Int} {mb r : Nat} {es : List (MapRow Int)} {done : List (MapRow Int)} {v : Value} (h : IdsIn B w0 wb L H K F l mb r es clk done done v w) (hB : Born es clk) (hn : es.Nodup) (hv : ∀ e ∈ es, e.2.1 = .agg #[]) (ty : TypeId) :
  (done.Perm es ∧ (Instr.next (.pointer (some ⟨r, 0, none⟩)) false ty).run Tryz.prog w = .ok (.tuple #[.bool false]) w) ∨
  ∃ e w', done.length + 1 ≤ es.length ∧ (Instr.next (.pointer (some ⟨r, 0, none⟩)) false ty).run Tryz.prog w = .ok (.tuple #[.bool true, .int .i64 e.1, .agg #[]]) w' ∧ (Instr.entry (.pointer (some ⟨r, 0, none⟩))).run Tryz.prog w' = .ok (.tuple #[.int .i64 e.1, .agg #[]]) w' ∧
   IdsIn B w0 wb L H K F l mb r es clk (done ++ [e]) done v w' := by
 obtain ⟨S, seen, h1, hI, h2⟩ := h
 rcases hI.next (P := Tryz.prog) hB hn ty with ⟨hp, hr⟩ | ⟨e, he, hd, w', hr, hI', hk, hs, ho, ht, hu, hen⟩
 ·exact .inl ⟨hp, hr⟩
 ·obtain ⟨-, seen', hs', -⟩ := id hI'
  obtain ⟨O, g1, g2⟩ := h2.beside
  have hle := nodup_len hI'.2.choose_spec.2.1 hI'.2.choose_spec.2.2.1
  rw [List.length_append, List.length_singleton] at hle
  rw [hv e he] at hr hen
  exact .inr ⟨e, w', hle, hr, hen, S, seen', h1, hI', g2 _ _ (g1.write hs' hk hs ho ht hu)⟩
theorem IdsIn.push {l : List Int} {mb r : Nat} {es : List (MapRow Int)} {done : List (MapRow Int)} {e : MapRow Int} {v : Value} (h : IdsIn B w0 wb L H K F l mb r es clk (done ++ [e]) done v w) (hn : n ∈ L) (h1 : n.i.mv = some mb) (h2 : n.i.es = es) (h3 : n.i.clk = clk)
  (hl : (l ++ done.map (·.1)).length ≤ 1000000000000) : ∃ a ln cap, v = .slice a ln cap ∧ ∃ a' cap' W2, (Builtin.append_ #[259, 259] 0 #[.slice a ln cap, .slice (some ⟨w.heap.size, 0, none⟩) 1 1]).run Tryz.prog (w.alloc (.cells #[.int .i64 e.1] 3)) = .ok (.slice a' (ln + 1) cap') W2 ∧
   IdsIn B w0 wb L H K F l mb r es clk (done ++ [e]) (done ++ [e]) (.slice a' (ln + 1) cap') W2 := by
 obtain ⟨S, seen, s1, hI, hw⟩ := h
 obtain ⟨O, g1, g2⟩ := hw.beside
 obtain ⟨a, cap, rfl, a', cap', W2, S2, hr, s2, hst⟩ := ints_push s1 (g1.perm (perm_i _ _ _ _)) e.1 hl
 have hw2 := g2 _ _ (hst.perm (perm_i _ _ _ _).symm)
 refine ⟨a, _, cap, rfl, a', cap', W2, hr, S2, seen, ?_, hI.kept ?_ ?_, hw2⟩
 ·have e1 : l ++ done.map (·.1) ++ [e.1] = l ++ (done ++ [e]).map (·.1) := by simp
  rw [e1] at s2
  exact s2
 ·rw [hI.1]
  have := (hw2.tabI hn).map mb h1
  rw [h2, h3] at this
  exact this
 ·rw [g1.get (b := r) (o := .mapIter (some mb) clk seen clk) (by simp)]
  exact hst.get (b := r) (o := .mapIter (some mb) clk seen clk) (by simp)
def IdsAt (B : Nat) (w0 : World) (wb : Nat) (L H : List Nd) (K : Kn) (F : List (Nat × Obj)) (c g : Nat) (a' : Act) (w' : World) : Prop :=
 ∃ (at_ : Nat) (l : List Int) (v : Value) (S : List (Nat × Obj)), at_ + g = H.length ∧ SlIs 3 1 v l.length (l.map encI) S ∧ (∀ k, k ∈ l ↔ ∃ n ∈ H.take at_, k ∈ n.i.es.map (·.1)) ∧ l.length ≤ at_ * c ∧ WkAt B w0 w' wb L H [] K (S ++ F) ∧ Fr 36 [(0, np wb), (3, v), (4, .int .i64 at_)] a'
def IdsR (B : Nat) (w0 : World) (L H : List Nd) (F : List (Nat × Obj)) (e : Ending) (w' : World) : Prop :=
 ∃ (v : Value) (l : List Int) (S : List (Nat × Obj)), e = .returned v ∧ SlIs 3 1 v l.length (l.map encI) S ∧ (∀ k, k ∈ l ↔ ∃ n ∈ H, k ∈ n.i.es.map (·.1)) ∧ l.length ≤ 1000000000000 ∧ St B w0 w' (objsL L ++ (S ++ F))
set_option maxHeartbeats 2000000 in
theorem ids_any (h : WkAt B w0 w wb L H [] K F) (ht : TreeOk L tb c) (hc : c ≤ 800000) (hm : ∀ n ∈ H, n ∈ L) (hHl : H.length ≤ c) : Calls Tryz.prog 276 #[np wb] w (IdsR B w0 L H F) := by
 have start : Hid (∀ a', Fr 36 [(0, np wb), (3, .slice none 0 0), (4, .int .i64 (0 : Nat))] a' → IdsAt B w0 wb L H K F c H.length a' w) := Lib.hid fun a' ha => ⟨0, [], _, [], by omega, SlIs.nil, by simp, by simp, h, ha⟩
 replace ht := Lib.hid ht
 clear h
 have hmul : H.length * c ≤ 1000000000000 := Nat.le_trans (Nat.mul_le_mul hHl (Nat.le_refl c)) (Nat.le_trans (Nat.mul_le_mul hc hc) (by decide))
 replace hmul := Lib.hid hmul
 go_enter Tryz.func276, Tryz.ntmps276
 go_wp2_with fail
 refine wp_scope_ghost 0 (IdsAt B w0 wb L H K F c) rfl ?_ ?_
 ·clear start
  rintro g a' w' ⟨at_, l, v, S, hg, s1, hl, hll, hw, hfr⟩
  obtain ⟨f, rfl, hl'⟩ := hfr.lit
  clear hfr
  simp only [List.mem_cons, List.not_mem_nil, or_false, forall_eq_or_imp, forall_eq] at hl'
  obtain ⟨f0, f3, f4⟩ := hl'
  simp only [List.range, List.range.loop, List.map, f0, f3, f4]
  clear f0 f3 f4
  obtain ⟨a, cap, ch, hat⟩ := hw.hereAt
  have hat0 : (0 : Int) ≤ at_ := by omega
  have hl0 : (H.length : Int) ≤ 800000 := by omega
  by_cases hlt : at_ < H.length
  ·have hnx : H[at_]? = some H[at_] := List.getElem?_eq_getElem hlt
   generalize H[at_] = n at hnx
   obtain ⟨gb, off, rfl, hcell⟩ := hat at_ n hnx
   have hnH : n ∈ H := List.mem_of_getElem? hnx
   have hn := hm n hnH
   have hneB : ((at_ : Int) == (H.length : Int)) = false := by
    rw [beq_eq_false_iff_ne]
    omega
   have hlt' : (at_ : Int) < H.length := by omega
   have htab := hw.tabI hn
   have hc4 := htab.c0
   have hok := (ht.out.oks n hn).2
   have htake : H.take (at_ + 1) = H.take at_ ++ [n] := by rw [List.take_add_one, hnx]; rfl
   have hmem : ∀ l2 : List Int, (∀ k, k ∈ l2 ↔ k ∈ l ∨ k ∈ n.i.es.map (·.1)) → ∀ k, k ∈ l2 ↔ ∃ n ∈ H.take (at_ + 1), k ∈ n.i.es.map (·.1) := fun l2 h2 k => by
    rw [h2, hl, htake]
    constructor
    ·rintro (⟨m, hm, hk⟩ | hk)
     ·exact ⟨m, List.mem_append_left _ hm, hk⟩
     ·exact ⟨n, by simp, hk⟩
    ·rintro ⟨m, hm, hk⟩
     rcases List.mem_append.1 hm with hm | hm
     ·exact .inl ⟨m, hm, hk⟩
     ·rw [List.mem_singleton] at hm
      subst hm
      exact .inr hk
   have hac : (at_ + 1) * c = at_ * c + c := by rw [Nat.add_mul, Nat.one_mul]
   have hacl : at_ * c ≤ 1000000000000 := Nat.le_trans (Nat.mul_le_mul_right _ (by omega)) hmul.out
   have nextAt : Hid (∀ (l2 : List Int) v2 S2 W, SlIs 3 1 v2 l2.length (l2.map encI) S2 → (∀ k, k ∈ l2 ↔ k ∈ l ∨ k ∈ n.i.es.map (·.1)) → l2.length ≤ l.length + c → WkAt B w0 W wb L H [] K (S2 ++ F) → ∀ a2, Fr 36 [(0, np wb), (3, v2), (4, .int .i64 ((at_ : Int) + 1))] a2 → ∃ m, m < g ∧ IdsAt B w0 wb L H K F c m a2 W) :=
    Lib.hid fun l2 v2 S2 W g1 g2 g3 g4 a2 ha => ⟨H.length - (at_ + 1), by omega, at_ + 1, l2, v2, S2, by omega, g1, hmem l2 g2, by omega, g4, ha⟩
   cases hmv : n.i.mv with
   | none =>
    rw [hmv] at hc4
    have hrg := run_range_nilMap (P := Tryz.prog) w' 314 _ _ uMapI
    have hnx := run_next_nilMap (P := Tryz.prog) w' 0 0 0 #[]
    have hes := (hok.bare hmv).1
    have fin := Lib.hid (nextAt.out l v S (w'.alloc (.mapIter none 0 #[] 0)) s1 (fun k => by rw [hes]; simp) (by omega) (hw.growF (new_below _ _)))
    clear s1 hl hw hm hHl hat hn hnH htab hok htake hmem hac hacl nextAt hes ht hmul
    generalize w'.alloc (.mapIter none 0 #[] 0) = W at *
    go_wp2_with fail
    go_loopg [3, 5] 0 (fun g v3 v5 wr => v3 = v ∧ wr = W)
    case atStart => exact ⟨rfl, rfl⟩
    case round =>
     obtain ⟨rfl, rfl⟩ := hrel
     go_wp2_with fail
     refine wp_goto ?_
     refine ⟨rfl, fin.out _ ?_⟩
     exact ⟨rfl, rfl, by simp⟩
   | some mb =>
    rw [hmv] at hc4
    have hg := htab.map mb hmv
    have hrg := run_range_map (P := Tryz.prog) w' 314 _ _ mb _ _ uMapI hg
    obtain ⟨O, g1, g2⟩ := hw.beside
    have hwI := g2 _ ((w'.heap.size, .mapIter (some mb) n.i.clk #[] n.i.clk) :: (S ++ F)) ((g1.alloc (.mapIter (some mb) n.i.clk #[] n.i.clk)).perm (perm_w O (S ++ F) _).symm)
    have hg2 := (hwI.tabI hn).map mb hmv
    have first : Hid (IdsIn B w0 wb L H K F l mb w'.heap.size n.i.es n.i.clk [] [] v (w'.alloc (.mapIter (some mb) n.i.clk #[] n.i.clk))) := Lib.hid ⟨S, #[], by simpa using s1, ⟨hg2, #[], (MapKept.heap_alloc w' _).1, by simp, by simp, by simp⟩, hwI⟩
    have hbare := Lib.hid (ht.out.bare n hn)
    have hborn := Lib.hid hok.born
    have hnd : Hid (n.i.es.Nodup) := Lib.hid (List.Pairwise.of_map (S := fun a b => a ≠ b) _ (fun a b h e => h (by rw [e])) hok.keys)
    have hlc := hok.len
    have fin : Hid (∀ done v2 W, done.Perm n.i.es → IdsIn B w0 wb L H K F l mb w'.heap.size n.i.es n.i.clk done done v2 W → ∀ a2, Fr 36 [(0, np wb), (3, v2), (4, .int .i64 ((at_ : Int) + 1))] a2 → ∃ m, m < g ∧ IdsAt B w0 wb L H K F c m a2 W) := Lib.hid fun done v2 W hp hI => by
     obtain ⟨S2, seen, q1, -, q3⟩ := hI
     obtain ⟨O2, q4, q5⟩ := q3.beside
     refine nextAt.out (l ++ done.map (·.1)) v2 S2 W q1 (fun k => ?_) ?_ (q5 _ _ (q4.sub ((List.Sublist.refl _).append (List.sublist_cons_self _ _))))
     ·rw [List.mem_append, (hp.map (·.1)).mem_iff]
     ·rw [List.length_append, List.length_map, hp.length_eq]
      omega
    have pu : Hid (∀ done (e : MapRow Int) v2 W, done.length + 1 ≤ n.i.es.length → IdsIn B w0 wb L H K F l mb w'.heap.size n.i.es n.i.clk (done ++ [e]) done v2 W → ∃ a ln cap, v2 = .slice a ln cap ∧ ∃ a' cap' W2, (Builtin.append_ #[259, 259] 0 #[.slice a ln cap, .slice (some ⟨W.heap.size, 0, none⟩) 1 1]).run Tryz.prog (W.alloc (.cells #[.int .i64 e.1] 3)) = .ok (.slice a' (ln + 1) cap') W2 ∧
      IdsIn B w0 wb L H K F l mb w'.heap.size n.i.es n.i.clk (done ++ [e]) (done ++ [e]) (.slice a' (ln + 1) cap') W2) := Lib.hid fun done e v2 W hd hI => hI.push hn hmv rfl rfl (by
     rw [List.length_append, List.length_map]
     have h1 : at_ * c + c ≤ 1000000000000 := by
      rw [← hac]
      exact Nat.le_trans (Nat.mul_le_mul_right _ (by omega)) hmul.out
     omega)
    clear s1 hl hw hm hHl hat hn hnH htab hok htake hmem hac hacl nextAt ht hmul g1 g2 hwI hg2 hg hlc hmv
    generalize w'.alloc (.mapIter (some mb) n.i.clk #[] n.i.clk) = W at *
    generalize w'.heap.size = r at *
    generalize n.i.clk = clk at *
    have hbare : Hid (∀ e ∈ n.i.es, e.2.1 = .agg #[]) := hbare
    generalize n.i.es = es at *
    go_wp2_with fail
    go_loopg [3, 5] es.length (fun g v3 v5 wr => ∃ done, done.length + g = es.length ∧ Hid (IdsIn B w0 wb L H K F l mb r es clk done done v3 wr))
    case atStart => exact ⟨[], by simp, first⟩
    case round =>
     obtain ⟨done, hg, hI⟩ := hrel
     rcases hI.out.next hborn.out hnd.out hbare.out 0 with ⟨hp, hnx⟩ | ⟨e, w2, hle, hnx, hen, hI2⟩
     ·have fin := Lib.hid (fin.out done _ _ hp hI.out)
      clear hI pu first
      go_wp2_with fail
      refine wp_goto ?_
      refine ⟨rfl, fin.out _ ?_⟩
      exact ⟨rfl, rfl, by simp⟩
     ·obtain ⟨a3, ln, cap3, rfl, a', cap', W2, hrun, hI3⟩ := pu.out done e _ _ hle hI2
      replace hI3 := Lib.hid hI3
      clear hI hI2 pu fin first
      go_wp2_with (at_builtin; refine wpList_append_go rfl (.tmp 30) (.tmp 32) 259 259 rfl _ _ rfl rfl hrun ?_)
      go_roundg (es.length - (done.length + 1))
      case measure => omega
      case rel => exact ⟨done ++ [e], by rw [List.length_append, List.length_singleton]; omega, hI3⟩
  ·obtain rfl : at_ = H.length := by omega
   rw [List.take_length] at hl
   have fin : Hid (IdsR B w0 L H F (.returned v) w') := Lib.hid ⟨v, l, S, rfl, s1, hl, Nat.le_trans hll hmul.out, hw.tree⟩
   clear s1 hl hll hw hat ht hmul hm hHl
   go_wp2_with fail
   simp only [Exit.jump]
   go_ret
   exact fin.out
 ·intro H1
  go_wp2_with fail
  refine wp_label ?_
  go_step
  go_step
  refine H1 _ _ _ (start.out _ ?_)
  exact ⟨rfl, rfl, by simp⟩
end
end Go.Proofs.YtknjamfjonapiaaGreatDoor
namespace Go.Proofs.YtknjamfjonapiaaGreatDoor
open Go.RowKit
open Go.ChangeMaps (setBlock)
set_option linter.unusedVariables false
set_option linter.unusedSectionVars false
set_option linter.unusedSimpArgs false
set_option maxRecDepth 100000
abbrev Prs := List (Wds × Int)
def TrIs (B : Nat) (w0 w : World) (tb : Nat) (M : Prs) (F : List (Nat × Obj)) (c : Nat) : Prop :=
 ∃ L, St B w0 w (objsL L ++ F) ∧ TreeOk L tb c ∧ (∀ p k, HasId L p k ↔ (p, k) ∈ M) ∧ M.Nodup ∧ RootX L [.int .i64 M.length]
def addM (M : Prs) (x : Wds × Int) : Prs := if x ∈ M then M else M ++ [x]
theorem mem_add {M : Prs} {x y : Wds × Int} : y ∈ addM M x ↔ y ∈ M ∨ y = x := by
 unfold addM
 split
 ·rename_i h
  exact ⟨.inl, fun e => e.elim id fun e => e ▸ h⟩
 ·simp
section
variable {B : Nat} {w0 w : World} {F : List (Nat × Obj)} {L : List Nd} {tb c : Nat} {n m : Nd} {M : Prs}
theorem TrIs.grow {w' : World} (h : TrIs B w0 w tb M F c) (hb : Below w.heap.size w w') : TrIs B w0 w' tb M F c := by
 obtain ⟨L, h1, h2⟩ := h
 exact ⟨L, h1.grow hb, h2⟩
theorem TrIs.mono {c' : Nat} (h : TrIs B w0 w tb M F c) (hc : c ≤ c') : TrIs B w0 w tb M F c' := by
 obtain ⟨L, h1, h2, h3⟩ := h
 exact ⟨L, h1, h2.mono hc, h3⟩
theorem TrIs.sub {F' : List (Nat × Obj)} (h : TrIs B w0 w tb M F c) (hs : F'.Sublist F) : TrIs B w0 w tb M F' c := by
 obtain ⟨L, h1, h2⟩ := h
 exact ⟨L, h1.sub ((List.Sublist.refl _).append hs), h2⟩
theorem TrIs.permF {F' : List (Nat × Obj)} (h : TrIs B w0 w tb M F c) (hs : F.Perm F') : TrIs B w0 w tb M F' c := by
 obtain ⟨L, h1, h2⟩ := h
 exact ⟨L, h1.perm (hs.append_left _), h2⟩
theorem TrIs.beside (h : TrIs B w0 w tb M F c) : ∃ S, St B w0 w (S ++ F) ∧ ∀ w' F', St B w0 w' (S ++ F') → TrIs B w0 w' tb M F' c := by
 obtain ⟨L, h1, h2⟩ := h
 exact ⟨objsL L, h1, fun w' F' h => ⟨L, h, h2⟩⟩
theorem trnew_any (hst : St B w0 w F) : Calls Tryz.prog 241 #[] w fun e w' => ∃ tb, e = .returned (np tb) ∧ TrIs B w0 w' tb [] F 1 := by
 have h1 := hst.alloc (.cells #[.pointer none, tx [], .map none, .int .i64 0, .map none, .int .i64 0, .int .i64 0] 320)
 have fin : Hid (TrIs B w0 (w.alloc (.cells #[.pointer none, tx [], .map none, .int .i64 0, .map none, .int .i64 0, .int .i64 0] 320)) w.heap.size [] F 1) := Lib.hid (by
  refine ⟨[⟨[], w.heap.size, none, Tb.new, Tb.new, [.int .i64 0], 320⟩], h1, ⟨by simp, by simp, ⟨_, List.mem_cons_self, rfl, rfl⟩, ?_, ?_, ?_, ?_, by simp⟩, ?_, by simp, ⟨_, List.mem_cons_self, rfl, rfl⟩⟩
  ·intro n hn
   rw [List.mem_singleton] at hn
   subst hn
   exact .inl ⟨rfl, rfl⟩
  ·intro n hn r hr
   rw [List.mem_singleton] at hn
   subst hn
   exact absurd hr (by simp [Tb.new, Tb.rows])
  ·intro n hn e he
   rw [List.mem_singleton] at hn
   subst hn
   exact absurd he (by simp [Tb.new])
  ·intro n hn
   rw [List.mem_singleton] at hn
   subst hn
   exact ⟨TbOk.new _, TbOk.new _⟩
  ·rintro p k
   constructor
   ·rintro ⟨n, hn, -, hk⟩
    rw [List.mem_singleton] at hn
    subst hn
    exact absurd hk (by simp [Tb.new])
   ·intro h
    exact absurd h (by simp))
 clear h1 hst
 go_enter Tryz.func241, Tryz.ntmps241
 go_wp2_with fail
 go_ret
 exact ⟨_, rfl, fin.out⟩
theorem root_set {v v' : Value} (hst : St B w0 w (objsL L ++ F)) (ht : TreeOk L tb c) (hx : RootX L [v]) :
  w.cell? ⟨tb, 6, none⟩ = some v ∧ w.frozen? ⟨tb, 6, none⟩ = false ∧ ∃ L', St B w0 (w.setCell ⟨tb, 6, none⟩ v') (objsL L' ++ F) ∧ TreeOk L' tb c ∧ (∀ p k, HasId L' p k ↔ HasId L p k) ∧ RootX L' [v'] ∧ ∀ m ∈ L, ∃ m' ∈ L', m'.p = m.p ∧ m'.b = m.b := by
 obtain ⟨r, hr, e1, e2⟩ := hx
 obtain ⟨r2, hr2, g1, g2⟩ := ht.root
 obtain rfl := map_inj ht.paths hr hr2 (e1.trans g1.symm)
 have hc : r.cells = #[upV r.u, tx (lastW r.p), .map r.s.mv, .int .i64 r.s.most, .map r.i.mv, .int .i64 r.i.most, v] := by
  unfold Nd.cells
  rw [e2]
  rfl
 refine ⟨by rw [← g2]; exact hst.node hr (by rw [hc]; rfl), by rw [← g2]; exact hst.nodeSoft hr 6, ?_⟩
 obtain ⟨R, hp⟩ : ∃ R, L.Perm (r :: R) := by
  obtain ⟨a, b, rfl⟩ := List.append_of_mem hr
  exact ⟨a ++ b, List.perm_middle⟩
 have ht' := ht.perm hp
 have hs2 : St B w0 w ((r.b, .cells r.cells r.y) :: ((tabH encS r.s ++ tabH encI r.i) ++ (objsL R ++ F))) := by
  refine hst.perm (((objs_perm hp).append_right F).trans ?_)
  rw [objs_cons]
  unfold Nd.objs
  exact List.Perm.of_eq (by simp)
 have hs3 := hs2.set0 6 v'
 rw [g2] at hs3
 have hc2 : r.cells.setIfInBounds 6 v' = ({ r with x := [v'] } : Nd).cells := by
  rw [hc]
  rfl
 rw [hc2] at hs3
 refine ⟨{ r with x := [v'] } :: R, ?_, ht'.ids (i' := r.i) (ht.bare r hr) (Nat.le_refl _) (ht.oks r hr).2, ?_, ⟨_, List.mem_cons_self, e1, rfl⟩, ?_⟩
 ·refine hs3.perm (List.Perm.of_eq ?_)
  rw [objs_cons]
  unfold Nd.objs
  simp [g2]
 ·intro p k
  rw [← (Same.perm hp).ids p k]
  constructor
  ·rintro ⟨q, hq, e3, e4⟩
   rcases List.mem_cons.1 hq with rfl | hq
   ·exact ⟨r, by simp, e3, e4⟩
   ·exact ⟨q, by simp [hq], e3, e4⟩
  ·rintro ⟨q, hq, e3, e4⟩
   rcases List.mem_cons.1 hq with rfl | hq
   ·exact ⟨{ q with x := [v'] }, by simp, e3, e4⟩
   ·exact ⟨q, by simp [hq], e3, e4⟩
 ·intro m hm
  rcases List.mem_cons.1 (hp.mem_iff.1 hm) with rfl | hm
  ·exact ⟨{ m with x := [v'] }, by simp, rfl, rfl⟩
  ·exact ⟨m, by simp [hm], rfl, rfl⟩
theorem ids_turn (hst : St B w0 w (objsL L ++ F)) (ht : TreeOk L tb c) (hn : n ∈ L) : ∃ R, L.Perm (n :: R) ∧ St B w0 w ((n.b, .cells n.cells n.y) :: (tabH encI n.i ++ (tabH encS n.s ++ (objsL R ++ F)))) ∧
  ∀ w' (i' : Tb Int) c', St B w0 w' ((n.b, .cells (tabC n.cells 4 i'.mv i'.most) n.y) :: (tabH encI i' ++ (tabH encS n.s ++ (objsL R ++ F)))) → Bare i' → c ≤ c' → TbOk i' c' →
   St B w0 w' (objsL ({ n with i := i' } :: R) ++ F) ∧ TreeOk ({ n with i := i' } :: R) tb c' ∧ (∀ X, RootX L X → RootX ({ n with i := i' } :: R) X) ∧
   ∀ p k, HasId ({ n with i := i' } :: R) p k ↔ (if p = n.p then k ∈ i'.rows.map (·.1) else HasId L p k) := by
 obtain ⟨R, hp⟩ : ∃ R, L.Perm (n :: R) := by
  obtain ⟨a, b, rfl⟩ := List.append_of_mem hn
  exact ⟨a ++ b, List.perm_middle⟩
 have ht' := ht.perm hp
 refine ⟨R, hp, ?_, fun w' i' c' h1 h2 h3 h4 => ⟨?_, ht'.ids (x' := n.x) h2 h3 h4, ?_, ?_⟩⟩
 ·refine hst.perm (((objs_perm hp).append_right F).trans ?_)
  rw [objs_cons]
  unfold Nd.objs
  classical
  exact List.perm_iff_count.2 fun a => by simp only [List.count_append, List.count_cons, List.append_assoc, List.cons_append]; omega
 ·rw [cells_i] at h1
  refine h1.perm ?_
  rw [objs_cons]
  show List.Perm _ (((n.b, .cells ({ n with i := i' } : Nd).cells n.y) :: (tabH encS n.s ++ tabH encI i')) ++ objsL R ++ F)
  classical
  exact List.perm_iff_count.2 fun a => by simp only [List.count_append, List.count_cons, List.append_assoc, List.cons_append]; omega
 ·rintro X ⟨q, hq, e1, e2⟩
  rcases List.mem_cons.1 (hp.mem_iff.1 hq) with rfl | hq
  ·exact ⟨{ q with i := i' }, by simp, e1, e2⟩
  ·exact ⟨q, by simp [hq], e1, e2⟩
 ·intro p k
  have nn : ∀ q ∈ R, q.p ≠ n.p := fun q hq e => by
   have := ht'.paths
   rw [List.map_cons, List.nodup_cons] at this
   exact this.1 (e ▸ List.mem_map_of_mem hq)
  constructor
  ·rintro ⟨q, hq, rfl, e2⟩
   rcases List.mem_cons.1 hq with rfl | hq
   ·rw [if_pos rfl, keys_rows]
    exact e2
   ·rw [if_neg (nn q hq)]
    exact ⟨q, hp.mem_iff.2 (by simp [hq]), rfl, e2⟩
  ·split
   ·rename_i e
    intro hk
    rw [keys_rows] at hk
    exact ⟨{ n with i := i' }, by simp, e.symm, hk⟩
   ·rename_i e
    rintro ⟨q, hq, rfl, e2⟩
    rcases List.mem_cons.1 (hp.mem_iff.1 hq) with rfl | hq
    ·exact absurd rfl e
    ·exact ⟨q, by simp [hq], rfl, e2⟩
end
end Go.Proofs.YtknjamfjonapiaaGreatDoor
namespace Go.Proofs.YtknjamfjonapiaaGreatDoor
open Go.RowKit
open Go.ChangeMaps (setBlock)
set_option linter.unusedVariables false
set_option linter.unusedSectionVars false
set_option linter.unusedSimpArgs false
set_option maxRecDepth 100000
section
variable {B : Nat} {w0 w : World} {F : List (Nat × Obj)} {L : List Nd} {tb c : Nat} {n m : Nd} {M : Prs}
set_option maxHeartbeats 1000000 in
theorem tradd_any (h : TrIs B w0 w tb M F c) (l : List UInt8) (k : Int) (hl : l.length ≤ 1000) (hc : c ≤ 700000) (hM : M.length ≤ 100000) :
  Calls Tryz.prog 206 #[np tb, tx l, .int .i64 k] w fun e w' => e = .returned (.tuple #[]) ∧ TrIs B w0 w' tb (addM M (wordsL l, k)) F (c + (wordsL l).length + 1) := by
 obtain ⟨L, hst, ht, hid, hnd, hroot⟩ := h
 obtain ⟨n0, hn0, e1, e2⟩ := ht.root
 have cl := lay_any hst ht hn0 e1 l hl (by omega)
 have hwl := words_len l
 rw [e2] at cl
 replace cl := Lib.hid cl
 clear hst ht hn0 e1 e2
 generalize wordsL l = P at *
 have hPl : P.length ≤ 1001 := by omega
 clear hwl
 go_enter Tryz.func206, Tryz.ntmps206
 go_wp2_with fail
 refine cl.out.mono ?_
 rintro e w1 ⟨L1, m, rfl, hm, hmp, hst1, ht1, hs1⟩
 have ch := Lib.hid (hasI_any (hst1.tabI hm) (fun e => ((ht1.oks m hm).2.bare e).1) (ht1.bare m hm) k)
 have hiff : k ∈ m.i.es.map (·.1) ↔ (P, k) ∈ M := by
  rw [← HasId.of ht1 hm, hmp, hs1.ids, hid]
 clear cl
 by_cases hk : (P, k) ∈ M
 ·have hd : decide (k ∈ m.i.es.map (·.1)) = true := by simpa using hiff.2 hk
  rw [hd] at ch
  have fin : Hid (∀ w2, Below w1.heap.size w1 w2 → TrIs B w0 w2 tb (addM M (P, k)) F (c + P.length + 1)) := Lib.hid fun w2 hb => by
   unfold addM
   rw [if_pos hk]
   exact ⟨L1, hst1.grow hb, ht1.mono (Nat.le_succ _), fun p k => (hs1.ids p k).trans (hid p k), hnd, hs1.root _ hroot⟩
  clear hst1 ht1 hs1 hid hnd hroot hm hmp hiff hd hk
  go_wp2_with fail
  refine ch.out.mono ?_
  rintro e w2 ⟨rfl, hb⟩
  have fin := Lib.hid (fin.out _ hb)
  clear hb
  go_wp2_with fail
  exact bodyPost_end (results_none rfl _ _ _) rfl ⟨rfl, fin.out⟩
 ·have hd : decide (k ∈ m.i.es.map (·.1)) = false := by simpa using fun e => hk (hiff.1 e)
  have hk2 : k ∉ m.i.es.map (·.1) := fun e => hk (hiff.1 e)
  rw [hd] at ch
  have put : Hid (∀ w2, Below w1.heap.size w1 w2 → Calls Tryz.prog 245 #[.pointer (some ⟨m.b, 4, none⟩), .int .i64 k, .agg #[]] w2 fun e w3 => e = .returned (.tuple #[]) ∧
    w3.cell? ⟨tb, 6, none⟩ = some (.int .i64 M.length) ∧ w3.frozen? ⟨tb, 6, none⟩ = false ∧ TrIs B w0 (w3.setCell ⟨tb, 6, none⟩ (.int .i64 ((M.length : Int) + 1))) tb (addM M (P, k)) F (c + P.length + 1)) := Lib.hid fun w2 hb => by
   obtain ⟨R, hp, g1, g2⟩ := ids_turn (hst1.grow hb) ht1 hm
   refine (putI_is g1 rfl rfl (ht1.oks m hm).2 (by omega) hk2).mono ?_
   rintro e w3 ⟨rfl, i', ⟨g3, g4⟩, g5⟩
   have hbare : Bare i' := by
    intro e he
    have : (e.1, e.2.1) ∈ i'.rows := List.mem_map_of_mem (f := fun e => (e.1, e.2.1)) he
    rw [g3] at this
    rcases List.mem_append.1 this with h | h
    ·obtain ⟨e', he', h'⟩ := List.mem_map.1 h
     simp only [Prod.mk.injEq] at h'
     rw [← h'.2]
     exact ht1.bare m hm e' he'
    ·rw [List.mem_singleton, Prod.mk.injEq] at h
     exact h.2
   obtain ⟨k1, k2, k3, k4⟩ := g2 w3 i' (c + P.length + 1) g5 hbare (Nat.le_succ _) g4
   obtain ⟨q1, q2, L3, q3, q4, q5, q6, -⟩ := root_set (v' := .int .i64 ((M.length : Int) + 1)) k1 k2 (k3 _ (hs1.root _ hroot))
   refine ⟨rfl, q1, q2, L3, q3, q4, ?_, ?_, ?_⟩
   ·intro p k'
    rw [q5, k4, mem_add, hmp]
    split
    ·rename_i e
     subst e
     rw [g3, List.map_append, List.mem_append, keys_rows, ← HasId.of ht1 hm, hmp, hs1.ids, hid]
     simp
    ·rename_i e
     rw [hs1.ids, hid]
     simp [e]
   ·unfold addM
    rw [if_neg hk, List.nodup_append]
    exact ⟨hnd, by simp, by rintro a ha b hb rfl; rw [List.mem_singleton] at hb; subst hb; exact hk ha⟩
   ·unfold addM
    rw [if_neg hk, List.length_append, List.length_singleton]
    simpa using q6
  have hMl : (M.length : Int) ≤ 100000 := by omega
  have hM0 : (0 : Int) ≤ M.length := by omega
  clear hst1 ht1 hs1 hid hnd hroot hm hmp hiff hd hk hk2
  generalize M.length = ml at *
  go_wp2_with fail
  refine ch.out.mono ?_
  rintro e w2 ⟨rfl, hb⟩
  have put := Lib.hid (put.out _ hb)
  clear hb
  go_wp2_with fail
  refine put.out.mono ?_
  rintro e w3 ⟨rfl, q1, q2, q3⟩
  replace q3 := Lib.hid q3
  clear put ch
  go_wp2_with fail
  exact bodyPost_end (results_none rfl _ _ _) rfl ⟨rfl, q3.out⟩
end
end Go.Proofs.YtknjamfjonapiaaGreatDoor
namespace Go.Proofs.YtknjamfjonapiaaGreatDoor
open Go.RowKit
open Go.ChangeMaps (setBlock)
set_option linter.unusedVariables false
set_option linter.unusedSectionVars false
set_option linter.unusedSimpArgs false
set_option maxRecDepth 100000
section
variable {B : Nat} {w0 w : World} {F S : List (Nat × Obj)} {L : List Nd} {tb c wb kb clk : Nat} {n m : Nd} {K K0 : Kn} {H A X : List Nd} {M : Prs}
def MatchR (B : Nat) (w0 : World) (tb : Nat) (M : Prs) (F : List (Nat × Obj)) (c : Nat) (P : Wds) (e : Ending) (w' : World) : Prop :=
 ∃ (v : Value) (l : List Int) (S : List (Nat × Obj)), e = .returned v ∧ SlIs 3 1 v l.length (l.map encI) S ∧ Rises1 l ∧ (∀ k, k ∈ l ↔ ∃ p, (p, k) ∈ M ∧ gl p P = true) ∧ TrIs B w0 w' tb M (S ++ F) c
def MatchAt (B : Nat) (w0 : World) (L : List Nd) (F : List (Nat × Obj)) (P : Wds) (g : Nat) (a' : Act) (w' : World) : Prop :=
 ∃ (wb at_ : Nat) (K : Kn) (H : List Nd) (a : Option Addr) (cap : Nat) (S : List (Nat × Obj)), at_ + g = P.length ∧ Here L (P.take at_) K H ∧ WkAt B w0 w' wb L H [] K (S ++ F) ∧ TssIs (.slice a P.length cap) P S ∧ Fr 39 [(5, np wb), (6, .slice a P.length cap), (7, .int .i64 at_)] a'
theorem WkAt.new (hst : St B w0 w (objsL L ++ F)) (ht : TreeOk L tb c) : WkAt B w0 ((w.alloc (.map #[] 0)).alloc (.cells #[.slice none 0 0, .slice none 0 0, .map (some w.heap.size)] 346)) (w.heap.size + 1) L [] [] (fun _ => 0) F := by
 have h2 := (hst.alloc (.map #[] 0)).alloc (.cells #[.slice none 0 0, .slice none 0 0, .map (some w.heap.size)] 346)
 have hsz : (w.alloc (.map #[] 0)).heap.size = w.heap.size + 1 := by simp
 rw [hsz] at h2
 refine ⟨.slice none 0 0, .slice none 0 0, [], [], w.heap.size, [], 0, SlIs.nil, SlIs.nil, ⟨fun n hn => by simp [seek], by simp⟩, h2.perm ?_⟩
 classical
 exact List.perm_iff_count.2 fun a => by simp only [List.count_append, List.count_cons, List.count_nil, List.nil_append]; simp [entsE]; omega
set_option maxHeartbeats 2000000 in
theorem match_any (h : TrIs B w0 w tb M F c) (l : List UInt8) (hl : l.length ≤ 1000) (hc : c ≤ 700000) : Calls Tryz.prog 250 #[np tb, tx l] w (MatchR B w0 tb M F c (wordsL l)) := by
 obtain ⟨L, hst, ht, hid, hnd, hroot⟩ := h
 obtain ⟨n0, hn0, e1, e2⟩ := ht.root
 have hmk := fun w : World => run_makeMap (P := Tryz.prog) 343 w
 have hwl := words_len l
 have hws := words_short l
 have cst := Lib.hid (start_any (WkAt.new hst ht) ht (by omega) hn0 e1 e2)
 have cw := Lib.hid (fun w => words_st (l := l) (by omega) w)
 have fin : Hid (∀ v (l2 : List Int) S2 w', SlIs 3 1 v l2.length (l2.map encI) S2 → Rises1 l2 → (∀ k, k ∈ l2 ↔ ∃ p, HasId L p k ∧ gl p (wordsL l) = true) → St B w0 w' (objsL L ++ (S2 ++ F)) → MatchR B w0 tb M F c (wordsL l) (.returned v) w') := Lib.hid fun v l2 S2 w' g1 g2 g3 g4 =>
  ⟨v, l2, S2, rfl, g1, g2, fun k => by rw [g3]; exact ⟨fun ⟨p, h1, h2⟩ => ⟨p, (hid p k).1 h1, h2⟩, fun ⟨p, h1, h2⟩ => ⟨p, (hid p k).2 h1, h2⟩⟩, L, g4, ht, hid, hnd, hroot⟩
 have hPl : (wordsL l).length ≤ 1001 := by omega
 have hws : ∀ x ∈ wordsL l, x.length ≤ 1000 := fun x hx => by have := hws x hx; omega
 have hfew := ht.few
 replace ht := Lib.hid ht
 clear hst hid hnd hroot hn0 e1 e2 hwl
 generalize wordsL l = P at *
 go_enter Tryz.func250, Tryz.ntmps250
 go_wp2_with fail
 refine wp_scope_ghost 0 (MatchAt B w0 L F P) rfl ?_ ?_
 ·clear cst cw hmk
  rintro g a' w' ⟨wb, at_, K, H, a, cap, S, hg, hH, hw, hS, hfr⟩
  obtain ⟨f, rfl, hl'⟩ := hfr.lit
  clear hfr
  simp only [List.mem_cons, List.not_mem_nil, or_false, forall_eq_or_imp, forall_eq] at hl'
  obtain ⟨f5, f6, f7⟩ := hl'
  simp only [List.range, List.range.loop, List.map, f5, f6, f7]
  clear f5 f6 f7
  obtain ⟨ah, caph, ch, -⟩ := hw.hereAt
  have hat0 : (0 : Int) ≤ at_ := by omega
  have hP0 : (P.length : Int) ≤ 1001 := by omega
  have hHl := hH.len
  have hend : Hid (Here L P K H → ∃ e2 : Calls Tryz.prog 276 #[np wb] w' (IdsR B w0 L H (S ++ F)), True) := Lib.hid fun h => ⟨ids_any hw (ht.out.mono (show c ≤ 800000 by omega)) (Nat.le_refl _) h.mem (by omega), trivial⟩
  have after : Hid (∀ w1 v (l2 : List Int) S2, Here L P K H → SlIs 3 1 v l2.length (l2.map encI) S2 → (∀ k, k ∈ l2 ↔ ∃ n ∈ H, k ∈ n.i.es.map (·.1)) → l2.length ≤ 1000000000000 → St B w0 w1 (objsL L ++ (S2 ++ (S ++ F))) →
    Calls Tryz.prog 277 #[v] w1 fun e w2 => e = .returned (.tuple #[]) ∧ Calls Tryz.prog 278 #[v] w2 fun e w3 => ∃ v', e = .returned v' ∧ MatchR B w0 tb M F c P (.returned v') w3) := Lib.hid fun w1 v l2 S2 hHP g1 g2 g3 g4 => by
   refine (sortI_any g1 (X := objsL L ++ (S ++ F)) (g4.perm ?_) g3).mono ?_
   ·rw [List.append_assoc]
    exact List.Perm.append_left _ List.perm_append_comm
   rintro e w2 ⟨rfl, S3, k1, k2⟩
   have hsl : (sortL l2).length = l2.length := List.length_mergeSort _
   refine ⟨rfl, (compactI_any k1 k2 (by omega)).mono ?_⟩
   rintro e w3 ⟨v', S4, rfl, q1, q2⟩
   obtain ⟨o1, o2⟩ := onceI l2
   refine ⟨v', rfl, fin.out v' _ S4 w3 q1 o1 (fun k => by rw [o2, g2, hHP.ids]) ((q2.sub ((((List.Sublist.refl _).append (List.sublist_append_right S F))).append (List.Sublist.refl _))).perm ?_)⟩
   rw [List.append_assoc]
   exact List.Perm.append_left _ List.perm_append_comm
  by_cases hlt : at_ < P.length
  ·by_cases hH0 : H = []
   ·subst hH0
    have hHP : Here L P K [] := by
     have := hH.none ht.out (P.drop at_)
     rwa [List.take_append_drop] at this
    obtain ⟨ci, -⟩ := hend.out hHP
    replace ci := Lib.hid ci
    have after := Lib.hid (fun w1 v l2 S2 => after.out w1 v l2 S2 hHP)
    have hlt' : (at_ : Int) < P.length := by omega
    clear hend hH hw hS ht hws fin hHP hfew hHl
    go_wp2_with fail
    refine ci.out.mono ?_
    rintro e w1 ⟨v, l2, S2, rfl, g1, g2, g3, g4⟩
    have c2 := Lib.hid (after.out w1 v l2 S2 g1 g2 g3 g4)
    clear g1 g2 g3 g4 after ci
    go_wp2_with fail
    refine c2.out.mono ?_
    rintro e w2 ⟨rfl, c3⟩
    replace c3 := Lib.hid c3
    clear c2
    go_wp2_with fail
    refine c3.out.mono ?_
    rintro e w3 ⟨v', rfl, fin⟩
    replace fin := Lib.hid fin
    go_wp2_with fail
    simp only [Exit.jump]
    go_ret
    exact fin.out
   ·have hpos : (0 : Int) < H.length := by
     have := List.length_pos_iff.2 hH0
     omega
    have hx : P[at_]? = some P[at_] := List.getElem?_eq_getElem hlt
    have hrd : ReadTs w' (.slice a P.length cap) P := by
     obtain ⟨O, g1, g2⟩ := hw.beside
     refine hS.read (X := O ++ F) (g1.perm ?_) (fun x hx => by have := hws x hx; unfold maxLen; omega)
     rw [List.append_assoc]
     exact List.Perm.append_left _ List.perm_append_comm
    obtain ⟨a2, cap2, e2, hta⟩ := hrd
    simp only [Value.slice.injEq, true_and] at e2
    obtain ⟨rfl, rfl⟩ := e2
    obtain ⟨-, b, off, rfl, hcell⟩ := hta.at_ _ _ hx
    have ck := Lib.hid (take_any hw ht.out (by omega) hH P[at_] (hws _ (List.mem_of_getElem? hx)))
    rw [take_snoc hx] at ck
    have hlt' : (at_ : Int) < P.length := by omega
    generalize P[at_] = x at *
    replace hS := Lib.hid hS
    generalize H.length = hl at *
    clear hend hH hw ht hws fin hfew hHl after hta hx hH0
    go_wp2_with fail
    refine ck.out.mono ?_
    rintro e w1 ⟨rfl, K2, H2, hH2, hw2⟩
    replace hw2 := Lib.hid hw2
    clear ck
    go_wp2_with fail
    refine wp_goto ?_
    refine ⟨rfl, P.length - (at_ + 1), by omega, wb, at_ + 1, K2, H2, _, _, S, by omega, hH2, hw2.out, hS.out, ?_⟩
    exact ⟨rfl, rfl, by simp⟩
  ·obtain rfl : at_ = P.length := by omega
   have hHP : Here L P K H := by rwa [List.take_length] at hH
   obtain ⟨ci, -⟩ := hend.out hHP
   replace ci := Lib.hid ci
   have after := Lib.hid (fun w1 v l2 S2 => after.out w1 v l2 S2 hHP)
   generalize H.length = hl at *
   clear hend hH hw hS ht hws fin hHP hfew hHl
   go_wp2_with fail
   refine ci.out.mono ?_
   rintro e w1 ⟨v, l2, S2, rfl, g1, g2, g3, g4⟩
   have c2 := Lib.hid (after.out w1 v l2 S2 g1 g2 g3 g4)
   clear g1 g2 g3 g4 after ci
   go_wp2_with fail
   refine c2.out.mono ?_
   rintro e w2 ⟨rfl, c3⟩
   replace c3 := Lib.hid c3
   clear c2
   go_wp2_with fail
   refine c3.out.mono ?_
   rintro e w3 ⟨v', rfl, fin⟩
   replace fin := Lib.hid fin
   go_wp2_with fail
   simp only [Exit.jump]
   go_ret
   exact fin.out
 ·intro H1
  go_wp2_with fail
  refine cst.out.mono ?_
  rintro e w1 ⟨rfl, K, X, hH, hw⟩
  have cw := Lib.hid (cw.out w1)
  have nx : Hid (∀ w2 S, St w1.heap.size w1 w2 S → WkAt B w0 w2 (w.heap.size + 1) L X [] K (S ++ F)) := Lib.hid fun w2 S h => by
   obtain ⟨O, g1, g2⟩ := hw.beside
   refine g2 _ _ ((g1.join h).perm ?_)
   rw [List.append_assoc]
   exact List.Perm.append_left _ List.perm_append_comm
  replace hH := Lib.hid hH
  clear hw cst
  go_wp2_with fail
  refine cw.out.mono ?_
  rintro e w2 ⟨v, S, rfl, hS, hst2⟩
  have hw2 := Lib.hid (nx.out w2 S hst2)
  obtain ⟨a, cap, rfl⟩ := hS.form
  replace hS := Lib.hid hS
  clear nx cw hst2
  go_wp2_with fail
  refine wp_label ?_
  go_step
  go_step
  refine H1 P.length _ _ ⟨w.heap.size + 1, 0, K, X, a, cap, S, by omega, by rw [List.take_zero]; exact hH.out, hw2.out, hS.out, ?_⟩
  exact ⟨rfl, rfl, by simp⟩
end
end Go.Proofs.YtknjamfjonapiaaGreatDoor
namespace Go.Proofs.YtknjamfjonapiaaGreatDoor
open Go.RowKit
open Go.ChangeMaps (setBlock)
set_option linter.unusedVariables false
set_option linter.unusedSectionVars false
set_option linter.unusedSimpArgs false
set_option maxRecDepth 100000
def hits (M : Prs) (P : Wds) : List Int := (M.filter fun x => gl x.1 P).map (·.2)
theorem mem_hits {M : Prs} {P : Wds} {k : Int} : k ∈ hits M P ↔ ∃ p, (p, k) ∈ M ∧ gl p P = true := by
 unfold hits
 simp only [List.mem_map, List.mem_filter]
 constructor
 ·rintro ⟨⟨p, k⟩, ⟨h1, h2⟩, rfl⟩
  exact ⟨p, h1, h2⟩
 ·rintro ⟨p, h1, h2⟩
  exact ⟨(p, k), ⟨h1, h2⟩, rfl⟩
section
variable {B : Nat} {w0 w : World} {F S : List (Nat × Obj)} {tb c : Nat} {M : Prs} {l : List UInt8} {P : Wds}
theorem tradd_is {M' : Prs} {c' : Nat} {k : Int} (hP : wordsL l = P) (hM' : addM M (P, k) = M') (hc' : c + P.length + 1 ≤ c') (h : TrIs B w0 w tb M F c) (hl : l.length ≤ 1000) (hc : c ≤ 700000) (hM : M.length ≤ 100000) :
  Calls Tryz.prog 206 #[np tb, tx l, .int .i64 k] w fun e w' => e = .returned (.tuple #[]) ∧ TrIs B w0 w' tb M' F c' := by
 refine (tradd_any h l k hl hc hM).mono ?_
 rintro e w' ⟨rfl, h⟩
 rw [hP] at h
 rw [hM'] at h
 exact ⟨rfl, h.mono hc'⟩
theorem trmatch_is {l2 : List Int} (hP : wordsL l = P) (h2 : Rises1 l2) (hm : ∀ k, k ∈ l2 ↔ k ∈ hits M P) (h : TrIs B w0 w tb M F c) (hl : l.length ≤ 1000) (hc : c ≤ 700000) :
  Calls Tryz.prog 250 #[np tb, tx l] w fun e w' => ∃ v S, e = .returned v ∧ SlIs 3 1 v l2.length (l2.map encI) S ∧ TrIs B w0 w' tb M (S ++ F) c := by
 refine (match_any h l hl hc).mono ?_
 rintro e w' ⟨v, l3, S, rfl, h3, h4, h5, h6⟩
 have e : l3 = l2 := rises_eq h4 h2 fun k => by rw [h5, hP, hm, mem_hits]
 subst e
 exact ⟨v, S, rfl, h3, h6⟩
theorem TrIs.below (h : TrIs B w0 w tb M F c) : Below B w0 w := by
 obtain ⟨O, h1, -⟩ := h.beside
 exact h1.below
end
end Go.Proofs.YtknjamfjonapiaaGreatDoor
namespace Go.Proofs.YtknjamfjonapiaaGreatDoor
open Go.RowKit
set_option linter.unusedVariables false
end Go.Proofs.YtknjamfjonapiaaGreatDoor
