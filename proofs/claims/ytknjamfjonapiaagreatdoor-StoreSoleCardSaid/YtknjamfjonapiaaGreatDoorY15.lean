/- namespace Go.Proofs.YtknjamfjonapiaaGreatDoor, namespace Go.Proofs.YtknjamfjonapiaaGreatDoor, namespace Go.Proofs.YtknjamfjonapiaaGreatDoor, namespace Go.Proofs.YtknjamfjonapiaaGreatDoor, namespace Go.Proofs.YtknjamfjonapiaaGreatDoor, namespace Go.Proofs.YtknjamfjonapiaaGreatDoor, namespace Go.Proofs.YtknjamfjonapiaaGreatDoor, namespace Go.Proofs.YtknjamfjonapiaaGreatDoor, namespace Go.Proofs.YtknjamfjonapiaaGreatDoor, namespace Go.Proofs.YtknjamfjonapiaaGreatDoor, namespace Go.Proofs.YtknjamfjonapiaaGreatDoor. -/
import Derived.Test.YtknjamfjonapiaaGreatDoorY14
import Derived.Test.YtknjamfjonapiaaGreatDoorY13
import Derived.Test.YtknjamfjonapiaaGreatDoorY12
import Derived.Deep.LoopGhost
import Derived.Deep.QuietTactic
import Derived.BigQuiet
import Derived.Lib.Hide
import Derived.Test.YtknjamfjonapiaaGreatDoorY02
import Derived.Laws.StructEq
import Derived.Test.YtknjamfjonapiaaGreatDoorY07
import Derived.Test.YtknjamfjonapiaaGreatDoorY05
import Derived.Deep.Fields
namespace Go.Proofs.YtknjamfjonapiaaGreatDoor
open Go.RowKit Go.Sort Go.Shelf
theorem sortI_laid (blk off cap : Nat) (zs : List Int) (w : World) (hH : Holds (Value.int .i64) w blk off zs.toArray) (hblk : blk < w.heap.size) (hsz : zs.length < 4611686018427387904) :
    Calls Tryz.prog 277 #[.slice (some ⟨blk, off, none⟩) zs.length cap] w fun e w' => e = .returned (.tuple #[]) ∧ ∃ n os, w' = grow (putRow (Value.int .i64) (Sort.ahead w n) blk off (zs.mergeSort fun x y => decide (x ≤ y)).toArray) os :=
  Any.slices_Sort_int Tryz.lays189 blk off cap zs w hH hblk hsz
theorem sortI_none (p : Option Addr) (cap : Nat) (w : World) : Calls Tryz.prog 277 #[.slice p 0 cap] w fun e w' => e = .returned (.tuple #[]) ∧ w' = w := Any.slices_Sort_int_none Tryz.lays189 p cap w
theorem compactI_laid (blk off cap : Nat) (zs : List Int) (w : World) (hH : Holds (Value.int .i64) w blk off zs.toArray) (hsz : zs.length ≤ 9223372036854775807) (hcap : zs.length ≤ cap) :
    Calls Tryz.prog 278 #[.slice (some ⟨blk, off, none⟩) zs.length cap] w fun e w' => e = .returned (.slice (some ⟨blk, off, none⟩) (Lib.compact zs).length cap) ∧ ∃ q, w' = putRow (Value.int .i64) (Sort.ahead w q) blk off (Lib.compact zs ++ List.replicate (zs.length - (Lib.compact zs).length) 0).toArray :=
  Any.slices_Compact_int Tryz.lays220 blk off cap zs w hH hsz hcap
theorem compactI_none (p : Option Addr) (cap : Nat) (w : World) : Calls Tryz.prog 278 #[.slice p 0 cap] w fun e w' => e = .returned (.slice p 0 cap) ∧ w' = w := Any.slices_Compact_int_empty Tryz.lays220 p cap w
end Go.Proofs.YtknjamfjonapiaaGreatDoor

namespace Go.Proofs.YtknjamfjonapiaaGreatDoor
open Go.RowKit
set_option linter.unusedVariables false
set_option linter.unusedSectionVars false
set_option linter.unusedSimpArgs false
set_option maxRecDepth 100000
abbrev Rises1 (l : List Int) : Prop := l.Pairwise (· < ·)
theorem rises_eq {l m : List Int} (hl : Rises1 l) (hm : Rises1 m) (h : ∀ x, x ∈ l ↔ x ∈ m) : l = m := by
  have nl : l.Nodup := hl.imp fun h => Int.ne_of_lt h
  have nm : m.Nodup := hm.imp fun h => Int.ne_of_lt h
  exact List.Perm.eq_of_pairwise (le := (· < ·)) (fun a b _ _ h1 h2 => by omega) hl hm ((List.perm_ext_iff_of_nodup nl nm).2 h)
theorem compact_up {d : Array Int} (hd : ∀ i j, i < j → j < d.size → d[i]! ≤ d[j]!) : ∀ m, m ≤ d.size → Rises1 (Lib.compactUpTo d m) ∧ ∀ x, x ∈ Lib.compactUpTo d m ↔ ∃ j, j < m ∧ d[j]! = x
  | 0, _ => ⟨by simp [Lib.compactUpTo], fun x => by simp [Lib.compactUpTo]⟩
  | m + 1, hm => by
    obtain ⟨h1, h2⟩ := compact_up hd m (by omega)
    rw [Lib.compactUpTo_succ]
    cases hk : Lib.keeps d m with
    | true =>
      have hk : m = 0 ∨ d[m]! ≠ d[m - 1]! := by simpa [Lib.keeps] using hk
      refine ⟨?_, fun x => ?_⟩
      · rw [if_pos rfl]
        refine List.pairwise_append.2 ⟨h1, by simp, ?_⟩
        intro a ha b hb
        rw [List.mem_singleton] at hb
        subst hb
        obtain ⟨j, hj, rfl⟩ := (h2 a).1 ha
        have hm1 : d[m - 1]! ≤ d[m]! := hd (m - 1) m (by omega) (by omega)
        have hjm : d[j]! ≤ d[m - 1]! := by
          by_cases e : j = m - 1
          · rw [e]; exact Int.le_refl _
          · exact hd j (m - 1) (by omega) (by omega)
        rcases hk with hk | hk
        · omega
        · have : d[m - 1]! ≠ d[m]! := fun e => hk e.symm
          omega
      · rw [if_pos rfl, List.mem_append, List.mem_singleton, h2]
        constructor
        · rintro (⟨j, hj, e⟩ | rfl)
          · exact ⟨j, by omega, e⟩
          · exact ⟨m, by omega, rfl⟩
        · rintro ⟨j, hj, e⟩
          by_cases e1 : j = m
          · subst e1; exact .inr e.symm
          · exact .inl ⟨j, by omega, e⟩
    | false =>
      have hk : ¬ (m = 0 ∨ d[m]! ≠ d[m - 1]!) := by simpa [Lib.keeps] using hk
      have hk0 : m ≠ 0 := fun e => hk (.inl e)
      have hk1 : d[m]! = d[m - 1]! := by
        rcases Int.lt_or_le d[m]! d[m - 1]! with h | h
        · exact absurd (.inr (by omega)) hk
        · rcases Int.lt_or_le d[m - 1]! d[m]! with h | h
          · exact absurd (.inr (by omega)) hk
          · omega
      rw [if_neg (by simp), List.append_nil]
      refine ⟨h1, fun x => ?_⟩
      rw [h2]
      constructor
      · rintro ⟨j, hj, e⟩
        exact ⟨j, by omega, e⟩
      · rintro ⟨j, hj, e⟩
        by_cases e1 : j = m
        · subst e1; exact ⟨j - 1, by omega, by rw [← hk1, e]⟩
        · exact ⟨j, by omega, e⟩
abbrev sortL (l : List Int) : List Int := l.mergeSort fun x y => decide (x ≤ y)
theorem onceI (l : List Int) : Rises1 (Lib.compact (sortL l)) ∧ ∀ x, x ∈ Lib.compact (sortL l) ↔ x ∈ l := by
  have hs : (sortL l).Pairwise (fun x y => decide (x ≤ y) = true) := List.pairwise_mergeSort (fun a b c h1 h2 => by simp only [decide_eq_true_eq] at *; omega) (fun a b => by simp only [Bool.or_eq_true, decide_eq_true_eq]; omega) l
  have hd : ∀ i j, i < j → j < (sortL l).toArray.size → (sortL l).toArray[i]! ≤ (sortL l).toArray[j]! := by
    intro i j hij hj
    have hj' : j < (sortL l).length := by simpa using hj
    have := List.pairwise_iff_getElem.1 hs i j (by omega) hj' hij
    rw [decide_eq_true_eq] at this
    have e1 : (sortL l).toArray[i]! = (sortL l)[i] := by rw [getElem!_pos (sortL l).toArray i (by rw [List.size_toArray]; omega)]; simp
    have e2 : (sortL l).toArray[j]! = (sortL l)[j] := by rw [getElem!_pos (sortL l).toArray j (by simpa using hj')]; simp
    rw [e1, e2]
    exact this
  obtain ⟨h1, h2⟩ := compact_up hd (sortL l).length (by simp)
  refine ⟨h1, fun x => ?_⟩
  show x ∈ Lib.compactUpTo _ _ ↔ _
  rw [h2, ← (List.mergeSort_perm l fun x y => decide (x ≤ y)).mem_iff, List.mem_iff_getElem]
  constructor
  · rintro ⟨j, hj, e⟩
    rw [getElem!_pos (sortL l).toArray j (by simpa using hj)] at e
    exact ⟨j, hj, by simpa using e⟩
  · rintro ⟨j, hj, e⟩
    refine ⟨j, hj, ?_⟩
    rw [getElem!_pos (sortL l).toArray j (by simpa using hj)]
    simpa using e
section
variable {B : Nat} {w0 w : World} {X S : List (Nat × Obj)} {v : Value} {l : List Int}
theorem uInts12 : Tryz.prog.underlying 259 = some (.slice 3) := by kernel_rfl
theorem infInt12 : (Tryz.prog.info? 3).map (fun i => (i.zero, i.size, i.bytes)) = some (some (.int .i64 0), 1, 8) := by kernel_rfl
theorem ints_push (hs : SlIs 3 1 v l.length (l.map encI) S) (hst : St B w0 w (X ++ S)) (k : Int) (hl : l.length ≤ 1000000000000) :
    ∃ a cap, v = .slice a l.length cap ∧ ∃ a' cap' W2 S2, (Builtin.append_ #[259, 259] 0 #[.slice a l.length cap, .slice (some ⟨w.heap.size, 0, none⟩) 1 1]).run Tryz.prog (w.alloc (.cells #[.int .i64 k] 3)) = .ok (.slice a' (l.length + 1) cap') W2 ∧
      SlIs 3 1 (.slice a' (l.length + 1) cap') (l ++ [k]).length ((l ++ [k]).map encI) S2 ∧ St B w0 W2 (X ++ S2) := by
  obtain ⟨a, cap, rfl, -⟩ := hs.form
  obtain ⟨i0, hi0, hz0, hz1, hz2⟩ := info_parts12 infInt12
  have hrd := Reads.one w (.int .i64 k) 3
  obtain ⟨v2, W2, F2, hr, hs2, hst2⟩ := run_append_sl (P := Tryz.prog) 259 0 3 i0 _ 1 8 uInts12 hi0 hz0 hz1 hz2 rfl hs (A := (w.heap.size, .cells #[.int .i64 k] 3) :: X) (hst.alloc _) hrd
    (by intro u hu; rw [List.mem_singleton] at hu; subst hu; rfl) (by unfold maxLen; omega) (by omega)
  obtain ⟨a', cap', rfl, -⟩ := hs2.form
  refine ⟨a, cap, rfl, a', cap', W2, F2, hr, ?_, hst2.sub (List.sublist_cons_self _ _)⟩
  rw [List.length_append, List.length_singleton, List.map_append]
  exact hs2
open Go.Sort in
theorem row_st {g off cap n : Nat} {d : List Int} {m : Nat} (hs : SlIs 3 1 (.slice (some ⟨g, off, none⟩) l.length cap) l.length (l.map encI) S) (hst : St B w0 w (X ++ S)) (hd : d.length = l.length) (hm : m ≤ d.length) :
    ∃ S', SlIs 3 1 (.slice (some ⟨g, off, none⟩) m cap) m ((d.take m).map encI) S' ∧ St B w0 (putRow (Value.int .i64) (Sort.ahead w n) g off d.toArray) (X ++ S') := by
  obtain ⟨hl, ⟨h1, _⟩ | ⟨g', off', cap', cur, h1, rfl, h3, h4, h5, h6⟩⟩ := hs
  · cases h1
  · cases h1
    have hb := hst.get (b := g) (o := .cells cur 3 (0, 0)) (by simp)
    have e1 : (putRow (Value.int .i64) (Sort.ahead w n) g off d.toArray).heap[g]? = some (.cells (putCells (Value.int .i64) off d.toArray cur) 3 (0, 0)) := by
      simp [putRow, mapBlock, Sort.ahead, Array.getElem?_modify, hb, onCells]
    have e2 : ∀ k, k ≠ g → (putRow (Value.int .i64) (Sort.ahead w n) g off d.toArray).heap[k]? = w.heap[k]? := fun k hk => by
      simp [putRow, mapBlock, Sort.ahead, Array.getElem?_modify, Ne.symm hk]
    refine ⟨[(g, .cells (putCells (Value.int .i64) off d.toArray cur) 3 (0, 0))], ⟨by simp; omega, .inr ⟨g, off, cap, _, rfl, rfl, by omega, h4, by simpa [putCells] using h5, ?_⟩⟩, hst.write (C := []) e1 e2 (by simp [putRow, mapBlock, Sort.ahead]) rfl rfl rfl⟩
    apply List.ext_getElem?
    intro j
    rw [Nat.mul_one, List.getElem?_take]
    by_cases hj : j < m
    · rw [if_pos hj, List.getElem?_drop, Array.getElem?_toList]
      have hx : d[j]? = some d[j] := List.getElem?_eq_getElem (by omega)
      have hc : off + j < cur.size := by omega
      simp only [putCells, Array.getElem?_mapIdx]
      rw [Array.getElem?_eq_getElem hc]
      have hcond : off ≤ off + j ∧ off + j < off + d.toArray.size := by simp; omega
      rw [Option.map_some, if_pos hcond, List.getElem?_map, List.getElem?_take, if_pos hj, hx, Nat.add_sub_cancel_left, getElem!_pos d.toArray j (by simp; omega)]
      simp
    · rw [if_neg hj, List.getElem?_map, List.getElem?_take, if_neg hj]
      rfl
open Go.Sort in
theorem sortI_any (hs : SlIs 3 1 v l.length (l.map encI) S) (hst : St B w0 w (X ++ S)) (hl : l.length ≤ 1000000000000) :
    Calls Tryz.prog 277 #[v] w fun e w' => e = .returned (.tuple #[]) ∧ ∃ S', SlIs 3 1 v (sortL l).length ((sortL l).map encI) S' ∧ St B w0 w' (X ++ S') := by
  have hlen : (sortL l).length = l.length := List.length_mergeSort _
  have hs' := hs
  obtain ⟨hl0, ⟨rfl, h2, rfl⟩ | ⟨g, off, cap, cur, rfl, rfl, h3, h4, h5, h6⟩⟩ := hs
  · have hl1 : l = [] := List.eq_nil_of_length_eq_zero h2
    subst hl1
    refine (sortI_none none 0 w).mono ?_
    rintro e w' ⟨rfl, rfl⟩
    exact ⟨rfl, [], by simpa using SlIs.nil, hst⟩
  · have hH : Holds (Value.int .i64) w g off l.toArray := fun j hj => by
      have hj' : j < l.length := by simpa using hj
      refine ⟨?_, hs'.soft hst _⟩
      rw [getElem!_pos l.toArray j hj]
      exact hs'.cellAt hst (by simp [hj'])
    have hg := hst.lt (b := g) (o := .cells cur 3 (0, 0)) (by simp)
    refine (sortI_laid g off cap l w hH hg (by omega)).mono ?_
    rintro e w' ⟨rfl, n, os, rfl⟩
    obtain ⟨S', k1, k2⟩ := row_st (n := n) (d := sortL l) (m := (sortL l).length) hs' hst hlen (Nat.le_refl _)
    rw [List.take_length] at k1
    refine ⟨rfl, S', by rw [hlen] at k1 ⊢; exact k1, k2.grow ⟨rfl, rfl, rfl, by simp, fun k hk => ?_⟩⟩
    simp only [Sort.grow]
    rw [Array.getElem?_append_left hk]
open Go.Sort in
theorem compactI_any (hs : SlIs 3 1 v l.length (l.map encI) S) (hst : St B w0 w (X ++ S)) (hl : l.length ≤ 1000000000000) :
    Calls Tryz.prog 278 #[v] w fun e w' => ∃ v' S', e = .returned v' ∧ SlIs 3 1 v' (Lib.compact l).length ((Lib.compact l).map encI) S' ∧ St B w0 w' (X ++ S') := by
  have hs' := hs
  obtain ⟨hl0, ⟨rfl, h2, rfl⟩ | ⟨g, off, cap, cur, rfl, rfl, h3, h4, h5, h6⟩⟩ := hs
  · have hl1 : l = [] := List.eq_nil_of_length_eq_zero h2
    subst hl1
    refine (compactI_none none 0 w).mono ?_
    rintro e w' ⟨rfl, rfl⟩
    exact ⟨_, [], rfl, by simpa [Lib.compact, Lib.compactUpTo] using SlIs.nil, hst⟩
  · have hH : Holds (Value.int .i64) w g off l.toArray := fun j hj => by
      have hj' : j < l.length := by simpa using hj
      refine ⟨?_, hs'.soft hst _⟩
      rw [getElem!_pos l.toArray j hj]
      exact hs'.cellAt hst (by simp [hj'])
    have hcl : (Lib.compact l).length ≤ l.length := by
      unfold Lib.compact Lib.compactUpTo
      rw [List.length_map]
      exact Nat.le_trans (List.length_filter_le _ _) (by simp)
    refine (compactI_laid g off cap l w hH (by omega) h3).mono ?_
    rintro e w' ⟨rfl, n, rfl⟩
    obtain ⟨S', k1, k2⟩ := row_st (n := n) (d := Lib.compact l ++ List.replicate (l.length - (Lib.compact l).length) 0) (m := (Lib.compact l).length) hs' hst (by simp; omega) (by simp)
    rw [List.take_left] at k1
    exact ⟨_, S', rfl, k1, k2⟩
end
end Go.Proofs.YtknjamfjonapiaaGreatDoor

namespace Go.Proofs.YtknjamfjonapiaaGreatDoor
open Go.RowKit
open Go.ChangeMaps (setBlock)
set_option linter.unusedVariables false
set_option linter.unusedSectionVars false
set_option linter.unusedSimpArgs false
set_option maxRecDepth 100000
section
variable {B : Nat} {w0 w : World} {F S : List (Nat × Obj)} {L : List Nd} {tb c wb kb clk : Nat} {n m : Nd} {K K0 : Kn} {H A X : List Nd} {kes : List (MapRow Nat)} {o0 o : Option Nd}
theorem WkAt.beside (h : WkAt B w0 w wb L H A K F) : ∃ O, St B w0 w (O ++ F) ∧ ∀ w' F', St B w0 w' (O ++ F') → WkAt B w0 w' wb L H A K F' := by
  obtain ⟨hv, av, SH, SA, kb, kes, clk, s1, s2, s3, hst⟩ := h
  have e : ∀ G : List (Nat × Obj), objsL L ++ ((wb, .cells #[hv, av, .map (some kb)] 346) :: ((kb, .map (entsE np kes) clk) :: (SH ++ (SA ++ G)))) = (objsL L ++ ((wb, .cells #[hv, av, .map (some kb)] 346) :: ((kb, .map (entsE np kes) clk) :: (SH ++ SA)))) ++ G := fun G => by simp
  refine ⟨_, (e F) ▸ hst, fun w' F' h => ⟨hv, av, SH, SA, kb, kes, clk, s1, s2, s3, (e F').symm ▸ h⟩⟩
theorem WkAt.tabI (h : WkAt B w0 w wb L H A K F) (hn : n ∈ L) : TbAt w n.b 4 encI n.i := by
  obtain ⟨hv, av, SH, SA, kb, kes, clk, s1, s2, s3, hst⟩ := h
  exact hst.tabI hn
theorem WkAt.tree (h : WkAt B w0 w wb L H A K F) : St B w0 w (objsL L ++ F) := by
  obtain ⟨hv, av, SH, SA, kb, kes, clk, s1, s2, s3, hst⟩ := h
  refine hst.sub ((List.Sublist.refl _).append ?_)
  exact ((List.sublist_append_right SA F).trans (List.sublist_append_right SH _)).trans ((List.sublist_cons_self _ _).trans (List.sublist_cons_self _ _))
theorem WkAt.growF {w' : World} (h : WkAt B w0 w wb L H A K F) (hb : Below w.heap.size w w') : WkAt B w0 w' wb L H A K F := by
  obtain ⟨O, h1, h2⟩ := h.beside
  exact h2 _ _ (h1.grow hb)
def StartR (B : Nat) (w0 : World) (wb : Nat) (L : List Nd) (F : List (Nat × Obj)) (e : Ending) (w' : World) : Prop :=
  e = .returned (.tuple #[]) ∧ ∃ K X, Here L [] K X ∧ WkAt B w0 w' wb L X [] K F
theorem start_any (h : WkAt B w0 w wb L [] [] (fun _ => 0) F) (ht : TreeOk L tb c) (hc : c ≤ 800000) (hn : n ∈ L) (h0 : n.p = []) (hb : n.b = tb) : Calls Tryz.prog 274 #[np wb, np tb] w (StartR B w0 wb L F) := by
  have c1 := reach_any h ht hc (ReachOk.start (o := some n) (KOk.zero L) (by simp) (by simp) (by simp) (fun y hy => by cases hy; exact ⟨hn, fun _ => by simp⟩))
  have e1 : ov (some n) = np tb := by rw [← hb]; rfl
  rw [e1] at c1
  replace c1 := Lib.hid c1
  have nx : Hid (∀ K X o, ReachOk L (fun _ => 0) [] (some n) K X o → Stop K o → Here L [] K X) := Lib.hid fun K X o R hs => Here.start ht hn h0 R hs
  clear h ht hn h0 hb e1
  go_enter Tryz.func274, Tryz.ntmps274
  go_wp2_with fail
  refine c1.out.mono ?_
  rintro e w1 ⟨rfl, K, X, o, R, hs, hw⟩
  have hH := Lib.hid (nx.out K X o R hs)
  have c2 := Lib.hid (step_any (by simpa using hw))
  clear R hs hw nx c1
  go_wp2_with fail
  refine c2.out.mono ?_
  rintro e w2 ⟨rfl, hw2⟩
  have fin : Hid (StartR B w0 wb L F (.returned (.tuple #[])) w2) := Lib.hid ⟨rfl, K, X, hH.out, hw2⟩
  clear hw2 c2 hH
  go_wp2_with fail
  exact bodyPost_end (results_none rfl _ _ _) rfl fin.out
def IdsIn (B : Nat) (w0 : World) (wb : Nat) (L H : List Nd) (K : Kn) (F : List (Nat × Obj)) (l : List Int) (mb r : Nat) (es : List (MapRow Int)) (clk : Nat) (done laid : List (MapRow Int)) (v : Value) (w' : World) : Prop :=
  ∃ S seen, SlIs 3 1 v (l ++ laid.map (·.1)).length ((l ++ laid.map (·.1)).map encI) S ∧ IterAt w' mb r encI es clk done ∧ WkAt B w0 w' wb L H [] K ((r, .mapIter (some mb) clk seen clk) :: (S ++ F))
theorem perm_i {α : Type} (O S F : List α) (x : α) : (O ++ (x :: (S ++ F))).Perm ((O ++ (x :: F)) ++ S) := by
  classical
  exact List.perm_iff_count.2 fun a => by simp only [List.count_append, List.count_cons]; omega
theorem IdsIn.next {l : List Int} {mb r : Nat} {es : List (MapRow Int)} {done : List (MapRow Int)} {v : Value} (h : IdsIn B w0 wb L H K F l mb r es clk done done v w) (hB : Born es clk) (hn : es.Nodup) (hv : ∀ e ∈ es, e.2.1 = .agg #[]) (ty : TypeId) :
    (done.Perm es ∧ (Instr.next (.pointer (some ⟨r, 0, none⟩)) false ty).run Tryz.prog w = .ok (.tuple #[.bool false]) w) ∨
    ∃ e w', done.length + 1 ≤ es.length ∧ (Instr.next (.pointer (some ⟨r, 0, none⟩)) false ty).run Tryz.prog w = .ok (.tuple #[.bool true, .int .i64 e.1, .agg #[]]) w' ∧ (Instr.entry (.pointer (some ⟨r, 0, none⟩))).run Tryz.prog w' = .ok (.tuple #[.int .i64 e.1, .agg #[]]) w' ∧
      IdsIn B w0 wb L H K F l mb r es clk (done ++ [e]) done v w' := by
  obtain ⟨S, seen, h1, hI, h2⟩ := h
  rcases hI.next (P := Tryz.prog) hB hn ty with ⟨hp, hr⟩ | ⟨e, he, hd, w', hr, hI', hk, hs, ho, ht, hu, hen⟩
  · exact .inl ⟨hp, hr⟩
  · obtain ⟨-, seen', hs', -⟩ := id hI'
    obtain ⟨O, g1, g2⟩ := h2.beside
    have hle := nodup_len hI'.2.choose_spec.2.1 hI'.2.choose_spec.2.2.1
    rw [List.length_append, List.length_singleton] at hle
    rw [hv e he] at hr hen
    exact .inr ⟨e, w', hle, hr, hen, S, seen', h1, hI', g2 _ _ (g1.write hs' hk hs ho ht hu)⟩
theorem IdsIn.push {l : List Int} {mb r : Nat} {es : List (MapRow Int)} {done : List (MapRow Int)} {e : MapRow Int} {v : Value} (h : IdsIn B w0 wb L H K F l mb r es clk (done ++ [e]) done v w) (hn : n ∈ L) (h1 : n.i.mv = some mb) (h2 : n.i.es = es) (h3 : n.i.clk = clk)
    (hl : (l ++ done.map (·.1)).length ≤ 1000000000000) : ∃ a ln cap, v = .slice a ln cap ∧ ∃ a' cap' W2, (Builtin.append_ #[259, 259] 0 #[.slice a ln cap, .slice (some ⟨w.heap.size, 0, none⟩) 1 1]).run Tryz.prog (w.alloc (.cells #[.int .i64 e.1] 3)) = .ok (.slice a' (ln + 1) cap') W2 ∧
      IdsIn B w0 wb L H K F l mb r es clk (done ++ [e]) (done ++ [e]) (.slice a' (ln + 1) cap') W2 := by
  obtain ⟨S, seen, s1, hI, hw⟩ := h
  obtain ⟨O, g1, g2⟩ := hw.beside
  obtain ⟨a, cap, rfl, a', cap', W2, S2, hr, s2, hst⟩ := ints_push s1 (g1.perm (perm_i _ _ _ _)) e.1 hl
  have hw2 := g2 _ _ (hst.perm (perm_i _ _ _ _).symm)
  refine ⟨a, _, cap, rfl, a', cap', W2, hr, S2, seen, ?_, hI.kept ?_ ?_, hw2⟩
  · have e1 : l ++ done.map (·.1) ++ [e.1] = l ++ (done ++ [e]).map (·.1) := by simp
    rw [e1] at s2
    exact s2
  · rw [hI.1]
    have := (hw2.tabI hn).map mb h1
    rw [h2, h3] at this
    exact this
  · rw [g1.get (b := r) (o := .mapIter (some mb) clk seen clk) (by simp)]
    exact hst.get (b := r) (o := .mapIter (some mb) clk seen clk) (by simp)
def IdsAt (B : Nat) (w0 : World) (wb : Nat) (L H : List Nd) (K : Kn) (F : List (Nat × Obj)) (c g : Nat) (a' : Act) (w' : World) : Prop :=
  ∃ (at_ : Nat) (l : List Int) (v : Value) (S : List (Nat × Obj)), at_ + g = H.length ∧ SlIs 3 1 v l.length (l.map encI) S ∧ (∀ k, k ∈ l ↔ ∃ n ∈ H.take at_, k ∈ n.i.es.map (·.1)) ∧ l.length ≤ at_ * c ∧ WkAt B w0 w' wb L H [] K (S ++ F) ∧ Fr 36 [(0, np wb), (3, v), (4, .int .i64 at_)] a'
def IdsR (B : Nat) (w0 : World) (L H : List Nd) (F : List (Nat × Obj)) (e : Ending) (w' : World) : Prop :=
  ∃ (v : Value) (l : List Int) (S : List (Nat × Obj)), e = .returned v ∧ SlIs 3 1 v l.length (l.map encI) S ∧ (∀ k, k ∈ l ↔ ∃ n ∈ H, k ∈ n.i.es.map (·.1)) ∧ l.length ≤ 1000000000000 ∧ St B w0 w' (objsL L ++ (S ++ F))
set_option maxHeartbeats 2000000 in
theorem ids_any (h : WkAt B w0 w wb L H [] K F) (ht : TreeOk L tb c) (hc : c ≤ 800000) (hm : ∀ n ∈ H, n ∈ L) (hHl : H.length ≤ c) : Calls Tryz.prog 276 #[np wb] w (IdsR B w0 L H F) := by
  have start : Hid (∀ a', Fr 36 [(0, np wb), (3, .slice none 0 0), (4, .int .i64 (0 : Nat))] a' → IdsAt B w0 wb L H K F c H.length a' w) := Lib.hid fun a' ha => ⟨0, [], _, [], by omega, SlIs.nil, by simp, by simp, h, ha⟩
  replace ht := Lib.hid ht
  clear h
  have hmul : H.length * c ≤ 1000000000000 := Nat.le_trans (Nat.mul_le_mul hHl (Nat.le_refl c)) (Nat.le_trans (Nat.mul_le_mul hc hc) (by decide))
  replace hmul := Lib.hid hmul
  go_enter Tryz.func276, Tryz.ntmps276
  go_wp2_with fail
  refine wp_scope_ghost 0 (IdsAt B w0 wb L H K F c) rfl ?_ ?_
  · clear start
    rintro g a' w' ⟨at_, l, v, S, hg, s1, hl, hll, hw, hfr⟩
    obtain ⟨f, rfl, hl'⟩ := hfr.lit
    clear hfr
    simp only [List.mem_cons, List.not_mem_nil, or_false, forall_eq_or_imp, forall_eq] at hl'
    obtain ⟨f0, f3, f4⟩ := hl'
    simp only [List.range, List.range.loop, List.map, f0, f3, f4]
    clear f0 f3 f4
    obtain ⟨a, cap, ch, hat⟩ := hw.hereAt
    have hat0 : (0 : Int) ≤ at_ := by omega
    have hl0 : (H.length : Int) ≤ 800000 := by omega
    by_cases hlt : at_ < H.length
    · have hnx : H[at_]? = some H[at_] := List.getElem?_eq_getElem hlt
      generalize H[at_] = n at hnx
      obtain ⟨gb, off, rfl, hcell⟩ := hat at_ n hnx
      have hnH : n ∈ H := List.mem_of_getElem? hnx
      have hn := hm n hnH
      have hneB : ((at_ : Int) == (H.length : Int)) = false := by
        rw [beq_eq_false_iff_ne]
        omega
      have hlt' : (at_ : Int) < H.length := by omega
      have htab := hw.tabI hn
      have hc4 := htab.c0
      have hok := (ht.out.oks n hn).2
      have htake : H.take (at_ + 1) = H.take at_ ++ [n] := by rw [List.take_add_one, hnx]; rfl
      have hmem : ∀ l2 : List Int, (∀ k, k ∈ l2 ↔ k ∈ l ∨ k ∈ n.i.es.map (·.1)) → ∀ k, k ∈ l2 ↔ ∃ n ∈ H.take (at_ + 1), k ∈ n.i.es.map (·.1) := fun l2 h2 k => by
        rw [h2, hl, htake]
        constructor
        · rintro (⟨m, hm, hk⟩ | hk)
          · exact ⟨m, List.mem_append_left _ hm, hk⟩
          · exact ⟨n, by simp, hk⟩
        · rintro ⟨m, hm, hk⟩
          rcases List.mem_append.1 hm with hm | hm
          · exact .inl ⟨m, hm, hk⟩
          · rw [List.mem_singleton] at hm
            subst hm
            exact .inr hk
      have hac : (at_ + 1) * c = at_ * c + c := by rw [Nat.add_mul, Nat.one_mul]
      have hacl : at_ * c ≤ 1000000000000 := Nat.le_trans (Nat.mul_le_mul_right _ (by omega)) hmul.out
      have nextAt : Hid (∀ (l2 : List Int) v2 S2 W, SlIs 3 1 v2 l2.length (l2.map encI) S2 → (∀ k, k ∈ l2 ↔ k ∈ l ∨ k ∈ n.i.es.map (·.1)) → l2.length ≤ l.length + c → WkAt B w0 W wb L H [] K (S2 ++ F) → ∀ a2, Fr 36 [(0, np wb), (3, v2), (4, .int .i64 ((at_ : Int) + 1))] a2 → ∃ m, m < g ∧ IdsAt B w0 wb L H K F c m a2 W) :=
        Lib.hid fun l2 v2 S2 W g1 g2 g3 g4 a2 ha => ⟨H.length - (at_ + 1), by omega, at_ + 1, l2, v2, S2, by omega, g1, hmem l2 g2, by omega, g4, ha⟩
      cases hmv : n.i.mv with
      | none =>
        rw [hmv] at hc4
        have hrg := run_range_nilMap (P := Tryz.prog) w' 314 _ _ uMapI
        have hnx := run_next_nilMap (P := Tryz.prog) w' 0 0 0 #[]
        have hes := (hok.bare hmv).1
        have fin := Lib.hid (nextAt.out l v S (w'.alloc (.mapIter none 0 #[] 0)) s1 (fun k => by rw [hes]; simp) (by omega) (hw.growF (new_below _ _)))
        clear s1 hl hw hm hHl hat hn hnH htab hok htake hmem hac hacl nextAt hes ht hmul
        generalize w'.alloc (.mapIter none 0 #[] 0) = W at *
        go_wp2_with fail
        go_loopg [3, 5] 0 (fun g v3 v5 wr => v3 = v ∧ wr = W)
        case atStart => exact ⟨rfl, rfl⟩
        case round =>
          obtain ⟨rfl, rfl⟩ := hrel
          go_wp2_with fail
          refine wp_goto ?_
          refine ⟨rfl, fin.out _ ?_⟩
          exact ⟨rfl, rfl, by simp⟩
      | some mb =>
        rw [hmv] at hc4
        have hg := htab.map mb hmv
        have hrg := run_range_map (P := Tryz.prog) w' 314 _ _ mb _ _ uMapI hg
        obtain ⟨O, g1, g2⟩ := hw.beside
        have hwI := g2 _ ((w'.heap.size, .mapIter (some mb) n.i.clk #[] n.i.clk) :: (S ++ F)) ((g1.alloc (.mapIter (some mb) n.i.clk #[] n.i.clk)).perm (perm_w O (S ++ F) _).symm)
        have hg2 := (hwI.tabI hn).map mb hmv
        have first : Hid (IdsIn B w0 wb L H K F l mb w'.heap.size n.i.es n.i.clk [] [] v (w'.alloc (.mapIter (some mb) n.i.clk #[] n.i.clk))) := Lib.hid ⟨S, #[], by simpa using s1, ⟨hg2, #[], (MapKept.heap_alloc w' _).1, by simp, by simp, by simp⟩, hwI⟩
        have hbare := Lib.hid (ht.out.bare n hn)
        have hborn := Lib.hid hok.born
        have hnd : Hid (n.i.es.Nodup) := Lib.hid (List.Pairwise.of_map (S := fun a b => a ≠ b) _ (fun a b h e => h (by rw [e])) hok.keys)
        have hlc := hok.len
        have fin : Hid (∀ done v2 W, done.Perm n.i.es → IdsIn B w0 wb L H K F l mb w'.heap.size n.i.es n.i.clk done done v2 W → ∀ a2, Fr 36 [(0, np wb), (3, v2), (4, .int .i64 ((at_ : Int) + 1))] a2 → ∃ m, m < g ∧ IdsAt B w0 wb L H K F c m a2 W) := Lib.hid fun done v2 W hp hI => by
          obtain ⟨S2, seen, q1, -, q3⟩ := hI
          obtain ⟨O2, q4, q5⟩ := q3.beside
          refine nextAt.out (l ++ done.map (·.1)) v2 S2 W q1 (fun k => ?_) ?_ (q5 _ _ (q4.sub ((List.Sublist.refl _).append (List.sublist_cons_self _ _))))
          · rw [List.mem_append, (hp.map (·.1)).mem_iff]
          · rw [List.length_append, List.length_map, hp.length_eq]
            omega
        have pu : Hid (∀ done (e : MapRow Int) v2 W, done.length + 1 ≤ n.i.es.length → IdsIn B w0 wb L H K F l mb w'.heap.size n.i.es n.i.clk (done ++ [e]) done v2 W → ∃ a ln cap, v2 = .slice a ln cap ∧ ∃ a' cap' W2, (Builtin.append_ #[259, 259] 0 #[.slice a ln cap, .slice (some ⟨W.heap.size, 0, none⟩) 1 1]).run Tryz.prog (W.alloc (.cells #[.int .i64 e.1] 3)) = .ok (.slice a' (ln + 1) cap') W2 ∧
            IdsIn B w0 wb L H K F l mb w'.heap.size n.i.es n.i.clk (done ++ [e]) (done ++ [e]) (.slice a' (ln + 1) cap') W2) := Lib.hid fun done e v2 W hd hI => hI.push hn hmv rfl rfl (by
          rw [List.length_append, List.length_map]
          have h1 : at_ * c + c ≤ 1000000000000 := by
            rw [← hac]
            exact Nat.le_trans (Nat.mul_le_mul_right _ (by omega)) hmul.out
          omega)
        clear s1 hl hw hm hHl hat hn hnH htab hok htake hmem hac hacl nextAt ht hmul g1 g2 hwI hg2 hg hlc hmv
        generalize w'.alloc (.mapIter (some mb) n.i.clk #[] n.i.clk) = W at *
        generalize w'.heap.size = r at *
        generalize n.i.clk = clk at *
        have hbare : Hid (∀ e ∈ n.i.es, e.2.1 = .agg #[]) := hbare
        generalize n.i.es = es at *
        go_wp2_with fail
        go_loopg [3, 5] es.length (fun g v3 v5 wr => ∃ done, done.length + g = es.length ∧ Hid (IdsIn B w0 wb L H K F l mb r es clk done done v3 wr))
        case atStart => exact ⟨[], by simp, first⟩
        case round =>
          obtain ⟨done, hg, hI⟩ := hrel
          rcases hI.out.next hborn.out hnd.out hbare.out 0 with ⟨hp, hnx⟩ | ⟨e, w2, hle, hnx, hen, hI2⟩
          · have fin := Lib.hid (fin.out done _ _ hp hI.out)
            clear hI pu first
            go_wp2_with fail
            refine wp_goto ?_
            refine ⟨rfl, fin.out _ ?_⟩
            exact ⟨rfl, rfl, by simp⟩
          · obtain ⟨a3, ln, cap3, rfl, a', cap', W2, hrun, hI3⟩ := pu.out done e _ _ hle hI2
            replace hI3 := Lib.hid hI3
            clear hI hI2 pu fin first
            go_wp2_with (at_builtin; refine wpList_append_go rfl (.tmp 30) (.tmp 32) 259 259 rfl _ _ rfl rfl hrun ?_)
            go_roundg (es.length - (done.length + 1))
            case measure => omega
            case rel => exact ⟨done ++ [e], by rw [List.length_append, List.length_singleton]; omega, hI3⟩
    · obtain rfl : at_ = H.length := by omega
      rw [List.take_length] at hl
      have fin : Hid (IdsR B w0 L H F (.returned v) w') := Lib.hid ⟨v, l, S, rfl, s1, hl, Nat.le_trans hll hmul.out, hw.tree⟩
      clear s1 hl hll hw hat ht hmul hm hHl
      go_wp2_with fail
      simp only [Exit.jump]
      go_ret
      exact fin.out
  · intro H1
    go_wp2_with fail
    refine wp_label ?_
    go_step
    go_step
    refine H1 _ _ _ (start.out _ ?_)
    exact ⟨rfl, rfl, by simp⟩
end
end Go.Proofs.YtknjamfjonapiaaGreatDoor

namespace Go.Proofs.YtknjamfjonapiaaGreatDoor
open Go.RowKit
open Go.ChangeMaps (setBlock)
set_option linter.unusedVariables false
set_option linter.unusedSectionVars false
set_option linter.unusedSimpArgs false
set_option maxRecDepth 100000
abbrev Prs := List (Wds × Int)
def TrIs (B : Nat) (w0 w : World) (tb : Nat) (M : Prs) (F : List (Nat × Obj)) (c : Nat) : Prop :=
  ∃ L, St B w0 w (objsL L ++ F) ∧ TreeOk L tb c ∧ (∀ p k, HasId L p k ↔ (p, k) ∈ M) ∧ M.Nodup ∧ RootX L [.int .i64 M.length]
section
variable {B : Nat} {w0 w : World} {F : List (Nat × Obj)} {L : List Nd} {tb c : Nat} {n m : Nd} {M : Prs}
theorem TrIs.grow {w' : World} (h : TrIs B w0 w tb M F c) (hb : Below w.heap.size w w') : TrIs B w0 w' tb M F c := by
  obtain ⟨L, h1, h2⟩ := h
  exact ⟨L, h1.grow hb, h2⟩
theorem TrIs.mono {c' : Nat} (h : TrIs B w0 w tb M F c) (hc : c ≤ c') : TrIs B w0 w tb M F c' := by
  obtain ⟨L, h1, h2, h3⟩ := h
  exact ⟨L, h1, h2.mono hc, h3⟩
theorem TrIs.sub {F' : List (Nat × Obj)} (h : TrIs B w0 w tb M F c) (hs : F'.Sublist F) : TrIs B w0 w tb M F' c := by
  obtain ⟨L, h1, h2⟩ := h
  exact ⟨L, h1.sub ((List.Sublist.refl _).append hs), h2⟩
theorem TrIs.permF {F' : List (Nat × Obj)} (h : TrIs B w0 w tb M F c) (hs : F.Perm F') : TrIs B w0 w tb M F' c := by
  obtain ⟨L, h1, h2⟩ := h
  exact ⟨L, h1.perm (hs.append_left _), h2⟩
theorem TrIs.beside (h : TrIs B w0 w tb M F c) : ∃ S, St B w0 w (S ++ F) ∧ ∀ w' F', St B w0 w' (S ++ F') → TrIs B w0 w' tb M F' c := by
  obtain ⟨L, h1, h2⟩ := h
  exact ⟨objsL L, h1, fun w' F' h => ⟨L, h, h2⟩⟩
end
end Go.Proofs.YtknjamfjonapiaaGreatDoor

namespace Go.Proofs.YtknjamfjonapiaaGreatDoor
open Go.RowKit
open Go.ChangeMaps (setBlock)
set_option linter.unusedVariables false
set_option linter.unusedSectionVars false
set_option linter.unusedSimpArgs false
set_option maxRecDepth 100000
section
variable {B : Nat} {w0 w : World} {F : List (Nat × Obj)} {L : List Nd} {tb c : Nat} {n m : Nd} {M : Prs}
end
end Go.Proofs.YtknjamfjonapiaaGreatDoor

namespace Go.Proofs.YtknjamfjonapiaaGreatDoor
open Go.RowKit
open Go.ChangeMaps (setBlock)
set_option linter.unusedVariables false
set_option linter.unusedSectionVars false
set_option linter.unusedSimpArgs false
set_option maxRecDepth 100000
section
variable {B : Nat} {w0 w : World} {F S : List (Nat × Obj)} {L : List Nd} {tb c wb kb clk : Nat} {n m : Nd} {K K0 : Kn} {H A X : List Nd} {M : Prs}
def MatchR (B : Nat) (w0 : World) (tb : Nat) (M : Prs) (F : List (Nat × Obj)) (c : Nat) (P : Wds) (e : Ending) (w' : World) : Prop :=
  ∃ (v : Value) (l : List Int) (S : List (Nat × Obj)), e = .returned v ∧ SlIs 3 1 v l.length (l.map encI) S ∧ Rises1 l ∧ (∀ k, k ∈ l ↔ ∃ p, (p, k) ∈ M ∧ gl p P = true) ∧ TrIs B w0 w' tb M (S ++ F) c
def MatchAt (B : Nat) (w0 : World) (L : List Nd) (F : List (Nat × Obj)) (P : Wds) (g : Nat) (a' : Act) (w' : World) : Prop :=
  ∃ (wb at_ : Nat) (K : Kn) (H : List Nd) (a : Option Addr) (cap : Nat) (S : List (Nat × Obj)), at_ + g = P.length ∧ Here L (P.take at_) K H ∧ WkAt B w0 w' wb L H [] K (S ++ F) ∧ TssIs (.slice a P.length cap) P S ∧ Fr 39 [(5, np wb), (6, .slice a P.length cap), (7, .int .i64 at_)] a'
theorem WkAt.new (hst : St B w0 w (objsL L ++ F)) (ht : TreeOk L tb c) : WkAt B w0 ((w.alloc (.map #[] 0)).alloc (.cells #[.slice none 0 0, .slice none 0 0, .map (some w.heap.size)] 346)) (w.heap.size + 1) L [] [] (fun _ => 0) F := by
  have h2 := (hst.alloc (.map #[] 0)).alloc (.cells #[.slice none 0 0, .slice none 0 0, .map (some w.heap.size)] 346)
  have hsz : (w.alloc (.map #[] 0)).heap.size = w.heap.size + 1 := by simp
  rw [hsz] at h2
  refine ⟨.slice none 0 0, .slice none 0 0, [], [], w.heap.size, [], 0, SlIs.nil, SlIs.nil, ⟨fun n hn => by simp [seek], by simp⟩, h2.perm ?_⟩
  classical
  exact List.perm_iff_count.2 fun a => by simp only [List.count_append, List.count_cons, List.count_nil, List.nil_append]; simp [entsE]; omega
set_option maxHeartbeats 2000000 in
theorem match_any (h : TrIs B w0 w tb M F c) (l : List UInt8) (hl : l.length ≤ 1000) (hc : c ≤ 700000) : Calls Tryz.prog 250 #[np tb, tx l] w (MatchR B w0 tb M F c (wordsL l)) := by
  obtain ⟨L, hst, ht, hid, hnd, hroot⟩ := h
  obtain ⟨n0, hn0, e1, e2⟩ := ht.root
  have hmk := fun w : World => run_makeMap (P := Tryz.prog) 343 w
  have hwl := words_len l
  have hws := words_short l
  have cst := Lib.hid (start_any (WkAt.new hst ht) ht (by omega) hn0 e1 e2)
  have cw := Lib.hid (fun w => words_st (l := l) (by omega) w)
  have fin : Hid (∀ v (l2 : List Int) S2 w', SlIs 3 1 v l2.length (l2.map encI) S2 → Rises1 l2 → (∀ k, k ∈ l2 ↔ ∃ p, HasId L p k ∧ gl p (wordsL l) = true) → St B w0 w' (objsL L ++ (S2 ++ F)) → MatchR B w0 tb M F c (wordsL l) (.returned v) w') := Lib.hid fun v l2 S2 w' g1 g2 g3 g4 =>
    ⟨v, l2, S2, rfl, g1, g2, fun k => by rw [g3]; exact ⟨fun ⟨p, h1, h2⟩ => ⟨p, (hid p k).1 h1, h2⟩, fun ⟨p, h1, h2⟩ => ⟨p, (hid p k).2 h1, h2⟩⟩, L, g4, ht, hid, hnd, hroot⟩
  have hPl : (wordsL l).length ≤ 1001 := by omega
  have hws : ∀ x ∈ wordsL l, x.length ≤ 1000 := fun x hx => by have := hws x hx; omega
  have hfew := ht.few
  replace ht := Lib.hid ht
  clear hst hid hnd hroot hn0 e1 e2 hwl
  generalize wordsL l = P at *
  go_enter Tryz.func250, Tryz.ntmps250
  go_wp2_with fail
  refine wp_scope_ghost 0 (MatchAt B w0 L F P) rfl ?_ ?_
  · clear cst cw hmk
    rintro g a' w' ⟨wb, at_, K, H, a, cap, S, hg, hH, hw, hS, hfr⟩
    obtain ⟨f, rfl, hl'⟩ := hfr.lit
    clear hfr
    simp only [List.mem_cons, List.not_mem_nil, or_false, forall_eq_or_imp, forall_eq] at hl'
    obtain ⟨f5, f6, f7⟩ := hl'
    simp only [List.range, List.range.loop, List.map, f5, f6, f7]
    clear f5 f6 f7
    obtain ⟨ah, caph, ch, -⟩ := hw.hereAt
    have hat0 : (0 : Int) ≤ at_ := by omega
    have hP0 : (P.length : Int) ≤ 1001 := by omega
    have hHl := hH.len
    have hend : Hid (Here L P K H → ∃ e2 : Calls Tryz.prog 276 #[np wb] w' (IdsR B w0 L H (S ++ F)), True) := Lib.hid fun h => ⟨ids_any hw (ht.out.mono (show c ≤ 800000 by omega)) (Nat.le_refl _) h.mem (by omega), trivial⟩
    have after : Hid (∀ w1 v (l2 : List Int) S2, Here L P K H → SlIs 3 1 v l2.length (l2.map encI) S2 → (∀ k, k ∈ l2 ↔ ∃ n ∈ H, k ∈ n.i.es.map (·.1)) → l2.length ≤ 1000000000000 → St B w0 w1 (objsL L ++ (S2 ++ (S ++ F))) →
        Calls Tryz.prog 277 #[v] w1 fun e w2 => e = .returned (.tuple #[]) ∧ Calls Tryz.prog 278 #[v] w2 fun e w3 => ∃ v', e = .returned v' ∧ MatchR B w0 tb M F c P (.returned v') w3) := Lib.hid fun w1 v l2 S2 hHP g1 g2 g3 g4 => by
      refine (sortI_any g1 (X := objsL L ++ (S ++ F)) (g4.perm ?_) g3).mono ?_
      · rw [List.append_assoc]
        exact List.Perm.append_left _ List.perm_append_comm
      rintro e w2 ⟨rfl, S3, k1, k2⟩
      have hsl : (sortL l2).length = l2.length := List.length_mergeSort _
      refine ⟨rfl, (compactI_any k1 k2 (by omega)).mono ?_⟩
      rintro e w3 ⟨v', S4, rfl, q1, q2⟩
      obtain ⟨o1, o2⟩ := onceI l2
      refine ⟨v', rfl, fin.out v' _ S4 w3 q1 o1 (fun k => by rw [o2, g2, hHP.ids]) ((q2.sub ((((List.Sublist.refl _).append (List.sublist_append_right S F))).append (List.Sublist.refl _))).perm ?_)⟩
      rw [List.append_assoc]
      exact List.Perm.append_left _ List.perm_append_comm
    by_cases hlt : at_ < P.length
    · by_cases hH0 : H = []
      · subst hH0
        have hHP : Here L P K [] := by
          have := hH.none ht.out (P.drop at_)
          rwa [List.take_append_drop] at this
        obtain ⟨ci, -⟩ := hend.out hHP
        replace ci := Lib.hid ci
        have after := Lib.hid (fun w1 v l2 S2 => after.out w1 v l2 S2 hHP)
        have hlt' : (at_ : Int) < P.length := by omega
        clear hend hH hw hS ht hws fin hHP hfew hHl
        go_wp2_with fail
        refine ci.out.mono ?_
        rintro e w1 ⟨v, l2, S2, rfl, g1, g2, g3, g4⟩
        have c2 := Lib.hid (after.out w1 v l2 S2 g1 g2 g3 g4)
        clear g1 g2 g3 g4 after ci
        go_wp2_with fail
        refine c2.out.mono ?_
        rintro e w2 ⟨rfl, c3⟩
        replace c3 := Lib.hid c3
        clear c2
        go_wp2_with fail
        refine c3.out.mono ?_
        rintro e w3 ⟨v', rfl, fin⟩
        replace fin := Lib.hid fin
        go_wp2_with fail
        simp only [Exit.jump]
        go_ret
        exact fin.out
      · have hpos : (0 : Int) < H.length := by
          have := List.length_pos_iff.2 hH0
          omega
        have hx : P[at_]? = some P[at_] := List.getElem?_eq_getElem hlt
        have hrd : ReadTs w' (.slice a P.length cap) P := by
          obtain ⟨O, g1, g2⟩ := hw.beside
          refine hS.read (X := O ++ F) (g1.perm ?_) (fun x hx => by have := hws x hx; unfold maxLen; omega)
          rw [List.append_assoc]
          exact List.Perm.append_left _ List.perm_append_comm
        obtain ⟨a2, cap2, e2, hta⟩ := hrd
        simp only [Value.slice.injEq, true_and] at e2
        obtain ⟨rfl, rfl⟩ := e2
        obtain ⟨-, b, off, rfl, hcell⟩ := hta.at_ _ _ hx
        have ck := Lib.hid (take_any hw ht.out (by omega) hH P[at_] (hws _ (List.mem_of_getElem? hx)))
        rw [take_snoc hx] at ck
        have hlt' : (at_ : Int) < P.length := by omega
        generalize P[at_] = x at *
        replace hS := Lib.hid hS
        generalize H.length = hl at *
        clear hend hH hw ht hws fin hfew hHl after hta hx hH0
        go_wp2_with fail
        refine ck.out.mono ?_
        rintro e w1 ⟨rfl, K2, H2, hH2, hw2⟩
        replace hw2 := Lib.hid hw2
        clear ck
        go_wp2_with fail
        refine wp_goto ?_
        refine ⟨rfl, P.length - (at_ + 1), by omega, wb, at_ + 1, K2, H2, _, _, S, by omega, hH2, hw2.out, hS.out, ?_⟩
        exact ⟨rfl, rfl, by simp⟩
    · obtain rfl : at_ = P.length := by omega
      have hHP : Here L P K H := by rwa [List.take_length] at hH
      obtain ⟨ci, -⟩ := hend.out hHP
      replace ci := Lib.hid ci
      have after := Lib.hid (fun w1 v l2 S2 => after.out w1 v l2 S2 hHP)
      generalize H.length = hl at *
      clear hend hH hw hS ht hws fin hHP hfew hHl
      go_wp2_with fail
      refine ci.out.mono ?_
      rintro e w1 ⟨v, l2, S2, rfl, g1, g2, g3, g4⟩
      have c2 := Lib.hid (after.out w1 v l2 S2 g1 g2 g3 g4)
      clear g1 g2 g3 g4 after ci
      go_wp2_with fail
      refine c2.out.mono ?_
      rintro e w2 ⟨rfl, c3⟩
      replace c3 := Lib.hid c3
      clear c2
      go_wp2_with fail
      refine c3.out.mono ?_
      rintro e w3 ⟨v', rfl, fin⟩
      replace fin := Lib.hid fin
      go_wp2_with fail
      simp only [Exit.jump]
      go_ret
      exact fin.out
  · intro H1
    go_wp2_with fail
    refine cst.out.mono ?_
    rintro e w1 ⟨rfl, K, X, hH, hw⟩
    have cw := Lib.hid (cw.out w1)
    have nx : Hid (∀ w2 S, St w1.heap.size w1 w2 S → WkAt B w0 w2 (w.heap.size + 1) L X [] K (S ++ F)) := Lib.hid fun w2 S h => by
      obtain ⟨O, g1, g2⟩ := hw.beside
      refine g2 _ _ ((g1.join h).perm ?_)
      rw [List.append_assoc]
      exact List.Perm.append_left _ List.perm_append_comm
    replace hH := Lib.hid hH
    clear hw cst
    go_wp2_with fail
    refine cw.out.mono ?_
    rintro e w2 ⟨v, S, rfl, hS, hst2⟩
    have hw2 := Lib.hid (nx.out w2 S hst2)
    obtain ⟨a, cap, rfl⟩ := hS.form
    replace hS := Lib.hid hS
    clear nx cw hst2
    go_wp2_with fail
    refine wp_label ?_
    go_step
    go_step
    refine H1 P.length _ _ ⟨w.heap.size + 1, 0, K, X, a, cap, S, by omega, by rw [List.take_zero]; exact hH.out, hw2.out, hS.out, ?_⟩
    exact ⟨rfl, rfl, by simp⟩
end
end Go.Proofs.YtknjamfjonapiaaGreatDoor

namespace Go.Proofs.YtknjamfjonapiaaGreatDoor
open Go.RowKit
open Go.ChangeMaps (setBlock)
set_option linter.unusedVariables false
set_option linter.unusedSectionVars false
set_option linter.unusedSimpArgs false
set_option maxRecDepth 100000
def hits (M : Prs) (P : Wds) : List Int := (M.filter fun x => gl x.1 P).map (·.2)
theorem mem_hits {M : Prs} {P : Wds} {k : Int} : k ∈ hits M P ↔ ∃ p, (p, k) ∈ M ∧ gl p P = true := by
  unfold hits
  simp only [List.mem_map, List.mem_filter]
  constructor
  · rintro ⟨⟨p, k⟩, ⟨h1, h2⟩, rfl⟩
    exact ⟨p, h1, h2⟩
  · rintro ⟨p, h1, h2⟩
    exact ⟨(p, k), ⟨h1, h2⟩, rfl⟩
section
variable {B : Nat} {w0 w : World} {F S : List (Nat × Obj)} {tb c : Nat} {M : Prs} {l : List UInt8} {P : Wds}
theorem trmatch_is {l2 : List Int} (hP : wordsL l = P) (h2 : Rises1 l2) (hm : ∀ k, k ∈ l2 ↔ k ∈ hits M P) (h : TrIs B w0 w tb M F c) (hl : l.length ≤ 1000) (hc : c ≤ 700000) :
    Calls Tryz.prog 250 #[np tb, tx l] w fun e w' => ∃ v S, e = .returned v ∧ SlIs 3 1 v l2.length (l2.map encI) S ∧ TrIs B w0 w' tb M (S ++ F) c := by
  refine (match_any h l hl hc).mono ?_
  rintro e w' ⟨v, l3, S, rfl, h3, h4, h5, h6⟩
  have e : l3 = l2 := rises_eq h4 h2 fun k => by rw [h5, hP, hm, mem_hits]
  subst e
  exact ⟨v, S, rfl, h3, h6⟩
theorem TrIs.below (h : TrIs B w0 w tb M F c) : Below B w0 w := by
  obtain ⟨O, h1, -⟩ := h.beside
  exact h1.below
end
end Go.Proofs.YtknjamfjonapiaaGreatDoor

namespace Go.Proofs.YtknjamfjonapiaaGreatDoor
open Go.RowKit
set_option linter.unusedVariables false
end Go.Proofs.YtknjamfjonapiaaGreatDoor

namespace Go.Proofs.YtknjamfjonapiaaGreatDoor
open Go.RowKit
set_option linter.unusedVariables false
abbrev bV (b : Bnd) : Value := .agg #[tx b.1, tx b.2.1, tx b.2.2]
abbrev bO (b : Bnd) : Obj := .cells #[tx b.1, tx b.2.1, tx b.2.2] 67
def bndsV (l : List Bnd) : List Value := l.flatMap fun b => [tx b.1, tx b.2.1, tx b.2.2]
theorem bndsV_cons (f : Bnd) (l : List Bnd) : bndsV (f :: l) = tx f.1 :: tx f.2.1 :: tx f.2.2 :: bndsV l := rfl
theorem bndsV_append (l m : List Bnd) : bndsV (l ++ m) = bndsV l ++ bndsV m := by simp [bndsV]
theorem bndsV_at : ∀ {l : List Bnd} {i : Nat} {f : Bnd}, l[i]? = some f → (bndsV l)[i * 3]? = some (tx f.1) ∧ (bndsV l)[i * 3 + 1]? = some (tx f.2.1) ∧ (bndsV l)[i * 3 + 2]? = some (tx f.2.2)
  | [], _, _, h => by simp at h
  | f :: l, 0, g, h => by simp at h; subst h; simp [bndsV_cons]
  | f :: l, i + 1, g, h => by
    have := bndsV_at (l := l) (i := i) (f := g) (by simpa using h)
    rw [bndsV_cons, show (i + 1) * 3 = i * 3 + 1 + 1 + 1 by omega, show i * 3 + 1 + 1 + 1 + 1 = (i * 3 + 1) + 1 + 1 + 1 by omega, show i * 3 + 1 + 1 + 1 + 2 = (i * 3 + 2) + 1 + 1 + 1 by omega]
    simpa using this
theorem bndsV_one (l : List Bnd) : ∀ u ∈ bndsV l, u.oneCell' = true := by
  intro u hu
  obtain ⟨f, _, hf⟩ := List.mem_flatMap.1 hu
  simp only [List.mem_cons, List.not_mem_nil, or_false] at hf
  rcases hf with rfl | rfl | rfl <;> rfl
theorem uBnds : Tryz.prog.underlying 95 = some (.slice 67) := by kernel_rfl
theorem infBnd : (Tryz.prog.info? 67).map (fun i => (i.zero, i.size, i.bytes)) = some (some (.agg #[tx [], tx [], tx []]), 3, 48) := by kernel_rfl
section
variable {B : Nat} {w0 w w' : World} {S F A X : List (Nat × Obj)} {v : Value} {l L : List Bnd} {b : Bnd}
def ReadBs (w : World) (v : Value) (l : List Bnd) : Prop :=
  ∃ a cap, v = .slice a l.length cap ∧ ∀ i f, l[i]? = some f → ∃ b off, a = some ⟨b, off, none⟩ ∧ w.cell? ⟨b, off + i * 3, none⟩ = some (tx f.1) ∧ w.cell? ⟨b, off + i * 3 + 1, none⟩ = some (tx f.2.1) ∧ w.cell? ⟨b, off + i * 3 + 2, none⟩ = some (tx f.2.2)
def BnsIs (v : Value) (l : List Bnd) (S : List (Nat × Obj)) : Prop := SlIs 67 3 v l.length (bndsV l) S
theorem BnsIs.nil : BnsIs (.slice none 0 0) [] [] := SlIs.nil
theorem BnsIs.form (h : BnsIs v l S) : ∃ a cap, v = .slice a l.length cap := by
  obtain ⟨a, cap, e, _⟩ := SlIs.form h
  exact ⟨a, cap, e⟩
theorem BnsIs.read (h : BnsIs v l S) (hst : St B w0 w (A ++ S)) : ReadBs w v l := by
  have h' : SlIs _ _ _ _ _ _ := h
  obtain ⟨a, cap, rfl, _, _, ha⟩ := h'.form
  refine ⟨a, cap, rfl, fun i f hf => ?_⟩
  obtain ⟨g, off, rfl⟩ := ha i (List.getElem?_eq_some_iff.1 hf).1
  obtain ⟨h1, h2, h3⟩ := bndsV_at hf
  exact ⟨g, off, rfl, h'.cellAt hst h1, h'.cellAt hst h2, h'.cellAt hst h3⟩
theorem ReadBs.below (h : ReadBs w v l) (hb : Below w.heap.size w w') : ReadBs w' v l := by
  obtain ⟨a, cap, e, h⟩ := h
  refine ⟨a, cap, e, fun i f hf => ?_⟩
  obtain ⟨b, off, ha, h1, h2, h3⟩ := h i f hf
  exact ⟨b, off, ha, (hb.cell (p := ⟨b, off + i * 3, none⟩) (World.block_lt_of_cell? w _ h1)).trans h1, (hb.cell (p := ⟨b, off + i * 3 + 1, none⟩) (World.block_lt_of_cell? w _ h2)).trans h2, (hb.cell (p := ⟨b, off + i * 3 + 2, none⟩) (World.block_lt_of_cell? w _ h3)).trans h3⟩
theorem ReadBs.nil (w : World) : ReadBs w (.slice none 0 0) [] := ⟨none, 0, rfl, fun i f hf => by simp at hf⟩
theorem bnd_append (hs : BnsIs v l S) (hst : St B w0 w (X ++ S)) (b : Bnd) (hl : l.length ≤ 100000) :
    ∃ a cap W2 F2, (Builtin.append_ #[95, 95] 0 #[v, .slice (some ⟨w.heap.size, 0, none⟩) 1 1]).run Tryz.prog (w.alloc (bO b)) = .ok (.slice a (l.length + 1) cap) W2 ∧
      BnsIs (.slice a (l.length + 1) cap) (l ++ [b]) F2 ∧ St B w0 W2 (X ++ F2) := by
  obtain ⟨i0, hi0, hz0, hz1, hz2⟩ := info_parts infBnd
  have hb : (w.alloc (bO b)).heap[w.heap.size]? = some (.cells [tx b.1, tx b.2.1, tx b.2.2].toArray 67) := (MapKept.heap_alloc w _).1
  have hrd : Reads (w.alloc (bO b)) (.slice (some ⟨w.heap.size, 0, none⟩) 1 1) 1 3 [tx b.1, tx b.2.1, tx b.2.2] := Reads.block hb rfl 1
  obtain ⟨v2, W2, F2, hr, hs2, hst2⟩ := run_append_sl (P := Tryz.prog) 95 0 67 i0 _ 3 48 uBnds hi0 hz0 hz1 hz2 rfl hs (A := (w.heap.size, bO b) :: X) (hst.alloc _) hrd
    (bndsV_one [b]) (by unfold maxLen; omega) (by omega)
  obtain ⟨a, cap, rfl, -⟩ := hs2.form
  refine ⟨a, cap, W2, F2, hr, ?_, hst2.sub (List.sublist_cons_self _ _)⟩
  unfold BnsIs
  rw [List.length_append, List.length_singleton, bndsV_append]
  exact hs2
theorem St.under {w1 w2 : World} {Y : List (Nat × Obj)} (hb : Below w.heap.size w w1) (k : St w1.heap.size w1 w2 Y) : St w.heap.size w w2 Y :=
  ⟨bel hb k.below, Nat.le_trans hb.size k.base, k.nodup, fun p hp => ⟨Nat.le_trans hb.size (k.at_ p hp).1, (k.at_ p hp).2⟩⟩
theorem St.own {Y : List (Nat × Obj)} {w1 : World} (k : St w.heap.size w w1 Y) : Below w.heap.size w w1 := k.below
theorem not_in_step {α : Type} {L : List α} {b x : α} {p : Nat} (h : b ∉ L.take p) (hx : L[p]? = some x) (hn : b ≠ x) : b ∉ L.take (p + 1) := by
  rw [List.take_add_one, hx, Option.toList_some, List.mem_append, List.mem_singleton]
  rintro (h' | h')
  · exact h h'
  · exact hn h'
end
end Go.Proofs.YtknjamfjonapiaaGreatDoor

namespace Go.Proofs.YtknjamfjonapiaaGreatDoor
open Go.RowKit
set_option linter.unusedVariables false
section
variable {B : Nat} {w0 w w' : World} {S F A X : List (Nat × Obj)} {v : Value} {l : List (List UInt8)}
def IndexT (w : World) (b : List UInt8) (L : List (List UInt8)) (e : Ending) (w' : World) : Prop := ∃ k : Int, e = .returned (.int .i64 k) ∧ (0 ≤ k ↔ b ∈ L) ∧ w' = w
set_option maxHeartbeats 1000000 in
theorem indexS_any (h : ReadTs w v l) (hl : l.length ≤ 1000000) (b : List UInt8) : Calls Tryz.prog 273 #[v, tx b] w (IndexT w b l) := by
  obtain ⟨a, cap, rfl, hr0⟩ := h
  have hr := Lib.hid hr0
  clear hr0
  go_enter Tryz.func273, Tryz.ntmps273
  go_wp2_with fail
  go_loopg [8] l.length (fun g i wt => ∃ p : Nat, i = .int .i64 p ∧ p + g = l.length ∧ Hid (b ∉ l.take p) ∧ wt = w)
  case atStart => exact ⟨0, rfl, by omega, Lib.hid (by simp), rfl⟩
  case round =>
    obtain ⟨p, rfl, hp, hno, rfl⟩ := hrel
    have hp0 : (0 : Int) ≤ p := by omega
    by_cases hlt : p < l.length
    · have hx : l[p]? = some l[p] := List.getElem?_eq_getElem hlt
      generalize l[p] = x at hx
      obtain ⟨-, a1, o1, rfl, k1⟩ := hr.out.at_ p x hx
      have hp1 : (p : Int) < l.length := by omega
      by_cases hc : b = x
      · subst hc
        have fin : Hid (IndexT wr b l (.returned (.int .i64 p)) wr) := Lib.hid ⟨p, rfl, ⟨fun _ => List.mem_of_getElem? hx, fun _ => hp0⟩, rfl⟩
        clear hx hno hr
        go_wp2_with fail
        go_ret
        exact fin.out
      · have hno2 := Lib.hid (not_in_step hno.out hx hc)
        have hcB : (b == x) = false := by simpa using hc
        clear hno hx hc
        go_wp2_with fail
        go_roundg (l.length - (p + 1))
        case measure => omega
        case rel => exact ⟨p + 1, by go_num, by omega, hno2, rfl⟩
    · have e : l.take p = l := List.take_of_length_le (by omega)
      have hno2 := hno.out
      rw [e] at hno2
      have fin : Hid (IndexT wr b l (.returned (.int .i64 (-1))) wr) := Lib.hid ⟨-1, rfl, ⟨fun h => absurd h (by decide), fun h => absurd h hno2⟩, rfl⟩
      clear hno hno2 e
      go_wp2_with fail
      go_ret
      exact fin.out
theorem containsS_any (h : ReadTs w v l) (hl : l.length ≤ 1000000) (b : List UInt8) : Calls Tryz.prog 249 #[v, tx b] w fun e w' => e = .returned (.bool (decide (b ∈ l))) ∧ w' = w := by
  have c1 := Lib.hid (indexS_any h hl b)
  obtain ⟨a, cap, rfl, -⟩ := h
  obtain ⟨D, hD⟩ : ∃ D, D = decide (b ∈ l) := ⟨_, rfl⟩
  have hkd : Hid (∀ k : Int, (0 ≤ k ↔ b ∈ l) → decide ((0 : Int) ≤ k) = D) := Lib.hid fun k hk => by rw [hD]; exact decide_eq_decide.2 hk
  rw [← hD]
  clear hD
  go_enter Tryz.func249, Tryz.ntmps249
  go_wp2_with fail
  refine c1.out.mono ?_
  rintro e w1 ⟨k, rfl, hk, rfl⟩
  replace hkd := Lib.hid (hkd.out k hk)
  clear hk c1
  go_wp2_with fail
  go_ret
  exact ⟨ret_bool hkd.out, rfl⟩
end
end Go.Proofs.YtknjamfjonapiaaGreatDoor

namespace Go.Proofs.YtknjamfjonapiaaGreatDoor
open Go.RowKit
set_option linter.unusedVariables false
abbrev bpt (b : Nat) : Value := .pointer (some ⟨b, 0, none⟩)
def OneAt (T : TypeId) (w : World) (tb : Nat) (v : Value) : Prop := w.heap[tb]? = some (.cells #[v] T (0, 0))
section
variable {B : Nat} {w0 w w' : World} {S F A X : List (Nat × Obj)} {T : TypeId} {tb : Nat} {v u : Value} {L : List Bnd} {p : Bnd → Bool} {f : Bnd → List UInt8}
theorem OneAt.cell (h : OneAt T w tb v) : w.cell? ⟨tb, 0, none⟩ = some v := by
  unfold OneAt at h
  simp [World.cell?, h]
theorem OneAt.soft (h : OneAt T w tb v) : w.frozen? ⟨tb, 0, none⟩ = false := by
  unfold OneAt at h
  simp [World.frozen?, h]
theorem OneAt.lt (h : OneAt T w tb v) : tb < w.heap.size := (Array.getElem?_eq_some_iff.1 h).1
theorem OneAt.below (h : OneAt T w tb v) (hb : Below w.heap.size w w') : OneAt T w' tb v := (hb.block _ h.lt).trans h
structure TellsP (w : World) (g : Nat) (cb : Array Value) (p : Bnd → Bool) : Prop where
  go : ∀ args w, (callFunc g args).run Tryz.prog w = .ok (.enter g args) w
  is : ∀ w1, Below w.heap.size w w1 → ∀ b : Bnd, Calls Tryz.prog g (#[bV b] ++ cb) w1 fun e w2 => e = .returned (.bool (p b)) ∧ Below w1.heap.size w1 w2
structure TellsN (w : World) (g : Nat) (cb : Array Value) (f : Bnd → List UInt8) : Prop where
  go : ∀ args w, (callFunc g args).run Tryz.prog w = .ok (.enter g args) w
  is : ∀ w1, Below w.heap.size w w1 → ∀ b : Bnd, Calls Tryz.prog g (#[bV b] ++ cb) w1 fun e w2 => e = .returned (tx (f b)) ∧ Below w1.heap.size w1 w2
def ThoseR (w : World) (l : List Bnd) (e : Ending) (w' : World) : Prop := ∃ u S, e = .returned u ∧ BnsIs u l S ∧ St w.heap.size w w' S
def ThoseAt (w : World) (tb : Nat) (fv : Value) (L : List Bnd) (p : Bnd → Bool) (g : Nat) (a' : Act) (w' : World) : Prop :=
  ∃ (i : Nat) (u : Value) (S : List (Nat × Obj)), Fr 36 [(0, bpt tb), (1, fv), (5, u), (6, .int .i64 i)] a' ∧ i + g = L.length ∧ BnsIs u ((L.take i).filter p) S ∧ St w.heap.size w w' S
set_option maxHeartbeats 2000000 in
theorem those_any {g : Nat} {cb : Array Value} (h : OneAt T w tb v) (hv : ReadBs w v L) (hL : L.length ≤ 10000) (hp : TellsP w g cb p) :
    Calls Tryz.prog 246 #[bpt tb, .func (.func g) #[] cb] w (ThoseR w (L.filter p)) := by
  obtain ⟨eg, his⟩ := hp
  have hg := Lib.hid his
  have ht := Lib.hid (fun w' hb => (h.below (w' := w') hb).cell)
  obtain ⟨a, cap, rfl, -⟩ := id hv
  have hr := Lib.hid (fun w' hb => hv.below (w' := w') hb)
  clear hv his h
  go_enter Tryz.func246, Tryz.ntmps246
  go_wp2_with fail
  refine wp_scope_ghost 0 (ThoseAt w tb (.func (.func g) #[] cb) L p) rfl ?_ ?_
  · rintro n a' w' ⟨i, u, S, hfr, hi, hs, hst⟩
    obtain ⟨q, rfl, hl'⟩ := hfr.lit
    clear hfr
    simp only [List.mem_cons, List.not_mem_nil, or_false, forall_eq_or_imp, forall_eq] at hl'
    obtain ⟨f0, f1, f5, f6⟩ := hl'
    simp only [List.range, List.range.loop, List.map, f0, f1, f5, f6]
    clear f0 f1 f5 f6
    have hi0 : (0 : Int) ≤ i := by omega
    have ct := ht.out w' hst.below
    have hlen := filter_len_take (L := L) p i
    by_cases hlt : i < L.length
    · have hi1 : (i : Int) < L.length := by omega
      have hiB : ((i : Int) == L.length) = false := by rw [beq_eq_false_iff_ne]; omega
      have hx : L[i]? = some L[i] := List.getElem?_eq_getElem hlt
      generalize L[i] = x at hx
      have stp := filter_step (p := p) hx
      obtain ⟨a1, c1, e, hcells⟩ := hr.out w' hst.below
      cases e
      obtain ⟨b1, o1, rfl, k1, k2, k3⟩ := hcells i x hx
      have cc := Lib.hid (hg.out w' hst.below x)
      have hx2 : Hid (∀ w2, Below w'.heap.size w' w2 → w2.cell? ⟨tb, 0, none⟩ = some (.slice (some ⟨b1, o1, none⟩) L.length cap) ∧ w2.cell? ⟨b1, o1 + i * 3, none⟩ = some (tx x.1) ∧ w2.cell? ⟨b1, o1 + i * 3 + 1, none⟩ = some (tx x.2.1) ∧ w2.cell? ⟨b1, o1 + i * 3 + 2, none⟩ = some (tx x.2.2)) := Lib.hid fun w2 hb =>
        ⟨(hb.cell (p := ⟨tb, 0, none⟩) (World.block_lt_of_cell? w' _ ct)).trans ct, (hb.cell (World.block_lt_of_cell? w' _ k1)).trans k1, (hb.cell (World.block_lt_of_cell? w' _ k2)).trans k2, (hb.cell (World.block_lt_of_cell? w' _ k3)).trans k3⟩
      cases hpx : p x with
      | true =>
        rw [hpx] at stp cc
        rw [if_pos rfl] at stp
        have ap : Hid (∀ w2, Below w'.heap.size w' w2 → ∃ a cap2 W2, (Builtin.append_ #[95, 95] 0 #[u, .slice (some ⟨w2.heap.size, 0, none⟩) 1 1]).run Tryz.prog (w2.alloc (bO x)) = .ok (.slice a (((L.take i).filter p).length + 1) cap2) W2 ∧
            ∀ a', Fr 36 [(0, bpt tb), (1, .func (.func g) #[] cb), (5, .slice a (((L.take i).filter p).length + 1) cap2), (6, .int .i64 ((i + 1 : Nat) : Int))] a' → ∃ m, m < n ∧ ThoseAt w tb (.func (.func g) #[] cb) L p m a' W2) := by
          refine Lib.hid fun w2 hb => ?_
          obtain ⟨a, cap2, W2, F2, hrun, hs2, hst2⟩ := bnd_append (X := []) hs (hst.grow hb) x (by omega)
          refine ⟨a, cap2, W2, hrun, fun a' hf => ⟨n - 1, by omega, i + 1, _, F2, hf, by omega, ?_, hst2⟩⟩
          rw [stp]
          exact hs2
        obtain ⟨au, cu, rfl⟩ := hs.form
        obtain ⟨x1, x2, x3⟩ := x
        simp only at k1 k2 k3
        generalize ((L.take i).filter p).length = q0 at *
        clear hs hst hx hpx stp hlen hr ht hg
        go_wp2_with fail
        refine cc.out.mono ?_
        rintro e w2 ⟨rfl, hb⟩
        obtain ⟨ct2, m1, m2, m3⟩ := hx2.out w2 hb
        obtain ⟨a2, cap2, W2, hrun, fin⟩ := ap.out _ hb
        replace fin := Lib.hid fin
        clear cc ap hx2 hb k1 k2 k3 ct
        go_wp2_with (at_builtin; refine wpList_append_go rfl (.tmp 24) (.tmp 32) 95 95 rfl _ _ rfl rfl hrun ?_)
        refine wp_goto ?_
        exact ⟨rfl, fin.out _ ⟨rfl, rfl, by simp⟩⟩
      | false =>
        rw [hpx] at stp cc
        rw [if_neg (by decide), List.append_nil] at stp
        have fin : Hid (∀ w2, Below w'.heap.size w' w2 → ∀ a', Fr 36 [(0, bpt tb), (1, .func (.func g) #[] cb), (5, u), (6, .int .i64 ((i + 1 : Nat) : Int))] a' → ∃ m, m < n ∧ ThoseAt w tb (.func (.func g) #[] cb) L p m a' w2) :=
          Lib.hid fun w2 hb a' hf => ⟨n - 1, by omega, i + 1, _, S, hf, by omega, by rw [stp]; exact hs, hst.grow hb⟩
        obtain ⟨au, cu, rfl⟩ := hs.form
        obtain ⟨x1, x2, x3⟩ := x
        simp only at k1 k2 k3
        generalize ((L.take i).filter p).length = q0 at *
        clear hs hst hx hpx stp hlen hr ht hg
        go_wp2_with fail
        refine cc.out.mono ?_
        rintro e w2 ⟨rfl, hb⟩
        replace fin := Lib.hid (fin.out _ hb)
        clear cc hx2 hb k1 k2 k3 ct
        go_wp2_with fail
        refine wp_goto ?_
        exact ⟨rfl, fin.out _ ⟨rfl, rfl, by simp⟩⟩
    · obtain rfl : i = L.length := by omega
      rw [List.take_of_length_le (Nat.le_refl _)] at hs
      have fin : Hid (ThoseR w (L.filter p) (.returned u) w') := Lib.hid ⟨u, S, rfl, hs, hst⟩
      obtain ⟨au, cu, rfl⟩ := hs.form
      clear hs hst hg hr ht hlen
      go_wp2_with fail
      simp only [Exit.jump]
      go_ret
      exact fin.out
  · intro H
    go_wp2_with fail
    refine wp_label ?_
    go_step
    go_step
    exact H L.length _ _ ⟨0, _, [], ⟨rfl, rfl, by simp⟩, by omega, BnsIs.nil, St.start w⟩
end
end Go.Proofs.YtknjamfjonapiaaGreatDoor
