/- Ints of one's own: appended, sorted, each once. -/
import Derived.Test.YtbfelfejelkdpaaTrL
import Derived.Test.YtbfelfejelkdpaaTrX
namespace Go.Proofs.Ytbfelfejelkdpaa
open Go.RowKit
set_option linter.unusedVariables false
set_option linter.unusedSectionVars false
set_option linter.unusedSimpArgs false
set_option maxRecDepth 100000

/-! ### plain -/
abbrev Rises1 (l : List Int) : Prop := l.Pairwise (· < ·)
theorem rises_eq {l m : List Int} (hl : Rises1 l) (hm : Rises1 m) (h : ∀ x, x ∈ l ↔ x ∈ m) : l = m := by
  have nl : l.Nodup := hl.imp fun h => Int.ne_of_lt h
  have nm : m.Nodup := hm.imp fun h => Int.ne_of_lt h
  exact List.Perm.eq_of_pairwise (le := (· < ·)) (fun a b _ _ h1 h2 => by omega) hl hm ((List.perm_ext_iff_of_nodup nl nm).2 h)
theorem compact_up {d : Array Int} (hd : ∀ i j, i < j → j < d.size → d[i]! ≤ d[j]!) : ∀ m, m ≤ d.size → Rises1 (Lib.compactUpTo d m) ∧ ∀ x, x ∈ Lib.compactUpTo d m ↔ ∃ j, j < m ∧ d[j]! = x
  | 0, _ => ⟨by simp [Lib.compactUpTo], fun x => by simp [Lib.compactUpTo]⟩
  | m + 1, hm => by
    obtain ⟨h1, h2⟩ := compact_up hd m (by omega)
    rw [Lib.compactUpTo_succ]
    cases hk : Lib.keeps d m with
    | true =>
      have hk : m = 0 ∨ d[m]! ≠ d[m - 1]! := by simpa [Lib.keeps] using hk
      refine ⟨?_, fun x => ?_⟩
      · rw [if_pos rfl]
        refine List.pairwise_append.2 ⟨h1, by simp, ?_⟩
        intro a ha b hb
        rw [List.mem_singleton] at hb
        subst hb
        obtain ⟨j, hj, rfl⟩ := (h2 a).1 ha
        have hm1 : d[m - 1]! ≤ d[m]! := hd (m - 1) m (by omega) (by omega)
        have hjm : d[j]! ≤ d[m - 1]! := by
          by_cases e : j = m - 1
          · rw [e]; exact Int.le_refl _
          · exact hd j (m - 1) (by omega) (by omega)
        rcases hk with hk | hk
        · omega
        · have : d[m - 1]! ≠ d[m]! := fun e => hk e.symm
          omega
      · rw [if_pos rfl, List.mem_append, List.mem_singleton, h2]
        constructor
        · rintro (⟨j, hj, e⟩ | rfl)
          · exact ⟨j, by omega, e⟩
          · exact ⟨m, by omega, rfl⟩
        · rintro ⟨j, hj, e⟩
          by_cases e1 : j = m
          · subst e1; exact .inr e.symm
          · exact .inl ⟨j, by omega, e⟩
    | false =>
      have hk : ¬ (m = 0 ∨ d[m]! ≠ d[m - 1]!) := by simpa [Lib.keeps] using hk
      have hk0 : m ≠ 0 := fun e => hk (.inl e)
      have hk1 : d[m]! = d[m - 1]! := by
        rcases Int.lt_or_le d[m]! d[m - 1]! with h | h
        · exact absurd (.inr (by omega)) hk
        · rcases Int.lt_or_le d[m - 1]! d[m]! with h | h
          · exact absurd (.inr (by omega)) hk
          · omega
      rw [if_neg (by simp), List.append_nil]
      refine ⟨h1, fun x => ?_⟩
      rw [h2]
      constructor
      · rintro ⟨j, hj, e⟩
        exact ⟨j, by omega, e⟩
      · rintro ⟨j, hj, e⟩
        by_cases e1 : j = m
        · subst e1; exact ⟨j - 1, by omega, by rw [← hk1, e]⟩
        · exact ⟨j, by omega, e⟩
abbrev sortL (l : List Int) : List Int := l.mergeSort fun x y => decide (x ≤ y)
theorem onceI (l : List Int) : Rises1 (Lib.compact (sortL l)) ∧ ∀ x, x ∈ Lib.compact (sortL l) ↔ x ∈ l := by
  have hs : (sortL l).Pairwise (fun x y => decide (x ≤ y) = true) := List.pairwise_mergeSort (fun a b c h1 h2 => by simp only [decide_eq_true_eq] at *; omega) (fun a b => by simp only [Bool.or_eq_true, decide_eq_true_eq]; omega) l
  have hd : ∀ i j, i < j → j < (sortL l).toArray.size → (sortL l).toArray[i]! ≤ (sortL l).toArray[j]! := by
    intro i j hij hj
    have hj' : j < (sortL l).length := by simpa using hj
    have := List.pairwise_iff_getElem.1 hs i j (by omega) hj' hij
    rw [decide_eq_true_eq] at this
    have e1 : (sortL l).toArray[i]! = (sortL l)[i] := by rw [getElem!_pos (sortL l).toArray i (by rw [List.size_toArray]; omega)]; simp
    have e2 : (sortL l).toArray[j]! = (sortL l)[j] := by rw [getElem!_pos (sortL l).toArray j (by simpa using hj')]; simp
    rw [e1, e2]
    exact this
  obtain ⟨h1, h2⟩ := compact_up hd (sortL l).length (by simp)
  refine ⟨h1, fun x => ?_⟩
  show x ∈ Lib.compactUpTo _ _ ↔ _
  rw [h2, ← (List.mergeSort_perm l fun x y => decide (x ≤ y)).mem_iff, List.mem_iff_getElem]
  constructor
  · rintro ⟨j, hj, e⟩
    rw [getElem!_pos (sortL l).toArray j (by simpa using hj)] at e
    exact ⟨j, hj, by simpa using e⟩
  · rintro ⟨j, hj, e⟩
    refine ⟨j, hj, ?_⟩
    rw [getElem!_pos (sortL l).toArray j (by simpa using hj)]
    simpa using e

/-! ### in memory -/
section
variable {B : Nat} {w0 w : World} {X S : List (Nat × Obj)} {v : Value} {l : List Int}
theorem uInts12 : Try.prog.underlying 33 = some (.slice 3) := by kernel_rfl
theorem infInt12 : (Try.prog.info? 3).map (fun i => (i.zero, i.size, i.bytes)) = some (some (.int .i64 0), 1, 8) := by kernel_rfl
theorem ints_push (hs : SlIs 3 1 v l.length (l.map encI) S) (hst : St B w0 w (X ++ S)) (k : Int) (hl : l.length ≤ 1000000000000) :
    ∃ a cap, v = .slice a l.length cap ∧ ∃ a' cap' W2 S2, (Builtin.append_ #[33, 33] 0 #[.slice a l.length cap, .slice (some ⟨w.heap.size, 0, none⟩) 1 1]).run Try.prog (w.alloc (.cells #[.int .i64 k] 3)) = .ok (.slice a' (l.length + 1) cap') W2 ∧
      SlIs 3 1 (.slice a' (l.length + 1) cap') (l ++ [k]).length ((l ++ [k]).map encI) S2 ∧ St B w0 W2 (X ++ S2) := by
  obtain ⟨a, cap, rfl, -⟩ := hs.form
  obtain ⟨i0, hi0, hz0, hz1, hz2⟩ := info_parts12 infInt12
  have hrd := Reads.one w (.int .i64 k) 3
  obtain ⟨v2, W2, F2, hr, hs2, hst2⟩ := run_append_sl (P := Try.prog) 33 0 3 i0 _ 1 8 uInts12 hi0 hz0 hz1 hz2 rfl hs (A := (w.heap.size, .cells #[.int .i64 k] 3) :: X) (hst.alloc _) hrd
    (by intro u hu; rw [List.mem_singleton] at hu; subst hu; rfl) (by unfold maxLen; omega) (by omega)
  obtain ⟨a', cap', rfl, -⟩ := hs2.form
  refine ⟨a, cap, rfl, a', cap', W2, F2, hr, ?_, hst2.sub (List.sublist_cons_self _ _)⟩
  rw [List.length_append, List.length_singleton, List.map_append]
  exact hs2

open Go.Sort in
theorem row_st {g off cap n : Nat} {d : List Int} {m : Nat} (hs : SlIs 3 1 (.slice (some ⟨g, off, none⟩) l.length cap) l.length (l.map encI) S) (hst : St B w0 w (X ++ S)) (hd : d.length = l.length) (hm : m ≤ d.length) :
    ∃ S', SlIs 3 1 (.slice (some ⟨g, off, none⟩) m cap) m ((d.take m).map encI) S' ∧ St B w0 (putRow (Value.int .i64) (Sort.ahead w n) g off d.toArray) (X ++ S') := by
  obtain ⟨hl, ⟨h1, _⟩ | ⟨g', off', cap', cur, h1, rfl, h3, h4, h5, h6⟩⟩ := hs
  · cases h1
  · cases h1
    have hb := hst.get (b := g) (o := .cells cur 3 (0, 0)) (by simp)
    have e1 : (putRow (Value.int .i64) (Sort.ahead w n) g off d.toArray).heap[g]? = some (.cells (putCells (Value.int .i64) off d.toArray cur) 3 (0, 0)) := by
      simp [putRow, mapBlock, Sort.ahead, Array.getElem?_modify, hb, onCells]
    have e2 : ∀ k, k ≠ g → (putRow (Value.int .i64) (Sort.ahead w n) g off d.toArray).heap[k]? = w.heap[k]? := fun k hk => by
      simp [putRow, mapBlock, Sort.ahead, Array.getElem?_modify, Ne.symm hk]
    refine ⟨[(g, .cells (putCells (Value.int .i64) off d.toArray cur) 3 (0, 0))], ⟨by simp; omega, .inr ⟨g, off, cap, _, rfl, rfl, by omega, h4, by simpa [putCells] using h5, ?_⟩⟩, hst.write (C := []) e1 e2 (by simp [putRow, mapBlock, Sort.ahead]) rfl rfl rfl⟩
    apply List.ext_getElem?
    intro j
    rw [Nat.mul_one, List.getElem?_take]
    by_cases hj : j < m
    · rw [if_pos hj, List.getElem?_drop, Array.getElem?_toList]
      have hx : d[j]? = some d[j] := List.getElem?_eq_getElem (by omega)
      have hc : off + j < cur.size := by omega
      simp only [putCells, Array.getElem?_mapIdx]
      rw [Array.getElem?_eq_getElem hc]
      have hcond : off ≤ off + j ∧ off + j < off + d.toArray.size := by simp; omega
      rw [Option.map_some, if_pos hcond, List.getElem?_map, List.getElem?_take, if_pos hj, hx, Nat.add_sub_cancel_left, getElem!_pos d.toArray j (by simp; omega)]
      simp
    · rw [if_neg hj, List.getElem?_map, List.getElem?_take, if_neg hj]
      rfl

open Go.Sort in
theorem sortI_any (hs : SlIs 3 1 v l.length (l.map encI) S) (hst : St B w0 w (X ++ S)) (hl : l.length ≤ 1000000000000) :
    Calls Try.prog 24 #[v] w fun e w' => e = .returned (.tuple #[]) ∧ ∃ S', SlIs 3 1 v (sortL l).length ((sortL l).map encI) S' ∧ St B w0 w' (X ++ S') := by
  have hlen : (sortL l).length = l.length := List.length_mergeSort _
  have hs' := hs
  obtain ⟨hl0, ⟨rfl, h2, rfl⟩ | ⟨g, off, cap, cur, rfl, rfl, h3, h4, h5, h6⟩⟩ := hs
  · have hl1 : l = [] := List.eq_nil_of_length_eq_zero h2
    subst hl1
    refine (sortI_none none 0 w).mono ?_
    rintro e w' ⟨rfl, rfl⟩
    exact ⟨rfl, [], by simpa using SlIs.nil, hst⟩
  · have hH : Holds (Value.int .i64) w g off l.toArray := fun j hj => by
      have hj' : j < l.length := by simpa using hj
      refine ⟨?_, hs'.soft hst _⟩
      rw [getElem!_pos l.toArray j hj]
      exact hs'.cellAt hst (by simp [hj'])
    have hg := hst.lt (b := g) (o := .cells cur 3 (0, 0)) (by simp)
    refine (sortI_laid g off cap l w hH hg (by omega)).mono ?_
    rintro e w' ⟨rfl, n, os, rfl⟩
    obtain ⟨S', k1, k2⟩ := row_st (n := n) (d := sortL l) (m := (sortL l).length) hs' hst hlen (Nat.le_refl _)
    rw [List.take_length] at k1
    refine ⟨rfl, S', by rw [hlen] at k1 ⊢; exact k1, k2.grow ⟨rfl, rfl, rfl, by simp, fun k hk => ?_⟩⟩
    simp only [Sort.grow]
    rw [Array.getElem?_append_left hk]

open Go.Sort in
theorem compactI_any (hs : SlIs 3 1 v l.length (l.map encI) S) (hst : St B w0 w (X ++ S)) (hl : l.length ≤ 1000000000000) :
    Calls Try.prog 25 #[v] w fun e w' => ∃ v' S', e = .returned v' ∧ SlIs 3 1 v' (Lib.compact l).length ((Lib.compact l).map encI) S' ∧ St B w0 w' (X ++ S') := by
  have hs' := hs
  obtain ⟨hl0, ⟨rfl, h2, rfl⟩ | ⟨g, off, cap, cur, rfl, rfl, h3, h4, h5, h6⟩⟩ := hs
  · have hl1 : l = [] := List.eq_nil_of_length_eq_zero h2
    subst hl1
    refine (compactI_none none 0 w).mono ?_
    rintro e w' ⟨rfl, rfl⟩
    exact ⟨_, [], rfl, by simpa [Lib.compact, Lib.compactUpTo] using SlIs.nil, hst⟩
  · have hH : Holds (Value.int .i64) w g off l.toArray := fun j hj => by
      have hj' : j < l.length := by simpa using hj
      refine ⟨?_, hs'.soft hst _⟩
      rw [getElem!_pos l.toArray j hj]
      exact hs'.cellAt hst (by simp [hj'])
    have hcl : (Lib.compact l).length ≤ l.length := by
      unfold Lib.compact Lib.compactUpTo
      rw [List.length_map]
      exact Nat.le_trans (List.length_filter_le _ _) (by simp)
    refine (compactI_laid g off cap l w hH (by omega) h3).mono ?_
    rintro e w' ⟨rfl, n, rfl⟩
    obtain ⟨S', k1, k2⟩ := row_st (n := n) (d := Lib.compact l ++ List.replicate (l.length - (Lib.compact l).length) 0) (m := (Lib.compact l).length) hs' hst (by simp; omega) (by simp)
    rw [List.take_left] at k1
    exact ⟨_, S', rfl, k1, k2⟩
end
end Go.Proofs.Ytbfelfejelkdpaa
