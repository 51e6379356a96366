/- Slips told by their tags; a row of bools beside them. -/
import Derived.Test.YtdkchcbmhmlhnaaSpK
import Derived.Test.YtdkchcbmhmlhnaaTabB
import Derived.Test.YtdkchcbmhmlhnaaInR
namespace Go.Proofs.Ytdkchcbmhmlhnaa
open Go.RowKit
set_option linter.unusedVariables false
set_option linter.unusedSectionVars false
set_option linter.unusedSimpArgs false
set_option maxRecDepth 100000

def tgL (f : Nat → Bool) (k : Nat) : List Int := ((List.range (k + 1)).filter f).map fun n : Nat => (n : Int)
def slT (T : List Int) : List Slp := T.map fun t => lO t t []
def cntT (f : Nat → Bool) (j : Nat) : Nat := ((List.range j).filter f).length
section
variable {f g : Nat → Bool} {k j t : Nat} {z : Int} {T : List Int} {L : List Slp}
theorem mem_tg : z ∈ tgL f k ↔ ∃ n : Nat, n ≤ k ∧ z = n ∧ f n = true := by
  unfold tgL
  simp only [List.mem_map, List.mem_filter, List.mem_range]
  constructor
  · rintro ⟨n, ⟨h1, h2⟩, rfl⟩
    exact ⟨n, by omega, rfl, h2⟩
  · rintro ⟨n, h1, rfl, h2⟩
    exact ⟨n, ⟨by omega, h2⟩, rfl⟩
theorem mem_tgN : ((j : Nat) : Int) ∈ tgL f k ↔ j ≤ k ∧ f j = true := by
  rw [mem_tg]
  constructor
  · rintro ⟨n, h1, h2, h3⟩
    obtain rfl : j = n := by omega
    exact ⟨h1, h3⟩
  · rintro ⟨h1, h2⟩
    exact ⟨j, h1, rfl, h2⟩
theorem tg_up (f : Nat → Bool) (k : Nat) : (tgL f k).Pairwise (· < ·) := by
  unfold tgL
  refine List.pairwise_map.2 ?_
  exact (List.pairwise_lt_range.filter f).imp fun h => by omega
theorem tags_slT (T : List Int) : tagsL (slT T) = T := by simp [tagsL, slT, Function.comp_def]
theorem slT_form : ∀ x ∈ slT T, x = lO x.tag x.tag [] := fun x hx => by
  obtain ⟨t, -, rfl⟩ := List.mem_map.1 hx
  rfl
theorem is_slT (hL : OkS L) (hT : T.Pairwise (· < ·)) (hm : ∀ z, z ∈ tagsL L ↔ z ∈ T) (he : ∀ x ∈ L, x = lO x.tag x.tag []) : L = slT T := by
  rw [← two_sorted hL.sorted hT hm]
  unfold slT tagsL
  rw [List.map_map]
  exact (List.map_id L).symm.trans (List.map_congr_left fun x hx => he x hx)
theorem ok_slT (h0 : f 0 = false) (hk : k ≤ 1000000) : OkS (slT (tgL f k)) := by
  refine ⟨?_, fun x hx => ?_⟩
  · unfold slT
    rw [List.pairwise_map]
    exact tg_up f k
  · obtain ⟨t, ht, rfl⟩ := List.mem_map.1 hx
    obtain ⟨n, h1, rfl, h2⟩ := mem_tg.1 ht
    have : n ≠ 0 := fun e => by rw [e, h0] at h2; cases h2
    simp only
    omega
theorem slT_congr (h : ∀ j, j ≤ k → f j = g j) : tgL f k = tgL g k := by
  unfold tgL
  rw [List.filter_congr fun j hj => h j (by have := List.mem_range.1 hj; omega)]
theorem add_slT_ok (h0 : f 0 = false) (ht : f t = false) (h1 : 1 ≤ t) (h2 : t ≤ k) (hk : k ≤ 1000000) : addOkS (slT (tgL f k)) (lO t t []) = true := by
  simp only [addOkS, decide_eq_true_eq, tags_slT]
  refine ⟨fun h => ?_, by omega, by omega⟩
  rw [(mem_tgN.1 h).2] at ht
  cases ht
theorem add_slT (h0 : f 0 = false) (ht : f t = false) (h1 : 1 ≤ t) (h2 : t ≤ k) (hk : k ≤ 1000000) : addS (slT (tgL f k)) (lO t t []) = slT (tgL (updB f t true) k) := by
  have hok := add_slT_ok h0 ht h1 h2 hk
  have hM := ok_slT h0 hk
  unfold addS
  rw [if_pos hok]
  simp only [addOkS, decide_eq_true_eq] at hok
  refine is_slT (hM.ins hok.2 hok.1) (tg_up _ _) (fun z => ?_) (fun x hx => ?_)
  · rw [ins_tags, tags_slT, mem_tg, mem_tg]
    constructor
    · rintro (rfl | ⟨n, a, b, c⟩)
      · exact ⟨t, h2, rfl, by simp [updB]⟩
      · exact ⟨n, a, b, by unfold updB; split <;> simp [c]⟩
    · rintro ⟨n, a, rfl, c⟩
      unfold updB at c
      split at c
      · rename_i e
        exact .inl (by rw [e])
      · exact .inr ⟨n, a, rfl, c⟩
  · rcases mem_ins.1 hx with rfl | hx
    · rfl
    · exact slT_form x hx
theorem drop_slT (h0 : f 0 = false) (hk : k ≤ 1000000) : dropS (slT (tgL f k)) t = slT (tgL (updB f t false) k) := by
  refine is_slT ((ok_slT h0 hk).drop _) (tg_up _ _) (fun z => ?_) (fun x hx => slT_form x (List.mem_filter.1 hx).1)
  rw [drop_tags, tags_slT, mem_tg, mem_tg]
  constructor
  · rintro ⟨⟨n, a, rfl, c⟩, h⟩
    refine ⟨n, a, rfl, ?_⟩
    unfold updB
    rw [if_neg (by omega)]
    exact c
  · rintro ⟨n, a, rfl, c⟩
    unfold updB at c
    split at c
    · cases c
    · exact ⟨⟨n, a, rfl, c⟩, by omega⟩
theorem upto_slT (h0 : f 0 = false) (hk : k ≤ 1000000) : uptoS (slT (tgL f k)) t = slT (tgL (fun j => f j && decide (j ≤ t)) k) := by
  refine is_slT ((ok_slT h0 hk).sub List.filter_sublist) (tg_up _ _) (fun z => ?_) (fun x hx => slT_form x (List.mem_filter.1 hx).1)
  rw [upto_tags, tags_slT, List.mem_filter, mem_tg, mem_tg]
  simp only [Bool.and_eq_true, decide_eq_true_eq]
  constructor
  · rintro ⟨⟨n, a, rfl, c⟩, h⟩
    exact ⟨n, a, rfl, c, by omega⟩
  · rintro ⟨n, a, rfl, c, d⟩
    exact ⟨⟨n, a, rfl, c⟩, by omega⟩
theorem over_slT (h0 : f 0 = false) (hk : k ≤ 1000000) : overS (slT (tgL f k)) t = slT (tgL (fun j => f j && decide (t + 1 ≤ j)) k) := by
  refine is_slT ((ok_slT h0 hk).sub List.filter_sublist) (tg_up _ _) (fun z => ?_) (fun x hx => slT_form x (List.mem_filter.1 hx).1)
  rw [over_tags, tags_slT, mem_tg, mem_tg]
  simp only [Bool.and_eq_true, decide_eq_true_eq]
  constructor
  · rintro ⟨⟨n, a, rfl, c⟩, h⟩
    exact ⟨n, a, rfl, c, by omega⟩
  · rintro ⟨n, a, rfl, c, d⟩
    exact ⟨⟨n, a, rfl, c⟩, by omega⟩
theorem cntT_succ (f : Nat → Bool) (j : Nat) : cntT f (j + 1) = cntT f j + if f j then 1 else 0 := by
  unfold cntT
  rw [List.range_succ, List.filter_append, List.length_append]
  congr 1
  cases h : f j <;> simp [h]
theorem cntT_le (f : Nat → Bool) (j : Nat) : cntT f j ≤ j := by
  have := List.length_filter_le f (List.range j)
  rwa [List.length_range] at this
theorem cntT_mono (f : Nat → Bool) {i j : Nat} (h : i ≤ j) : cntT f i ≤ cntT f j := by
  induction j with
  | zero => rw [show i = 0 by omega]; exact Nat.le_refl _
  | succ j ih =>
    rcases Nat.lt_or_ge j i with hlt | hle
    · rw [show i = j + 1 by omega]; exact Nat.le_refl _
    · have := ih hle
      rw [cntT_succ]
      omega
theorem cntT_tail (f : Nat → Bool) {i j : Nat} (h : i ≤ j) (hf : ∀ n, i ≤ n → n < j → f n = false) : cntT f i = cntT f j := by
  induction j with
  | zero => rw [show i = 0 by omega]
  | succ j ih =>
    rcases Nat.lt_or_ge j i with hlt | hle
    · rw [show i = j + 1 by omega]
    · rw [cntT_succ, hf j hle (by omega), ih hle fun n h1 h2 => hf n h1 (by omega)]
      rfl
theorem slT_len (f : Nat → Bool) (k : Nat) : (slT (tgL f k)).length = cntT f (k + 1) := by simp [slT, tgL, cntT]
theorem range_atT (hf : f j = true) : ∀ n, j < n → ((List.range n).filter f)[cntT f j]? = some j
  | 0, h => by omega
  | n + 1, h => by
    rw [List.range_succ, List.filter_append]
    by_cases e : j = n
    · subst e
      have : cntT f j = ((List.range j).filter f).length := rfl
      rw [this, List.getElem?_append_right (Nat.le_refl _), Nat.sub_self]
      simp [hf]
    · have ih := range_atT hf n (by omega)
      rw [List.getElem?_append_left (List.getElem?_eq_some_iff.1 ih).1]
      exact ih
theorem slT_at (hf : f j = true) (hj : j ≤ k) : (slT (tgL f k))[cntT f j]? = some (lO j j []) := by
  unfold slT tgL
  rw [List.getElem?_map, List.getElem?_map, range_atT hf (k + 1) (by omega)]
  rfl
theorem has_slT : lO (t : Int) (t : Int) [] ∈ slT (tgL f k) ↔ t ≤ k ∧ f t = true := by
  unfold slT
  rw [List.mem_map]
  constructor
  · rintro ⟨z, h1, h2⟩
    simp only [Slp.mk.injEq] at h2
    rw [h2.1] at h1
    exact mem_tgN.1 h1
  · intro h
    exact ⟨_, mem_tgN.2 h, rfl⟩
end

/-! ### a row of bools beside -/
theorem uBools17 : Try.prog.underlying 47 = some (.slice 4) := by kernel_rfl
theorem infBool17 : (Try.prog.info? 4).map (fun i => (i.zero, i.size, i.bytes)) = some (some (.bool false), 1, 1) := by kernel_rfl
abbrev rowT (k : Nat) (f : Nat → Bool) : Obj := .cells (tabB (k + 1) f).toArray 4
theorem mk_bools17 (w : World) (k : Nat) (hk : k ≤ 1000) : (Instr.makeSlice 47 (.int .i64 ((k : Int) + 1)) (.int .i64 ((k : Int) + 1))).run Try.prog w = .ok (.slice (some ⟨w.heap.size, 0, none⟩) (k + 1) (k + 1)) (w.alloc (rowT k fun _ => false)) := by
  obtain ⟨i0, hi, hz0, hz1, hz2⟩ := info_parts infBool17
  have h := run_make (P := Try.prog) w 47 4 i0 (.bool false) uBools17 hi hz0 .i64 .i64 ((k + 1 : Nat) : Int) ((k + 1 : Nat) : Int) (by omega) (Int.le_refl _) (by rw [hz2]; omega) (by omega)
  rw [Int.natCast_add, Int.natCast_one] at h
  rw [h]
  have e : ((k : Int) + 1).toNat = k + 1 := by omega
  rw [e]
  congr 2
  unfold rowT
  congr 1
  apply Array.toList_inj.1
  rw [hz1, Nat.mul_one, show (Value.bool false).cells = #[Value.bool false] from rfl, toList_madeCells_one]
  simp only [tabB]
  rw [List.map_const', List.length_range]
section
variable {B : Nat} {w0 w : World} {sb ib k j : Nat} {M : List Slp} {F : List (Nat × Obj)} {f : Nat → Bool}
theorem SlipsIs.rowAt (h : SlipsIs B w0 w sb M F) (hm : (ib, rowT k f) ∈ F) (hj : j ≤ k) : w.cell? ⟨ib, j, none⟩ = some (.bool (f j)) := by
  obtain ⟨S, h1, -⟩ := h.beside
  exact h1.cell (List.mem_append_right _ hm) (by rw [List.getElem?_toArray, tabB_at _ (by omega)])
theorem SlipsIs.rowSoft (h : SlipsIs B w0 w sb M F) (hm : (ib, rowT k f) ∈ F) (j : Nat) : w.frozen? ⟨ib, j, none⟩ = false := by
  obtain ⟨S, h1, -⟩ := h.beside
  exact h1.soft (List.mem_append_right _ hm) j
theorem SlipsIs.rowSet (h : SlipsIs B w0 w sb M ((ib, rowT k f) :: F)) (j : Nat) (b : Bool) : SlipsIs B w0 (w.setCell ⟨ib, j, none⟩ (.bool b)) sb M ((ib, rowT k (updB f j b)) :: F) := by
  obtain ⟨S, h1, h2⟩ := h.beside
  have h3 := h1.set j (.bool b)
  rw [List.setIfInBounds_toArray, tabB_set] at h3
  exact h2 _ _ h3
theorem rowT_congr {g : Nat → Bool} (h : ∀ j, j ≤ k → f j = g j) : rowT k f = rowT k g := by
  unfold rowT
  rw [tabB_congr fun j hj => h j (by omega)]
end
end Go.Proofs.Ytdkchcbmhmlhnaa
