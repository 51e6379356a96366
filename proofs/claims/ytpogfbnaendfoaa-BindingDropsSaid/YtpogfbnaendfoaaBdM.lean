/- Bindings by number: plain data for BindingDrops; rows of bools as cells. -/
import Derived.Test.YtpogfbnaendfoaaBdA
import Derived.Test.YtpogfbnaendfoaaOcA
namespace Go.Proofs.Ytpogfbnaendfoaa
open Go.RowKit
set_option linter.unusedVariables false

/-! ### rows of bools -/
def tabB (n : Nat) (p : Nat → Bool) : List Value := (List.range n).map fun k => Value.bool (p k)
theorem tabB_len (n : Nat) (p : Nat → Bool) : (tabB n p).length = n := by simp [tabB]
theorem tabB_at {n : Nat} (p : Nat → Bool) {k : Nat} (h : k < n) : (tabB n p)[k]? = some (.bool (p k)) := by simp [tabB, h]
def updB (p : Nat → Bool) (k : Nat) (b : Bool) : Nat → Bool := fun j => if j = k then b else p j
theorem tabB_set (n : Nat) (p : Nat → Bool) (k : Nat) (b : Bool) : (tabB n p).set k (.bool b) = tabB n (updB p k b) := by
  apply List.ext_getElem
  · simp [tabB]
  · intro i h1 h2
    simp only [tabB, List.length_map, List.length_range] at h2
    rw [List.getElem_set]
    simp only [tabB, List.getElem_map, List.getElem_range, updB]
    by_cases h : k = i
    · rw [if_pos h, if_pos h.symm]
    · rw [if_neg h, if_neg fun e => h e.symm]
theorem tabB_congr {n : Nat} {p q : Nat → Bool} (h : ∀ j, j < n → p j = q j) : tabB n p = tabB n q := by
  unfold tabB
  apply List.map_congr_left
  intro k hk
  rw [h k (List.mem_range.1 hk)]

/-- No more than there may be. -/
theorem len_of_nodup {α : Type} [BEq α] [LawfulBEq α] : ∀ (l m : List α), l.Nodup → (∀ x ∈ l, x ∈ m) → l.length ≤ m.length
  | [], _, _, _ => Nat.zero_le _
  | x :: r, m, hn, hs => by
    have hx := hs x List.mem_cons_self
    obtain ⟨h1, h2⟩ := List.nodup_cons.1 hn
    have h3 := len_of_nodup r (m.erase x) h2 (fun y hy => (List.mem_erase_of_ne (fun e : y = x => h1 (by rw [← e]; exact hy))).2 (hs y (List.mem_cons_of_mem _ hy)))
    have h4 := List.length_erase_of_mem hx
    have h5 := List.length_pos_of_mem hx
    rw [List.length_cons]
    omega

def bK (k : Nat) : Bnd := ([oct (120 + ((k % 3 : Nat) : Int))], [oct (97 + ((k / 3 % 4 : Nat) : Int))], [oct (48 + ((k / 12 : Nat) : Int))])
theorem oct_inj {x y : Int} (hx : 0 ≤ x) (hx2 : x ≤ 255) (hy : 0 ≤ y) (hy2 : y ≤ 255) (h : [oct x] = [oct y]) : x = y := by
  have h1 := oct_nat x
  have h2 := oct_nat y
  rw [List.cons.injEq] at h
  rw [h.1] at h1
  omega
theorem bK_inj {k j : Nat} (hk : k < 64) (hj : j < 64) (h : bK k = bK j) : k = j := by
  simp only [bK, Prod.mk.injEq] at h
  have h1 := oct_inj (by omega) (by omega) (by omega) (by omega) h.1
  have h2 := oct_inj (by omega) (by omega) (by omega) (by omega) h.2.1
  have h3 := oct_inj (by omega) (by omega) (by omega) (by omega) h.2.2
  omega
theorem bK_fit (k : Nat) : FitB (bK k) := by
  refine ⟨?_, ?_, ?_⟩ <;> simp [bK]

/-- The rows are those of the numbers that are in. -/
structure Drs (L : List Bnd) (f : Nat → Bool) : Prop where
  once : L.Nodup
  mem : ∀ b ∈ L, ∃ k, k < 64 ∧ f k = true ∧ b = bK k
  has : ∀ k, k < 64 → f k = true → bK k ∈ L
theorem Drs.start : Drs [] (fun _ => false) := ⟨by simp, by simp, by simp⟩
theorem Drs.fit {L : List Bnd} {f : Nat → Bool} (h : Drs L f) : ∀ b ∈ L, FitB b := fun b hb => by
  obtain ⟨k, _, _, rfl⟩ := h.mem b hb
  exact bK_fit k
theorem Drs.in_ {L : List Bnd} {f : Nat → Bool} (h : Drs L f) {k : Nat} (hk : k < 64) : bK k ∈ L ↔ f k = true := by
  refine ⟨fun hb => ?_, h.has k hk⟩
  obtain ⟨j, hj, hf, e⟩ := h.mem _ hb
  rw [bK_inj hk hj e]
  exact hf
theorem Drs.add_no {L : List Bnd} {f : Nat → Bool} (h : Drs L f) {k : Nat} (hk : k < 64) (hf : f k = true) : addL L (bK k) = (L, false, 0) ∧ Drs L (updB f k true) := by
  refine ⟨by rw [addL, if_pos ((h.in_ hk).2 hf)], ?_⟩
  have e : updB f k true = f := by
    funext j
    simp only [updB]
    split
    · rename_i h; rw [h, hf]
    · rfl
  rw [e]
  exact h
theorem Drs.add_new {L : List Bnd} {f : Nat → Bool} (h : Drs L f) {k : Nat} (hk : k < 64) (hf : f k = false) (hL : L.length < 40) : addL L (bK k) = (L ++ [bK k], true, 0) ∧ Drs (L ++ [bK k]) (updB f k true) := by
  have hn : bK k ∉ L := fun hb => by
    have := (h.in_ hk).1 hb
    rw [hf] at this
    cases this
  refine ⟨by rw [addL, if_neg hn, if_neg (by omega)], ?_, ?_, ?_⟩
  · rw [List.nodup_append]
    exact ⟨h.once, by simp, fun x hx y hy => by rw [List.mem_singleton] at hy; subst hy; exact fun e => hn (e ▸ hx)⟩
  · intro b hb
    rcases List.mem_append.1 hb with hb | hb
    · obtain ⟨j, hj, hfj, e⟩ := h.mem b hb
      refine ⟨j, hj, ?_, e⟩
      simp only [updB]
      split
      · rfl
      · exact hfj
    · rw [List.mem_singleton] at hb
      exact ⟨k, hk, by simp [updB], hb⟩
  · intro j hj hfj
    simp only [updB] at hfj
    split at hfj
    · rename_i e
      subst e
      exact List.mem_append_right _ (List.mem_singleton.2 rfl)
    · exact List.mem_append_left _ (h.has j hj hfj)

/-! ### what goes with a queue -/
def qN (q : Nat) : List UInt8 := [oct (97 + (q : Int))]
def xN (j : Nat) : List UInt8 := [oct (120 + (j : Int))]
theorem bK_queue {k q : Nat} (hq : q < 4) : ((bK k).2.1 == qN q) = (k / 3 % 4 == q) := by
  apply Bool.eq_iff_iff.2
  rw [beq_iff_eq, beq_iff_eq]
  constructor
  · intro h
    have := oct_inj (by omega) (by omega) (by omega) (by omega) h
    omega
  · intro h
    show [oct _] = [oct _]
    rw [h]
theorem bK_ex (k : Nat) : (bK k).1 = xN (k % 3) := rfl
theorem xN_inj {i j : Nat} (hi : i < 3) (hj : j < 3) (h : xN i = xN j) : i = j := by
  have := oct_inj (x := 120 + (i : Int)) (y := 120 + (j : Int)) (by omega) (by omega) (by omega) (by omega) h
  omega
def wasF (f : Nat → Bool) (q n : Nat) : Nat → Bool := fun j => (List.range n).any fun k => f k && (k / 3 % 4 == q) && (k % 3 == j)
def leftN (f : Nat → Bool) (q n : Nat) : Nat := ((List.range n).filter fun k => f k && !(k / 3 % 4 == q)).length
theorem wasF_zero (f : Nat → Bool) (q : Nat) : wasF f q 0 = fun _ => false := by funext j; simp [wasF]
theorem leftN_zero (f : Nat → Bool) (q : Nat) : leftN f q 0 = 0 := by simp [leftN]
theorem wasF_yes {f : Nat → Bool} {q n : Nat} (h1 : f n = true) (h2 : n / 3 % 4 = q) : wasF f q (n + 1) = updB (wasF f q n) (n % 3) true := by
  funext j
  simp only [wasF, updB, List.range_succ, List.any_append, List.any_cons, List.any_nil, Bool.or_false, h1, h2, beq_self_eq_true, Bool.true_and, Bool.and_true]
  by_cases h : j = n % 3
  · rw [if_pos h, h]; simp
  · rw [if_neg h]
    have : (n % 3 == j) = false := by simpa using fun e => h e.symm
    rw [this, Bool.or_false]
theorem wasF_no {f : Nat → Bool} {q n : Nat} (h : (f n && (n / 3 % 4 == q)) = false) : wasF f q (n + 1) = wasF f q n := by
  funext j
  simp only [wasF, List.range_succ, List.any_append, List.any_cons, List.any_nil, Bool.or_false, h, Bool.false_and]
theorem leftN_yes {f : Nat → Bool} {q n : Nat} (h : (f n && !(n / 3 % 4 == q)) = true) : leftN f q (n + 1) = leftN f q n + 1 := by
  simp only [leftN, List.range_succ, List.filter_append, List.filter_cons, h, if_true, List.filter_nil, List.length_append, List.length_singleton]
theorem leftN_no {f : Nat → Bool} {q n : Nat} (h : (f n && !(n / 3 % 4 == q)) = false) : leftN f q (n + 1) = leftN f q n := by
  simp only [leftN, List.range_succ, List.filter_append, List.filter_cons, h, Bool.false_eq_true, if_false, List.filter_nil, List.append_nil]
theorem leftN_le (f : Nat → Bool) (q n : Nat) : leftN f q n ≤ n := by
  unfold leftN
  have := List.length_filter_le (fun k => f k && !(k / 3 % 4 == q)) (List.range n)
  rw [List.length_range] at this
  exact this

section
variable {L : List Bnd} {f : Nat → Bool} {q : Nat}
def goneG (L : List Bnd) (q : Nat) : List (List UInt8) := onceL [] ((L.filter fun b => b.2.1 == qN q).map (·.1))
theorem goneG_nodup : (goneG L q).Nodup := onceL_nodup _ (by simp)
theorem goneG_mem (h : Drs L f) (hq : q < 4) {j : Nat} (hj : j < 3) : xN j ∈ goneG L q ↔ wasF f q 64 j = true := by
  unfold goneG
  rw [onceL_mem]
  simp only [List.not_mem_nil, false_or, List.mem_map, List.mem_filter, wasF, List.any_eq_true, List.mem_range, Bool.and_eq_true]
  constructor
  · rintro ⟨b, ⟨hb, hbq⟩, e⟩
    obtain ⟨k, hk, hf, rfl⟩ := h.mem b hb
    rw [bK_queue hq] at hbq
    refine ⟨k, hk, ⟨hf, hbq⟩, ?_⟩
    rw [beq_iff_eq]
    exact xN_inj (by omega) hj e
  · rintro ⟨k, hk, ⟨hf, hkq⟩, e⟩
    refine ⟨bK k, ⟨h.has k hk hf, by rw [bK_queue hq]; exact hkq⟩, ?_⟩
    rw [beq_iff_eq] at e
    rw [bK_ex, e]
theorem goneG_form (h : Drs L f) {y : List UInt8} (hy : y ∈ goneG L q) : ∃ j, j < 3 ∧ y = xN j := by
  unfold goneG at hy
  rw [onceL_mem] at hy
  rcases hy with hy | hy
  · simp at hy
  · obtain ⟨b, hb, rfl⟩ := List.mem_map.1 hy
    obtain ⟨k, hk, hf, rfl⟩ := h.mem b (List.mem_filter.1 hb).1
    exact ⟨k % 3, by omega, rfl⟩
theorem goneG_len (h : Drs L f) : (goneG L q).length ≤ 3 :=
  len_of_nodup _ [xN 0, xN 1, xN 2] goneG_nodup fun y hy => by
    obtain ⟨j, hj, rfl⟩ := goneG_form h hy
    have : j = 0 ∨ j = 1 ∨ j = 2 := by omega
    rcases this with rfl | rfl | rfl <;> simp
theorem left_len (h : Drs L f) (hq : q < 4) : (L.filter fun b => !(b.2.1 == qN q)).length = leftN f q 64 := by
  have h1 : (L.filter fun b => !(b.2.1 == qN q)).length ≤ (((List.range 64).filter fun k => f k && !(k / 3 % 4 == q)).map bK).length := by
    refine len_of_nodup _ _ (h.once.sublist List.filter_sublist) fun b hb => ?_
    rw [List.mem_filter] at hb
    obtain ⟨k, hk, hf, rfl⟩ := h.mem b hb.1
    rw [bK_queue hq] at hb
    exact List.mem_map.2 ⟨k, List.mem_filter.2 ⟨List.mem_range.2 hk, by rw [hf, hb.2]; rfl⟩, rfl⟩
  have h2 : (((List.range 64).filter fun k => f k && !(k / 3 % 4 == q)).map bK).length ≤ (L.filter fun b => !(b.2.1 == qN q)).length := by
    refine len_of_nodup _ _ ?_ fun b hb => ?_
    · rw [List.Nodup, List.pairwise_map]
      refine List.Pairwise.imp_of_mem ?_ ((List.nodup_range (n := 64)).sublist List.filter_sublist)
      intro i j hi hj hne e
      rw [List.mem_filter, List.mem_range] at hi hj
      exact hne (bK_inj hi.1 hj.1 e)
    · obtain ⟨k, hk, rfl⟩ := List.mem_map.1 hb
      rw [List.mem_filter, List.mem_range, Bool.and_eq_true] at hk
      exact List.mem_filter.2 ⟨h.has k hk.1 hk.2.1, by rw [bK_queue hq]; exact hk.2.2⟩
  rw [List.length_map] at h1 h2
  exact Nat.le_antisymm h1 h2
theorem goneG_again : goneG (L.filter fun b => !(b.2.1 == qN q)) q = [] := by
  have e : (L.filter fun b => !(b.2.1 == qN q)).filter (fun b => b.2.1 == qN q) = [] := by
    rw [List.filter_filter, List.filter_eq_nil_iff]
    intro b hb
    cases b.2.1 == qN q <;> simp
  unfold goneG
  rw [e]
  rfl

/-! ### those that are told, one by one -/
def wasG (G : List (List UInt8)) (W : Nat → Bool) (i : Nat) : Nat → Bool := fun j => W j && !decide (xN j ∈ G.take i)
theorem wasG_zero (G : List (List UInt8)) (W : Nat → Bool) : wasG G W 0 = W := by funext j; simp [wasG]
theorem wasG_at {G : List (List UInt8)} {W : Nat → Bool} (hn : G.Nodup) (hm : ∀ j, j < 3 → (xN j ∈ G ↔ W j = true)) {i j : Nat} (hj : j < 3) (hx : G[i]? = some (xN j)) :
    wasG G W i j = true ∧ ∀ k, k < 3 → updB (wasG G W i) j false k = wasG G W (i + 1) k := by
  have h1 : W j = true := (hm j hj).1 (List.mem_of_getElem? hx)
  have hlt := (List.getElem?_eq_some_iff.1 hx).1
  have h2 : xN j ∉ G.take i := by
    intro hmem
    have e : G = G.take i ++ G.drop i := (List.take_append_drop i G).symm
    have hd : xN j ∈ G.drop i := by
      have : (G.drop i)[0]? = some (xN j) := by rw [List.getElem?_drop]; exact hx
      exact List.mem_of_getElem? this
    rw [e, List.nodup_append] at hn
    exact hn.2.2 _ hmem _ hd rfl
  refine ⟨by rw [wasG, h1, decide_eq_false h2]; rfl, fun k hk => ?_⟩
  simp only [updB, wasG]
  rw [List.take_add_one, hx, Option.toList_some]
  by_cases e : k = j
  · subst e
    rw [if_pos rfl, decide_eq_true (List.mem_append_right _ (List.mem_singleton.2 rfl))]
    simp
  · rw [if_neg e]
    have : (xN k ∈ G.take i ++ [xN j]) ↔ xN k ∈ G.take i := by
      rw [List.mem_append, List.mem_singleton]
      exact ⟨fun h => h.elim id (fun h => absurd (xN_inj hk hj h) e), .inl⟩
    rw [decide_eq_decide.2 this]
theorem wasG_end {G : List (List UInt8)} {W : Nat → Bool} (hm : ∀ j, j < 3 → (xN j ∈ G ↔ W j = true)) {j : Nat} (hj : j < 3) : wasG G W G.length j = false := by
  unfold wasG
  rw [List.take_of_length_le (Nat.le_refl _)]
  cases hW : W j with
  | false => rfl
  | true => rw [decide_eq_true ((hm j hj).2 hW)]; rfl
end
end Go.Proofs.Ytpogfbnaendfoaa
