/- TrieIDs. -/
import Derived.Test.YtbfelfejelkdpaaTrN
import Derived.Test.YtbfelfejelkdpaaTabB
import Derived.Test.YtbfelfejelkdpaaInR
import Derived.Test.YtbfelfejelkdpaaOcA
import Derived.Deep.LoopGhost
import Derived.Deep.RegionHeld3
namespace Go.Proofs.Ytbfelfejelkdpaa
open Go.RowKit
set_option linter.unusedVariables false
set_option linter.unusedSectionVars false
set_option linter.unusedSimpArgs false
set_option maxRecDepth 100000

abbrev pX : Wds := [[120], [42]]
abbrev pY : Wds := [[35], [121]]
/-- The pairs: of the two patterns just these ids. -/
def IdsM (M : Prs) (X Y : Nat → Bool) : Prop := ∀ p k, (p, k) ∈ M ↔ (p = pX ∧ ∃ n : Nat, n < 256 ∧ k = n ∧ X n = true) ∨ (p = pY ∧ ∃ n : Nat, n < 256 ∧ k = n ∧ Y n = true)
theorem pXY : pX ≠ pY := by decide
section
variable {M : Prs} {X Y : Nat → Bool} {k : Nat}
theorem IdsM.start : IdsM [] (fun _ => false) (fun _ => false) := fun p k => by simp
theorem upd_iff (hk : k < 256) (z : Int) : (∃ n : Nat, n < 256 ∧ z = n ∧ updB X k true n = true) ↔ (∃ n : Nat, n < 256 ∧ z = n ∧ X n = true) ∨ z = k := by
  unfold updB
  constructor
  · rintro ⟨n, h1, h2, h3⟩
    by_cases e : n = k
    · subst e; exact .inr h2
    · rw [if_neg e] at h3
      exact .inl ⟨n, h1, h2, h3⟩
  · rintro (⟨n, h1, h2, h3⟩ | h)
    · refine ⟨n, h1, h2, ?_⟩
      split
      · rfl
      · exact h3
    · exact ⟨k, hk, h, by simp⟩
theorem IdsM.addX (h : IdsM M X Y) (hk : k < 256) : IdsM (addM M (pX, (k : Int))) (updB X k true) Y := fun p z => by
  rw [mem_add, h p z, upd_iff hk, Prod.mk.injEq]
  constructor
  · rintro ((⟨h1, h2⟩ | h) | ⟨h1, h2⟩)
    · exact .inl ⟨h1, .inl h2⟩
    · exact .inr h
    · exact .inl ⟨h1, .inr h2⟩
  · rintro (⟨h1, h2 | h2⟩ | h)
    · exact .inl (.inl ⟨h1, h2⟩)
    · exact .inr ⟨h1, h2⟩
    · exact .inl (.inr h)
theorem IdsM.addY (h : IdsM M X Y) (hk : k < 256) : IdsM (addM M (pY, (k : Int))) X (updB Y k true) := fun p z => by
  rw [mem_add, h p z, upd_iff hk, Prod.mk.injEq]
  constructor
  · rintro ((h | ⟨h1, h2⟩) | ⟨h1, h2⟩)
    · exact .inl h
    · exact .inr ⟨h1, .inl h2⟩
    · exact .inr ⟨h1, .inr h2⟩
  · rintro (h | ⟨h1, h2 | h2⟩)
    · exact .inl (.inl h)
    · exact .inl (.inr ⟨h1, h2⟩)
    · exact .inr ⟨h1, h2⟩
theorem IdsM.cutX (h : IdsM M X Y) : IdsM (cutM M (pX, (k : Int))) (updB X k false) Y := fun p z => by
  rw [mem_cut, h p z]
  unfold updB
  constructor
  · rintro ⟨⟨rfl, n, h1, rfl, h3⟩ | h, hne⟩
    · refine .inl ⟨rfl, n, h1, rfl, ?_⟩
      rw [if_neg (fun e => hne (by rw [e]))]
      exact h3
    · exact .inr h
  · rintro (⟨rfl, n, h1, rfl, h3⟩ | ⟨rfl, h⟩)
    · by_cases e : n = k
      · rw [if_pos e] at h3; cases h3
      · rw [if_neg e] at h3
        refine ⟨.inl ⟨rfl, n, h1, rfl, h3⟩, fun e2 => e ?_⟩
        rw [Prod.mk.injEq] at e2
        omega
    · refine ⟨.inr ⟨rfl, h⟩, fun e2 => ?_⟩
      rw [Prod.mk.injEq] at e2
      exact pXY e2.1.symm
theorem IdsM.inX (h : IdsM M X Y) (hk : k < 256) : decide ((pX, (k : Int)) ∈ M) = X k := by
  rw [Bool.eq_iff_iff, decide_eq_true_iff, h]
  constructor
  · rintro (⟨_, n, h1, h2, h3⟩ | ⟨h1, _⟩)
    · have : k = n := by omega
      rw [this]; exact h3
    · exact absurd h1 pXY
  · exact fun hx => .inl ⟨rfl, k, hk, rfl, hx⟩

/-- The numbers of which it holds, rising. -/
def told (f : Nat → Bool) : List Int := ((List.range 256).filter f).map fun n : Nat => (n : Int)
def cnt12 (f : Nat → Bool) (k : Nat) : Nat := ((List.range k).filter f).length
theorem told_up (f : Nat → Bool) : Rises1 (told f) := by
  unfold told
  refine List.pairwise_map.2 ?_
  exact (List.pairwise_lt_range.filter f).imp fun h => by omega
theorem mem_told {f : Nat → Bool} {z : Int} : z ∈ told f ↔ ∃ n : Nat, n < 256 ∧ z = n ∧ f n = true := by
  unfold told
  simp only [List.mem_map, List.mem_filter, List.mem_range]
  constructor
  · rintro ⟨n, ⟨h1, h2⟩, rfl⟩
    exact ⟨n, h1, rfl, h2⟩
  · rintro ⟨n, h1, rfl, h2⟩
    exact ⟨n, ⟨h1, h2⟩, rfl⟩
theorem cnt_succ (f : Nat → Bool) (k : Nat) : cnt12 f (k + 1) = cnt12 f k + if f k then 1 else 0 := by
  unfold cnt12
  rw [List.range_succ, List.filter_append, List.length_append]
  congr 1
  cases h : f k <;> simp [h]
theorem told_len (f : Nat → Bool) : (told f).length = cnt12 f 256 := by simp [told, cnt12]
theorem range_at {f : Nat → Bool} {k : Nat} (hf : f k = true) : ∀ n, k < n → ((List.range n).filter f)[cnt12 f k]? = some k
  | 0, h => by omega
  | n + 1, h => by
    rw [List.range_succ, List.filter_append]
    by_cases e : k = n
    · subst e
      have : cnt12 f k = ((List.range k).filter f).length := rfl
      rw [this, List.getElem?_append_right (Nat.le_refl _), Nat.sub_self]
      simp [hf]
    · have ih := range_at hf n (by omega)
      rw [List.getElem?_append_left (List.getElem?_eq_some_iff.1 ih).1]
      exact ih
theorem told_at {f : Nat → Bool} {k : Nat} (hf : f k = true) (hk : k < 256) : (told f)[cnt12 f k]? = some (k : Int) := by
  unfold told
  rw [List.getElem?_map, range_at hf 256 hk]
  rfl
theorem IdsM.hit1 (h : IdsM M X Y) (z : Int) : z ∈ told (fun n => X n || Y n) ↔ z ∈ hits M [[120], [121]] := by
  rw [mem_told, mem_hits]
  constructor
  · rintro ⟨n, h1, rfl, h2⟩
    rw [Bool.or_eq_true] at h2
    rcases h2 with h2 | h2
    · exact ⟨pX, (h _ _).2 (.inl ⟨rfl, n, h1, rfl, h2⟩), by decide⟩
    · exact ⟨pY, (h _ _).2 (.inr ⟨rfl, n, h1, rfl, h2⟩), by decide⟩
  · rintro ⟨p, h1, h2⟩
    rcases (h _ _).1 h1 with ⟨_, n, g1, g2, g3⟩ | ⟨_, n, g1, g2, g3⟩
    · exact ⟨n, g1, g2, by rw [g3, Bool.true_or]⟩
    · exact ⟨n, g1, g2, by rw [g3, Bool.or_true]⟩
theorem IdsM.hit2 (h : IdsM M X Y) (z : Int) : z ∈ told X ↔ z ∈ hits M [[120], [122]] := by
  rw [mem_told, mem_hits]
  constructor
  · rintro ⟨n, h1, rfl, h2⟩
    exact ⟨pX, (h _ _).2 (.inl ⟨rfl, n, h1, rfl, h2⟩), by decide⟩
  · rintro ⟨p, h1, h2⟩
    rcases (h _ _).1 h1 with ⟨_, n, g1, g2, g3⟩ | ⟨rfl, _⟩
    · exact ⟨n, g1, g2, g3⟩
    · exact absurd h2 (by decide)
end

theorem zero256 (w : World) : (zeroValue 39).run Try.prog w = .ok (.agg (tabB 256 fun _ => false).toArray) w := by kernel_rfl
abbrev allO (f : Nat → Bool) : Obj := .cells (tabB 256 f).toArray 39
section
variable {B : Nat} {w0 w w' : World} {S F A X : List (Nat × Obj)} {T : TypeId} {tb k c : Nat} {M : Prs} {f : Nat → Bool}
theorem TrIs.cell {cs : Array Value} {U : TypeId} {fr : Nat × Nat} (h : TrIs B w0 w tb M F c) (hm : (k, .cells cs U fr) ∈ F) {i : Nat} {v : Value} (hi : cs[i]? = some v) : w.cell? ⟨k, i, none⟩ = some v := by
  obtain ⟨O, h1, -⟩ := h.beside
  exact h1.cell (b := k) (List.mem_append_right _ hm) hi
theorem TrIs.soft {cs : Array Value} {U : TypeId} (h : TrIs B w0 w tb M F c) (hm : (k, .cells cs U) ∈ F) (i : Nat) : w.frozen? ⟨k, i, none⟩ = false := by
  obtain ⟨O, h1, -⟩ := h.beside
  exact h1.soft (b := k) (List.mem_append_right _ hm) i
theorem TrIs.setA {cs : Array Value} {U : TypeId} {P Q : List (Nat × Obj)} (h : TrIs B w0 w tb M (P ++ (k, .cells cs U) :: Q) c) (i : Nat) (v : Value) : TrIs B w0 (w.setCell ⟨k, i, none⟩ v) tb M (P ++ (k, .cells (cs.setIfInBounds i v) U) :: Q) c := by
  obtain ⟨X, hX, back⟩ := h.beside
  rw [← List.append_assoc] at hX
  have h2 := hX.set i v
  rw [List.append_assoc] at h2
  exact back _ _ h2
theorem TrIs.alloc (h : TrIs B w0 w tb M F c) (o : Obj) : TrIs B w0 (w.alloc o) tb M ((w.heap.size, o) :: F) c := by
  obtain ⟨O, h1, h2⟩ := h.beside
  exact h2 _ _ ((h1.alloc o).perm (perm_w O F _).symm)
theorem TrIs.drew (h : TrIs B w0 w tb M F c) : TrIs B w0 w.drew tb M F c := h.grow ((Below.refl _ w).drew)
end
end Go.Proofs.Ytbfelfejelkdpaa
