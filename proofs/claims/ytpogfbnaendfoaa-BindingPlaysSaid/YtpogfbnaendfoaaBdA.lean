/- Bindings: plain data. Rows of them, cut, those that are so, names each once. -/
import Derived.Test.YtpogfbnaendfoaaOwn
namespace Go.Proofs.Ytpogfbnaendfoaa

abbrev Bnd := List UInt8 × List UInt8 × List UInt8

/-- Names, each once, where it comes first. -/
def onceL : List (List UInt8) → List (List UInt8) → List (List UInt8)
  | acc, [] => acc
  | acc, n :: r => onceL (if n ∈ acc then acc else acc ++ [n]) r
theorem onceL_append (acc l m : List (List UInt8)) : onceL acc (l ++ m) = onceL (onceL acc l) m := by
  induction l generalizing acc with
  | nil => rfl
  | cons n l ih => simp only [List.cons_append, onceL, ih]
theorem onceL_len (acc l : List (List UInt8)) : (onceL acc l).length ≤ acc.length + l.length := by
  induction l generalizing acc with
  | nil => simp [onceL]
  | cons n l ih =>
    simp only [onceL, List.length_cons]
    refine Nat.le_trans (ih _) ?_
    split
    · omega
    · rw [List.length_append, List.length_singleton]; omega
theorem onceL_mem (acc l : List (List UInt8)) (x : List UInt8) : x ∈ onceL acc l ↔ x ∈ acc ∨ x ∈ l := by
  induction l generalizing acc with
  | nil => simp [onceL]
  | cons n l ih =>
    simp only [onceL, ih, List.mem_cons]
    split
    · rename_i h
      constructor
      · rintro (h1 | h1)
        · exact .inl h1
        · exact .inr (.inr h1)
      · rintro (h1 | rfl | h1)
        · exact .inl h1
        · exact .inl h
        · exact .inr h1
    · rw [List.mem_append, List.mem_singleton, or_assoc]
theorem onceL_nodup {acc : List (List UInt8)} (l : List (List UInt8)) (h : acc.Nodup) : (onceL acc l).Nodup := by
  induction l generalizing acc with
  | nil => exact h
  | cons n l ih =>
    simp only [onceL]
    apply ih
    split
    · exact h
    · rename_i hn
      rw [List.nodup_append]
      exact ⟨h, by simp, fun a ha b hb => by rw [List.mem_singleton] at hb; subst hb; exact fun e => hn (e ▸ ha)⟩
theorem onceL_same {acc l : List (List UInt8)} (h : (acc ++ l).Nodup) : onceL acc l = acc ++ l := by
  induction l generalizing acc with
  | nil => simp [onceL]
  | cons n l ih =>
    have hn : n ∉ acc := fun hm => (List.nodup_append.1 h).2.2 n hm n List.mem_cons_self rfl
    simp only [onceL, if_neg hn]
    rw [ih (by rw [List.append_assoc]; exact h), List.append_assoc]
    rfl
/-- One name more. -/
def onceS (m : List (List UInt8)) (n : List UInt8) : List (List UInt8) := if n ∈ m then m else m ++ [n]
theorem onceL_snoc (acc l : List (List UInt8)) (n : List UInt8) : onceL acc (l ++ [n]) = onceS (onceL acc l) n := by
  rw [onceL_append]
  rfl

theorem filter_step {L : List Bnd} {p : Bnd → Bool} {i : Nat} {b : Bnd} (h : L[i]? = some b) : (L.take (i + 1)).filter p = (L.take i).filter p ++ (if p b then [b] else []) := by
  rw [List.take_add_one, h, Option.toList_some, List.filter_append]
  congr 1
  simp only [List.filter_cons, List.filter_nil]
theorem map_step {α : Type} {L : List Bnd} {f : Bnd → α} {i : Nat} {b : Bnd} (h : L[i]? = some b) : (L.take (i + 1)).map f = (L.take i).map f ++ [f b] := by
  rw [List.take_add_one, h, Option.toList_some, List.map_append]
  rfl
theorem filter_whole {L : List Bnd} {p : Bnd → Bool} {i : Nat} (h : L.length ≤ i) : (L.take i).filter p = L.filter p := by rw [List.take_of_length_le h]
theorem filter_len_take {L : List Bnd} (p : Bnd → Bool) (i : Nat) : ((L.take i).filter p).length ≤ i := Nat.le_trans (List.length_filter_le _ _) (by rw [List.length_take]; omega)

theorem bnd_cases (x y : Bnd) : x = y ∨ (x.1 == y.1) = false ∨ (x.1 = y.1 ∧ (x.2.1 == y.2.1) = false) ∨ (x.1 = y.1 ∧ x.2.1 = y.2.1 ∧ (x.2.2 == y.2.2) = false) := by
  obtain ⟨a, b, c⟩ := x
  obtain ⟨d, e, f⟩ := y
  by_cases h1 : a = d
  · by_cases h2 : b = e
    · by_cases h3 : c = f
      · exact .inl (by rw [h1, h2, h3])
      · exact .inr (.inr (.inr ⟨h1, h2, by simpa using h3⟩))
    · exact .inr (.inr (.inl ⟨h1, by simpa using h2⟩))
  · exact .inr (.inl (by simpa using h1))
theorem bnd_ne {x y : Bnd} (h : (x.1 == y.1) = false ∨ (x.1 = y.1 ∧ (x.2.1 == y.2.1) = false) ∨ (x.1 = y.1 ∧ x.2.1 = y.2.1 ∧ (x.2.2 == y.2.2) = false)) : x ≠ y := by
  rintro rfl
  rcases h with h | ⟨_, h⟩ | ⟨_, _, h⟩ <;> simp at h

/-- What a table holds behind Add, what it answers. -/
def addL (L : List Bnd) (b : Bnd) : List Bnd × Bool × Int := if b ∈ L then (L, false, 0) else if 40 ≤ L.length then (L, false, 12) else (L ++ [b], true, 0)
/-- Short texts: what came in. -/
def FitB (b : Bnd) : Prop := b.1.length ≤ 140737488351232 ∧ b.2.1.length ≤ 140737488351232 ∧ b.2.2.length ≤ 140737488351232
/-- A table's rows: few, each once. -/
structure FineL (L : List Bnd) : Prop where
  few : L.length ≤ 40
  once : L.Nodup
  fit : ∀ b ∈ L, FitB b
theorem FineL.nil : FineL [] := ⟨by simp, by simp, by simp⟩
theorem FineL.add {L : List Bnd} (h : FineL L) {b : Bnd} (hb : FitB b) : FineL (addL L b).1 := by
  unfold addL
  split
  · exact h
  · split
    · exact h
    · rename_i h1 h2
      refine ⟨by rw [List.length_append, List.length_singleton]; omega, ?_, ?_⟩
      · rw [List.nodup_append]
        exact ⟨h.once, by simp, fun x hx y hy => by rw [List.mem_singleton] at hy; subst hy; exact fun e => h1 (e ▸ hx)⟩
      · intro x hx
        rcases List.mem_append.1 hx with hx | hx
        · exact h.fit x hx
        · rw [List.mem_singleton] at hx
          subst hx
          exact hb
theorem FineL.filter {L : List Bnd} (h : FineL L) (p : Bnd → Bool) : FineL (L.filter p) :=
  ⟨Nat.le_trans (List.length_filter_le _ _) h.few, h.once.sublist List.filter_sublist, fun b hb => h.fit b (List.mem_filter.1 hb).1⟩
/-- The queues of one exchange's rows of one key are each once. -/
theorem FineL.keyed {L : List Bnd} (h : L.Nodup) (e k : List UInt8) : onceL [] ((L.filter fun b => b.1 == e && b.2.2 == k).map (·.2.1)) = (L.filter fun b => b.1 == e && b.2.2 == k).map (·.2.1) := by
  rw [onceL_same, List.nil_append]
  rw [List.nil_append]
  have h1 : (L.filter fun b => b.1 == e && b.2.2 == k).Nodup := h.sublist List.filter_sublist
  rw [List.Nodup, List.pairwise_map]
  refine List.Pairwise.imp_of_mem ?_ h1
  rintro ⟨a1, a2, a3⟩ ⟨b1, b2, b3⟩ ha hb hne heq
  simp only [List.mem_filter, Bool.and_eq_true, beq_iff_eq] at ha hb heq
  exact hne (by rw [ha.2.1, ha.2.2, hb.2.1, hb.2.2, heq])
/-- Keyed is what of Of has that Key. -/
theorem filter_and (L : List Bnd) (e k : List UInt8) : (L.filter fun b => b.1 == e).filter (fun b => b.2.2 == k) = L.filter fun b => b.1 == e && b.2.2 == k := by
  rw [List.filter_filter]
  apply List.filter_congr
  intro b _
  rw [Bool.and_comm]
end Go.Proofs.Ytpogfbnaendfoaa
