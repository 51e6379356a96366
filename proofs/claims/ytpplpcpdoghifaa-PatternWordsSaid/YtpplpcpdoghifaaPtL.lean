/- PatternWords. -/
import Derived.Test.YtpplpcpdoghifaaPtK
namespace Go.Proofs.Ytpplpcpdoghifaa
open Go.RowKit
set_option linter.unusedVariables false

theorem mixed_ne {L mid : Wds} {a m i : Nat} (hm : mid.length = 1) (hi : 0 < i) (hl : i ≤ L.length) : mixed L mid a m i ≠ [] := by
  intro e
  have := congrArg List.length e
  unfold mixed at this
  split at this
  · rw [List.length_take, List.length_nil] at this
    omega
  · simp only [List.length_append, hm, List.length_nil] at this
    omega

def FineW (w : List UInt8) : Prop := 46 ∉ w ∧ w.length ≤ 6 ∧ w ≠ [42] ∧ w ≠ [35]
/-- Behind so many words. -/
def Rel10 (L : Wds) (a m : Nat) (wa : List UInt8) (i : Nat) (v9 v10 v11 v14 : Value) : Prop :=
  ∃ PL : Wds, Fit PL (L.take i) ∧ NoDot PL ∧ Most 6 PL ∧ (∀ w ∈ L.take i, FineW w) ∧ v9 = tx (jn (L.take i)) ∧ v10 = tx (jn PL) ∧ v11 = tx (jn (mixed L [wa ++ [120]] a (a + 1) i)) ∧ v14 = tx (dj (mixed L [[35]] a m i))

/-- What goes ahead of a word. -/
def sep (i : Nat) (l : List UInt8) : List UInt8 := if i = 0 then l else l ++ [46]
theorem jn_sep {l : Wds} {i : Nat} (h : i = 0 → l = []) (h' : 0 < i → l ≠ []) (w : List UInt8) : jn (l ++ [w]) = sep i (jn l) ++ w := by
  unfold sep
  split
  · rename_i e
    rw [h e]
    rfl
  · rw [jn_snoc (h' (by omega))]

section
variable {L : Wds} {a m i : Nat} {wa w x : List UInt8}
theorem take_step {L : Wds} {i : Nat} {w : List UInt8} (hw : L[i]? = some w) : L.take (i + 1) = L.take i ++ [w] := by rw [List.take_add_one, hw]; rfl
theorem Fit.snoc' {S A : Wds} {s a : List UInt8} (h : Fit S A) (h1 : s ≠ [35]) (h2 : stands s a = true) : Fit (S ++ [s]) (A ++ [a]) := h.snoc h1 h2

/-- The words that the hashed pattern and the other one have more. -/
def moreO (a i : Nat) (w : List UInt8) : List UInt8 := if i = a then w ++ [120] else w
def moreH (a m i : Nat) (w H : List UInt8) : List UInt8 := if i = a then H ++ [35, 46] else if i < a ∨ m ≤ i then H ++ w ++ [46] else H

theorem Rel10.step {K P O H : List UInt8} (h : Rel10 L a m wa i (tx K) (tx P) (tx O) (tx H)) (hm : a < m) (hw : L[i]? = some w) (hwa : L[a]? = some wa) (hf : FineW w) (hx : x = [42] ∨ x = w) :
    Rel10 L a m wa (i + 1) (tx (sep i K ++ w)) (tx (sep i P ++ x)) (tx (sep i O ++ moreO a i w)) (tx (moreH a m i w H)) := by
  obtain ⟨PL, h1, h2, h3, h4, h5, h6, h7, h8⟩ := h
  have inj : ∀ {p q : List UInt8}, tx p = tx q → p = q := fun e => by simpa using e
  obtain rfl := inj h5
  obtain rfl := inj h6
  obtain rfl := inj h7
  obtain rfl := inj h8
  have hlt := (List.getElem?_eq_some_iff.1 hw).1
  have hpl := h1.len
  rw [List.length_take, Nat.min_eq_left (by omega)] at hpl
  have e0 : ∀ {l : Wds} {i : Nat}, l.length = i → (i = 0 → l = []) ∧ (0 < i → l ≠ []) := fun {l i} e => ⟨fun h => List.eq_nil_of_length_eq_zero (by omega), fun h h' => by rw [h'] at e; simp at e; omega⟩
  refine ⟨PL ++ [x], ?_, ?_, ?_, ?_, ?_, ?_, ?_, ?_⟩
  · rw [take_step hw]
    refine h1.snoc ?_ ?_
    · rcases hx with rfl | rfl
      · decide
      · exact hf.2.2.2
    · rcases hx with rfl | rfl <;> simp [stands]
  · intro y hy
    rcases List.mem_append.1 hy with hy | hy
    · exact h2 y hy
    · rw [List.mem_singleton] at hy
      subst hy
      rcases hx with rfl | rfl
      · decide
      · exact hf.1
  · intro y hy
    rcases List.mem_append.1 hy with hy | hy
    · exact h3 y hy
    · rw [List.mem_singleton] at hy
      subst hy
      rcases hx with rfl | rfl
      · decide
      · exact hf.2.1
  · intro y hy
    rw [take_step hw] at hy
    rcases List.mem_append.1 hy with hy | hy
    · exact h4 y hy
    · rw [List.mem_singleton] at hy
      subst hy
      exact hf
  · have := e0 (l := L.take i) (i := i) (by rw [List.length_take]; omega)
    rw [take_step hw, jn_sep this.1 this.2]
  · have := e0 (l := PL) (i := i) hpl
    rw [jn_sep this.1 this.2]
  · have hz : i = 0 → mixed L [wa ++ [120]] a (a + 1) i = [] := fun e => by subst e; exact mixed_zero
    have hnz : 0 < i → mixed L [wa ++ [120]] a (a + 1) i ≠ [] := fun e => mixed_ne rfl e (by omega)
    unfold moreO
    split
    · rename_i e
      subst e
      rw [hw] at hwa
      obtain rfl := Option.some.inj hwa
      rw [mixed_mid (by omega), jn_sep hz hnz]
    · by_cases hia : i < a
      · rw [mixed_head hia hw, jn_sep hz hnz]
      · rw [mixed_tail (by omega) (by omega) hw, jn_sep hz hnz]
  · unfold moreH
    split
    · rename_i e
      subst e
      rw [mixed_mid hm, dj_snoc]
      simp
    · split
      · rename_i e h
        rcases h with h | h
        · rw [mixed_head h hw, dj_snoc]
        · rw [mixed_tail (by omega) h hw, dj_snoc]
      · rename_i e h
        rw [mixed_skip (by omega) (by omega)]
theorem Rel10.start (L : Wds) (a m : Nat) (wa : List UInt8) : Rel10 L a m wa 0 (tx []) (tx []) (tx []) (tx []) :=
  ⟨[], trivial, by simp [NoDot], by simp [Most], by simp, rfl, rfl, by rw [mixed_zero]; rfl, by rw [mixed_zero]; rfl⟩

theorem Rel10.form {v9 v10 v11 v14 : Value} (h : Rel10 L a m wa i v9 v10 v11 v14) (hi : i ≤ L.length) (h8 : L.length ≤ 8) (hwa : L[a]? = some wa) (hm : a < m) :
    ∃ K P O H, v9 = tx K ∧ v10 = tx P ∧ v11 = tx O ∧ v14 = tx H ∧ K.length ≤ 1000 ∧ P.length ≤ 1000 ∧ O.length ≤ 1000 ∧ H.length ≤ 1000 := by
  obtain ⟨PL, h1, h2, h3, h4, rfl, rfl, rfl, rfl⟩ := h
  have hpl := h1.len
  rw [List.length_take, Nat.min_eq_left hi] at hpl
  have l1 := jn_len (k := 6) (l := L.take i) fun w hw => (h4 w hw).2.1
  have l2 := jn_len (k := 6) h3
  rw [List.length_take, Nat.min_eq_left hi] at l1
  have sub : ∀ {mid : Wds} {q : Nat}, a < q → ∀ x ∈ mixed L mid a q i, x ∈ L.take i ∨ (x ∈ mid ∧ a < i) := by
    intro mid q hq x hx
    unfold mixed at hx
    split at hx
    · exact .inl hx
    · rename_i hia
      rcases List.mem_append.1 hx with hx | hx
      · rcases List.mem_append.1 hx with hx | hx
        · refine .inl (List.mem_of_mem_take (i := a) ?_)
          rwa [List.take_take, Nat.min_eq_left (by omega)]
        · exact .inr ⟨hx, by omega⟩
      · exact .inl (List.mem_of_mem_drop hx)
  have l3 := jn_len (k := 101) (l := mixed L [wa ++ [120]] a (a + 1) i) fun w hw => by
    rcases sub (Nat.lt_succ_self a) w hw with h | ⟨h, hai⟩
    · have := (h4 w h).2.1
      omega
    · rw [List.mem_singleton] at h
      subst h
      have := (h4 wa (List.mem_of_getElem? (i := a) (by rw [List.getElem?_take, if_pos hai]; exact hwa))).2.1
      simp
      omega
  have l4 := dj_len (k := 6) (l := mixed L [[35]] a m i) fun w hw => by
    rcases sub hm w hw with h | ⟨h, _⟩
    · exact (h4 w h).2.1
    · rw [List.mem_singleton] at h
      subst h
      decide
  have n3 := mixed_len (L := L) (mid := [wa ++ [120]]) (a := a) (m := a + 1) (i := i) rfl (by omega) hi
  have n4 := mixed_len (L := L) (mid := [[35]]) (a := a) (m := m) (i := i) rfl hm hi
  refine ⟨_, _, _, _, rfl, rfl, rfl, rfl, by omega, by omega, ?_, by omega⟩
  have : (101 + 1) * (mixed L [wa ++ [120]] a (a + 1) i).length ≤ 102 * 8 := Nat.mul_le_mul_left _ (by omega)
  omega

/-- Behind all words. -/
theorem Rel10.last {K P O H : List UInt8} (h : Rel10 L a m wa L.length (tx K) (tx P) (tx O) (tx H)) (hm : a < m) (ha : L[a]? = some wa) :
    wordsL K = L ∧ gl (wordsL K) (wordsL K) = true ∧ gl (wordsL P) (wordsL K) = true ∧ gl (wordsL O) (wordsL K) = false ∧ 0 < H.length ∧ gl (wordsL (H.take (H.length - 1))) (wordsL K) = true := by
  obtain ⟨PL, h1, h2, h3, h4, h5, h6, h7, h8⟩ := h
  have inj : ∀ {p q : List UInt8}, tx p = tx q → p = q := fun e => by simpa using e
  obtain rfl := inj h5
  obtain rfl := inj h6
  obtain rfl := inj h7
  obtain rfl := inj h8
  have hlt := (List.getElem?_eq_some_iff.1 ha).1
  rw [List.take_of_length_le (Nat.le_refl _)] at h1 h4 ⊢
  have hL : L ≠ [] := fun e => by rw [e] at hlt; simp at hlt
  have hd : NoDot L := fun w hw => (h4 w hw).1
  have hp : Plain L := fun w hw => (h4 w hw).2.2.2
  have hPL : PL ≠ [] := fun e => by
    have := h1.len
    rw [e] at this
    simp at this
    omega
  have nd : ∀ {mid : Wds} {q : Nat}, NoDot mid → NoDot (mixed L mid a q L.length) := fun hmid x hx => by
    rcases mixed_mem hx with h | h
    · exact hd x h
    · exact hmid x h
  have n1 : NoDot [wa ++ [120]] := fun x hx => by
    rw [List.mem_singleton] at hx
    subst hx
    have := hd wa (List.mem_of_getElem? ha)
    simp [this]
  have n2 : NoDot [[35]] := fun x hx => by
    rw [List.mem_singleton] at hx
    subst hx
    decide
  have ne1 : mixed L [wa ++ [120]] a (a + 1) L.length ≠ [] := mixed_ne rfl (by omega) (Nat.le_refl _)
  have ne2 : mixed L [[35]] a m L.length ≠ [] := mixed_ne rfl (by omega) (Nat.le_refl _)
  rw [words_jn hd hL, words_jn h2 hPL, words_jn (nd n1) ne1, dj_jn ne2, mixed_all hlt, mixed_all hlt]
  refine ⟨rfl, gl_fit (fit_self hp), gl_fit h1, gl_other hp ha, by simp, ?_⟩
  rw [List.length_append, List.length_singleton, Nat.add_sub_cancel, List.take_left, ← mixed_all hlt, words_jn (nd n2) ne2, mixed_all hlt]
  exact gl_hashed hp hm
end
end Go.Proofs.Ytpplpcpdoghifaa
