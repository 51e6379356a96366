/- Walks over a tree, plain: what a walk knows of nodes, where it is, what it finds. -/
import Derived.Test.YtbfelfejelkdpaaTrF
namespace Go.Proofs.Ytbfelfejelkdpaa
open Go.RowKit
set_option linter.unusedVariables false
set_option linter.unusedSectionVars false
set_option linter.unusedSimpArgs false

/-! ### patterns by their last word -/
theorem gl_split {P Q K : Wds} : gl (P ++ Q) K = true ↔ ∃ j, j ≤ K.length ∧ gl P (K.take j) = true ∧ gl Q (K.drop j) = true := by
  induction P generalizing K with
  | nil =>
    constructor
    · exact fun h => ⟨0, Nat.zero_le _, rfl, h⟩
    · rintro ⟨j, hj, h1, h2⟩
      rw [gl_nil, List.isEmpty_iff] at h1
      have : j = 0 := by
        have := congrArg List.length h1
        rw [List.length_take, List.length_nil] at this
        omega
      subst this
      exact h2
  | cons p P ih =>
    by_cases hp : p = [35]
    · subst hp
      rw [List.cons_append, gl_hash, hashL_iff]
      constructor
      · rintro ⟨i, hi, h⟩
        obtain ⟨j, hj, h1, h2⟩ := ih.1 h
        rw [List.length_drop] at hj
        refine ⟨i + j, by omega, ?_, by rw [← List.drop_drop]; exact h2⟩
        rw [gl_hash, hashL_iff]
        refine ⟨i, by rw [List.length_take]; omega, ?_⟩
        rw [List.drop_take, show i + j - i = j by omega]
        exact h1
      · rintro ⟨j, hj, h1, h2⟩
        rw [gl_hash, hashL_iff] at h1
        obtain ⟨i, hi, h1⟩ := h1
        rw [List.length_take] at hi
        rw [List.drop_take] at h1
        refine ⟨i, by omega, ih.2 ⟨j - i, by rw [List.length_drop]; omega, h1, ?_⟩⟩
        rw [List.drop_drop, show i + (j - i) = j by omega]
        exact h2
    · cases K with
      | nil =>
        rw [List.cons_append, gl_short hp]
        constructor
        · intro h; cases h
        · rintro ⟨j, hj, h1, _⟩
          rw [List.take_nil, gl_short hp] at h1
          cases h1
      | cons x K =>
        rw [List.cons_append, gl_one hp, Bool.and_eq_true, ih]
        constructor
        · rintro ⟨h0, j, hj, h1, h2⟩
          exact ⟨j + 1, by rw [List.length_cons]; omega, by rw [List.take_succ_cons, gl_one hp, h0, h1]; rfl, h2⟩
        · rintro ⟨j, hj, h1, h2⟩
          cases j with
          | zero => rw [List.take_zero, gl_short hp] at h1; cases h1
          | succ j =>
            rw [List.take_succ_cons, gl_one hp, Bool.and_eq_true] at h1
            exact ⟨h1.1, j, by rw [List.length_cons] at hj; omega, h1.2, h2⟩
theorem gl_last_one {P K : Wds} {v x : List UInt8} (hv : v ≠ [35]) : gl (P ++ [v]) (K ++ [x]) = true ↔ gl P K = true ∧ stands v x = true := by
  rw [gl_split]
  constructor
  · rintro ⟨j, hj, h1, h2⟩
    have hl : (K ++ [x]).length = K.length + 1 := by simp
    cases hd : (K ++ [x]).drop j with
    | nil => rw [hd, gl_short hv] at h2; cases h2
    | cons y Y =>
      rw [hd, gl_one hv, Bool.and_eq_true, gl_nil, List.isEmpty_iff] at h2
      have hn := congrArg List.length hd
      rw [List.length_drop, h2.2] at hn
      simp only [List.length_cons, List.length_nil] at hn
      have e : j = K.length := by omega
      subst e
      simp only [List.take_left] at h1
      simp only [List.drop_left] at hd
      rw [List.cons.injEq] at hd
      rw [hd.1]
      exact ⟨h1, h2.1⟩
  · rintro ⟨h1, h2⟩
    refine ⟨K.length, by simp, by simpa using h1, ?_⟩
    rw [List.drop_left, gl_one hv, h2]
    rfl
theorem gl_last_short {P : Wds} {v : List UInt8} (hv : v ≠ [35]) : gl (P ++ [v]) [] = false := by
  apply Bool.eq_false_iff.2
  intro h
  obtain ⟨j, _, _, h2⟩ := gl_split.1 h
  rw [List.drop_nil, gl_short hv] at h2
  cases h2
theorem hash_all (K : Wds) : gl [[35]] K = true := by
  rw [gl_hash, hashL_iff]
  exact ⟨K.length, Nat.le_refl _, by rw [List.drop_of_length_le (Nat.le_refl _)]; rfl⟩
theorem gl_last_hash {P K : Wds} : gl (P ++ [[35]]) K = true ↔ ∃ j, j ≤ K.length ∧ gl P (K.take j) = true := by
  rw [gl_split]
  exact ⟨fun ⟨j, h1, h2, _⟩ => ⟨j, h1, h2⟩, fun ⟨j, h1, h2⟩ => ⟨j, h1, h2, hash_all _⟩⟩
theorem gl_hash_on {P K : Wds} {x : List UInt8} : gl (P ++ [[35]]) (K ++ [x]) = true ↔ gl P (K ++ [x]) = true ∨ gl (P ++ [[35]]) K = true := by
  rw [gl_last_hash, gl_last_hash]
  constructor
  · rintro ⟨j, hj, h⟩
    by_cases e : j = K.length + 1
    · subst e
      rw [List.take_of_length_le (by simp)] at h
      exact .inl h
    · rw [List.length_append, List.length_singleton] at hj
      refine .inr ⟨j, by omega, ?_⟩
      rw [List.take_append_of_le_length (by omega)] at h
      exact h
  · rintro (h | ⟨j, hj, h⟩)
    · exact ⟨K.length + 1, by simp, by rw [List.take_of_length_le (by simp)]; exact h⟩
    · exact ⟨j, by rw [List.length_append]; omega, by rw [List.take_append_of_le_length hj]; exact h⟩
theorem gl_hash_more {P K : Wds} (h : gl P K = true) : gl (P ++ [[35]]) K = true := gl_last_hash.2 ⟨K.length, Nat.le_refl _, by rwa [List.take_of_length_le (Nat.le_refl _)]⟩
theorem gl_hashes {P K : Wds} (h : gl P K = true) (j : Nat) : gl (P ++ List.replicate j [35]) K = true := by
  induction j with
  | zero => simpa using h
  | succ j ih =>
    rw [List.replicate_succ', ← List.append_assoc]
    exact gl_hash_more ih
theorem gl_none {K : Wds} {x : List UInt8} : gl [] (K ++ [x]) = false := by
  rw [gl_nil]
  simp

/-! ### what a walk knows -/
abbrev Kn := Wds → Nat
section
variable {L : List Nd} {tb c : Nat} {K K' K0 : Kn} {n m : Nd}
/-- 1: a hash that is reached; 2: one that leads to nothing but such. -/
structure KOk (L : List Nd) (K : Kn) : Prop where
  two : ∀ n ∈ L, K n.p = 2 → n.i.es = [] ∧ ∀ m ∈ L, ∀ w, m.p = n.p ++ [w] → K m.p ≠ 0
  one : ∀ n ∈ L, K n.p = 1 → ∃ p, n.p = p ++ [[35]]
  few : ∀ p, K p ≤ 2
def Kn.set (K : Kn) (p : Wds) (v : Nat) : Kn := fun q => if q = p then v else K q
theorem Kn.set_same (K : Kn) (p : Wds) (v : Nat) : K.set p v p = v := by simp [Kn.set]
theorem Kn.set_ne (K : Kn) {p q : Wds} (v : Nat) (h : q ≠ p) : K.set p v q = K q := by simp [Kn.set, h]
theorem KOk.zero (L : List Nd) : KOk L (fun _ => 0) := ⟨fun _ _ h => absurd h (by simp), fun _ _ h => absurd h (by simp), fun _ => Nat.zero_le _⟩
/-- A node that leads to no two. -/
theorem TreeOk.only (h : TreeOk L tb c) (hn : n ∈ L) (hl : n.s.es.length ≤ 1) {m m' : Nd} {w w' : List UInt8} (hm : m ∈ L) (hm' : m' ∈ L) (e : m.p = n.p ++ [w]) (e' : m'.p = n.p ++ [w']) : m = m' := by
  have row : ∀ {m : Nd} {w}, m ∈ L → m.p = n.p ++ [w] → (w, np m.b) ∈ n.s.rows := by
    intro m w hm e
    rcases h.ups m hm with ⟨h1, _⟩ | ⟨q, hq, w', h1, _, h2⟩
    · rw [h1] at e; simp at e
    · rw [h1] at e
      obtain ⟨e1, rfl⟩ := snoc_inj e
      obtain rfl := map_inj h.paths hq hn e1
      exact h2
  have h1 := row hm e
  have h2 := row hm' e'
  have hl2 : n.s.rows.length ≤ 1 := by simpa [Tb.rows] using hl
  cases hr : n.s.rows with
  | nil => rw [hr] at h1; simp at h1
  | cons a r =>
    rw [hr] at h1 h2 hl2
    have : r = [] := List.eq_nil_of_length_eq_zero (by rw [List.length_cons] at hl2; omega)
    subst this
    rw [List.mem_singleton] at h1 h2
    have e3 := h1.trans h2.symm
    rw [Prod.mk.injEq] at e3
    rw [e3.1, ← e'] at e
    exact map_inj h.paths hm hm' e
/-- One that is passed. -/
theorem KOk.pass (h : KOk L K) (ht : TreeOk L tb c) (hn : n ∈ L) (hi : n.i.es = []) (hl : n.s.es.length ≤ 1) {m : Nd} {w : List UInt8} (hm : m ∈ L) (e : m.p = n.p ++ [w]) (hk : K m.p ≠ 0) : KOk L (K.set n.p 2) := by
  have up : ∀ q, K q ≠ 0 → K.set n.p 2 q ≠ 0 := fun q hq => by
    unfold Kn.set
    split
    · decide
    · exact hq
  refine ⟨fun x hx h2 => ?_, fun x hx h1 => ?_, fun p => ?_⟩
  · by_cases hxn : x.p = n.p
    · obtain rfl := map_inj ht.paths hx hn hxn
      exact ⟨hi, fun y hy w' e' => up _ (by rw [← ht.only hn hl hm hy e e']; exact hk)⟩
    · rw [Kn.set_ne _ _ hxn] at h2
      obtain ⟨g1, g2⟩ := h.two x hx h2
      exact ⟨g1, fun y hy w' e' => up _ (g2 y hy w' e')⟩
  · by_cases hxn : x.p = n.p
    · rw [hxn, Kn.set_same] at h1; cases h1
    · rw [Kn.set_ne _ _ hxn] at h1
      exact h.one x hx h1
  · unfold Kn.set
    split
    · decide
    · exact h.few p
/-- A hash that is reached. -/
theorem KOk.reach (h : KOk L K) (ht : TreeOk L tb c) (hn : n ∈ L) {p : Wds} (e : n.p = p ++ [[35]]) : KOk L (K.set n.p 1) := by
  have up : ∀ q, K q ≠ 0 → K.set n.p 1 q ≠ 0 := fun q hq => by
    unfold Kn.set
    split
    · decide
    · exact hq
  refine ⟨fun x hx h2 => ?_, fun x hx h1 => ?_, fun p => ?_⟩
  · by_cases hxn : x.p = n.p
    · rw [hxn, Kn.set_same] at h2; cases h2
    · rw [Kn.set_ne _ _ hxn] at h2
      obtain ⟨g1, g2⟩ := h.two x hx h2
      exact ⟨g1, fun y hy w' e' => up _ (g2 y hy w' e')⟩
  · by_cases hxn : x.p = n.p
    · exact ⟨p, hxn.trans e⟩
    · rw [Kn.set_ne _ _ hxn] at h1
      exact h.one x hx h1
  · unfold Kn.set
    split
    · decide
    · exact h.few p

/-- What pass turns. -/
def PassK (K K' : Kn) : Prop := ∀ q, K' q = K q ∨ K' q = 2
theorem PassK.refl (K : Kn) : PassK K K := fun _ => .inl rfl
theorem PassK.step (h : PassK K0 K) (p : Wds) : PassK K0 (K.set p 2) := fun q => by
  unfold Kn.set
  split
  · exact .inr rfl
  · exact h q
theorem PassK.up (h : PassK K K') {q : Wds} (hq : K q ≠ 0) : K' q ≠ 0 := by
  rcases h q with e | e <;> rw [e]
  · exact hq
  · decide

/-- What reach turns: X lies ahead now, o is where it looks next. -/
structure ReachOk (L : List Nd) (K0 : Kn) (A : List Nd) (o0 : Option Nd) (K : Kn) (X : List Nd) (o : Option Nd) : Prop where
  ok : KOk L K
  nodup : (A ++ X).Nodup
  mem : ∀ y ∈ A ++ X, y ∈ L
  hash : ∀ y ∈ A ++ X, ∀ p, y.p = p ++ [[35]] → K y.p ≠ 0
  turn : ∀ q, K q = K0 q ∨ K q = 2 ∨ (K0 q = 0 ∧ ∃ y ∈ X, y.p = q)
  zero : ∀ y ∈ X, K0 y.p = 0
  form : ∀ y ∈ X, ∃ n j, o0 = some n ∧ y.p = n.p ++ List.replicate j [35]
  next : ∀ y, o = some y → y ∈ L ∧ (K y.p = 0 → y ∉ A ++ X) ∧ ∃ n j, o0 = some n ∧ y.p = n.p ++ List.replicate j [35]
  first : ∀ n, o0 = some n → (X = [] ∧ o = some n) ∨ n ∈ X
  kids : ∀ y ∈ X, ∀ z ∈ L, z.p = y.p ++ [[35]] → K z.p ≠ 0 ∨ o = some z
variable {A X : List Nd} {o0 o : Option Nd}
theorem ReachOk.start (h : KOk L K) (hn : A.Nodup) (hm : ∀ y ∈ A, y ∈ L) (hh : ∀ y ∈ A, ∀ p, y.p = p ++ [[35]] → K y.p ≠ 0) (ho : ∀ y, o = some y → y ∈ L ∧ (K y.p = 0 → y ∉ A)) : ReachOk L K A o K [] o :=
  ⟨h, by simpa using hn, by simpa using hm, by simpa using hh, fun q => .inl rfl, by simp, by simp,
    fun y hy => ⟨(ho y hy).1, by simpa using (ho y hy).2, y, 0, hy, by simp⟩, fun n hn => .inl ⟨rfl, hn⟩, by simp⟩
theorem ReachOk.up (h : ReachOk L K0 A o0 K X o) {q : Wds} (hq : K0 q ≠ 0) : K q ≠ 0 := by
  rcases h.turn q with e | e | ⟨e, _⟩
  · rw [e]; exact hq
  · rw [e]; decide
  · exact absurd e hq
/-- A step: the node y is laid ahead; its hash, if there is one, is next. K' : what is known then. -/
theorem ReachOk.step (h : ReachOk L K0 A o0 K X (some n)) (ht : TreeOk L tb c) (hz : K n.p = 0) (hk : KOk L K')
    (ht2 : ∀ q, K' q = K q ∨ K' q = 2 ∨ q = n.p) (hp : ∀ p, n.p = p ++ [[35]] → K' n.p ≠ 0) (hnn : (∀ p, n.p ≠ p ++ [[35]]) → K' n.p = K n.p ∨ K' n.p = 2) : ReachOk L K0 A o0 K' (X ++ [n]) (nd L (n.p ++ [[35]])) := by
  obtain ⟨hnL, hnA, nf⟩ := h.next n rfl
  have hnA := hnA hz
  have e0 : A ++ (X ++ [n]) = (A ++ X) ++ [n] := by simp
  have up : ∀ q, K q ≠ 0 → K' q ≠ 0 := by
    intro q hq
    rcases ht2 q with e | e | e
    · rw [e]; exact hq
    · rw [e]; decide
    · rw [e] at hq; exact absurd hz hq
  have hash' : ∀ y ∈ A ++ (X ++ [n]), ∀ p, y.p = p ++ [[35]] → K' y.p ≠ 0 := by
    rw [e0]
    intro y hy p hyp
    rcases List.mem_append.1 hy with hy | hy
    · exact up _ (h.hash y hy p hyp)
    · rw [List.mem_singleton] at hy
      subst hy
      exact hp p hyp
  refine ⟨hk, ?_, ?_, hash', ?_, ?_, ?_, ?_, ?_, ?_⟩
  · rw [e0, List.nodup_append]
    exact ⟨h.nodup, by simp, by rintro a ha b hb rfl; rw [List.mem_singleton] at hb; subst hb; exact hnA ha⟩
  · rw [e0]
    intro y hy
    rcases List.mem_append.1 hy with hy | hy
    · exact h.mem y hy
    · rw [List.mem_singleton] at hy
      subst hy
      exact hnL
  · intro q
    by_cases hq : q = n.p
    · subst hq
      rcases h.turn n.p with e | e | ⟨e, _⟩
      · exact .inr (.inr ⟨e ▸ hz, n, by simp, rfl⟩)
      · rw [hz] at e; cases e
      · exact .inr (.inr ⟨e, n, by simp, rfl⟩)
    · rcases ht2 q with e | e | e
      · rcases h.turn q with g | g | ⟨g, y, hy, g2⟩
        · exact .inl (e.trans g)
        · exact .inr (.inl (e.trans g))
        · exact .inr (.inr ⟨g, y, by simp [hy], g2⟩)
      · exact .inr (.inl e)
      · exact absurd e hq
  · intro y hy
    rcases List.mem_append.1 hy with hy | hy
    · exact h.zero y hy
    · rw [List.mem_singleton] at hy
      subst hy
      rcases h.turn y.p with e | e | ⟨e, _⟩
      · rw [← e, hz]
      · rw [hz] at e; cases e
      · exact e
  · intro y hy
    rcases List.mem_append.1 hy with hy | hy
    · exact h.form y hy
    · rw [List.mem_singleton] at hy
      subst hy
      exact nf
  · intro y hy
    obtain ⟨h1, h2⟩ := nd_mem hy
    refine ⟨h1, fun hz hin => hash' y hin n.p h2 hz, ?_⟩
    obtain ⟨x, j, e1, e2⟩ := nf
    refine ⟨x, j + 1, e1, ?_⟩
    rw [h2, e2, List.replicate_succ', List.append_assoc]
  · intro x hx
    rcases h.first x hx with ⟨_, e⟩ | e
    · cases e
      exact .inr (by simp)
    · exact .inr (by simp [e])
  · intro y hy z hz2 hzp
    rcases List.mem_append.1 hy with hy | hy
    · rcases h.kids y hy z hz2 hzp with e | e
      · exact .inl (up _ e)
      · cases e
        exact .inl (hp _ hzp)
    · rw [List.mem_singleton] at hy
      subst hy
      right
      rw [← hzp]
      exact ht.nd_some hz2
end
end Go.Proofs.Ytbfelfejelkdpaa
