/- Sets of numbers as rows, as plain data: canonical rows, which numbers lie in them, how many there are, joining and cutting. -/
import Derived.Test.YtdkchcbmhmlhnaaOwn
namespace Go.Proofs.Ytdkchcbmhmlhnaa

abbrev Row := Int × Int
def Inn (l : List Row) (k : Int) : Prop := ∃ r ∈ l, r.1 ≤ k ∧ k ≤ r.2
structure Canon (l : List Row) : Prop where
  fit : ∀ r ∈ l, 1 ≤ r.1 ∧ r.1 ≤ r.2 ∧ r.2 ≤ 1000000
  apart : l.Pairwise fun a b => a.2 + 1 < b.1

theorem inn_nil (k : Int) : ¬ Inn [] k := by simp [Inn]
theorem inn_cons (r : Row) (l : List Row) (k : Int) : Inn (r :: l) k ↔ (r.1 ≤ k ∧ k ≤ r.2) ∨ Inn l k := by simp [Inn]
theorem inn_append (l m : List Row) (k : Int) : Inn (l ++ m) k ↔ Inn l k ∨ Inn m k := by
  simp only [Inn, List.mem_append]
  constructor
  · rintro ⟨r, h | h, h2⟩
    · exact .inl ⟨r, h, h2⟩
    · exact .inr ⟨r, h, h2⟩
  · rintro (⟨r, h, h2⟩ | ⟨r, h, h2⟩)
    · exact ⟨r, .inl h, h2⟩
    · exact ⟨r, .inr h, h2⟩

theorem canon_nil : Canon [] := ⟨by simp, .nil⟩
theorem Canon.tail {r : Row} {l : List Row} (h : Canon (r :: l)) : Canon l := ⟨fun x hx => h.fit x (by simp [hx]), (List.pairwise_cons.1 h.apart).2⟩
theorem Canon.head {r : Row} {l : List Row} (h : Canon (r :: l)) : ∀ x ∈ l, r.2 + 1 < x.1 := (List.pairwise_cons.1 h.apart).1
theorem Canon.inn_tail {r : Row} {l : List Row} (h : Canon (r :: l)) {k : Int} (hk : Inn l k) : r.2 + 1 < k := by
  obtain ⟨x, hx, h1, h2⟩ := hk
  have := h.head x hx
  omega
theorem Canon.inn_fit {l : List Row} (h : Canon l) {k : Int} (hk : Inn l k) : 1 ≤ k ∧ k ≤ 1000000 := by
  obtain ⟨x, hx, h1, h2⟩ := hk
  have := h.fit x hx
  omega

/-- Of a set there is one way only to write it in rows. -/
theorem Canon.uniq : ∀ {l m : List Row}, Canon l → Canon m → (∀ k, Inn l k ↔ Inn m k) → l = m
  | [], [], _, _, _ => rfl
  | [], r :: m, _, hm, h => by
    have hf := hm.fit r (by simp)
    exact absurd ((h r.1).2 ((inn_cons _ _ _).2 (.inl ⟨Int.le_refl _, hf.2.1⟩))) (inn_nil _)
  | r :: l, [], hl, _, h => by
    have hf := hl.fit r (by simp)
    exact absurd ((h r.1).1 ((inn_cons _ _ _).2 (.inl ⟨Int.le_refl _, hf.2.1⟩))) (inn_nil _)
  | r :: l, s :: m, hl, hm, h => by
    have fr := hl.fit r (by simp)
    have fs := hm.fit s (by simp)
    have hr : ∀ k, Inn (r :: l) k → r.1 ≤ k := fun k hk => by
      rcases (inn_cons _ _ _).1 hk with h1 | h1
      · exact h1.1
      · have := hl.inn_tail h1; omega
    have hs : ∀ k, Inn (s :: m) k → s.1 ≤ k := fun k hk => by
      rcases (inn_cons _ _ _).1 hk with h1 | h1
      · exact h1.1
      · have := hm.inn_tail h1; omega
    have e1 : r.1 = s.1 := by
      have h1 := hs r.1 ((h r.1).1 ((inn_cons _ _ _).2 (.inl ⟨Int.le_refl _, fr.2.1⟩)))
      have h2 := hr s.1 ((h s.1).2 ((inn_cons _ _ _).2 (.inl ⟨Int.le_refl _, fs.2.1⟩)))
      omega
    have nr : ¬ Inn (r :: l) (r.2 + 1) := fun hk => by
      rcases (inn_cons _ _ _).1 hk with h1 | h1
      · omega
      · have := hl.inn_tail h1; omega
    have ns : ¬ Inn (s :: m) (s.2 + 1) := fun hk => by
      rcases (inn_cons _ _ _).1 hk with h1 | h1
      · omega
      · have := hm.inn_tail h1; omega
    have e2 : r.2 = s.2 := by
      rcases Int.lt_trichotomy r.2 s.2 with h1 | h1 | h1
      · exact absurd ((h _).2 ((inn_cons _ _ _).2 (.inl ⟨by omega, by omega⟩))) nr
      · exact h1
      · exact absurd ((h _).1 ((inn_cons _ _ _).2 (.inl ⟨by omega, by omega⟩))) ns
    have e : r = s := Prod.ext e1 e2
    subst e
    congr 1
    refine hl.tail.uniq hm.tail fun k => ?_
    have hk := h k
    rw [inn_cons, inn_cons] at hk
    constructor
    · intro h1
      have := hl.inn_tail h1
      rcases hk.1 (.inr h1) with h2 | h2
      · omega
      · exact h2
    · intro h1
      have := hm.inn_tail h1
      rcases hk.2 (.inr h1) with h2 | h2
      · omega
      · exact h2

/-! ### how many -/
def cnt (l : List Row) : Int := (l.map fun r => r.2 - r.1 + 1).sum
theorem cnt_nil : cnt [] = 0 := rfl
theorem cnt_cons (r : Row) (l : List Row) : cnt (r :: l) = (r.2 - r.1 + 1) + cnt l := by simp [cnt]
theorem cnt_append (l m : List Row) : cnt (l ++ m) = cnt l + cnt m := by simp [cnt]

def nump (p : Nat → Prop) [DecidablePred p] : Nat → Int
  | 0 => 0
  | n + 1 => nump p n + if p n then 1 else 0

section
variable {p q s : Nat → Prop} [DecidablePred p] [DecidablePred q] [DecidablePred s]
theorem nump_congr : ∀ {n : Nat}, (∀ k, k < n → (p k ↔ q k)) → nump p n = nump q n
  | 0, _ => rfl
  | n + 1, h => by
    unfold nump
    rw [nump_congr fun k hk => h k (by omega)]
    by_cases hp : p n
    · rw [if_pos hp, if_pos ((h n (by omega)).1 hp)]
    · rw [if_neg hp, if_neg fun hq => hp ((h n (by omega)).2 hq)]
theorem nump_le : ∀ {n : Nat}, (∀ k, k < n → p k → q k) → nump p n ≤ nump q n
  | 0, _ => Int.le_refl _
  | n + 1, h => by
    unfold nump
    have := nump_le (n := n) fun k hk => h k (by omega)
    by_cases hp : p n
    · rw [if_pos hp, if_pos (h n (by omega) hp)]; omega
    · rw [if_neg hp]; split <;> omega
theorem nump_or : ∀ {n : Nat}, (∀ k, k < n → (s k ↔ p k ∨ q k)) → (∀ k, k < n → p k → ¬ q k) → nump s n = nump p n + nump q n
  | 0, _, _ => rfl
  | n + 1, h, hd => by
    unfold nump
    rw [nump_or (fun k hk => h k (by omega)) fun k hk => hd k (by omega)]
    have h1 := h n (by omega)
    have h2 := hd n (by omega)
    by_cases hp : p n <;> by_cases hq : q n
    · exact absurd hq (h2 hp)
    · rw [if_pos (h1.2 (.inl hp)), if_pos hp, if_neg hq]; omega
    · rw [if_pos (h1.2 (.inr hq)), if_neg hp, if_pos hq]; omega
    · rw [if_neg fun hs => (h1.1 hs).elim hp hq, if_neg hp, if_neg hq]; omega
theorem nump_none : ∀ {n : Nat}, (∀ k, k < n → ¬ p k) → nump p n = 0
  | 0, _ => rfl
  | n + 1, h => by
    unfold nump
    rw [nump_none fun k hk => h k (by omega), if_neg (h n (by omega))]; rfl
theorem nump_nonneg : ∀ {n : Nat}, 0 ≤ nump p n
  | 0 => Int.le_refl _
  | n + 1 => by
    unfold nump
    have := nump_nonneg (n := n)
    split <;> omega
theorem nump_most : ∀ {n : Nat}, nump p n ≤ n
  | 0 => Int.le_refl _
  | n + 1 => by
    unfold nump
    have := nump_most (n := n)
    split <;> omega
end
theorem nump_row (a b : Int) (h0 : 0 ≤ a) (h1 : a ≤ b + 1) : ∀ (n : Nat), nump (fun k => a ≤ (k : Int) ∧ (k : Int) ≤ b) n = max 0 (min (n : Int) (b + 1) - a)
  | 0 => by unfold nump; omega
  | n + 1 => by
    unfold nump
    rw [nump_row a b h0 h1 n]
    split <;> omega

open Classical in
theorem Canon.num : ∀ {l : List Row}, Canon l → ∀ (n : Nat), (∀ k, Inn l k → k < n) → cnt l = Go.Proofs.Ytdkchcbmhmlhnaa.nump (fun k => Inn l (k : Int)) n
  | [], _, n, _ => by rw [cnt_nil, nump_none]; exact fun k _ => inn_nil _
  | r :: l, h, n, hn => by
    have hf := h.fit r (by simp)
    have hr := hn r.2 ((inn_cons _ _ _).2 (.inl ⟨hf.2.1, Int.le_refl _⟩))
    rw [cnt_cons, h.tail.num n fun k hk => hn k ((inn_cons _ _ _).2 (.inr hk)),
      nump_or (p := fun k => r.1 ≤ (k : Int) ∧ (k : Int) ≤ r.2) (q := fun k => Inn l (k : Int)) (fun k _ => inn_cons _ _ _) (fun k _ h1 h2 => by have := h.inn_tail h2; omega),
      nump_row r.1 r.2 (by omega) (by omega)]
    omega

theorem Canon.cnt_le {l m : List Row} (hl : Canon l) (hm : Canon m) (h : ∀ k, Inn l k → Inn m k) : cnt l ≤ cnt m := by
  classical
  rw [hl.num 1000001 fun k hk => by have := hl.inn_fit hk; omega, hm.num 1000001 fun k hk => by have := hm.inn_fit hk; omega]
  exact nump_le fun k _ => h k
theorem Canon.cnt_bd {l : List Row} (hl : Canon l) : 0 ≤ cnt l ∧ cnt l ≤ 1000001 := by
  classical
  rw [hl.num 1000001 fun k hk => by have := hl.inn_fit hk; omega]
  exact ⟨nump_nonneg, nump_most⟩
theorem Canon.len_le : ∀ {l : List Row}, Canon l → (l.length : Int) ≤ cnt l
  | [], _ => by simp [cnt]
  | r :: l, h => by
    have := h.tail.len_le
    have := h.fit r (by simp)
    rw [cnt_cons, List.length_cons]
    omega
theorem Canon.len_bd {l : List Row} (hl : Canon l) : l.length ≤ 1000001 := by
  have := hl.len_le
  have := hl.cnt_bd
  omega

/-! ### the three parts of a set, seen from a row -/
theorem Canon.parts {A M C : List Row} (h : Canon (A ++ (M ++ C))) :
    Canon A ∧ Canon M ∧ Canon C ∧ (∀ a ∈ A, ∀ m ∈ M, a.2 + 1 < m.1) ∧ (∀ a ∈ A, ∀ c ∈ C, a.2 + 1 < c.1) ∧ (∀ m ∈ M, ∀ c ∈ C, m.2 + 1 < c.1) := by
  obtain ⟨hf, hp⟩ := h
  obtain ⟨pA, pMC, pX⟩ := List.pairwise_append.1 hp
  obtain ⟨pM, pC, pY⟩ := List.pairwise_append.1 pMC
  refine ⟨⟨fun r hr => hf r (by simp [hr]), pA⟩, ⟨fun r hr => hf r (by simp [hr]), pM⟩, ⟨fun r hr => hf r (by simp [hr]), pC⟩, fun a ha m hm => pX a ha m (by simp [hm]), fun a ha m hm => pX a ha m (by simp [hm]), pY⟩
theorem Canon.whole {A M C : List Row} (hA : Canon A) (hM : Canon M) (hC : Canon C) (h1 : ∀ a ∈ A, ∀ m ∈ M, a.2 + 1 < m.1) (h2 : ∀ a ∈ A, ∀ c ∈ C, a.2 + 1 < c.1) (h3 : ∀ m ∈ M, ∀ c ∈ C, m.2 + 1 < c.1) :
    Canon (A ++ (M ++ C)) := by
  refine ⟨fun r hr => ?_, List.pairwise_append.2 ⟨hA.apart, List.pairwise_append.2 ⟨hM.apart, hC.apart, h3⟩, fun a ha m hm => ?_⟩⟩
  · rcases List.mem_append.1 hr with h | h
    · exact hA.fit r h
    · rcases List.mem_append.1 h with h | h
      · exact hM.fit r h
      · exact hC.fit r h
  · rcases List.mem_append.1 hm with h | h
    · exact h1 a ha m h
    · exact h2 a ha m h

/-! ### a row is joined -/
def joinR (j r : Row) : Row := (min j.1 r.1, max j.2 r.2)
def joinAll (j : Row) (M : List Row) : Row := M.foldl joinR j
theorem joinAll_snoc (j : Row) (M : List Row) (r : Row) : joinAll j (M ++ [r]) = joinR (joinAll j M) r := by simp [joinAll]
theorem joinAll_is (j : Row) : ∀ (M : List Row), (joinAll j M).1 ≤ j.1 ∧ j.2 ≤ (joinAll j M).2 ∧ ((joinAll j M).1 = j.1 ∨ ∃ m ∈ M, (joinAll j M).1 = m.1) ∧ ((joinAll j M).2 = j.2 ∨ ∃ m ∈ M, (joinAll j M).2 = m.2) ∧
    (∀ m ∈ M, (joinAll j M).1 ≤ m.1 ∧ m.2 ≤ (joinAll j M).2) := by
  intro M
  induction M generalizing j with
  | nil => simp [joinAll]
  | cons r M ih =>
    obtain ⟨h1, h2, h3, h4, h5⟩ := ih (joinR j r)
    have e : joinAll j (r :: M) = joinAll (joinR j r) M := rfl
    rw [e]
    have j1 : (joinR j r).1 = min j.1 r.1 := rfl
    have j2 : (joinR j r).2 = max j.2 r.2 := rfl
    refine ⟨by omega, by omega, ?_, ?_, ?_⟩
    · rcases h3 with h3 | ⟨m, hm, h3⟩
      · by_cases hc : j.1 ≤ r.1
        · exact .inl (by omega)
        · exact .inr ⟨r, by simp, by omega⟩
      · exact .inr ⟨m, by simp [hm], h3⟩
    · rcases h4 with h4 | ⟨m, hm, h4⟩
      · by_cases hc : r.2 ≤ j.2
        · exact .inl (by omega)
        · exact .inr ⟨r, by simp, by omega⟩
      · exact .inr ⟨m, by simp [hm], h4⟩
    · intro m hm
      rcases List.mem_cons.1 hm with rfl | hm
      · exact ⟨by omega, by omega⟩
      · exact h5 m hm

theorem joined_canon {A M C : List Row} (h : Canon (A ++ (M ++ C))) (lo hi : Int) (h0 : 1 ≤ lo) (h1 : lo ≤ hi) (h2 : hi ≤ 1000000) (hA : ∀ a ∈ A, a.2 < lo - 1) (hC : ∀ c ∈ C, hi + 1 < c.1) :
    Canon (A ++ ([joinAll (lo, hi) M] ++ C)) := by
  obtain ⟨cA, cM, cC, p1, p2, p3⟩ := h.parts
  obtain ⟨g1, g2, g3, g4, g5⟩ := joinAll_is (lo, hi) M
  generalize joinAll (lo, hi) M = J at *
  simp only at g1 g2 g3 g4
  refine Canon.whole cA ⟨fun r hr => ?_, by simp⟩ cC (fun a ha m hm => ?_) p2 (fun m hm c hc => ?_)
  · obtain rfl := List.mem_singleton.1 hr
    refine ⟨?_, by omega, ?_⟩
    · rcases g3 with g | ⟨m, hm, g⟩
      · omega
      · have := cM.fit m hm; omega
    · rcases g4 with g | ⟨m, hm, g⟩
      · omega
      · have := cM.fit m hm; omega
  · obtain rfl := List.mem_singleton.1 hm
    have := hA a ha
    rcases g3 with g | ⟨m', hm', g⟩
    · omega
    · have := p1 a ha m' hm'; omega
  · obtain rfl := List.mem_singleton.1 hm
    have := hC c hc
    rcases g4 with g | ⟨m', hm', g⟩
    · omega
    · have := p3 m' hm' c hc; omega
theorem joined_inn {A M C : List Row} (lo hi : Int) (hM : ∀ m ∈ M, lo - 1 ≤ m.2 ∧ m.1 ≤ hi + 1) (k : Int) :
    Inn (A ++ ([joinAll (lo, hi) M] ++ C)) k ↔ Inn (A ++ (M ++ C)) k ∨ (lo ≤ k ∧ k ≤ hi) := by
  obtain ⟨g1, g2, g3, g4, g5⟩ := joinAll_is (lo, hi) M
  generalize joinAll (lo, hi) M = J at *
  simp only at g1 g2 g3 g4
  simp only [inn_append]
  have key : Inn [J] k ↔ Inn M k ∨ (lo ≤ k ∧ k ≤ hi) := by
    constructor
    · rintro ⟨r, hr, k1, k2⟩
      obtain rfl := List.mem_singleton.1 hr
      by_cases c1 : lo ≤ k
      · by_cases c2 : k ≤ hi
        · exact .inr ⟨c1, c2⟩
        · rcases g4 with g | ⟨m, hm, g⟩
          · omega
          · exact .inl ⟨m, hm, by have := (hM m hm).2; omega, by omega⟩
      · rcases g3 with g | ⟨m, hm, g⟩
        · omega
        · exact .inl ⟨m, hm, by omega, by have := (hM m hm).1; omega⟩
    · rintro (⟨m, hm, k1, k2⟩ | ⟨k1, k2⟩)
      · have := g5 m hm
        exact ⟨J, by simp, by omega, by omega⟩
      · exact ⟨J, by simp, by omega, by omega⟩
  rw [key]
  constructor
  · rintro (h | (h | h) | h)
    · exact .inl (.inl h)
    · exact .inl (.inr (.inl h))
    · exact .inr h
    · exact .inl (.inr (.inr h))
  · rintro ((h | h | h) | h)
    · exact .inl h
    · exact .inr (.inl (.inl h))
    · exact .inr (.inr h)
    · exact .inr (.inl (.inr h))

/-! ### a row is cut -/
def pieces (lo hi : Int) (r : Row) : List Row := (if r.1 < lo then [(r.1, lo - 1)] else []) ++ (if hi < r.2 then [(hi + 1, r.2)] else [])
theorem mem_pieces {lo hi : Int} {r x : Row} (h : x ∈ pieces lo hi r) : (r.1 < lo ∧ x = (r.1, lo - 1)) ∨ (hi < r.2 ∧ x = (hi + 1, r.2)) := by
  unfold pieces at h
  rcases List.mem_append.1 h with h | h
  · split at h
    · exact .inl ⟨by assumption, List.mem_singleton.1 h⟩
    · simp at h
  · split at h
    · exact .inr ⟨by assumption, List.mem_singleton.1 h⟩
    · simp at h
theorem pieces_1 {lo hi : Int} {r : Row} (h : r.1 < lo) : (r.1, lo - 1) ∈ pieces lo hi r := by simp [pieces, h]
theorem pieces_2 {lo hi : Int} {r : Row} (h : hi < r.2) : (hi + 1, r.2) ∈ pieces lo hi r := by simp [pieces, h]
def cutAll (lo hi : Int) (M : List Row) : List Row := M.flatMap (pieces lo hi)
theorem cutAll_snoc (lo hi : Int) (M : List Row) (r : Row) : cutAll lo hi (M ++ [r]) = cutAll lo hi M ++ pieces lo hi r := by simp [cutAll]
theorem cutAll_canon {lo hi : Int} (h1 : lo ≤ hi) (h0 : 1 ≤ lo) (h2 : hi ≤ 1000000) : ∀ {M : List Row}, Canon M → (∀ m ∈ M, lo ≤ m.2 ∧ m.1 ≤ hi) → Canon (cutAll lo hi M) ∧ ∀ x ∈ cutAll lo hi M, ∃ m ∈ M, m.1 ≤ x.1 ∧ x.2 ≤ m.2
  | [], _, _ => ⟨canon_nil, by simp [cutAll]⟩
  | r :: M, h, hM => by
    obtain ⟨c, hx⟩ := cutAll_canon h1 h0 h2 h.tail fun m hm => hM m (by simp [hm])
    have hf := h.fit r (by simp)
    have hr := hM r (by simp)
    have e : cutAll lo hi (r :: M) = pieces lo hi r ++ cutAll lo hi M := rfl
    have hp : ∀ x ∈ pieces lo hi r, r.1 ≤ x.1 ∧ x.2 ≤ r.2 ∧ x.1 ≤ x.2 ∧ 1 ≤ x.1 ∧ x.2 ≤ 1000000 := fun x hx => by
      rcases mem_pieces hx with ⟨h, rfl⟩ | ⟨h, rfl⟩ <;> simp only <;> omega
    have pp : (pieces lo hi r).Pairwise fun a b => a.2 + 1 < b.1 := by
      unfold pieces
      split <;> split <;> simp
      omega
    rw [e]
    refine ⟨⟨fun x hx' => ?_, List.pairwise_append.2 ⟨pp, c.apart, fun a ha b hb => ?_⟩⟩, fun x hx' => ?_⟩
    · rcases List.mem_append.1 hx' with h | h
      · have := hp x h; omega
      · exact c.fit x h
    · obtain ⟨m, hm, g1, g2⟩ := hx b hb
      have := hp a ha
      have := h.head m hm
      omega
    · rcases List.mem_append.1 hx' with h | h
      · exact ⟨r, by simp, (hp x h).1, (hp x h).2.1⟩
      · obtain ⟨m, hm, g⟩ := hx x h
        exact ⟨m, by simp [hm], g⟩
theorem cut_canon {A M C : List Row} (h : Canon (A ++ (M ++ C))) (lo hi : Int) (h0 : 1 ≤ lo) (h1 : lo ≤ hi) (h2 : hi ≤ 1000000) (hM : ∀ m ∈ M, lo ≤ m.2 ∧ m.1 ≤ hi) : Canon (A ++ (cutAll lo hi M ++ C)) := by
  obtain ⟨cA, cM, cC, p1, p2, p3⟩ := h.parts
  obtain ⟨c, hx⟩ := cutAll_canon h1 h0 h2 cM hM
  refine Canon.whole cA c cC (fun a ha x hx' => ?_) p2 (fun x hx' c hc => ?_)
  · obtain ⟨m, hm, g⟩ := hx x hx'
    have := p1 a ha m hm; omega
  · obtain ⟨m, hm, g⟩ := hx x hx'
    have := p3 m hm c hc; omega
theorem cutAll_inn {lo hi : Int} {M : List Row} (hM : ∀ m ∈ M, lo ≤ m.2 ∧ m.1 ≤ hi) (k : Int) : Inn (cutAll lo hi M) k ↔ Inn M k ∧ ¬ (lo ≤ k ∧ k ≤ hi) := by
  constructor
  · rintro ⟨x, hx, k1, k2⟩
    obtain ⟨m, hm, hp⟩ := List.mem_flatMap.1 hx
    have := hM m hm
    rcases mem_pieces hp with ⟨h, rfl⟩ | ⟨h, rfl⟩
    · simp only at k1 k2
      exact ⟨⟨m, hm, by omega, by omega⟩, by omega⟩
    · simp only at k1 k2
      exact ⟨⟨m, hm, by omega, by omega⟩, by omega⟩
  · rintro ⟨⟨m, hm, k1, k2⟩, hn⟩
    by_cases hk : k < lo
    · exact ⟨_, List.mem_flatMap.2 ⟨m, hm, pieces_1 (by omega)⟩, k1, by simp only; omega⟩
    · exact ⟨_, List.mem_flatMap.2 ⟨m, hm, pieces_2 (by omega)⟩, by simp only; omega, k2⟩
theorem cut_inn {A M C : List Row} (lo hi : Int) (hA : ∀ a ∈ A, a.2 < lo) (hM : ∀ m ∈ M, lo ≤ m.2 ∧ m.1 ≤ hi) (hC : ∀ c ∈ C, hi < c.1) (k : Int) :
    Inn (A ++ (cutAll lo hi M ++ C)) k ↔ Inn (A ++ (M ++ C)) k ∧ ¬ (lo ≤ k ∧ k ≤ hi) := by
  simp only [inn_append, cutAll_inn hM]
  constructor
  · rintro (⟨r, hr, h⟩ | h | ⟨r, hr, h⟩)
    · have := hA r hr
      exact ⟨.inl ⟨r, hr, h⟩, by omega⟩
    · exact ⟨.inr (.inl h.1), h.2⟩
    · have := hC r hr
      exact ⟨.inr (.inr ⟨r, hr, h⟩), by omega⟩
  · rintro ⟨h | h | h, hn⟩
    · exact .inl h
    · exact .inr (.inl ⟨h, hn⟩)
    · exact .inr (.inr h)
end Go.Proofs.Ytdkchcbmhmlhnaa
