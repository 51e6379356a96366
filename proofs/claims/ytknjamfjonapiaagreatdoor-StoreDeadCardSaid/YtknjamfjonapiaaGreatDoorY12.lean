import Derived.Test.YtknjamfjonapiaaGreatDoorY11
import Derived.Test.YtknjamfjonapiaaGreatDoorY03
import Derived.Lib.Strings
import Derived.Lib.Slices
import Derived.Lib.Walk
import Derived.Test.YtknjamfjonapiaaGreatDoorY01
import Derived.Test.YtknjamfjonapiaaGreatDoorY05
import Derived.Test.YtknjamfjonapiaaGreatDoorY07
import Derived.StillTailTactics
namespace Go.Proofs.YtknjamfjonapiaaGreatDoor
open Go.RowKit
set_option linter.unusedVariables false
set_option linter.unusedSectionVars false
set_option linter.unusedSimpArgs false
theorem gl_split {P Q K : Wds} : gl (P ++ Q) K = true ↔ ∃ j, j ≤ K.length ∧ gl P (K.take j) = true ∧ gl Q (K.drop j) = true := by
 induction P generalizing K with
 | nil =>
  constructor
  ·exact fun h => ⟨0, Nat.zero_le _, rfl, h⟩
  ·rintro ⟨j, hj, h1, h2⟩
   rw [gl_nil, List.isEmpty_iff] at h1
   have : j = 0 := by
    have := congrArg List.length h1
    rw [List.length_take, List.length_nil] at this
    omega
   subst this
   exact h2
 | cons p P ih =>
  by_cases hp : p = [35]
  ·subst hp
   rw [List.cons_append, gl_hash, hashL_iff]
   constructor
   ·rintro ⟨i, hi, h⟩
    obtain ⟨j, hj, h1, h2⟩ := ih.1 h
    rw [List.length_drop] at hj
    refine ⟨i + j, by omega, ?_, by rw [← List.drop_drop]; exact h2⟩
    rw [gl_hash, hashL_iff]
    refine ⟨i, by rw [List.length_take]; omega, ?_⟩
    rw [List.drop_take, show i + j - i = j by omega]
    exact h1
   ·rintro ⟨j, hj, h1, h2⟩
    rw [gl_hash, hashL_iff] at h1
    obtain ⟨i, hi, h1⟩ := h1
    rw [List.length_take] at hi
    rw [List.drop_take] at h1
    refine ⟨i, by omega, ih.2 ⟨j - i, by rw [List.length_drop]; omega, h1, ?_⟩⟩
    rw [List.drop_drop, show i + (j - i) = j by omega]
    exact h2
  ·cases K with
   | nil =>
    rw [List.cons_append, gl_short hp]
    constructor
    ·intro h; cases h
    ·rintro ⟨j, hj, h1, _⟩
     rw [List.take_nil, gl_short hp] at h1
     cases h1
   | cons x K =>
    rw [List.cons_append, gl_one hp, Bool.and_eq_true, ih]
    constructor
    ·rintro ⟨h0, j, hj, h1, h2⟩
     exact ⟨j + 1, by rw [List.length_cons]; omega, by rw [List.take_succ_cons, gl_one hp, h0, h1]; rfl, h2⟩
    ·rintro ⟨j, hj, h1, h2⟩
     cases j with
     | zero => rw [List.take_zero, gl_short hp] at h1; cases h1
     | succ j =>
      rw [List.take_succ_cons, gl_one hp, Bool.and_eq_true] at h1
      exact ⟨h1.1, j, by rw [List.length_cons] at hj; omega, h1.2, h2⟩
theorem gl_last_one {P K : Wds} {v x : List UInt8} (hv : v ≠ [35]) : gl (P ++ [v]) (K ++ [x]) = true ↔ gl P K = true ∧ stands v x = true := by
 rw [gl_split]
 constructor
 ·rintro ⟨j, hj, h1, h2⟩
  have hl : (K ++ [x]).length = K.length + 1 := by simp
  cases hd : (K ++ [x]).drop j with
  | nil => rw [hd, gl_short hv] at h2; cases h2
  | cons y Y =>
   rw [hd, gl_one hv, Bool.and_eq_true, gl_nil, List.isEmpty_iff] at h2
   have hn := congrArg List.length hd
   rw [List.length_drop, h2.2] at hn
   simp only [List.length_cons, List.length_nil] at hn
   have e : j = K.length := by omega
   subst e
   simp only [List.take_left] at h1
   simp only [List.drop_left] at hd
   rw [List.cons.injEq] at hd
   rw [hd.1]
   exact ⟨h1, h2.1⟩
 ·rintro ⟨h1, h2⟩
  refine ⟨K.length, by simp, by simpa using h1, ?_⟩
  rw [List.drop_left, gl_one hv, h2]
  rfl
theorem gl_last_short {P : Wds} {v : List UInt8} (hv : v ≠ [35]) : gl (P ++ [v]) [] = false := by
 apply Bool.eq_false_iff.2
 intro h
 obtain ⟨j, _, _, h2⟩ := gl_split.1 h
 rw [List.drop_nil, gl_short hv] at h2
 cases h2
theorem hash_all (K : Wds) : gl [[35]] K = true := by
 rw [gl_hash, hashL_iff]
 exact ⟨K.length, Nat.le_refl _, by rw [List.drop_of_length_le (Nat.le_refl _)]; rfl⟩
theorem gl_last_hash {P K : Wds} : gl (P ++ [[35]]) K = true ↔ ∃ j, j ≤ K.length ∧ gl P (K.take j) = true := by
 rw [gl_split]
 exact ⟨fun ⟨j, h1, h2, _⟩ => ⟨j, h1, h2⟩, fun ⟨j, h1, h2⟩ => ⟨j, h1, h2, hash_all _⟩⟩
theorem gl_hash_on {P K : Wds} {x : List UInt8} : gl (P ++ [[35]]) (K ++ [x]) = true ↔ gl P (K ++ [x]) = true ∨ gl (P ++ [[35]]) K = true := by
 rw [gl_last_hash, gl_last_hash]
 constructor
 ·rintro ⟨j, hj, h⟩
  by_cases e : j = K.length + 1
  ·subst e
   rw [List.take_of_length_le (by simp)] at h
   exact .inl h
  ·rw [List.length_append, List.length_singleton] at hj
   refine .inr ⟨j, by omega, ?_⟩
   rw [List.take_append_of_le_length (by omega)] at h
   exact h
 ·rintro (h | ⟨j, hj, h⟩)
  ·exact ⟨K.length + 1, by simp, by rw [List.take_of_length_le (by simp)]; exact h⟩
  ·exact ⟨j, by rw [List.length_append]; omega, by rw [List.take_append_of_le_length hj]; exact h⟩
theorem gl_hash_more {P K : Wds} (h : gl P K = true) : gl (P ++ [[35]]) K = true := gl_last_hash.2 ⟨K.length, Nat.le_refl _, by rwa [List.take_of_length_le (Nat.le_refl _)]⟩
theorem gl_hashes {P K : Wds} (h : gl P K = true) (j : Nat) : gl (P ++ List.replicate j [35]) K = true := by
 induction j with
 | zero => simpa using h
 | succ j ih =>
  rw [List.replicate_succ', ← List.append_assoc]
  exact gl_hash_more ih
theorem gl_none {K : Wds} {x : List UInt8} : gl [] (K ++ [x]) = false := by
 rw [gl_nil]
 simp
abbrev Kn := Wds → Nat
section
variable {L : List Nd} {tb c : Nat} {K K' K0 : Kn} {n m : Nd}
structure KOk (L : List Nd) (K : Kn) : Prop where
 two : ∀ n ∈ L, K n.p = 2 → n.i.es = [] ∧ ∀ m ∈ L, ∀ w, m.p = n.p ++ [w] → K m.p ≠ 0
 one : ∀ n ∈ L, K n.p = 1 → ∃ p, n.p = p ++ [[35]]
 few : ∀ p, K p ≤ 2
def Kn.set (K : Kn) (p : Wds) (v : Nat) : Kn := fun q => if q = p then v else K q
theorem Kn.set_same (K : Kn) (p : Wds) (v : Nat) : K.set p v p = v := by simp [Kn.set]
theorem Kn.set_ne (K : Kn) {p q : Wds} (v : Nat) (h : q ≠ p) : K.set p v q = K q := by simp [Kn.set, h]
theorem KOk.zero (L : List Nd) : KOk L (fun _ => 0) := ⟨fun _ _ h => absurd h (by simp), fun _ _ h => absurd h (by simp), fun _ => Nat.zero_le _⟩
theorem TreeOk.only (h : TreeOk L tb c) (hn : n ∈ L) (hl : n.s.es.length ≤ 1) {m m' : Nd} {w w' : List UInt8} (hm : m ∈ L) (hm' : m' ∈ L) (e : m.p = n.p ++ [w]) (e' : m'.p = n.p ++ [w']) : m = m' := by
 have row : ∀ {m : Nd} {w}, m ∈ L → m.p = n.p ++ [w] → (w, np m.b) ∈ n.s.rows := by
  intro m w hm e
  rcases h.ups m hm with ⟨h1, _⟩ | ⟨q, hq, w', h1, _, h2⟩
  ·rw [h1] at e; simp at e
  ·rw [h1] at e
   obtain ⟨e1, rfl⟩ := snoc_inj e
   obtain rfl := map_inj h.paths hq hn e1
   exact h2
 have h1 := row hm e
 have h2 := row hm' e'
 have hl2 : n.s.rows.length ≤ 1 := by simpa [Tb.rows] using hl
 cases hr : n.s.rows with
 | nil => rw [hr] at h1; simp at h1
 | cons a r =>
  rw [hr] at h1 h2 hl2
  have : r = [] := List.eq_nil_of_length_eq_zero (by rw [List.length_cons] at hl2; omega)
  subst this
  rw [List.mem_singleton] at h1 h2
  have e3 := h1.trans h2.symm
  rw [Prod.mk.injEq] at e3
  rw [e3.1, ← e'] at e
  exact map_inj h.paths hm hm' e
theorem KOk.pass (h : KOk L K) (ht : TreeOk L tb c) (hn : n ∈ L) (hi : n.i.es = []) (hl : n.s.es.length ≤ 1) {m : Nd} {w : List UInt8} (hm : m ∈ L) (e : m.p = n.p ++ [w]) (hk : K m.p ≠ 0) : KOk L (K.set n.p 2) := by
 have up : ∀ q, K q ≠ 0 → K.set n.p 2 q ≠ 0 := fun q hq => by
  unfold Kn.set
  split
  ·decide
  ·exact hq
 refine ⟨fun x hx h2 => ?_, fun x hx h1 => ?_, fun p => ?_⟩
 ·by_cases hxn : x.p = n.p
  ·obtain rfl := map_inj ht.paths hx hn hxn
   exact ⟨hi, fun y hy w' e' => up _ (by rw [← ht.only hn hl hm hy e e']; exact hk)⟩
  ·rw [Kn.set_ne _ _ hxn] at h2
   obtain ⟨g1, g2⟩ := h.two x hx h2
   exact ⟨g1, fun y hy w' e' => up _ (g2 y hy w' e')⟩
 ·by_cases hxn : x.p = n.p
  ·rw [hxn, Kn.set_same] at h1; cases h1
  ·rw [Kn.set_ne _ _ hxn] at h1
   exact h.one x hx h1
 ·unfold Kn.set
  split
  ·decide
  ·exact h.few p
theorem KOk.reach (h : KOk L K) (ht : TreeOk L tb c) (hn : n ∈ L) {p : Wds} (e : n.p = p ++ [[35]]) : KOk L (K.set n.p 1) := by
 have up : ∀ q, K q ≠ 0 → K.set n.p 1 q ≠ 0 := fun q hq => by
  unfold Kn.set
  split
  ·decide
  ·exact hq
 refine ⟨fun x hx h2 => ?_, fun x hx h1 => ?_, fun p => ?_⟩
 ·by_cases hxn : x.p = n.p
  ·rw [hxn, Kn.set_same] at h2; cases h2
  ·rw [Kn.set_ne _ _ hxn] at h2
   obtain ⟨g1, g2⟩ := h.two x hx h2
   exact ⟨g1, fun y hy w' e' => up _ (g2 y hy w' e')⟩
 ·by_cases hxn : x.p = n.p
  ·exact ⟨p, hxn.trans e⟩
  ·rw [Kn.set_ne _ _ hxn] at h1
   exact h.one x hx h1
 ·unfold Kn.set
  split
  ·decide
  ·exact h.few p
def PassK (K K' : Kn) : Prop := ∀ q, K' q = K q ∨ K' q = 2
theorem PassK.refl (K : Kn) : PassK K K := fun _ => .inl rfl
theorem PassK.step (h : PassK K0 K) (p : Wds) : PassK K0 (K.set p 2) := fun q => by
 unfold Kn.set
 split
 ·exact .inr rfl
 ·exact h q
theorem PassK.up (h : PassK K K') {q : Wds} (hq : K q ≠ 0) : K' q ≠ 0 := by
 rcases h q with e | e <;> rw [e]
 ·exact hq
 ·decide
structure ReachOk (L : List Nd) (K0 : Kn) (A : List Nd) (o0 : Option Nd) (K : Kn) (X : List Nd) (o : Option Nd) : Prop where
 ok : KOk L K
 nodup : (A ++ X).Nodup
 mem : ∀ y ∈ A ++ X, y ∈ L
 hash : ∀ y ∈ A ++ X, ∀ p, y.p = p ++ [[35]] → K y.p ≠ 0
 turn : ∀ q, K q = K0 q ∨ K q = 2 ∨ (K0 q = 0 ∧ ∃ y ∈ X, y.p = q)
 zero : ∀ y ∈ X, K0 y.p = 0
 form : ∀ y ∈ X, ∃ n j, o0 = some n ∧ y.p = n.p ++ List.replicate j [35]
 next : ∀ y, o = some y → y ∈ L ∧ (K y.p = 0 → y ∉ A ++ X) ∧ ∃ n j, o0 = some n ∧ y.p = n.p ++ List.replicate j [35]
 first : ∀ n, o0 = some n → (X = [] ∧ o = some n) ∨ n ∈ X
 kids : ∀ y ∈ X, ∀ z ∈ L, z.p = y.p ++ [[35]] → K z.p ≠ 0 ∨ o = some z
variable {A X : List Nd} {o0 o : Option Nd}
theorem ReachOk.start (h : KOk L K) (hn : A.Nodup) (hm : ∀ y ∈ A, y ∈ L) (hh : ∀ y ∈ A, ∀ p, y.p = p ++ [[35]] → K y.p ≠ 0) (ho : ∀ y, o = some y → y ∈ L ∧ (K y.p = 0 → y ∉ A)) : ReachOk L K A o K [] o :=
 ⟨h, by simpa using hn, by simpa using hm, by simpa using hh, fun q => .inl rfl, by simp, by simp,
  fun y hy => ⟨(ho y hy).1, by simpa using (ho y hy).2, y, 0, hy, by simp⟩, fun n hn => .inl ⟨rfl, hn⟩, by simp⟩
theorem ReachOk.up (h : ReachOk L K0 A o0 K X o) {q : Wds} (hq : K0 q ≠ 0) : K q ≠ 0 := by
 rcases h.turn q with e | e | ⟨e, _⟩
 ·rw [e]; exact hq
 ·rw [e]; decide
 ·exact absurd e hq
theorem ReachOk.step (h : ReachOk L K0 A o0 K X (some n)) (ht : TreeOk L tb c) (hz : K n.p = 0) (hk : KOk L K')
  (ht2 : ∀ q, K' q = K q ∨ K' q = 2 ∨ q = n.p) (hp : ∀ p, n.p = p ++ [[35]] → K' n.p ≠ 0) (hnn : (∀ p, n.p ≠ p ++ [[35]]) → K' n.p = K n.p ∨ K' n.p = 2) : ReachOk L K0 A o0 K' (X ++ [n]) (nd L (n.p ++ [[35]])) := by
 obtain ⟨hnL, hnA, nf⟩ := h.next n rfl
 have hnA := hnA hz
 have e0 : A ++ (X ++ [n]) = (A ++ X) ++ [n] := by simp
 have up : ∀ q, K q ≠ 0 → K' q ≠ 0 := by
  intro q hq
  rcases ht2 q with e | e | e
  ·rw [e]; exact hq
  ·rw [e]; decide
  ·rw [e] at hq; exact absurd hz hq
 have hash' : ∀ y ∈ A ++ (X ++ [n]), ∀ p, y.p = p ++ [[35]] → K' y.p ≠ 0 := by
  rw [e0]
  intro y hy p hyp
  rcases List.mem_append.1 hy with hy | hy
  ·exact up _ (h.hash y hy p hyp)
  ·rw [List.mem_singleton] at hy
   subst hy
   exact hp p hyp
 refine ⟨hk, ?_, ?_, hash', ?_, ?_, ?_, ?_, ?_, ?_⟩
 ·rw [e0, List.nodup_append]
  exact ⟨h.nodup, by simp, by rintro a ha b hb rfl; rw [List.mem_singleton] at hb; subst hb; exact hnA ha⟩
 ·rw [e0]
  intro y hy
  rcases List.mem_append.1 hy with hy | hy
  ·exact h.mem y hy
  ·rw [List.mem_singleton] at hy
   subst hy
   exact hnL
 ·intro q
  by_cases hq : q = n.p
  ·subst hq
   rcases h.turn n.p with e | e | ⟨e, _⟩
   ·exact .inr (.inr ⟨e ▸ hz, n, by simp, rfl⟩)
   ·rw [hz] at e; cases e
   ·exact .inr (.inr ⟨e, n, by simp, rfl⟩)
  ·rcases ht2 q with e | e | e
   ·rcases h.turn q with g | g | ⟨g, y, hy, g2⟩
    ·exact .inl (e.trans g)
    ·exact .inr (.inl (e.trans g))
    ·exact .inr (.inr ⟨g, y, by simp [hy], g2⟩)
   ·exact .inr (.inl e)
   ·exact absurd e hq
 ·intro y hy
  rcases List.mem_append.1 hy with hy | hy
  ·exact h.zero y hy
  ·rw [List.mem_singleton] at hy
   subst hy
   rcases h.turn y.p with e | e | ⟨e, _⟩
   ·rw [← e, hz]
   ·rw [hz] at e; cases e
   ·exact e
 ·intro y hy
  rcases List.mem_append.1 hy with hy | hy
  ·exact h.form y hy
  ·rw [List.mem_singleton] at hy
   subst hy
   exact nf
 ·intro y hy
  obtain ⟨h1, h2⟩ := nd_mem hy
  refine ⟨h1, fun hz hin => hash' y hin n.p h2 hz, ?_⟩
  obtain ⟨x, j, e1, e2⟩ := nf
  refine ⟨x, j + 1, e1, ?_⟩
  rw [h2, e2, List.replicate_succ', List.append_assoc]
 ·intro x hx
  rcases h.first x hx with ⟨_, e⟩ | e
  ·cases e
   exact .inr (by simp)
  ·exact .inr (by simp [e])
 ·intro y hy z hz2 hzp
  rcases List.mem_append.1 hy with hy | hy
  ·rcases h.kids y hy z hz2 hzp with e | e
   ·exact .inl (up _ e)
   ·cases e
    exact .inl (hp _ hzp)
  ·rw [List.mem_singleton] at hy
   subst hy
   right
   rw [← hzp]
   exact ht.nd_some hz2
end
end Go.Proofs.YtknjamfjonapiaaGreatDoor
namespace Go.Proofs.YtknjamfjonapiaaGreatDoor
open Go.RowKit
set_option linter.unusedVariables false
set_option linter.unusedSectionVars false
set_option linter.unusedSimpArgs false
section
variable {L : List Nd} {tb c : Nat} {K K' K0 : Kn} {n m : Nd} {A X H : List Nd} {o0 o : Option Nd} {ks : Wds} {w : List UInt8}
def Stop (K : Kn) (o : Option Nd) : Prop := ∀ y, o = some y → K y.p ≠ 0
structure Here (L : List Nd) (ks : Wds) (K : Kn) (H : List Nd) : Prop where
 ok : KOk L K
 nodup : H.Nodup
 mem : ∀ y ∈ H, y ∈ L
 sound : ∀ y ∈ H, gl y.p ks = true
 hash : ∀ y ∈ H, ∀ p, y.p = p ++ [[35]] → K y.p ≠ 0
 kids : ∀ y ∈ H, ∀ z ∈ L, z.p = y.p ++ [[35]] → K z.p ≠ 0
 one : ∀ n ∈ L, K n.p = 1 → n ∈ H
 all : ∀ q ∈ L, gl q.p ks = true → q ∈ H ∨ K q.p = 2
theorem KOk.cases (h : KOk L K) {p : Wds} (h0 : K p ≠ 0) : K p = 1 ∨ K p = 2 := by
 have := h.few p
 omega
theorem Here.start (ht : TreeOk L tb c) (hn : n ∈ L) (h0 : n.p = []) (R : ReachOk L (fun _ => 0) [] (some n) K X o) (hs : Stop K o) : Here L [] K X := by
 have one : ∀ m ∈ L, K m.p = 1 → m ∈ X := by
  intro m hm h1
  rcases R.turn m.p with e | e | ⟨_, y, hy, e⟩
  ·rw [h1] at e; cases e
  ·rw [h1] at e; cases e
  ·rw [← map_inj ht.paths (R.mem y (by simpa using hy)) hm e]
   exact hy
 have kids : ∀ y ∈ X, ∀ z ∈ L, z.p = y.p ++ [[35]] → K z.p ≠ 0 := fun y hy z hz e => (R.kids y hy z hz e).elim id fun e => hs z e
 refine ⟨R.ok, by simpa using R.nodup, fun y hy => R.mem y (by simpa using hy), ?_, fun y hy => R.hash y (by simpa using hy), kids, one, ?_⟩
 ·intro y hy
  obtain ⟨x, j, e1, e2⟩ := R.form y hy
  cases e1
  rw [e2, h0]
  exact gl_hashes rfl j
 ·have key : ∀ d, ∀ q ∈ L, q.p.length = d → gl q.p [] = true → q ∈ X ∨ K q.p = 2 := by
   intro d
   induction d with
   | zero =>
    intro q hq hd _
    have e : q.p = [] := List.eq_nil_of_length_eq_zero hd
    obtain rfl := map_inj ht.paths hq hn (e.trans h0.symm)
    rcases R.first q rfl with ⟨e1, e2⟩ | e1
    ·right
     rcases R.ok.cases (hs q e2) with e3 | e3
     ·have := one q hq e3
      rw [e1] at this
      simp at this
     ·exact e3
    ·exact .inl e1
   | succ d ih =>
    intro q hq hd hg
    rcases ht.ups q hq with ⟨e, _⟩ | ⟨x, hx, v, e, _, _⟩
    ·rw [e] at hd; cases hd
    ·rw [e] at hg
     by_cases hv : v = [35]
     ·subst hv
      obtain ⟨j, hj, hg⟩ := gl_last_hash.1 hg
      rw [List.take_nil] at hg
      have hxd : x.p.length = d := by
       rw [e, List.length_append, List.length_singleton] at hd
       omega
      have hk : K q.p ≠ 0 := by
       rcases ih x hx hxd hg with h1 | h1
       ·exact kids x h1 q hq e
       ·exact (R.ok.two x hx h1).2 q hq _ e
      rcases R.ok.cases hk with h1 | h1
      ·exact .inl (one q hq h1)
      ·exact .inr h1
     ·rw [gl_last_short hv] at hg
      cases hg
  exact fun q hq => key _ q hq rfl
structure Taking (L : List Nd) (ks : Wds) (w : List UInt8) (K0 : Kn) (H : List Nd) (stays : Nd → Prop) (led : Nd → List UInt8 → Prop) (K : Kn) (A : List Nd) : Prop where
 here : Here L ks K0 H
 ok : KOk L K
 nodup : A.Nodup
 mem : ∀ y ∈ A, y ∈ L
 sound : ∀ y ∈ A, gl y.p (ks ++ [w]) = true
 hash : ∀ y ∈ A, ∀ p, y.p = p ++ [[35]] → K y.p ≠ 0
 kids : ∀ y ∈ A, ∀ z ∈ L, z.p = y.p ++ [[35]] → K z.p ≠ 0
 turn : ∀ q, K q = K0 q ∨ K q = 2 ∨ (K0 q = 0 ∧ ∃ y ∈ A, y.p = q)
 stay : ∀ n ∈ H, stays n → K n.p = 1 → n ∈ A
 lead : ∀ n ∈ H, ∀ v, led n v → ∀ z ∈ L, z.p = n.p ++ [v] → z ∈ A ∨ K z.p ≠ 0
 from_ : ∀ y ∈ A, (∀ p, y.p ≠ p ++ [[35]]) → ∃ n ∈ H, ∃ v, y.p = n.p ++ [v] ∧ led n v
 back : ∀ y ∈ A, y ∈ H → ∀ p, y.p = p ++ [[35]] → stays y
variable {stays : Nd → Prop} {led : Nd → List UInt8 → Prop}
theorem Taking.start (h : Here L ks K H) (w : List UInt8) : Taking L ks w K H (fun _ => False) (fun _ _ => False) K [] :=
 ⟨h, h.ok, by simp, by simp, by simp, by simp, by simp, fun q => .inl rfl, fun _ _ e => e.elim, fun _ _ _ e => e.elim, by simp, by simp⟩
theorem Taking.up (h : Taking L ks w K0 H stays led K A) {q : Wds} (hq : K0 q ≠ 0) : K q ≠ 0 := by
 rcases h.turn q with e | e | ⟨e, _⟩
 ·rw [e]; exact hq
 ·rw [e]; decide
 ·exact absurd e hq
theorem Taking.stay0 (h : Taking L ks w K0 H stays led K A) (hk : K n.p ≠ 1) : Taking L ks w K0 H (fun x => stays x ∨ x = n) led K A :=
 ⟨h.here, h.ok, h.nodup, h.mem, h.sound, h.hash, h.kids, h.turn, fun m hm hs h1 => hs.elim (fun hs => h.stay m hm hs h1) fun e => absurd (e ▸ h1) hk, h.lead, h.from_, fun y hy hyH p e => .inl (h.back y hy hyH p e)⟩
theorem Taking.fresh (h : Taking L ks w K0 H stays led K A) (hn : n ∈ H) (hs : ¬ stays n) (hk : K n.p = 1) : n ∉ A := fun hA => by
 obtain ⟨p, e⟩ := h.ok.one n (h.here.mem n hn) hk
 exact hs (h.back n hA hn p e)
theorem Taking.stay1 (h : Taking L ks w K0 H stays led K A) (hn : n ∈ H) (hs : ¬ stays n) (hk : K n.p = 1) : Taking L ks w K0 H (fun x => stays x ∨ x = n) led K (A ++ [n]) := by
 obtain ⟨p, e⟩ := h.ok.one n (h.here.mem n hn) hk
 have hnA := h.fresh hn hs hk
 have all : ∀ {Q : Nd → Prop}, (∀ y ∈ A, Q y) → Q n → ∀ y ∈ A ++ [n], Q y := by
  intro Q h1 h2 y hy
  rcases List.mem_append.1 hy with hy | hy
  ·exact h1 y hy
  ·rw [List.mem_singleton] at hy
   subst hy
   exact h2
 refine ⟨h.here, h.ok, ?_, all h.mem (h.here.mem n hn), all h.sound ?_, all h.hash (fun _ _ => by rw [hk]; decide), all h.kids (fun z hz e2 => h.up (h.here.kids n hn z hz e2)), ?_, ?_, ?_, ?_, ?_⟩
 ·rw [List.nodup_append]
  exact ⟨h.nodup, by simp, by rintro a ha b hb rfl; rw [List.mem_singleton] at hb; subst hb; exact hnA ha⟩
 ·have := h.here.sound n hn
  rw [e] at this ⊢
  exact gl_hash_on.2 (.inr this)
 ·intro q
  rcases h.turn q with g | g | ⟨g, y, hy, e2⟩
  ·exact .inl g
  ·exact .inr (.inl g)
  ·exact .inr (.inr ⟨g, y, by simp [hy], e2⟩)
 ·intro m hm hs h1
  rcases hs with hs | rfl
  ·exact List.mem_append_left _ (h.stay m hm hs h1)
  ·simp
 ·intro m hm v hv z hz e2
  exact (h.lead m hm v hv z hz e2).imp (fun x => List.mem_append_left _ x) id
 ·exact all h.from_ (fun hno => absurd e (hno p))
 ·exact all (fun y hy hyH p e => .inl (h.back y hy hyH p e)) (fun _ _ _ => .inr rfl)
theorem Taking.ask (h : Taking L ks w K0 H stays led K A) (ht : TreeOk L tb c) (hn : n ∈ H) {v : List UInt8} (hl : ¬ led n v) : ∀ y, nd L (n.p ++ [v]) = some y → y ∈ L ∧ (K y.p = 0 → y ∉ A) := by
 intro y hy
 obtain ⟨h1, h2⟩ := nd_mem hy
 refine ⟨h1, fun hk hA => ?_⟩
 by_cases hv : v = [35]
 ·subst hv
  exact h.hash y hA _ h2 hk
 ·obtain ⟨m, hm, v', e1, e2⟩ := h.from_ y hA (fun p e => hv (by rw [h2] at e; exact (snoc_inj e).2))
  rw [h2] at e1
  obtain ⟨e3, rfl⟩ := snoc_inj e1
  obtain rfl := map_inj ht.paths (h.here.mem n hn) (h.here.mem m hm) e3
  exact hl e2
theorem Taking.reach (h : Taking L ks w K0 H stays led K A) (ht : TreeOk L tb c) (hn : n ∈ H) {v : List UInt8} (hv : stands v w = true ∨ v = [35]) (R : ReachOk L K A (nd L (n.p ++ [v])) K' X o) (hs : Stop K' o) :
  Taking L ks w K0 H stays (fun x u => led x u ∨ (x = n ∧ u = v)) K' (A ++ X) := by
 have hnL := h.here.mem n hn
 have all : ∀ {Q : Nd → Prop}, (∀ y ∈ A, Q y) → (∀ y ∈ X, Q y) → ∀ y ∈ A ++ X, Q y := fun h1 h2 y hy => (List.mem_append.1 hy).elim (h1 y) (h2 y)
 refine ⟨h.here, R.ok, R.nodup, R.mem, all h.sound ?_, R.hash, all (fun y hy z hz e => R.up (h.kids y hy z hz e)) (fun y hy z hz e => (R.kids y hy z hz e).elim id fun e => hs z e), ?_, ?_, ?_, all ?_ ?_, all h.back ?_⟩
 ·intro y hy
  obtain ⟨x, j, e1, e2⟩ := R.form y hy
  obtain ⟨-, e3⟩ := nd_mem e1
  rw [e2, e3]
  refine gl_hashes ?_ j
  have hg := h.here.sound n hn
  by_cases h35 : v = [35]
  ·subst h35
   exact gl_hash_on.2 (.inr (gl_hash_more hg))
  ·exact (gl_last_one h35).2 ⟨hg, hv.elim id fun e => absurd e h35⟩
 ·intro q
  rcases R.turn q with e | e | ⟨e, y, hy, e2⟩
  ·rcases h.turn q with g | g | ⟨g, y, hy, e2⟩
   ·exact .inl (e.trans g)
   ·exact .inr (.inl (e.trans g))
   ·exact .inr (.inr ⟨g, y, by simp [hy], e2⟩)
  ·exact .inr (.inl e)
  ·rcases h.turn q with g | g | ⟨g, -⟩
   ·exact .inr (.inr ⟨by rw [← g, e], y, by simp [hy], e2⟩)
   ·rw [e] at g; cases g
   ·exact .inr (.inr ⟨g, y, by simp [hy], e2⟩)
 ·intro m hm hsm h1
  rcases R.turn m.p with e | e | ⟨e, y, hy, e2⟩
  ·exact List.mem_append_left _ (h.stay m hm hsm (e ▸ h1))
  ·rw [h1] at e; cases e
  ·rw [← map_inj ht.paths (R.mem y (by simp [hy])) (h.here.mem m hm) e2]
   exact List.mem_append_right _ hy
 ·intro m hm u hu z hz e
  rcases hu with hu | ⟨rfl, rfl⟩
  ·exact (h.lead m hm u hu z hz e).imp (fun x => List.mem_append_left _ x) R.up
  ·have : nd L (m.p ++ [u]) = some z := by rw [← e]; exact ht.nd_some hz
   rcases R.first z this with ⟨_, e2⟩ | e2
   ·exact .inr (hs z e2)
   ·exact .inl (List.mem_append_right _ e2)
 ·intro y hy hno
  obtain ⟨x, hx, u, e1, e2⟩ := h.from_ y hy hno
  exact ⟨x, hx, u, e1, .inl e2⟩
 ·intro y hy hno
  obtain ⟨x, j, e1, e2⟩ := R.form y hy
  obtain ⟨-, e3⟩ := nd_mem e1
  cases j with
  | zero => exact ⟨n, hn, v, by simpa [e3] using e2, .inr ⟨rfl, rfl⟩⟩
  | succ j =>
   rw [List.replicate_succ', ← List.append_assoc] at e2
   exact absurd e2 (hno _)
 ·intro y hy hyH p e
  exact absurd (R.zero y hy) (h.up (h.here.hash y hyH p e))
theorem Taking.done (h : Taking L ks w K0 H stays led K A) (ht : TreeOk L tb c) (h1 : ∀ n ∈ H, stays n) (h2 : ∀ n ∈ H, ∀ v, v ≠ [35] → stands v w = true → led n v) : Here L (ks ++ [w]) K A := by
 have one : ∀ n ∈ L, K n.p = 1 → n ∈ A := by
  intro n hn hk
  rcases h.turn n.p with e | e | ⟨_, y, hy, e⟩
  ·have := h.here.one n hn (e ▸ hk)
   exact h.stay n this (h1 n this) hk
  ·rw [hk] at e; cases e
  ·rw [← map_inj ht.paths (h.mem y hy) hn e]
   exact hy
 have two : ∀ q, K0 q = 2 → K q = 2 := fun q hq => by
  rcases h.turn q with e | e | ⟨e, _⟩
  ·rw [e, hq]
  ·exact e
  ·rw [hq] at e; cases e
 refine ⟨h.ok, h.nodup, h.mem, h.sound, h.hash, h.kids, one, ?_⟩
 have fin : ∀ q ∈ L, K q.p ≠ 0 → q ∈ A ∨ K q.p = 2 := fun q hq hk => (h.ok.cases hk).imp (one q hq) id
 have key : ∀ d, ∀ q ∈ L, q.p.length = d → gl q.p (ks ++ [w]) = true → q ∈ A ∨ K q.p = 2 := by
  intro d
  induction d with
  | zero =>
   intro q hq hd hg
   rw [List.eq_nil_of_length_eq_zero hd, gl_none] at hg
   cases hg
  | succ d ih =>
   intro q hq hd hg
   rcases ht.ups q hq with ⟨e, _⟩ | ⟨x, hx, v, e, _, _⟩
   ·rw [e] at hd; cases hd
   ·have hxd : x.p.length = d := by
     rw [e, List.length_append, List.length_singleton] at hd
     omega
    rw [e] at hg
    by_cases hv : v = [35]
    ·subst hv
     rcases gl_hash_on.1 hg with hg | hg
     ·refine fin q hq ?_
      rcases ih x hx hxd hg with g | g
      ·exact h.kids x g q hq e
      ·exact (h.ok.two x hx g).2 q hq _ e
     ·rw [← e] at hg
      rcases h.here.all q hq hg with g | g
      ·exact fin q hq (h.up (h.here.hash q g _ e))
      ·exact .inr (two _ g)
    ·obtain ⟨hg, hst⟩ := (gl_last_one hv).1 hg
     rcases h.here.all x hx hg with g | g
     ·rcases h.lead x g v (h2 x g v hv hst) q hq e with k | k
      ·exact .inl k
      ·exact fin q hq k
     ·exact fin q hq ((h.ok.two x hx (two _ g)).2 q hq _ e)
 exact fun q hq => key _ q hq rfl
theorem Here.none (h : Here L ks K []) (ht : TreeOk L tb c) (more : Wds) : Here L (ks ++ more) K [] := by
 induction more generalizing ks with
 | nil => simpa using h
 | cons w more ih =>
  have := ih ((Taking.start h w).done ht (by simp) (by simp))
  simpa using this
theorem Here.len (h : Here L ks K H) : H.length ≤ L.length := nodup_len h.nodup h.mem
theorem Here.ids (h : Here L ks K H) (k : Int) : (∃ n ∈ H, k ∈ n.i.es.map (·.1)) ↔ ∃ p, HasId L p k ∧ gl p ks = true := by
 constructor
 ·rintro ⟨n, hn, hk⟩
  exact ⟨n.p, ⟨n, h.mem n hn, rfl, hk⟩, h.sound n hn⟩
 ·rintro ⟨p, ⟨n, hn, rfl, hk⟩, hg⟩
  rcases h.all n hn hg with g | g
  ·exact ⟨n, g, hk⟩
  ·rw [(h.ok.two n hn g).1] at hk
   simp at hk
end
end Go.Proofs.YtknjamfjonapiaaGreatDoor
namespace Go.Proofs.YtknjamfjonapiaaGreatDoor
open Go.RowKit
set_option linter.unusedVariables false
set_option maxRecDepth 100000
theorem point_ext (l : List UInt8) (W : World) : (callFunc 337 #[tx l, .int .u8 46]).run Tryz.prog W = .ok (.value (.int .i64 (Lib.indexByte l 46))) W := by
 have h := run_callFunc_extern (P := Tryz.prog) Tryz.func337 (by kernel_rfl) (by kernel_rfl) (by kernel_rfl) (e := Extern.BytealgIndexByte.indexByte) (by kernel_rfl) #[tx l, .int .u8 46] W
 have k := Lib.run_indexByteString (P := Tryz.prog) ⟨l.toArray⟩ 46 W
 rw [show (Extern.BytealgIndexByte.indexByte #[tx l, .int .u8 46]).run Tryz.prog W = .ok (.int .i64 (Lib.indexByte l 46)) W from k] at h
 exact h
theorem point_byte (l : List UInt8) (w : World) : Calls Tryz.prog 332 #[tx l, .int .u8 46] w fun e w' => e = .returned (.int .i64 (Lib.indexByte l 46)) ∧ w' = w := by
 have h := point_ext l w
 generalize Lib.indexByte l 46 = z at *
 go_enter Tryz.func332, Tryz.ntmps332
 go_wp2_with fail
 go_ret
 exact ⟨rfl, rfl⟩
set_option maxRecDepth 100000 in
set_option maxHeartbeats 1000000 in
theorem point_at (l : List UInt8) (w : World) : Calls Tryz.prog 325 #[tx l, tx [46]] w fun e w' => e = .returned (.int .i64 (Lib.indexByte l 46)) ∧ w' = w := by
 by_cases h : l = [46]
 ·subst h
  go_enter Tryz.func325, Tryz.ntmps325
  go_wp2_with fail
  go_ret
  exact ⟨rfl, rfl⟩
 ·have hn : ([46] == l) = false := by
   rw [beq_eq_false_iff_ne]
   exact fun e => h e.symm
  have c := Lib.hid (point_byte l w)
  clear h
  generalize Lib.indexByte l 46 = z at *
  go_enter Tryz.func325, Tryz.ntmps325
  go_wp2_with fail
  refine c.out.mono ?_
  rintro e w1 ⟨rfl, rfl⟩
  go_wp2_with fail
  go_ret
  exact ⟨rfl, rfl⟩
set_option maxHeartbeats 1000000 in
theorem slicut_none {l : List UInt8} (h : 46 ∉ l) (w : World) : Calls Tryz.prog 312 #[tx l, tx [46]] w fun e w' => e = .returned (.tuple #[tx l, tx [], .bool false]) ∧ w' = w := by
 have c1 := point_at l w
 rw [index_none h] at c1
 replace c1 := Lib.hid c1
 clear h
 go_enter Tryz.func312, Tryz.ntmps312
 go_wp2_with fail
 refine c1.out.mono ?_
 rintro e w1 ⟨rfl, rfl⟩
 go_wp2_with fail
 go_ret3
 exact ⟨rfl, rfl⟩
set_option maxHeartbeats 1000000 in
theorem slicut_some {x r : List UInt8} (h : 46 ∉ x) (hl : (x ++ 46 :: r).length ≤ maxLen) (w : World) : Calls Tryz.prog 312 #[tx (x ++ 46 :: r), tx [46]] w fun e w' => e = .returned (.tuple #[tx x, tx r, .bool true]) ∧ Below w.heap.size w w' := by
 have c1 := point_at (x ++ 46 :: r) w
 rw [index_some h] at c1
 replace c1 := Lib.hid c1
 have hlen : (x ++ 46 :: r).length = x.length + 1 + r.length := by simp; omega
 have e1 : (⟨(x ++ 46 :: r).toArray⟩ : ByteArray).extract 0 x.length = ⟨x.toArray⟩ := by
  rw [ByteArray.extract_mk]
  simp
 have e2 : (⟨(x ++ 46 :: r).toArray⟩ : ByteArray).extract (x.length + 1) (x.length + 1 + r.length) = ⟨r.toArray⟩ := by
  rw [ByteArray.extract_mk]
  simp
 have h0 : (0 : Int) ≤ x.length := by omega
 unfold maxLen at hl
 have h1 : (x.length : Int) ≤ (x ++ 46 :: r).length := by omega
 have h2 : (x.length : Int) + 1 ≤ (x ++ 46 :: r).length := by omega
 generalize hL : x ++ 46 :: r = L at *
 generalize hn : x.length = n at *
 clear h hL
 go_enter Tryz.func312, Tryz.ntmps312
 go_wp2_with fail
 refine c1.out.mono ?_
 rintro e w1 ⟨rfl, rfl⟩
 go_wp2_with fail
 go_quiet (fail)
 go_wp2_with fail
 go_ret3
 exact ⟨rfl, drewN_below _ _⟩
theorem cut_none {l : List UInt8} (h : 46 ∉ l) (w : World) : Calls Tryz.prog 293 #[tx l, tx [46]] w fun e w' => e = .returned (.tuple #[tx l, tx [], .bool false]) ∧ Below w.heap.size w w' := by
 have c1 := Lib.hid (slicut_none h w)
 clear h
 go_enter Tryz.func293, Tryz.ntmps293
 go_wp2_with fail
 refine c1.out.mono ?_
 rintro e w1 ⟨rfl, rfl⟩
 go_wp2_with fail
 go_ret3
 exact ⟨rfl, Below.refl _ _⟩
theorem cut_some {x r : List UInt8} (h : 46 ∉ x) (hl : (x ++ 46 :: r).length ≤ maxLen) (w : World) : Calls Tryz.prog 293 #[tx (x ++ 46 :: r), tx [46]] w fun e w' => e = .returned (.tuple #[tx x, tx r, .bool true]) ∧ Below w.heap.size w w' := by
 have c1 := Lib.hid (slicut_some h hl w)
 clear h hl
 generalize x ++ 46 :: r = L at *
 go_enter Tryz.func293, Tryz.ntmps293
 go_wp2_with fail
 refine c1.out.mono ?_
 rintro e w1 ⟨rfl, hb⟩
 replace hb := Lib.hid hb
 go_wp2_with fail
 go_ret3
 exact ⟨rfl, hb.out⟩
end Go.Proofs.YtknjamfjonapiaaGreatDoor
namespace Go.Proofs.YtknjamfjonapiaaGreatDoor
open Go.RowKit
set_option linter.unusedVariables false
set_option maxRecDepth 100000
structure TextsAt (w : World) (a : Option Addr) (len : Nat) (L : List (List UInt8)) : Prop where
 size : L.length = len
 at_ : ∀ (i : Nat) x, L[i]? = some x → x.length ≤ maxLen ∧ ∃ b off, a = some ⟨b, off, none⟩ ∧ w.cell? ⟨b, off + i, none⟩ = some (tx x)
theorem TextsAt.below {w w' : World} {a : Option Addr} {len : Nat} {L : List (List UInt8)} (h : TextsAt w a len L) (hb : Below w.heap.size w w') : TextsAt w' a len L :=
 ⟨h.size, fun i x hx => by
  obtain ⟨h1, b, off, e, hc⟩ := h.at_ i x hx
  exact ⟨h1, b, off, e, (hb.cell (p := ⟨b, off + i, none⟩) (World.block_lt_of_cell? w _ hc)).trans hc⟩⟩
theorem TextsAt.of {w : World} {a : Option Addr} {len : Nat} {rd : Nat → List Value} (h : RowsAt Tryz.prog w 9 a len rd) : ∃ L, TextsAt w a len L := by
 have hco : Tryz.prog.cellsOf 9 = 1 := by kernel_rfl
 have key : ∀ i, ∃ x : List UInt8, i < len → rd i = [tx x] ∧ x.length ≤ maxLen := by
  intro i
  by_cases hi : i < len
  ·obtain ⟨s, h1, h2⟩ := (h.at_ i hi).1.string uStr6
   exact ⟨s.data.toList, fun _ => ⟨h1, h2⟩⟩
  ·exact ⟨[], fun h => absurd h hi⟩
 refine ⟨(List.range len).map fun i => (key i).choose, by simp, fun i x hx => ?_⟩
 have hi : i < len := by
  have := (List.getElem?_eq_some_iff.1 hx).1
  simpa using this
 rw [List.getElem?_map, List.getElem?_range hi, Option.map_some, Option.some.injEq] at hx
 obtain ⟨h1, h2⟩ := (key i).choose_spec hi
 rw [hx] at h1 h2
 obtain ⟨_, _, b, off, ha, hc⟩ := h.at_ i hi
 refine ⟨h2, b, off, ha, ?_⟩
 have := hc 0 (tx x) (by rw [h1]; rfl)
 rwa [hco, Nat.mul_one] at this
end Go.Proofs.YtknjamfjonapiaaGreatDoor
namespace Go.Proofs.YtknjamfjonapiaaGreatDoor
open Go.RowKit
set_option linter.unusedVariables false
set_option maxRecDepth 100000
theorem uStrs0 : Tryz.prog.underlying 47 = some (.slice 9) := by kernel_rfl
theorem infStr0 : (Tryz.prog.info? 9).map (fun i => (i.zero, i.size, i.bytes)) = some (some (tx []), 1, 16) := by kernel_rfl
def TssIs (v : Value) (l : List (List UInt8)) (S : List (Nat × Obj)) : Prop := SlIs 9 1 v l.length (l.map tx) S
theorem TssIs.nil : TssIs (.slice none 0 0) [] [] := SlIs.nil
theorem TssIs.form {v : Value} {l : List (List UInt8)} {S : List (Nat × Obj)} (h : TssIs v l S) : ∃ a cap, v = .slice a l.length cap := by
 obtain ⟨a, cap, e, _⟩ := SlIs.form h
 exact ⟨a, cap, e⟩
section
variable {B : Nat} {w0 w : World} {S X : List (Nat × Obj)} {v : Value} {l : List (List UInt8)}
def ReadTs (w : World) (v : Value) (l : List (List UInt8)) : Prop := ∃ a cap, v = .slice a l.length cap ∧ TextsAt w a l.length l
theorem ReadTs.below {w w' : World} (h : ReadTs w v l) (hb : Below w.heap.size w w') : ReadTs w' v l := by
 obtain ⟨a, cap, e, h⟩ := h
 exact ⟨a, cap, e, h.below hb⟩
theorem TssIs.read (h : TssIs v l S) (hst : St B w0 w (X ++ S)) (hl : ∀ x ∈ l, x.length ≤ maxLen) : ReadTs w v l := by
 have h' : SlIs _ _ _ _ _ _ := h
 obtain ⟨a, cap, rfl, _, _, ha⟩ := h'.form
 refine ⟨a, cap, rfl, rfl, fun i x hx => ⟨hl x (List.mem_of_getElem? hx), ?_⟩⟩
 obtain ⟨g, off, rfl⟩ := ha i (List.getElem?_eq_some_iff.1 hx).1
 exact ⟨g, off, rfl, h'.cellAt hst (by rw [List.getElem?_map, hx]; rfl)⟩
theorem TssIs.append (hs : TssIs v l S) (hst : St B w0 w (X ++ S)) (t : List UInt8) (hl : l.length ≤ 1000000) :
  ∃ a cap W2 F2, (Builtin.append_ #[47, 47] 0 #[v, .slice (some ⟨w.heap.size, 0, none⟩) 1 1]).run Tryz.prog (w.alloc (.cells #[tx t] 9)) = .ok (.slice a (l.length + 1) cap) W2 ∧
   TssIs (.slice a (l.length + 1) cap) (l ++ [t]) F2 ∧ St B w0 W2 (X ++ F2) := by
 obtain ⟨i0, hi0, hz0, hz1, hz2⟩ := info_parts infStr0
 have hrd := Reads.one w (tx t) 9
 obtain ⟨v2, W2, F2, hr, hs2, hst2⟩ := run_append_sl (P := Tryz.prog) 47 0 9 i0 _ 1 16 uStrs0 hi0 hz0 hz1 hz2 rfl hs (A := (w.heap.size, .cells #[tx t] 9) :: X) (hst.alloc _) hrd
  (by intro u hu; rw [List.mem_singleton] at hu; subst hu; rfl) (by unfold maxLen; omega) (by omega)
 obtain ⟨a, cap, rfl, -⟩ := hs2.form
 refine ⟨a, cap, W2, F2, hr, ?_, hst2.sub (List.sublist_cons_self _ _)⟩
 unfold TssIs
 rw [List.length_append, List.length_singleton, List.map_append]
 exact hs2
end
end Go.Proofs.YtknjamfjonapiaaGreatDoor
namespace Go.Proofs.YtknjamfjonapiaaGreatDoor
open Go.RowKit
set_option linter.unusedVariables false
set_option maxRecDepth 100000
theorem words_short (l : List UInt8) : ∀ x ∈ wordsL l, x.length ≤ l.length := by
 induction l with
 | nil => simp [wordsL]
 | cons c l ih =>
  unfold wordsL
  intro x hx
  rw [List.length_cons]
  split at hx
  ·rcases List.mem_cons.1 hx with rfl | hx
   ·simp
   ·have := ih x hx
    omega
  ·split at hx
   ·rw [List.mem_singleton] at hx
    subst hx
    simp
   ·rename_i w r h
    rw [h] at ih
    rcases List.mem_cons.1 hx with rfl | hx
    ·have := ih w (by simp)
     rw [List.length_cons]
     omega
    ·have := ih x (by simp [hx])
     omega
def WordsAt (w : World) (l : List UInt8) (g : Nat) (a' : Act) (w' : World) : Prop :=
 ∃ (done : Wds) (r : List UInt8) (v : Value) (S : List (Nat × Obj)), r.length = g ∧ done ++ wordsL r = wordsL l ∧ r.length ≤ l.length ∧ Fr 21 [(0, tx r), (3, v)] a' ∧ TssIs v done S ∧ St w.heap.size w w' S
set_option maxHeartbeats 1000000 in
theorem words_st {l : List UInt8} (hl : l.length ≤ 1000000) (w : World) :
  Calls Tryz.prog 271 #[tx l] w fun e w' => ∃ v S, e = .returned v ∧ TssIs v (wordsL l) S ∧ St w.heap.size w w' S := by
 have hwl := words_len l
 have hws := words_short l
 go_enter Tryz.func271, Tryz.ntmps271
 go_wp2_with fail
 refine wp_scope_ghost 0 (WordsAt w l) rfl ?_ ?_
 ·rintro g a' w' ⟨done, r, v, S, hg, hd, hr, hfr, hs, hst⟩
  obtain ⟨f, rfl, hl'⟩ := hfr.lit
  clear hfr
  simp only [List.mem_cons, List.not_mem_nil, or_false, forall_eq_or_imp, forall_eq] at hl'
  obtain ⟨f0, f3⟩ := hl'
  simp only [List.range, List.range.loop, List.map, f0, f3]
  clear f0 f3
  have hdl : done.length ≤ 1000000 := by
   have h1 := congrArg List.length hd
   have h2 := words_pos r
   rw [List.length_append] at h1
   omega
  obtain ⟨av, cv, rfl⟩ := hs.form
  rcases cut_cases r with hn | ⟨x, r', rfl, hx⟩
  ·have c1 := Lib.hid (cut_none hn w')
   rw [words_none hn] at hd
   have ap : Hid (∀ w1, Below w'.heap.size w' w1 → ∃ a cap W2 S2, (Builtin.append_ #[47, 47] 0 #[.slice av done.length cv, .slice (some ⟨w1.heap.size, 0, none⟩) 1 1]).run Tryz.prog (w1.alloc (.cells #[tx r] 9)) = .ok (.slice a (done.length + 1) cap) W2 ∧
     TssIs (.slice a (done.length + 1) cap) (wordsL l) S2 ∧ St w.heap.size w W2 S2) := Lib.hid fun w1 hb => by
    have hst1 : St w.heap.size w w1 ([] ++ S) := hst.grow hb
    obtain ⟨a, cap, W2, F2, h1, h2, h3⟩ := hs.append hst1 r hdl
    exact ⟨a, cap, W2, F2, h1, by rw [← hd]; exact h2, h3⟩
   clear hs hst hd hws hwl hn
   generalize done.length = n at *
   go_wp2_with fail
   refine c1.out.mono ?_
   rintro e w1 ⟨rfl, hb⟩
   obtain ⟨a2, cap2, W2, S2, hrun, fin⟩ := ap.out _ hb
   replace fin := Lib.hid fin
   clear hb c1 ap
   go_wp2_with (at_builtin; refine wpList_append_go rfl (.tmp 13) (.tmp 15) 47 47 rfl _ _ rfl rfl hrun ?_)
   simp only [Exit.jump]
   go_ret
   exact ⟨_, _, rfl, fin.out.1, fin.out.2⟩
  ·have c1 := Lib.hid (cut_some (r := r') hx (by unfold maxLen; omega) w')
   rw [words_cut hx] at hd
   have ap : Hid (∀ w1, Below w'.heap.size w' w1 → ∃ a cap W2 S2, (Builtin.append_ #[47, 47] 0 #[.slice av done.length cv, .slice (some ⟨w1.heap.size, 0, none⟩) 1 1]).run Tryz.prog (w1.alloc (.cells #[tx x] 9)) = .ok (.slice a (done.length + 1) cap) W2 ∧
     TssIs (.slice a (done.length + 1) cap) (done ++ [x]) S2 ∧ St w.heap.size w W2 S2) := Lib.hid fun w1 hb => by
    have hst1 : St w.heap.size w w1 ([] ++ S) := hst.grow hb
    obtain ⟨a, cap, W2, F2, h1, h2, h3⟩ := hs.append hst1 x hdl
    exact ⟨a, cap, W2, F2, h1, h2, h3⟩
   have hlen : (x ++ 46 :: r').length = x.length + 1 + r'.length := by simp; omega
   have hd2 : (done ++ [x]) ++ wordsL r' = wordsL l := by rw [← hd]; simp
   replace hlen := Lib.hid hlen
   replace hd2 := Lib.hid hd2
   clear hs hst hd hws hwl
   generalize x ++ 46 :: r' = L at *
   go_wp2_with fail
   refine c1.out.mono ?_
   rintro e w1 ⟨rfl, hb⟩
   obtain ⟨a2, cap2, W2, S2, hrun, fin1, fin2⟩ := ap.out _ hb
   replace fin1 := Lib.hid fin1
   replace fin2 := Lib.hid fin2
   clear hb c1 ap
   go_wp2_with (at_builtin; refine wpList_append_go rfl (.tmp 13) (.tmp 15) 47 47 rfl _ _ rfl rfl hrun ?_)
   refine wp_goto ?_
   have := hlen.out
   exact ⟨rfl, r'.length, by omega, done ++ [x], r', _, S2, rfl, hd2.out, by omega, ⟨rfl, rfl, by simp⟩, fin1.out, fin2.out⟩
 ·intro H
  clear hws hwl
  have hst := Lib.hid (St.start w)
  go_wp2_with fail
  refine wp_label ?_
  go_step
  go_step
  exact H l.length _ _ ⟨[], l, _, [], rfl, rfl, Nat.le_refl _, ⟨rfl, rfl, by simp⟩, TssIs.nil, hst.out⟩
end Go.Proofs.YtknjamfjonapiaaGreatDoor
namespace Go.Proofs.YtknjamfjonapiaaGreatDoor
open Go.RowKit
open Go.ChangeMaps (setBlock)
set_option linter.unusedVariables false
set_option linter.unusedSectionVars false
set_option linter.unusedSimpArgs false
set_option maxRecDepth 100000
def RootX (L : List Nd) (X : List Value) : Prop := ∃ r ∈ L, r.p = [] ∧ r.x = X
structure Same (L L' : List Nd) : Prop where
 ids : ∀ p k, HasId L' p k ↔ HasId L p k
 root : ∀ X, RootX L X → RootX L' X
theorem Same.refl (L : List Nd) : Same L L := ⟨fun _ _ => Iff.rfl, fun _ h => h⟩
theorem Same.trans {L L' L2 : List Nd} (h : Same L L') (g : Same L' L2) : Same L L2 := ⟨fun p k => (g.ids p k).trans (h.ids p k), fun X hX => g.root X (h.root X hX)⟩
theorem Same.perm {L L' : List Nd} (h : L.Perm L') : Same L L' :=
 ⟨fun p k => ⟨fun ⟨n, hn, e⟩ => ⟨n, h.mem_iff.2 hn, e⟩, fun ⟨n, hn, e⟩ => ⟨n, h.mem_iff.1 hn, e⟩⟩, fun X ⟨n, hn, e⟩ => ⟨n, h.mem_iff.1 hn, e⟩⟩
theorem Same.grow {n : Nd} {R : List Nd} {w : List UInt8} {nb : Nat} {y : TypeId} {s' : Tb (List UInt8)} : Same (n :: R) (newNd n w nb y :: { n with s := s' } :: R) := by
 refine ⟨fun p k => ⟨?_, ?_⟩, ?_⟩
 ·rintro ⟨m, hm, e1, e2⟩
  rcases List.mem_cons.1 hm with rfl | hm
  ·exact absurd e2 (by simp [Tb.new])
  rcases List.mem_cons.1 hm with rfl | hm
  ·exact ⟨n, List.mem_cons_self, e1, e2⟩
  ·exact ⟨m, List.mem_cons_of_mem _ hm, e1, e2⟩
 ·rintro ⟨m, hm, e1, e2⟩
  rcases List.mem_cons.1 hm with rfl | hm
  ·exact ⟨{ m with s := s' }, by simp, e1, e2⟩
  ·exact ⟨m, by simp [hm], e1, e2⟩
 ·rintro X ⟨m, hm, e1, e2⟩
  rcases List.mem_cons.1 hm with rfl | hm
  ·exact ⟨{ m with s := s' }, by simp, e1, e2⟩
  ·exact ⟨m, by simp [hm], e1, e2⟩
def LaidR (B : Nat) (w0 : World) (tb : Nat) (L : List Nd) (F : List (Nat × Obj)) (c : Nat) (p : Wds) (e : Ending) (w' : World) : Prop :=
 ∃ L' m, e = .returned (np m.b) ∧ m ∈ L' ∧ m.p = p ∧ St B w0 w' (objsL L' ++ F) ∧ TreeOk L' tb c ∧ Same L L'
section
variable {B : Nat} {w0 w : World} {F : List (Nat × Obj)} {L : List Nd} {tb c : Nat} {n m : Nd}
theorem cells_s (n : Nd) (s' : Tb (List UInt8)) : tabC n.cells 2 s'.mv s'.most = ({ n with s := s' } : Nd).cells := by
 simp [tabC, Nd.cells]
theorem cells_i (n : Nd) (i' : Tb Int) : tabC n.cells 4 i'.mv i'.most = ({ n with i := i' } : Nd).cells := by
 simp [tabC, Nd.cells]
theorem new_objs (n : Nd) (w : List UInt8) (nb : Nat) (y : TypeId) : (newNd n w nb y).objs = [(nb, .cells #[np n.b, tx w, .map none, .int .i64 0, .map none, .int .i64 0] y)] := by
 show (nb, (Obj.cells (newNd n w nb y).cells y)) :: [] = _
 unfold Nd.cells
 rw [lastW_snoc]
 rfl
set_option maxHeartbeats 1000000 in
theorem to_any (hst : St B w0 w (objsL L ++ F)) (ht : TreeOk L tb c) (hn : n ∈ L) (v : List UInt8) (hv : v.length ≤ 1000000) (hc : c ≤ 900000) :
  Calls Tryz.prog 272 #[np n.b, tx v] w (LaidR B w0 tb L F (c + 1) (n.p ++ [v])) := by
 have hk := run_kid hst ht hn v
 have c2 := hst.node hn (j := 2) (v := .map n.s.mv) rfl
 cases hm : nd L (n.p ++ [v]) with
 | some m =>
  obtain ⟨h1, h2⟩ := nd_mem hm
  have fin : Hid (LaidR B w0 tb L F (c + 1) (n.p ++ [v]) (.returned (np m.b)) w) := Lib.hid ⟨L, m, rfl, h1, h2, hst, ht.mono (Nat.le_succ _), Same.refl _⟩
  unfold ptrP at hk
  rw [hm] at hk
  clear hst ht hn h1 h2 hm
  go_enter Tryz.func272, Tryz.ntmps272
  go_wp2_with fail
  go_ret
  exact fin.out
 | none =>
  unfold ptrP at hk
  rw [hm] at hk
  have cl := Lib.hid (clone_any v w (by omega))
  have hne := nd_none.1 hm
  have put : Hid (∀ w1, Below w.heap.size w w1 → (w1.alloc (.cells #[np n.b, tx v, .map none, .int .i64 0, .map none, .int .i64 0] 318)).cell? ⟨w1.heap.size, 1, none⟩ = some (tx v) ∧
    Calls Tryz.prog 294 #[.pointer (some ⟨n.b, 2, none⟩), tx v, np w1.heap.size] (w1.alloc (.cells #[np n.b, tx v, .map none, .int .i64 0, .map none, .int .i64 0] 318)).drew fun e w' => e = .returned (.tuple #[]) ∧ LaidR B w0 tb L F (c + 1) (n.p ++ [v]) (.returned (np w1.heap.size)) w') := Lib.hid fun w1 hb => by
   obtain ⟨R, hp⟩ : ∃ R, L.Perm (n :: R) := by
    obtain ⟨a, b, rfl⟩ := List.append_of_mem hn
    exact ⟨a ++ b, List.perm_middle⟩
   have ht' := ht.perm hp
   have hs1 : St B w0 w1 (objsL (n :: R) ++ F) := (hst.grow hb).perm ((objs_perm hp).append_right F)
   have hs2 := (hs1.alloc (.cells #[np n.b, tx v, .map none, .int .i64 0, .map none, .int .i64 0] 318)).drew
   refine ⟨hs2.cell (b := w1.heap.size) List.mem_cons_self rfl, ?_⟩
   have hs3 : St B w0 (w1.alloc (.cells #[np n.b, tx v, .map none, .int .i64 0, .map none, .int .i64 0] 318)).drew ((n.b, .cells n.cells n.y) :: (tabH encS n.s ++ (tabH encI n.i ++ (objsL R ++ ((w1.heap.size, .cells #[np n.b, tx v, .map none, .int .i64 0, .map none, .int .i64 0] 318) :: F))))) := by
    refine hs2.perm ?_
    rw [objs_cons]
    unfold Nd.objs
    classical
    exact List.perm_iff_count.2 fun a => by simp only [List.count_append, List.count_cons, List.append_assoc, List.cons_append]; omega
   have hnk : v ∉ n.s.es.map (·.1) := by
    intro hmem
    rw [← keys_rows] at hmem
    obtain ⟨r, hr, rfl⟩ := List.mem_map.1 hmem
    obtain ⟨q, hq, e1, -⟩ := ht.downs n hn r hr
    exact hne q hq e1
   refine (putS_is hs3 rfl rfl (ht.oks n hn).1 (by omega) hnk).mono ?_
   rintro e w' ⟨rfl, s', ⟨g1, g2⟩, g3⟩
   have hnb : ∀ q ∈ n :: R, q.b ≠ w1.heap.size := fun q hq e => by
    have := hs1.lt (b := q.b) (o := .cells q.cells q.y) (List.mem_append_left _ (List.mem_flatMap.2 ⟨q, hq, List.mem_cons_self⟩))
    omega
   refine ⟨rfl, newNd n v w1.heap.size 318 :: { n with s := s' } :: R, newNd n v w1.heap.size 318, rfl, List.mem_cons_self, rfl, ?_, ht'.grow (fun q hq => hne q (hp.mem_iff.2 hq)) hnb g1 g2, (Same.perm hp).trans Same.grow⟩
   rw [cells_s] at g3
   refine g3.perm ?_
   rw [objs_cons, objs_cons, new_objs]
   unfold Nd.objs
   classical
   exact List.perm_iff_count.2 fun a => by simp only [List.count_append, List.count_cons, List.count_nil, List.append_assoc, List.cons_append]; omega
  clear hst ht hn hm hne
  go_enter Tryz.func272, Tryz.ntmps272
  go_wp2_with fail
  refine cl.out.mono ?_
  rintro e w1 ⟨rfl, hb⟩
  obtain ⟨g1, g2⟩ := put.out w1 hb
  replace g2 := Lib.hid g2
  clear hb put cl hk c2
  go_upto_region 5 with fail
  generalize w1.alloc (.cells #[np n.b, tx v, .map none, .int .i64 0, .map none, .int .i64 0] 318) = W2 at *
  generalize w1.heap.size = nb at *
  go_still_tail 8, (by kernel_rfl)
  change wpList _ _ _ _ _ W2.drew
  go_wp2_with fail
  refine g2.out.mono ?_
  rintro e w3 ⟨rfl, fin⟩
  replace fin := Lib.hid fin
  go_wp2_with fail
  go_ret
  exact fin.out
def LayAt (B : Nat) (w0 : World) (tb : Nat) (L0 : List Nd) (F : List (Nat × Obj)) (c : Nat) (P : Wds) (g : Nat) (a' : Act) (w' : World) : Prop :=
 ∃ (L : List Nd) (m : Nd) (at_ : Nat) (a : Option Addr) (cap : Nat) (S : List (Nat × Obj)), at_ + g = P.length ∧ m ∈ L ∧ m.p = P.take at_ ∧ Fr 22 [(0, np m.b), (5, .slice a P.length cap), (6, .int .i64 at_)] a' ∧
  St B w0 w' (objsL L ++ (S ++ F)) ∧ TreeOk L tb (c + at_) ∧ Same L0 L ∧ TssIs (.slice a P.length cap) P S
theorem take_snoc {P : Wds} {k : Nat} {x : List UInt8} (h : P[k]? = some x) : P.take k ++ [x] = P.take (k + 1) := by
 rw [List.take_add_one, h]; rfl
set_option maxHeartbeats 1000000 in
theorem lay_any (hst : St B w0 w (objsL L ++ F)) (ht : TreeOk L tb c) (hn : n ∈ L) (h0 : n.p = []) (l : List UInt8) (hl : l.length ≤ 1000) (hc : c ≤ 800000) :
  Calls Tryz.prog 243 #[np n.b, tx l] w (LaidR B w0 tb L F (c + (wordsL l).length) (wordsL l)) := by
 have hwl := words_len l
 have hws := words_short l
 have cw := Lib.hid (words_st (l := l) (by omega) w)
 have start : Hid (∀ w1 S, St w.heap.size w w1 S → St B w0 w1 (objsL L ++ (S ++ F)) ∧ TreeOk L tb (c + 0) ∧ Same L L ∧ n ∈ L ∧ n.p = (wordsL l).take 0) := Lib.hid fun w1 S hs => by
  refine ⟨(hst.join hs).perm ?_, ht, Same.refl _, hn, h0⟩
  rw [List.append_assoc]
  exact List.Perm.append_left _ List.perm_append_comm
 clear hst ht hn h0
 generalize wordsL l = P at *
 have hPl : P.length ≤ 1001 := by omega
 have hws : ∀ x ∈ P, x.length ≤ 1000 := fun x hx => by have := hws x hx; omega
 clear hwl
 generalize hnb : np n.b = nv at *
 go_enter Tryz.func243, Tryz.ntmps243
 go_wp2_with fail
 refine wp_scope_ghost 0 (LayAt B w0 tb L F c P) rfl ?_ ?_
 ·clear start cw hnb
  rintro g a' w' ⟨L1, m, at_, a, cap, S, hg, hm, hmp, hfr, hst, ht, hsame, hv⟩
  obtain ⟨f, rfl, hl'⟩ := hfr.lit
  clear hfr
  simp only [List.mem_cons, List.not_mem_nil, or_false, forall_eq_or_imp, forall_eq] at hl'
  obtain ⟨f0, f5, f6⟩ := hl'
  simp only [List.range, List.range.loop, List.map, f0, f5, f6]
  clear f0 f5 f6
  have hP0 : (P.length : Int) ≤ 1001 := by omega
  by_cases hlt : at_ < P.length
  ·have hx : P[at_]? = some P[at_] := List.getElem?_eq_getElem hlt
   have hxl := hws _ (List.mem_of_getElem? hx)
   have hrd : ReadTs w' (.slice a P.length cap) P := hv.read (X := objsL L1 ++ F) (hst.perm (by rw [List.append_assoc]; exact List.Perm.append_left _ List.perm_append_comm)) (fun x hx => by have := hws x hx; unfold maxLen; omega)
   obtain ⟨a2, cap2, e2, hta⟩ := hrd
   simp only [Value.slice.injEq, true_and] at e2
   obtain ⟨rfl, rfl⟩ := e2
   obtain ⟨-, b, off, rfl, hcell⟩ := hta.at_ _ _ hx
   have c1 := Lib.hid (to_any (v := P[at_]) hst ht hm (by omega) (by omega))
   rw [hmp, take_snoc hx] at c1
   have hlt' : (at_ : Int) < P.length := by omega
   have hat0 : (0 : Int) ≤ at_ := by omega
   have hne : ¬ (at_ : Int) = P.length := by omega
   have hneB : ((at_ : Int) == (P.length : Int)) = false := by simpa using hne
   generalize P[at_] = x at *
   replace hsame := Lib.hid hsame
   replace hv := Lib.hid hv
   clear hst ht hm hmp hta hx hws
   go_wp2_with fail
   refine c1.out.mono ?_
   rintro e w2 ⟨L2, m2, rfl, g1, g2, g3, g4, g5⟩
   replace g3 := Lib.hid g3
   replace g4 := Lib.hid g4
   replace g2 := Lib.hid g2
   clear c1
   go_wp2_with fail
   refine wp_goto ?_
   exact ⟨rfl, P.length - (at_ + 1), by omega, L2, m2, at_ + 1, _, _, S, by omega, g1, g2.out, ⟨rfl, rfl, by simp⟩, g3.out, by rw [← Nat.add_assoc]; exact g4.out, hsame.out.trans g5, hv.out⟩
  ·obtain rfl : at_ = P.length := by omega
   have fin : Hid (LaidR B w0 tb L F (c + P.length) P (.returned (np m.b)) w') := Lib.hid ⟨L1, m, rfl, hm, by rw [hmp, List.take_length], hst.sub ((List.Sublist.refl _).append (List.sublist_append_right _ _)), ht, hsame⟩
   clear hst ht hm hmp hsame hws hv
   go_wp2_with fail
   simp only [Exit.jump]
   go_ret
   exact fin.out
 ·intro H
  clear hws
  go_wp2_with fail
  refine cw.out.mono ?_
  rintro e w1 ⟨v, S, rfl, hv, hS⟩
  obtain ⟨a, cap, rfl⟩ := hv.form
  obtain ⟨k1, k2, k3, k4, k5⟩ := start.out _ _ hS
  clear hS start cw
  replace k1 := Lib.hid k1
  replace hv := Lib.hid hv
  go_wp2_with fail
  refine wp_label ?_
  go_step
  go_step
  exact H P.length _ _ ⟨L, n, 0, a, cap, S, by omega, k4, k5, ⟨rfl, rfl, by simp [hnb]⟩, k1.out, k2, k3, hv.out⟩
end
end Go.Proofs.YtknjamfjonapiaaGreatDoor
namespace Go.Proofs.YtknjamfjonapiaaGreatDoor
open Go.RowKit
open Go.ChangeMaps (setBlock)
set_option linter.unusedVariables false
set_option linter.unusedSectionVars false
set_option linter.unusedSimpArgs false
set_option maxRecDepth 100000
section
variable {B : Nat} {w0 w : World} {F : List (Nat × Obj)} {L : List Nd} {tb c : Nat} {n m : Nd} {P : Wds}
theorem TreeOk.one (h : TreeOk L tb c) {k : Nat} (hk : k < P.length) (hm : ∃ m ∈ L, m.p = P.take (k + 1)) : ∃ m ∈ L, m.p = P.take k := by
 obtain ⟨m, hm, e⟩ := hm
 have hx : P[k]? = some P[k] := List.getElem?_eq_getElem hk
 rw [← take_snoc hx] at e
 rcases h.ups m hm with ⟨h1, _⟩ | ⟨q, hq, w, h1, _, _⟩
 ·rw [h1] at e
  have := congrArg List.length e
  rw [List.length_append, List.length_singleton, List.length_nil] at this
  omega
 ·rw [h1] at e
  exact ⟨q, hq, (snoc_inj e).1⟩
theorem TreeOk.pre (h : TreeOk L tb c) (hm : ∃ m ∈ L, m.p = P) : ∀ (d k : Nat), k + d = P.length → ∃ m ∈ L, m.p = P.take k
 | 0, k, e => by rw [List.take_of_length_le (by omega)]; exact hm
 | d + 1, k, e => h.one (by omega) (TreeOk.pre h hm d (k + 1) (by omega))
theorem Same.cut {R : List Nd} {s' : Tb (List UInt8)} (hp : m.p ≠ []) (hi : m.i.es = []) : Same (m :: n :: R) ({ n with s := s' } :: R) := by
 refine ⟨fun p k => ⟨?_, ?_⟩, ?_⟩
 ·rintro ⟨q, hq, e1, e2⟩
  rcases List.mem_cons.1 hq with rfl | hq
  ·exact ⟨n, by simp, e1, e2⟩
  ·exact ⟨q, by simp [hq], e1, e2⟩
 ·rintro ⟨q, hq, e1, e2⟩
  rcases List.mem_cons.1 hq with rfl | hq
  ·rw [hi] at e2
   exact absurd e2 (by simp)
  rcases List.mem_cons.1 hq with rfl | hq
  ·exact ⟨{ q with s := s' }, by simp, e1, e2⟩
  ·exact ⟨q, by simp [hq], e1, e2⟩
 ·rintro X ⟨q, hq, e1, e2⟩
  rcases List.mem_cons.1 hq with rfl | hq
  ·exact absurd e1 hp
  rcases List.mem_cons.1 hq with rfl | hq
  ·exact ⟨{ q with s := s' }, by simp, e1, e2⟩
  ·exact ⟨q, by simp [hq], e1, e2⟩
end
end Go.Proofs.YtknjamfjonapiaaGreatDoor
