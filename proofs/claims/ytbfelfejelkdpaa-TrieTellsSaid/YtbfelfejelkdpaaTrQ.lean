/- Walks over a tree, plain: where a walk is behind some words of a key. -/
import Derived.Test.YtbfelfejelkdpaaTrP
namespace Go.Proofs.Ytbfelfejelkdpaa
open Go.RowKit
set_option linter.unusedVariables false
set_option linter.unusedSectionVars false
set_option linter.unusedSimpArgs false

section
variable {L : List Nd} {tb c : Nat} {K K' K0 : Kn} {n m : Nd} {A X H : List Nd} {o0 o : Option Nd} {ks : Wds} {w : List UInt8}
/-- Nothing is left to look at. -/
def Stop (K : Kn) (o : Option Nd) : Prop := ∀ y, o = some y → K y.p ≠ 0

structure Here (L : List Nd) (ks : Wds) (K : Kn) (H : List Nd) : Prop where
  ok : KOk L K
  nodup : H.Nodup
  mem : ∀ y ∈ H, y ∈ L
  sound : ∀ y ∈ H, gl y.p ks = true
  hash : ∀ y ∈ H, ∀ p, y.p = p ++ [[35]] → K y.p ≠ 0
  kids : ∀ y ∈ H, ∀ z ∈ L, z.p = y.p ++ [[35]] → K z.p ≠ 0
  one : ∀ n ∈ L, K n.p = 1 → n ∈ H
  all : ∀ q ∈ L, gl q.p ks = true → q ∈ H ∨ K q.p = 2

theorem KOk.cases (h : KOk L K) {p : Wds} (h0 : K p ≠ 0) : K p = 1 ∨ K p = 2 := by
  have := h.few p
  omega
theorem Here.start (ht : TreeOk L tb c) (hn : n ∈ L) (h0 : n.p = []) (R : ReachOk L (fun _ => 0) [] (some n) K X o) (hs : Stop K o) : Here L [] K X := by
  have one : ∀ m ∈ L, K m.p = 1 → m ∈ X := by
    intro m hm h1
    rcases R.turn m.p with e | e | ⟨_, y, hy, e⟩
    · rw [h1] at e; cases e
    · rw [h1] at e; cases e
    · rw [← map_inj ht.paths (R.mem y (by simpa using hy)) hm e]
      exact hy
  have kids : ∀ y ∈ X, ∀ z ∈ L, z.p = y.p ++ [[35]] → K z.p ≠ 0 := fun y hy z hz e => (R.kids y hy z hz e).elim id fun e => hs z e
  refine ⟨R.ok, by simpa using R.nodup, fun y hy => R.mem y (by simpa using hy), ?_, fun y hy => R.hash y (by simpa using hy), kids, one, ?_⟩
  · intro y hy
    obtain ⟨x, j, e1, e2⟩ := R.form y hy
    cases e1
    rw [e2, h0]
    exact gl_hashes rfl j
  · have key : ∀ d, ∀ q ∈ L, q.p.length = d → gl q.p [] = true → q ∈ X ∨ K q.p = 2 := by
      intro d
      induction d with
      | zero =>
        intro q hq hd _
        have e : q.p = [] := List.eq_nil_of_length_eq_zero hd
        obtain rfl := map_inj ht.paths hq hn (e.trans h0.symm)
        rcases R.first q rfl with ⟨e1, e2⟩ | e1
        · right
          rcases R.ok.cases (hs q e2) with e3 | e3
          · have := one q hq e3
            rw [e1] at this
            simp at this
          · exact e3
        · exact .inl e1
      | succ d ih =>
        intro q hq hd hg
        rcases ht.ups q hq with ⟨e, _⟩ | ⟨x, hx, v, e, _, _⟩
        · rw [e] at hd; cases hd
        · rw [e] at hg
          by_cases hv : v = [35]
          · subst hv
            obtain ⟨j, hj, hg⟩ := gl_last_hash.1 hg
            rw [List.take_nil] at hg
            have hxd : x.p.length = d := by
              rw [e, List.length_append, List.length_singleton] at hd
              omega
            have hk : K q.p ≠ 0 := by
              rcases ih x hx hxd hg with h1 | h1
              · exact kids x h1 q hq e
              · exact (R.ok.two x hx h1).2 q hq _ e
            rcases R.ok.cases hk with h1 | h1
            · exact .inl (one q hq h1)
            · exact .inr h1
          · rw [gl_last_short hv] at hg
            cases hg
    exact fun q hq => key _ q hq rfl

/-- While a word is taken: of those in stays it is done whether they stay, of those in led where they lead. -/
structure Taking (L : List Nd) (ks : Wds) (w : List UInt8) (K0 : Kn) (H : List Nd) (stays : Nd → Prop) (led : Nd → List UInt8 → Prop) (K : Kn) (A : List Nd) : Prop where
  here : Here L ks K0 H
  ok : KOk L K
  nodup : A.Nodup
  mem : ∀ y ∈ A, y ∈ L
  sound : ∀ y ∈ A, gl y.p (ks ++ [w]) = true
  hash : ∀ y ∈ A, ∀ p, y.p = p ++ [[35]] → K y.p ≠ 0
  kids : ∀ y ∈ A, ∀ z ∈ L, z.p = y.p ++ [[35]] → K z.p ≠ 0
  turn : ∀ q, K q = K0 q ∨ K q = 2 ∨ (K0 q = 0 ∧ ∃ y ∈ A, y.p = q)
  stay : ∀ n ∈ H, stays n → K n.p = 1 → n ∈ A
  lead : ∀ n ∈ H, ∀ v, led n v → ∀ z ∈ L, z.p = n.p ++ [v] → z ∈ A ∨ K z.p ≠ 0
  from_ : ∀ y ∈ A, (∀ p, y.p ≠ p ++ [[35]]) → ∃ n ∈ H, ∃ v, y.p = n.p ++ [v] ∧ led n v
  back : ∀ y ∈ A, y ∈ H → ∀ p, y.p = p ++ [[35]] → stays y
variable {stays : Nd → Prop} {led : Nd → List UInt8 → Prop}

theorem Taking.start (h : Here L ks K H) (w : List UInt8) : Taking L ks w K H (fun _ => False) (fun _ _ => False) K [] :=
  ⟨h, h.ok, by simp, by simp, by simp, by simp, by simp, fun q => .inl rfl, fun _ _ e => e.elim, fun _ _ _ e => e.elim, by simp, by simp⟩
theorem Taking.up (h : Taking L ks w K0 H stays led K A) {q : Wds} (hq : K0 q ≠ 0) : K q ≠ 0 := by
  rcases h.turn q with e | e | ⟨e, _⟩
  · rw [e]; exact hq
  · rw [e]; decide
  · exact absurd e hq
theorem Taking.stay0 (h : Taking L ks w K0 H stays led K A) (hk : K n.p ≠ 1) : Taking L ks w K0 H (fun x => stays x ∨ x = n) led K A :=
  ⟨h.here, h.ok, h.nodup, h.mem, h.sound, h.hash, h.kids, h.turn, fun m hm hs h1 => hs.elim (fun hs => h.stay m hm hs h1) fun e => absurd (e ▸ h1) hk, h.lead, h.from_, fun y hy hyH p e => .inl (h.back y hy hyH p e)⟩
theorem Taking.fresh (h : Taking L ks w K0 H stays led K A) (hn : n ∈ H) (hs : ¬ stays n) (hk : K n.p = 1) : n ∉ A := fun hA => by
  obtain ⟨p, e⟩ := h.ok.one n (h.here.mem n hn) hk
  exact hs (h.back n hA hn p e)
theorem Taking.stay1 (h : Taking L ks w K0 H stays led K A) (hn : n ∈ H) (hs : ¬ stays n) (hk : K n.p = 1) : Taking L ks w K0 H (fun x => stays x ∨ x = n) led K (A ++ [n]) := by
  obtain ⟨p, e⟩ := h.ok.one n (h.here.mem n hn) hk
  have hnA := h.fresh hn hs hk
  have all : ∀ {Q : Nd → Prop}, (∀ y ∈ A, Q y) → Q n → ∀ y ∈ A ++ [n], Q y := by
    intro Q h1 h2 y hy
    rcases List.mem_append.1 hy with hy | hy
    · exact h1 y hy
    · rw [List.mem_singleton] at hy
      subst hy
      exact h2
  refine ⟨h.here, h.ok, ?_, all h.mem (h.here.mem n hn), all h.sound ?_, all h.hash (fun _ _ => by rw [hk]; decide), all h.kids (fun z hz e2 => h.up (h.here.kids n hn z hz e2)), ?_, ?_, ?_, ?_, ?_⟩
  · rw [List.nodup_append]
    exact ⟨h.nodup, by simp, by rintro a ha b hb rfl; rw [List.mem_singleton] at hb; subst hb; exact hnA ha⟩
  · have := h.here.sound n hn
    rw [e] at this ⊢
    exact gl_hash_on.2 (.inr this)
  · intro q
    rcases h.turn q with g | g | ⟨g, y, hy, e2⟩
    · exact .inl g
    · exact .inr (.inl g)
    · exact .inr (.inr ⟨g, y, by simp [hy], e2⟩)
  · intro m hm hs h1
    rcases hs with hs | rfl
    · exact List.mem_append_left _ (h.stay m hm hs h1)
    · simp
  · intro m hm v hv z hz e2
    exact (h.lead m hm v hv z hz e2).imp (fun x => List.mem_append_left _ x) id
  · exact all h.from_ (fun hno => absurd e (hno p))
  · exact all (fun y hy hyH p e => .inl (h.back y hy hyH p e)) (fun _ _ _ => .inr rfl)
/-- What is asked of where it leads. -/
theorem Taking.ask (h : Taking L ks w K0 H stays led K A) (ht : TreeOk L tb c) (hn : n ∈ H) {v : List UInt8} (hl : ¬ led n v) : ∀ y, nd L (n.p ++ [v]) = some y → y ∈ L ∧ (K y.p = 0 → y ∉ A) := by
  intro y hy
  obtain ⟨h1, h2⟩ := nd_mem hy
  refine ⟨h1, fun hk hA => ?_⟩
  by_cases hv : v = [35]
  · subst hv
    exact h.hash y hA _ h2 hk
  · obtain ⟨m, hm, v', e1, e2⟩ := h.from_ y hA (fun p e => hv (by rw [h2] at e; exact (snoc_inj e).2))
    rw [h2] at e1
    obtain ⟨e3, rfl⟩ := snoc_inj e1
    obtain rfl := map_inj ht.paths (h.here.mem n hn) (h.here.mem m hm) e3
    exact hl e2
theorem Taking.reach (h : Taking L ks w K0 H stays led K A) (ht : TreeOk L tb c) (hn : n ∈ H) {v : List UInt8} (hv : stands v w = true ∨ v = [35]) (R : ReachOk L K A (nd L (n.p ++ [v])) K' X o) (hs : Stop K' o) :
    Taking L ks w K0 H stays (fun x u => led x u ∨ (x = n ∧ u = v)) K' (A ++ X) := by
  have hnL := h.here.mem n hn
  have all : ∀ {Q : Nd → Prop}, (∀ y ∈ A, Q y) → (∀ y ∈ X, Q y) → ∀ y ∈ A ++ X, Q y := fun h1 h2 y hy => (List.mem_append.1 hy).elim (h1 y) (h2 y)
  refine ⟨h.here, R.ok, R.nodup, R.mem, all h.sound ?_, R.hash, all (fun y hy z hz e => R.up (h.kids y hy z hz e)) (fun y hy z hz e => (R.kids y hy z hz e).elim id fun e => hs z e), ?_, ?_, ?_, all ?_ ?_, all h.back ?_⟩
  · intro y hy
    obtain ⟨x, j, e1, e2⟩ := R.form y hy
    obtain ⟨-, e3⟩ := nd_mem e1
    rw [e2, e3]
    refine gl_hashes ?_ j
    have hg := h.here.sound n hn
    by_cases h35 : v = [35]
    · subst h35
      exact gl_hash_on.2 (.inr (gl_hash_more hg))
    · exact (gl_last_one h35).2 ⟨hg, hv.elim id fun e => absurd e h35⟩
  · intro q
    rcases R.turn q with e | e | ⟨e, y, hy, e2⟩
    · rcases h.turn q with g | g | ⟨g, y, hy, e2⟩
      · exact .inl (e.trans g)
      · exact .inr (.inl (e.trans g))
      · exact .inr (.inr ⟨g, y, by simp [hy], e2⟩)
    · exact .inr (.inl e)
    · rcases h.turn q with g | g | ⟨g, -⟩
      · exact .inr (.inr ⟨by rw [← g, e], y, by simp [hy], e2⟩)
      · rw [e] at g; cases g
      · exact .inr (.inr ⟨g, y, by simp [hy], e2⟩)
  · intro m hm hsm h1
    rcases R.turn m.p with e | e | ⟨e, y, hy, e2⟩
    · exact List.mem_append_left _ (h.stay m hm hsm (e ▸ h1))
    · rw [h1] at e; cases e
    · rw [← map_inj ht.paths (R.mem y (by simp [hy])) (h.here.mem m hm) e2]
      exact List.mem_append_right _ hy
  · intro m hm u hu z hz e
    rcases hu with hu | ⟨rfl, rfl⟩
    · exact (h.lead m hm u hu z hz e).imp (fun x => List.mem_append_left _ x) R.up
    · have : nd L (m.p ++ [u]) = some z := by rw [← e]; exact ht.nd_some hz
      rcases R.first z this with ⟨_, e2⟩ | e2
      · exact .inr (hs z e2)
      · exact .inl (List.mem_append_right _ e2)
  · intro y hy hno
    obtain ⟨x, hx, u, e1, e2⟩ := h.from_ y hy hno
    exact ⟨x, hx, u, e1, .inl e2⟩
  · intro y hy hno
    obtain ⟨x, j, e1, e2⟩ := R.form y hy
    obtain ⟨-, e3⟩ := nd_mem e1
    cases j with
    | zero => exact ⟨n, hn, v, by simpa [e3] using e2, .inr ⟨rfl, rfl⟩⟩
    | succ j =>
      rw [List.replicate_succ', ← List.append_assoc] at e2
      exact absurd e2 (hno _)
  · intro y hy hyH p e
    exact absurd (R.zero y hy) (h.up (h.here.hash y hyH p e))
theorem Taking.done (h : Taking L ks w K0 H stays led K A) (ht : TreeOk L tb c) (h1 : ∀ n ∈ H, stays n) (h2 : ∀ n ∈ H, ∀ v, v ≠ [35] → stands v w = true → led n v) : Here L (ks ++ [w]) K A := by
  have one : ∀ n ∈ L, K n.p = 1 → n ∈ A := by
    intro n hn hk
    rcases h.turn n.p with e | e | ⟨_, y, hy, e⟩
    · have := h.here.one n hn (e ▸ hk)
      exact h.stay n this (h1 n this) hk
    · rw [hk] at e; cases e
    · rw [← map_inj ht.paths (h.mem y hy) hn e]
      exact hy
  have two : ∀ q, K0 q = 2 → K q = 2 := fun q hq => by
    rcases h.turn q with e | e | ⟨e, _⟩
    · rw [e, hq]
    · exact e
    · rw [hq] at e; cases e
  refine ⟨h.ok, h.nodup, h.mem, h.sound, h.hash, h.kids, one, ?_⟩
  have fin : ∀ q ∈ L, K q.p ≠ 0 → q ∈ A ∨ K q.p = 2 := fun q hq hk => (h.ok.cases hk).imp (one q hq) id
  have key : ∀ d, ∀ q ∈ L, q.p.length = d → gl q.p (ks ++ [w]) = true → q ∈ A ∨ K q.p = 2 := by
    intro d
    induction d with
    | zero =>
      intro q hq hd hg
      rw [List.eq_nil_of_length_eq_zero hd, gl_none] at hg
      cases hg
    | succ d ih =>
      intro q hq hd hg
      rcases ht.ups q hq with ⟨e, _⟩ | ⟨x, hx, v, e, _, _⟩
      · rw [e] at hd; cases hd
      · have hxd : x.p.length = d := by
          rw [e, List.length_append, List.length_singleton] at hd
          omega
        rw [e] at hg
        by_cases hv : v = [35]
        · subst hv
          rcases gl_hash_on.1 hg with hg | hg
          · refine fin q hq ?_
            rcases ih x hx hxd hg with g | g
            · exact h.kids x g q hq e
            · exact (h.ok.two x hx g).2 q hq _ e
          · rw [← e] at hg
            rcases h.here.all q hq hg with g | g
            · exact fin q hq (h.up (h.here.hash q g _ e))
            · exact .inr (two _ g)
        · obtain ⟨hg, hst⟩ := (gl_last_one hv).1 hg
          rcases h.here.all x hx hg with g | g
          · rcases h.lead x g v (h2 x g v hv hst) q hq e with k | k
            · exact .inl k
            · exact fin q hq k
          · exact fin q hq ((h.ok.two x hx (two _ g)).2 q hq _ e)
  exact fun q hq => key _ q hq rfl
theorem Here.none (h : Here L ks K []) (ht : TreeOk L tb c) (more : Wds) : Here L (ks ++ more) K [] := by
  induction more generalizing ks with
  | nil => simpa using h
  | cons w more ih =>
    have := ih ((Taking.start h w).done ht (by simp) (by simp))
    simpa using this
theorem Here.len (h : Here L ks K H) : H.length ≤ L.length := nodup_len h.nodup h.mem
theorem Here.ids (h : Here L ks K H) (k : Int) : (∃ n ∈ H, k ∈ n.i.es.map (·.1)) ↔ ∃ p, HasId L p k ∧ gl p ks = true := by
  constructor
  · rintro ⟨n, hn, hk⟩
    exact ⟨n.p, ⟨n, h.mem n hn, rfl, hk⟩, h.sound n hn⟩
  · rintro ⟨p, ⟨n, hn, rfl, hk⟩, hg⟩
    rcases h.all n hn hg with g | g
    · exact ⟨n, g, hk⟩
    · rw [(h.ok.two n hn g).1] at hk
      simp at hk
end
end Go.Proofs.Ytbfelfejelkdpaa
