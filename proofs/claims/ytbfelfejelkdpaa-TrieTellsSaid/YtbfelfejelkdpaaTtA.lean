/- TrieTells, plain: pairs by their texts; ids that are found, put in order. -/
import Derived.Test.YtbfelfejelkdpaaTrN
namespace Go.Proofs.Ytbfelfejelkdpaa
open Go.RowKit
set_option linter.unusedVariables false
set_option linter.unusedSectionVars false
set_option linter.unusedSimpArgs false

/-- A pair by its pattern's text. -/
abbrev Tp := List UInt8 × Int
def joinW : Wds → List UInt8
  | [] => []
  | w :: r => if r.isEmpty then w else w ++ 46 :: joinW r
theorem joinW_words : ∀ l, joinW (wordsL l) = l
  | [] => rfl
  | c :: l => by
    have ih := joinW_words l
    have hp := words_pos l
    unfold wordsL
    split
    · rename_i hc
      unfold joinW
      have : (wordsL l).isEmpty = false := by
        cases h : wordsL l with
        | nil => rw [h] at hp; simp at hp
        | cons a r => rfl
      rw [this, ih, hc]
      rfl
    · cases h : wordsL l with
      | nil => rw [h] at hp; simp at hp
      | cons a r =>
        rw [h] at ih
        unfold joinW at ih ⊢
        by_cases hr : r.isEmpty = true
        · rw [if_pos hr] at ih ⊢
          rw [ih]
        · rw [if_neg hr] at ih ⊢
          rw [List.cons_append, ih]
theorem words_inj {a b : List UInt8} (h : wordsL a = wordsL b) : a = b := by rw [← joinW_words a, h, joinW_words]
def wd (x : Tp) : Wds × Int := (wordsL x.1, x.2)
theorem wd_inj {x y : Tp} (h : wd x = wd y) : x = y := by
  unfold wd at h
  rw [Prod.mk.injEq] at h
  exact Prod.ext (words_inj h.1) h.2
theorem wd_mem {L : List Tp} {x : Tp} : wd x ∈ L.map wd ↔ x ∈ L := by
  rw [List.mem_map]
  exact ⟨fun ⟨y, h, e⟩ => wd_inj e ▸ h, fun h => ⟨x, h, rfl⟩⟩
def addT (L : List Tp) (x : Tp) : List Tp := if x ∈ L then L else L ++ [x]
def cutT (L : List Tp) (x : Tp) : List Tp := L.filter fun y => decide (y ≠ x)
theorem add_wd (L : List Tp) (x : Tp) : addM (L.map wd) (wd x) = (addT L x).map wd := by
  unfold addM addT
  by_cases h : x ∈ L
  · rw [if_pos h, if_pos (wd_mem.2 h)]
  · rw [if_neg h, if_neg (fun e => h (wd_mem.1 e)), List.map_append]
    rfl
theorem cut_wd (L : List Tp) (x : Tp) : cutM (L.map wd) (wd x) = (cutT L x).map wd := by
  unfold cutM cutT
  rw [List.filter_map]
  congr 1
  apply List.filter_congr
  intro y _
  simp only [Function.comp_apply, decide_eq_decide]
  exact not_congr ⟨fun e => wd_inj e, fun e => e ▸ rfl⟩
theorem in_wd (L : List Tp) (x : Tp) : decide (wd x ∈ L.map wd) = decide (x ∈ L) := decide_eq_decide.2 wd_mem
theorem addT_nodup {L : List Tp} {x : Tp} (h : L.Nodup) : (addT L x).Nodup := by
  unfold addT
  split
  · exact h
  · rename_i hx
    rw [List.nodup_append]
    exact ⟨h, by simp, fun a ha b hb e => hx (by rw [List.mem_singleton] at hb; subst hb; exact e ▸ ha)⟩
theorem cutT_at {L : List Tp} {x : Tp} (h : L.Nodup) {i : Nat} (hx : L[i]? = some x) : cutT L x = L.take i ++ L.drop (i + 1) := by
  have hi := (List.getElem?_eq_some_iff.1 hx).1
  have e : L = L.take i ++ x :: L.drop (i + 1) := by
    have h1 := List.take_append_drop i L
    rw [List.drop_eq_getElem_cons hi, (List.getElem?_eq_some_iff.1 hx).2] at h1
    exact h1.symm
  have hn := h
  rw [e, List.nodup_append] at hn
  obtain ⟨h1, h2, h3⟩ := hn
  rw [List.nodup_cons] at h2
  have k1 : (L.take i).filter (fun y => decide (y ≠ x)) = L.take i := by
    rw [List.filter_eq_self]
    intro y hy
    exact decide_eq_true (fun e => h3 y hy x List.mem_cons_self e)
  have k2 : (L.drop (i + 1)).filter (fun y => decide (y ≠ x)) = L.drop (i + 1) := by
    rw [List.filter_eq_self]
    intro y hy
    exact decide_eq_true (fun e => h2.1 (e ▸ hy))
  have k3 : (decide (x ≠ x)) = false := by simp
  unfold cutT
  conv => lhs; rw [e]
  rw [List.filter_append, List.filter_cons, k1, k2, k3]
  rfl
theorem cutT_nodup {L : List Tp} {x : Tp} (h : L.Nodup) : (cutT L x).Nodup := h.filter _

/-- Where a pair lies in the first n ones: so far none, or there. -/
def AtP (L : List Tp) (x : Tp) (n : Nat) (at_ : Int) : Prop := (at_ = -1 ∧ x ∉ L.take n) ∨ ∃ j : Nat, at_ = j ∧ j < n ∧ L[j]? = some x
section
variable {L : List Tp} {x y : Tp} {n : Nat} {at_ : Int}
theorem AtP.start : AtP L x 0 (-1) := .inl ⟨rfl, by simp⟩
theorem AtP.hit (hy : L[n]? = some x) : AtP L x (n + 1) n := .inr ⟨n, rfl, by omega, hy⟩
theorem AtP.miss (h : AtP L x n at_) (hy : L[n]? = some y) (hne : y ≠ x) : AtP L x (n + 1) at_ := by
  rcases h with ⟨h1, h2⟩ | ⟨j, h1, h2, h3⟩
  · refine .inl ⟨h1, ?_⟩
    rw [List.take_add_one, hy]
    simp only [Option.toList_some, List.mem_append, List.mem_singleton, not_or]
    exact ⟨h2, fun e => hne e.symm⟩
  · exact .inr ⟨j, h1, by omega, h3⟩
theorem AtP.last (h : AtP L x L.length at_) : (at_ = -1 ∧ x ∉ L) ∨ ∃ j : Nat, at_ = j ∧ j < L.length ∧ L[j]? = some x := by
  rcases h with ⟨h1, h2⟩ | h
  · rw [List.take_length] at h2
    exact .inl ⟨h1, h2⟩
  · exact .inr h
end

/-! ### ids put in order, each once -/
theorem ins_new {l : List Int} {k : Nat} {z : Int} (h : Rises1 l) (hk : k ≤ l.length) (h1 : ∀ (i : Nat) x, i < k → l[i]? = some x → x < z) (h2 : ∀ x, l[k]? = some x → z < x) :
    Rises1 (l.take k ++ [z] ++ l.drop k) ∧ ∀ x, x ∈ l.take k ++ [z] ++ l.drop k ↔ x ∈ l ∨ x = z := by
  have e := List.take_append_drop k l
  have hr := h
  rw [← e] at hr
  unfold Rises1 at hr
  rw [List.pairwise_append] at hr
  obtain ⟨p1, p2, p3⟩ := hr
  have low : ∀ a ∈ l.take k, a < z := by
    intro a ha
    obtain ⟨i, hi, rfl⟩ := List.getElem_of_mem ha
    rw [List.length_take] at hi
    have : l[i]? = some l[i] := List.getElem?_eq_getElem (by omega)
    rw [List.getElem_take]
    exact h1 i _ (by omega) this
  have high : ∀ b ∈ l.drop k, z < b := by
    intro b hb
    cases hd : l.drop k with
    | nil => rw [hd] at hb; cases hb
    | cons c r =>
      have hc : l[k]? = some c := by
        have : (l.drop k)[0]? = some c := by rw [hd]; rfl
        rwa [List.getElem?_drop, Nat.add_zero] at this
      have hz := h2 c hc
      rw [hd] at hb p2
      rcases List.mem_cons.1 hb with rfl | hb
      · exact hz
      · have := (List.pairwise_cons.1 p2).1 b hb
        omega
  constructor
  · unfold Rises1
    rw [List.append_assoc, List.pairwise_append]
    refine ⟨p1, ?_, ?_⟩
    · rw [List.singleton_append, List.pairwise_cons]
      exact ⟨high, p2⟩
    · intro a ha b hb
      rcases List.mem_cons.1 hb with rfl | hb
      · exact low a ha
      · exact p3 a ha b hb
  · intro x
    conv => rhs; rw [← e]
    simp only [List.mem_append, List.mem_singleton]
    constructor
    · rintro ((h | h) | h)
      · exact .inl (.inl h)
      · exact .inr h
      · exact .inl (.inr h)
    · rintro ((h | h) | h)
      · exact .inl (.inl h)
      · exact .inr h
      · exact .inl (.inr h)

/-- The ids of these pairs that match, in order: what is found so far. -/
def Found (L : List Tp) (key : List UInt8) (n : Nat) (out : List Int) : Prop :=
  Rises1 out ∧ out.length ≤ n ∧ ∀ z, z ∈ out ↔ ∃ s, s ∈ L.take n ∧ gl (wordsL s.1) (wordsL key) = true ∧ s.2 = z
section
variable {L : List Tp} {key p : List UInt8} {n k : Nat} {out : List Int} {z : Int}
theorem Found.start : Found L key 0 [] := ⟨by simp [Rises1], by simp, by simp⟩
theorem Found.mem (h : Found L key n out) (hs : L[n]? = some (p, z)) (x : Int) : (∃ s, s ∈ L.take (n + 1) ∧ gl (wordsL s.1) (wordsL key) = true ∧ s.2 = x) ↔ x ∈ out ∨ (gl (wordsL p) (wordsL key) = true ∧ z = x) := by
  rw [h.2.2]
  rw [List.take_add_one, hs]
  simp only [Option.toList_some, List.mem_append, List.mem_singleton]
  constructor
  · rintro ⟨s, h1 | rfl, h2, h3⟩
    · exact .inl ⟨s, h1, h2, h3⟩
    · exact .inr ⟨h2, h3⟩
  · rintro (⟨s, h1, h2, h3⟩ | ⟨h2, h3⟩)
    · exact ⟨s, .inl h1, h2, h3⟩
    · exact ⟨_, .inr rfl, h2, h3⟩
theorem Found.no (h : Found L key n out) (hs : L[n]? = some (p, z)) (hg : gl (wordsL p) (wordsL key) = false) : Found L key (n + 1) out :=
  ⟨h.1, by have := h.2.1; omega, fun x => by rw [h.mem hs, hg]; simp⟩
theorem Found.old (h : Found L key n out) (hs : L[n]? = some (p, z)) (hz : out[k]? = some z) : Found L key (n + 1) out :=
  ⟨h.1, by have := h.2.1; omega, fun x => by
    rw [h.mem hs]
    exact ⟨.inl, fun e => e.elim id fun e => e.2 ▸ List.mem_of_getElem? hz⟩⟩
theorem Found.put (h : Found L key n out) (hs : L[n]? = some (p, z)) (hg : gl (wordsL p) (wordsL key) = true) (hk : k ≤ out.length) (h1 : ∀ (i : Nat) x, i < k → out[i]? = some x → x < z) (h2 : ∀ x, out[k]? = some x → z < x) : Found L key (n + 1) (out.take k ++ [z] ++ out.drop k) := by
  obtain ⟨q1, q2⟩ := ins_new h.1 hk h1 h2
  refine ⟨q1, ?_, fun x => ?_⟩
  · have := h.2.1
    simp only [List.length_append, List.length_take, List.length_drop, List.length_singleton]
    omega
  · rw [h.mem hs, q2, hg]
    simp [eq_comm]
/-- At the end: just what the trie finds. -/
theorem Found.last (h : Found L key L.length out) (x : Int) : x ∈ out ↔ x ∈ hits (L.map wd) (wordsL key) := by
  rw [h.2.2, List.take_length, mem_hits]
  constructor
  · rintro ⟨s, h1, h2, h3⟩
    exact ⟨wordsL s.1, List.mem_map.2 ⟨s, h1, by unfold wd; rw [h3]⟩, h2⟩
  · rintro ⟨p, h1, h2⟩
    obtain ⟨s, h3, h4⟩ := List.mem_map.1 h1
    unfold wd at h4
    rw [Prod.mk.injEq] at h4
    exact ⟨s, h3, by rw [h4.1]; exact h2, h4.2⟩
/-- All below it are less: one more. -/
def Less (out : List Int) (z : Int) (k : Nat) : Prop := ∀ (i : Nat) x, i < k → out[i]? = some x → x < z
theorem Less.start : Less out z 0 := fun i x h => by omega
theorem Less.more {y : Int} (h : Less out z k) (hy : out[k]? = some y) (hz : y < z) : Less out z (k + 1) := fun i x hi hx => by
  by_cases e : i = k
  · subst e
    rw [hy] at hx
    exact Option.some.inj hx ▸ hz
  · exact h i x (by omega) hx
end

/-- The rows as cells. -/
def tcells (L : List Tp) : List Value := L.flatMap fun s => [.bool false, tx s.1, .int .i64 s.2]
theorem tcells_len (L : List Tp) : (tcells L).length = L.length * 3 := by
  induction L with
  | nil => rfl
  | cons s L ih => rw [tcells, List.flatMap_cons, List.length_append]; unfold tcells at ih; rw [ih]; simp; omega
theorem tcells_app (L M : List Tp) : tcells (L ++ M) = tcells L ++ tcells M := by simp [tcells]
theorem tcells_at {L : List Tp} {i : Nat} {s : Tp} (h : L[i]? = some s) : (tcells L)[i * 3]? = some (.bool false) ∧ (tcells L)[i * 3 + 1]? = some (tx s.1) ∧ (tcells L)[i * 3 + 2]? = some (.int .i64 s.2) := by
  induction L generalizing i with
  | nil => simp at h
  | cons t L ih =>
    have e : tcells (t :: L) = [.bool false, tx t.1, .int .i64 t.2] ++ tcells L := rfl
    rw [e]
    cases i with
    | zero =>
      simp only [List.getElem?_cons_zero, Option.some.injEq] at h
      subst h
      exact ⟨rfl, rfl, rfl⟩
    | succ i =>
      rw [List.getElem?_cons_succ] at h
      have := ih h
      refine ⟨?_, ?_, ?_⟩
      · rw [List.getElem?_append_right (by simp; omega)]
        rw [show (i + 1) * 3 - [Value.bool false, tx t.1, .int .i64 t.2].length = i * 3 by simp; omega]
        exact this.1
      · rw [List.getElem?_append_right (by simp; omega)]
        rw [show (i + 1) * 3 + 1 - [Value.bool false, tx t.1, .int .i64 t.2].length = i * 3 + 1 by simp; omega]
        exact this.2.1
      · rw [List.getElem?_append_right (by simp; omega)]
        rw [show (i + 1) * 3 + 2 - [Value.bool false, tx t.1, .int .i64 t.2].length = i * 3 + 2 by simp; omega]
        exact this.2.2
theorem tcells_take (L : List Tp) (k : Nat) (h : k ≤ L.length) : tcells (L.take k) = (tcells L).take (k * 3) := by
  have e := congrArg tcells (List.take_append_drop k L)
  rw [tcells_app] at e
  rw [← e, List.take_left' (by rw [tcells_len, List.length_take]; omega)]
theorem tcells_drop (L : List Tp) (k : Nat) (h : k ≤ L.length) : tcells (L.drop k) = (tcells L).drop (k * 3) := by
  have e := congrArg tcells (List.take_append_drop k L)
  rw [tcells_app] at e
  rw [← e, List.drop_left' (by rw [tcells_len, List.length_take]; omega)]
end Go.Proofs.Ytbfelfejelkdpaa
