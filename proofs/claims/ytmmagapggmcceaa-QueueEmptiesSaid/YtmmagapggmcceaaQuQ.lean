/- The statement of layer 16 about a queue that is emptied: its parts. -/
import Derived.Test.YtmmagapggmcceaaQuH
namespace Go.Proofs.Ytmmagapggmcceaa
open Go.RowKit
open Go.ChangeMaps (setBlock)
set_option linter.unusedVariables false
set_option linter.unusedSectionVars false
set_option linter.unusedSimpArgs false
set_option maxRecDepth 100000

/-- The one by number, as it is in the queue. -/
def uE (Z : Nat → Int) (t : Nat) (k : Nat) : Ent := oE ((k : Int) + 1) (min 3 (Z k)) (if 0 < t then (k : Int) + t else 0)
structure AllU (Z : Nat → Int) (t i : Nat) (M : List Ent) : Prop where
  ok : RkOk M
  mem : ∀ e, e ∈ M ↔ ∃ k, k < i ∧ e = uE Z t k
section
variable {Z : Nat → Int} {n k i j t : Nat} {M L : List Ent} {o : Opt} {W N : List Ent} {ok : Bool}
theorem uE_inj {a b : Nat} (h : uE Z t a = uE Z t b) : a = b := by
  have : (a : Int) + 1 = (b : Int) + 1 := congrArg Ent.id h
  omega
theorem AllU.nil : AllU Z t 0 [] := ⟨RkOk.nil, fun e => by simp⟩
theorem AllU.len (h : AllU Z t i M) : M.length = i := by
  classical
  have h1 : ((List.range i).map (uE Z t)).Nodup := List.Pairwise.map _ (fun a b hab e => hab (uE_inj e)) (List.nodup_range (n := i))
  have hp : M.Perm ((List.range i).map (uE Z t)) := (List.perm_ext_iff_of_nodup h.ok.nodup' h1).2 fun e => by
    rw [h.mem, List.mem_map]
    constructor
    · rintro ⟨k, hk, rfl⟩
      exact ⟨k, List.mem_range.2 hk, rfl⟩
    · rintro ⟨k, hk, rfl⟩
      exact ⟨k, List.mem_range.1 hk, rfl⟩
  rw [hp.length_eq, List.length_map, List.length_range]
theorem AllU.put (h : AllU Z t i M) (hz : 0 ≤ Z i) : putOk M (uE Z t i) = true ∧ AllU Z t (i + 1) (insM (uE Z t i) M) := by
  have hn : ∀ x ∈ M, x.id ≠ (uE Z t i).id := fun x hx e => by
    obtain ⟨k, hk, rfl⟩ := (h.mem x).1 hx
    have : (k : Int) + 1 = (i : Int) + 1 := e
    omega
  have hp : 0 ≤ (uE Z t i).prio ∧ (uE Z t i).prio ≤ 3 := by
    show 0 ≤ min 3 (Z i) ∧ min 3 (Z i) ≤ 3
    omega
  refine ⟨?_, h.ok.ins hp hn, fun e => ?_⟩
  · simp only [putOk, decide_eq_true_eq]
    refine ⟨fun hm => ?_, hp⟩
    obtain ⟨x, hx, e⟩ := List.mem_map.1 hm
    exact hn x hx e
  · rw [mem_ins, h.mem]
    constructor
    · rintro (rfl | ⟨k, hk, rfl⟩)
      · exact ⟨i, by omega, rfl⟩
      · exact ⟨k, by omega, rfl⟩
    · rintro ⟨k, hk, rfl⟩
      rcases (by omega : k < i ∨ k = i) with h9 | rfl
      · exact .inr ⟨k, h9, rfl⟩
      · exact .inl rfl
theorem for_u {z : Int} (hz : Z i = z) (h0 : 0 ≤ z) (ht : t < 10) (hi : i < 1000) : forE (oE ((i : Int) + 1) z 0) (oO 0 t 3 0) i = uE Z t i := by
  subst hz
  have hs : shorter (oE ((i : Int) + 1) (Z i) 0).ttl (oO 0 t 3 0).ttl = t := by
    show (if 0 < (0 : Int) then _ else if 0 < (t : Int) then (t : Int) else 0) = t
    rw [if_neg (by omega)]
    split <;> omega
  unfold forE
  rw [hs]
  have hw : IntKind.i64.wrap ((i : Int) + t) = i + t := IntWalk.i64_in _ (by omega)
  rw [hw]
  have hm : max (min (Z i) 3) 0 = min 3 (Z i) := by omega
  show (⟨(i : Int) + 1, 0, 0, [], [], max (min (Z i) 3) 0, 0, if 0 < (t : Int) then (i : Int) + t else 0, false, 0⟩ : Ent) = _
  rw [hm]
  unfold uE
  by_cases h : 0 < t
  · rw [if_pos h, if_pos (by omega)]
  · rw [if_neg h, if_neg (by omega)]
theorem filter_both (p : Ent → Bool) : ∀ M : List Ent, (M.filter p).length + (M.filter fun x => !p x).length = M.length
  | [] => rfl
  | x :: M => by
    have := filter_both p M
    cases h : p x <;> simp [h] <;> omega
/-- One of those gone. -/
theorem AllU.gone (h : AllU Z t n M) {now : Int} {e : Ent} (he : (M.filter fun x => goneE x now)[i]? = some e) : 0 < t ∧ ∃ k, k < n ∧ e.id = (k : Int) + 1 ∧ e.til = (k : Int) + t ∧ (k : Int) + t ≤ now := by
  obtain ⟨h1, h2⟩ := List.mem_filter.1 (List.mem_of_getElem? he)
  obtain ⟨k, hk, rfl⟩ := (h.mem e).1 h1
  simp only [goneE, decide_eq_true_eq] at h2
  have h3 : (uE Z t k).til = if 0 < t then (k : Int) + t else 0 := rfl
  rw [h3] at h2
  by_cases ht : 0 < t
  · rw [if_pos ht] at h2
    exact ⟨ht, k, hk, rfl, by rw [h3, if_pos ht], h2.2⟩
  · rw [if_neg ht] at h2
    omega
/-- One of those left. -/
theorem AllU.left (h : AllU Z t n M) {now : Int} {e : Ent} (he : (M.filter fun x => !goneE x now)[i]? = some e) : ∃ k, k < n ∧ e.id = (k : Int) + 1 ∧ e.prio = min 3 (Z k) ∧ (0 < t → now < e.til) := by
  obtain ⟨h1, h2⟩ := List.mem_filter.1 (List.mem_of_getElem? he)
  obtain ⟨k, hk, rfl⟩ := (h.mem e).1 h1
  refine ⟨k, hk, rfl, rfl, fun ht => ?_⟩
  have h3 : (uE Z t k).til = if 0 < t then (k : Int) + t else 0 := rfl
  rw [if_pos ht] at h3
  simp only [goneE, Bool.not_eq_true', decide_eq_false_iff_not] at h2
  omega
end
section
variable {B : Nat} {w0 w : World} {qb i n t : Nat} {Z : Nat → Int} {M : List Ent} {F : List (Nat × Obj)}
theorem put_u (h : QuIs B w0 w qb (oO 0 t 3 0) M F) (hx : AllU Z t i M) {z : Int} (hz : Z i = z) (h0 : 0 ≤ z) (ht : t < 10) (hi : i < 60) :
    Calls Try.prog 9 #[rptr qb, oV ((i : Int) + 1) z 0, .int .i64 i] w fun r w' => ∃ a c M', r = .returned (.tuple #[.bool true, .slice a 0 c]) ∧ AllU Z t (i + 1) M' ∧ QuIs B w0 w' qb (oO 0 t 3 0) M' F := by
  have hlen := hx.len
  refine (put_q (for_u hz h0 ht (by omega)) h (by omega)).mono ?_
  rintro r w' ⟨ok, W, N, a, c, S, rfl, hP, hs, h'⟩
  obtain ⟨h1, h2⟩ := hx.put (by rw [hz]; exact h0)
  obtain ⟨rfl, rfl, rfl⟩ := hP.room h1 (by
    show (M.length : Int) < (if 1 ≤ (0 : Int) ∧ (0 : Int) ≤ 60 then (0 : Int) else 60)
    rw [if_neg (by omega)]
    omega)
  exact ⟨a, c, _, rfl, h2, h'.sub (List.sublist_append_right _ _)⟩
theorem put_v (h : QuIs B w0 w qb (oO 0 t 3 0) [] F) (ht : t < 10) :
    Calls Try.prog 9 #[rptr qb, oV 1 0 0, .int .i64 0] w fun r w' => ∃ a c M', r = .returned (.tuple #[.bool true, .slice a 0 c]) ∧ M'.length = 1 ∧ QuIs B w0 w' qb (oO 0 t 3 0) M' F := by
  refine (put_u (i := 0) (Z := fun _ => 0) h AllU.nil (z := 0) rfl (by omega) ht (by omega)).mono ?_
  rintro r w' ⟨a, c, M', rfl, h1, h2⟩
  exact ⟨a, c, M', rfl, h1.len, h2⟩
end
end Go.Proofs.Ytmmagapggmcceaa
