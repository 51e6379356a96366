/- Slips: plain data, and what the calls do to them. -/
import Derived.Test.YtdkchcbmhmlhnaaOcA
import Derived.Test.YtdkchcbmhmlhnaaRgsUn
import Derived.Test.YtdkchcbmhmlhnaaProg
namespace Go.Proofs.Ytdkchcbmhmlhnaa
open Go.RowKit
set_option linter.unusedVariables false
set_option linter.unusedSectionVars false

structure Slp where
  tag : Int
  queue : Int
  cons : List UInt8
  id : Int
  body : Int
  size : Int
  exch : List UInt8
  key : List UInt8
  prio : Int
  ttl : Int
  til : Int
  again : Bool
  hops : Int
abbrev slV (x : Slp) : Value := .agg #[.int .i64 x.tag, .int .i64 x.queue, tx x.cons, .int .i64 x.id, .int .i64 x.body, .int .i64 x.size, tx x.exch, tx x.key, .int .i64 x.prio, .int .i64 x.ttl, .int .i64 x.til, .bool x.again, .int .i64 x.hops]
abbrev slO (x : Slp) : Obj := .cells #[.int .i64 x.tag, .int .i64 x.queue, tx x.cons, .int .i64 x.id, .int .i64 x.body, .int .i64 x.size, tx x.exch, tx x.key, .int .i64 x.prio, .int .i64 x.ttl, .int .i64 x.til, .bool x.again, .int .i64 x.hops] 33
abbrev z0L : Slp := ⟨0, 0, [], 0, 0, 0, [], [], 0, 0, 0, false, 0⟩

/-- By tag, each tag once, each from 1 to MaxTime. -/
structure OkS (M : List Slp) : Prop where
  apart : M.Pairwise fun a b => a.tag < b.tag
  fit : ∀ x ∈ M, 1 ≤ x.tag ∧ x.tag ≤ 1000000
def tagsL (M : List Slp) : List Int := M.map (·.tag)
def hasS (M : List Slp) (t : Int) : Bool := M.any fun x => decide (x.tag = t)
def getS (M : List Slp) (t : Int) : Option Slp := M.find? fun x => decide (x.tag = t)
def ofS (M : List Slp) (c : List UInt8) : Nat := (M.filter fun x => decide (x.cons = c)).length
def insS (x : Slp) : List Slp → List Slp
  | [] => [x]
  | y :: r => if x.tag < y.tag then x :: y :: r else y :: insS x r
def dropS (M : List Slp) (t : Int) : List Slp := M.filter fun x => decide (x.tag ≠ t)
def uptoS (M : List Slp) (t : Int) : List Slp := M.filter fun x => decide (x.tag ≤ t)
def overS (M : List Slp) (t : Int) : List Slp := M.filter fun x => decide (t < x.tag)

section
variable {M : List Slp} {x y : Slp} {t k : Int} {l : List Row}
theorem OkS.nil : OkS [] := ⟨.nil, by simp⟩
theorem OkS.sub {N : List Slp} (h : OkS M) (hs : N.Sublist M) : OkS N := ⟨h.apart.sublist hs, fun x hx => h.fit x (hs.subset hx)⟩
theorem OkS.tail (h : OkS (x :: M)) : OkS M := h.sub (List.sublist_cons_self _ _)
theorem OkS.sorted (h : OkS M) : (tagsL M).Pairwise (· < ·) := by
  unfold tagsL
  rw [List.pairwise_map]
  exact h.apart
theorem OkS.nodup (h : OkS M) : (tagsL M).Nodup := h.sorted.imp fun h e => by omega
theorem OkS.inj (h : OkS M) (hx : x ∈ M) (hy : y ∈ M) (e : x.tag = y.tag) : x = y := by
  obtain ⟨i, hi⟩ := List.getElem?_of_mem hx
  obtain ⟨j, hj⟩ := List.getElem?_of_mem hy
  have hil := (List.getElem?_eq_some_iff.1 hi).1
  have : i = j := (List.getElem?_inj (by simpa [tagsL] using hil) h.nodup).1 (by simp [tagsL, hi, hj, e])
  subst this
  rw [hi] at hj; cases hj; rfl
theorem mem_ins : y ∈ insS x M ↔ y = x ∨ y ∈ M := by
  induction M with
  | nil => simp [insS]
  | cons z r ih =>
    unfold insS
    split
    · simp
    · simp only [List.mem_cons, ih]
      constructor
      · rintro (h | h | h) <;> simp [h]
      · rintro (h | h | h) <;> simp [h]
theorem OkS.ins (h : OkS M) (hx : 1 ≤ x.tag ∧ x.tag ≤ 1000000) (hn : x.tag ∉ tagsL M) : OkS (insS x M) := by
  refine ⟨?_, fun y hy => (mem_ins.1 hy).elim (fun e => e ▸ hx) (h.fit y)⟩
  have ha := h.apart
  clear h
  induction M with
  | nil => simp [insS]
  | cons z r ih =>
    obtain ⟨h1, h2⟩ := List.pairwise_cons.1 ha
    simp only [tagsL, List.map_cons, List.mem_cons, not_or] at hn
    unfold insS
    split
    · rename_i hlt
      refine List.pairwise_cons.2 ⟨fun y hy => ?_, ha⟩
      rcases List.mem_cons.1 hy with rfl | hy
      · exact hlt
      · have := h1 y hy
        omega
    · rename_i hlt
      refine List.pairwise_cons.2 ⟨fun y hy => ?_, ih hn.2 h2⟩
      rcases mem_ins.1 hy with rfl | hy
      · have := hn.1
        omega
      · exact h1 y hy
theorem ins_last (h : ∀ y ∈ M, y.tag < x.tag) : insS x M = M ++ [x] := by
  induction M with
  | nil => rfl
  | cons z r ih =>
    have h1 := h z List.mem_cons_self
    unfold insS
    rw [if_neg (by omega), ih fun y hy => h y (List.mem_cons_of_mem _ hy)]
    rfl
theorem ins_tags : t ∈ tagsL (insS x M) ↔ t = x.tag ∨ t ∈ tagsL M := by
  unfold tagsL
  simp only [List.mem_map, mem_ins]
  constructor
  · rintro ⟨y, rfl | hy, rfl⟩
    · exact .inl rfl
    · exact .inr ⟨y, hy, rfl⟩
  · rintro (rfl | ⟨y, hy, rfl⟩)
    · exact ⟨x, .inl rfl, rfl⟩
    · exact ⟨y, .inr hy, rfl⟩
theorem ins_len : (insS x M).length = M.length + 1 := by
  induction M with
  | nil => rfl
  | cons z r ih =>
    unfold insS
    split <;> simp [ih]
theorem ins_perm : (insS x M).Perm (x :: M) := by
  induction M with
  | nil => exact List.Perm.refl _
  | cons z r ih =>
    unfold insS
    split
    · exact List.Perm.refl _
    · exact (ih.cons z).trans (List.Perm.swap _ _ _)
theorem of_perm {N : List Slp} (h : M.Perm N) (c : List UInt8) : ofS M c = ofS N c := (h.filter _).length_eq
theorem of_cons (c : List UInt8) : ofS (x :: M) c = (if x.cons = c then 1 else 0) + ofS M c := by
  unfold ofS
  by_cases h : x.cons = c
  · rw [List.filter_cons_of_pos (by simpa using h), if_pos h, List.length_cons]
    omega
  · rw [List.filter_cons_of_neg (by simpa using h), if_neg h]
    omega
theorem of_ins (c : List UInt8) : ofS (insS x M) c = (if x.cons = c then 1 else 0) + ofS M c := by rw [of_perm ins_perm, of_cons]
theorem of_le (c : List UInt8) : ofS M c ≤ M.length := List.length_filter_le _ _
theorem hasS_iff : hasS M t = true ↔ t ∈ tagsL M := by simp [hasS, tagsL]
theorem hasS_yes (h : t ∈ tagsL M) : hasS M t = true := hasS_iff.2 h
theorem hasS_no (h : t ∉ tagsL M) : hasS M t = false := by
  rw [← Bool.not_eq_true, hasS_iff]
  exact h
theorem getS_none : getS M t = none ↔ t ∉ tagsL M := by
  unfold getS tagsL
  rw [List.find?_eq_none]
  simp only [decide_eq_true_eq, List.mem_map, not_exists, not_and]
theorem getS_mem (h : getS M t = some x) : x ∈ M ∧ x.tag = t := ⟨List.mem_of_find?_eq_some h, by simpa using List.find?_some h⟩
theorem getS_some (h : OkS M) (hx : x ∈ M) : getS M x.tag = some x := by
  cases hg : getS M x.tag with
  | none => exact absurd (List.mem_map_of_mem hx) (getS_none.1 hg)
  | some y =>
    obtain ⟨h1, h2⟩ := getS_mem hg
    rw [h.inj h1 hx h2]
theorem drop_perm (h : OkS M) (hx : x ∈ M) : M.Perm (x :: dropS M x.tag) := by
  induction M with
  | nil => simp at hx
  | cons y r ih =>
    obtain ⟨h1, h2⟩ := List.pairwise_cons.1 h.apart
    rcases List.mem_cons.1 hx with rfl | hx
    · unfold dropS
      rw [List.filter_cons_of_neg (by simp), List.filter_eq_self.2 fun z hz => by have := h1 z hz; simp; omega]
    · have hne : y.tag ≠ x.tag := by have := h1 x hx; omega
      unfold dropS
      rw [List.filter_cons_of_pos (by simpa using hne)]
      exact ((ih h.tail hx).cons y).trans (List.Perm.swap _ _ _)
theorem drop_head (h : OkS (x :: M)) : dropS (x :: M) x.tag = M := by
  have h1 := (List.pairwise_cons.1 h.apart).1
  unfold dropS
  rw [List.filter_cons_of_neg (by simp)]
  exact List.filter_eq_self.2 fun z hz => by have := h1 z hz; simp; omega
theorem drop_none (h : t ∉ tagsL M) : dropS M t = M := List.filter_eq_self.2 fun z hz => by
  have : z.tag ≠ t := fun e => h (e ▸ List.mem_map_of_mem hz)
  simpa using this
theorem drop_tags : k ∈ tagsL (dropS M t) ↔ k ∈ tagsL M ∧ k ≠ t := by
  unfold tagsL dropS
  simp only [List.mem_map, List.mem_filter, decide_eq_true_eq]
  constructor
  · rintro ⟨y, ⟨h1, h2⟩, rfl⟩
    exact ⟨⟨y, h1, rfl⟩, h2⟩
  · rintro ⟨⟨y, h1, rfl⟩, h2⟩
    exact ⟨y, ⟨h1, h2⟩, rfl⟩
theorem OkS.drop (h : OkS M) (t : Int) : OkS (dropS M t) := h.sub List.filter_sublist
theorem drop_of (h : OkS M) (hx : x ∈ M) (c : List UInt8) : ofS M c = (if x.cons = c then 1 else 0) + ofS (dropS M x.tag) c := by rw [of_perm (drop_perm h hx), of_cons]
theorem drop_len (h : OkS M) (hx : x ∈ M) : M.length = (dropS M x.tag).length + 1 := by
  have := (drop_perm h hx).length_eq
  simpa using this
theorem upto_over (h : OkS M) (t : Int) : M = uptoS M t ++ overS M t := by
  induction M with
  | nil => rfl
  | cons y r ih =>
    obtain ⟨h1, h2⟩ := List.pairwise_cons.1 h.apart
    unfold uptoS overS
    by_cases hy : y.tag ≤ t
    · rw [List.filter_cons_of_pos (by simpa using hy), List.filter_cons_of_neg (by simp; omega), List.cons_append]
      exact congrArg _ (ih h.tail)
    · rw [List.filter_cons_of_neg (by simpa using hy), List.filter_cons_of_pos (by simp; omega)]
      have e1 : (r.filter fun x => decide (x.tag ≤ t)) = [] := List.filter_eq_nil_iff.2 fun z hz => by have := h1 z hz; simp; omega
      have e2 : (r.filter fun x => decide (t < x.tag)) = r := List.filter_eq_self.2 fun z hz => by have := h1 z hz; simp; omega
      rw [e1, e2]
      rfl
theorem over_tags : k ∈ tagsL (overS M t) ↔ k ∈ tagsL M ∧ t < k := by
  unfold tagsL overS
  simp only [List.mem_map, List.mem_filter, decide_eq_true_eq]
  constructor
  · rintro ⟨y, ⟨h1, h2⟩, rfl⟩
    exact ⟨⟨y, h1, rfl⟩, h2⟩
  · rintro ⟨⟨y, h1, rfl⟩, h2⟩
    exact ⟨y, ⟨h1, h2⟩, rfl⟩
theorem upto_all (h : OkS M) : uptoS M 1000000 = M := List.filter_eq_self.2 fun z hz => by
  have := (h.fit z hz).2
  simpa using this
theorem over_all (h : OkS M) : overS M 1000000 = [] := List.filter_eq_nil_iff.2 fun z hz => by
  have := (h.fit z hz).2
  simp; omega

/-! ### the rows of their tags -/
theorem two_sorted {a b : List Int} (ha : a.Pairwise (· < ·)) (hb : b.Pairwise (· < ·)) (h : ∀ k, k ∈ a ↔ k ∈ b) : a = b := by
  have hp : a.Perm b := (List.perm_ext_iff_of_nodup (ha.imp fun h e => by omega) (hb.imp fun h e => by omega)).2 h
  exact hp.eq_of_pairwise (le := (· < ·)) (fun x y _ _ h1 h2 => by omega) ha hb
theorem nums_sorted (r : Row) : (nums r).Pairwise (· < ·) := by
  unfold nums
  rw [List.pairwise_map]
  exact List.pairwise_lt_range.imp fun h => by omega
theorem mem_nums_iff {r : Row} {k : Int} : k ∈ nums r ↔ r.1 ≤ k ∧ k ≤ r.2 := by
  refine ⟨mem_nums, fun ⟨h1, h2⟩ => ?_⟩
  simp only [nums, List.mem_map, List.mem_range]
  exact ⟨(k - r.1).toNat, by omega, by omega⟩
theorem mem_flat_iff {k : Int} : k ∈ flat l ↔ Inn l k := by
  unfold flat Inn
  simp only [List.mem_flatMap, mem_nums_iff]
theorem flat_sorted : ∀ {l : List Row}, Canon l → (flat l).Pairwise (· < ·)
  | [], _ => .nil
  | r :: l, h => by
    rw [flat_cons, List.pairwise_append]
    refine ⟨nums_sorted r, flat_sorted h.tail, fun a ha b hb => ?_⟩
    have h1 := mem_nums ha
    have h2 := h.inn_tail (mem_flat_iff.1 hb)
    omega
/-- The rows tell the tags. -/
def RowsOf (l : List Row) (M : List Slp) : Prop := ∀ k, Inn l k ↔ k ∈ tagsL M
theorem RowsOf.flat (h : RowsOf l M) (hc : Canon l) (hM : OkS M) : Go.Proofs.Ytdkchcbmhmlhnaa.flat l = tagsL M :=
  two_sorted (flat_sorted hc) hM.sorted fun k => mem_flat_iff.trans (h k)
theorem cnt_more {l m : List Row} (hl : Canon l) (hm : Canon m) (ht : 1 ≤ t ∧ t ≤ 1000000) (hn : ¬ Inn l t) (h : ∀ k, Inn m k ↔ Inn l k ∨ k = t) : cnt m = cnt l + 1 := by
  classical
  have h1 := hm.num 1000001 fun k hk => by have := (hm.inn_fit hk).2; omega
  have h2 := hl.num 1000001 fun k hk => by have := (hl.inn_fit hk).2; omega
  have h3 := nump_or (s := fun k : Nat => Inn m (k : Int)) (p := fun k : Nat => Inn l (k : Int)) (q := fun k : Nat => t ≤ (k : Int) ∧ (k : Int) ≤ t) (n := 1000001) (fun k _ => by
    rw [h]
    exact or_congr Iff.rfl ⟨fun e => by omega, fun e => by omega⟩) (fun k _ hk e => hn (by rw [show t = (k : Int) by omega]; exact hk))
  have h4 := nump_row t t (by omega) (by omega) 1000001
  rw [h1, h2, h3, h4]
  omega
theorem cnt_same {l m : List Row} (hl : Canon l) (hm : Canon m) (h : ∀ k, Inn m k ↔ Inn l k) : m = l := hm.uniq hl h
end
end Go.Proofs.Ytdkchcbmhmlhnaa
