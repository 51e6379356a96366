/- Sets of numbers in memory: the methods that only read, and the ones beneath them. -/
import Derived.Test.YtdkchcbmhmlhnaaRgsB
import Derived.Test.YtdkchcbmhmlhnaaSearch
namespace Go.Proofs.Ytdkchcbmhmlhnaa
open Go.RowKit

section
variable {B : Nat} {w0 w : World} {rb : Nat} {v : Value} {l : List Row} {F S A : List (Nat × Obj)}

set_option maxHeartbeats 400000 in
theorem within_any (lo hi : Int) (w : World) : Calls Try.prog 29 #[.int .i64 lo, .int .i64 hi] w fun e w' => e = .returned (.tuple #[.int .i64 (max lo 1), .int .i64 (min hi 1000000)]) ∧ w = w' := by
  by_cases h1 : 1 ≤ lo <;> by_cases h2 : hi ≤ 1000000
  all_goals
    first | rw [Int.max_eq_left h1] | rw [Int.max_eq_right (Int.le_of_lt (Int.not_le.1 h1))]
    first | rw [Int.min_eq_left h2] | rw [Int.min_eq_right (Int.le_of_lt (Int.not_le.1 h2))]
  all_goals
    go_enter Try.func29, Try.ntmps29
    go_wp2_with fail
    go_ret2
    exact ⟨rfl, rfl⟩

set_option maxHeartbeats 1000000 in
theorem rowUp_any (h : RgsAt B w0 w rb v l F S) (hc : Canon l) (n : Int) :
    Calls Try.prog 30 #[gptr rb, .int .i64 n] w fun e w' => ∃ k : Nat, e = .returned (.int .i64 k) ∧ k ≤ l.length ∧ (∀ r ∈ l.take k, r.2 < n) ∧ (∀ r ∈ l.drop k, n ≤ r.2) ∧ RgsAt B w0 w' rb v l F S := by
  have h2 := (h.alloc (.cells #[gptr rb] 51)).alloc (.cells #[.int .i64 n] 3)
  rw [show (w.alloc (.cells #[gptr rb] 51)).heap.size = w.heap.size + 1 by simp] at h2
  have hlen := hc.len_bd
  have c0 := (h.alloc (.cells #[gptr rb] 51)).alloc (.cells #[.int .i64 n] 3) |>.c0
  have e1 : ((w.alloc (.cells #[gptr rb] 51)).alloc (.cells #[.int .i64 n] 3)).cell? ⟨w.heap.size, 0, none⟩ = some (gptr rb) := by simp
  have e2 : ((w.alloc (.cells #[gptr rb] 51)).alloc (.cells #[.int .i64 n] 3)).cell? ⟨w.heap.size + 1, 0, none⟩ = some (.int .i64 n) := by simp
  have eg : ∀ args w, (callFunc 37 args).run Try.prog w = .ok (.enter 37 args) w := goesIn Try.func37 (by kernel_rfl) rfl
  have cs := search_any 37 #[gptr w.heap.size, gptr (w.heap.size + 1)] l.length (fun i => decide (n ≤ (l.getD i (0, 0)).2)) ((w.alloc (.cells #[gptr rb] 51)).alloc (.cells #[.int .i64 n] 3)) eg (by omega)
    (fun m i hi => by
      have hr : l[i]? = some (l.getD i (0, 0)) := by simp [List.getD_eq_getElem?_getD, hi]
      exact rowUpC_any (h2.drewN m).read e1 e2 c0 i _ hr)
    (fun a b hab hb hp => by
      simp only [decide_eq_true_eq] at hp ⊢
      rcases Nat.eq_or_lt_of_le hab with rfl | hab
      · exact hp
      · have ha : a < l.length := by omega
        have h3 := List.pairwise_iff_getElem.1 hc.apart a b ha hb hab
        have h4 := hc.fit l[b] (List.getElem_mem _)
        simp only [List.getD_eq_getElem?_getD, List.getElem?_eq_getElem ha, List.getElem?_eq_getElem hb, Option.getD_some] at hp ⊢
        omega)
  replace cs := Lib.hid cs
  have hv : ∃ a cap, v = .slice a l.length cap := by obtain ⟨a, cap, e, _⟩ := h.read; exact ⟨a, cap, e⟩
  obtain ⟨a, cap, rfl⟩ := hv
  replace h2 := Lib.hid h2
  replace hlen := Lib.hid hlen
  clear h e1 e2 eg hc
  go_enter Try.func30, Try.ntmps30
  go_wp2_with fail
  refine cs.out.mono ?_
  rintro e w1 ⟨k, rfl, hk, hp, hq, q, rfl⟩
  have fA : ∀ r ∈ l.take k, r.2 < n := fun r hr => by
    obtain ⟨i, hi, rfl⟩ := List.mem_iff_getElem.1 hr
    have hi2 : i < k := by simp only [List.length_take] at hi; omega
    have := hp i hi2
    have hil : i < l.length := by omega
    simp only [List.getD_eq_getElem?_getD, List.getElem?_eq_getElem hil, Option.getD_some, decide_eq_false_iff_not] at this
    rw [List.getElem_take]
    omega
  have fC : ∀ r ∈ l.drop k, n ≤ r.2 := fun r hr => by
    obtain ⟨i, hi, rfl⟩ := List.mem_iff_getElem.1 hr
    have hi2 : k + i < l.length := by simp only [List.length_drop] at hi; omega
    have := hq (k + i) (by omega) hi2
    simp only [List.getD_eq_getElem?_getD, List.getElem?_eq_getElem hi2, Option.getD_some, decide_eq_true_eq] at this
    rw [List.getElem_drop]
    exact this
  have h3 := (h2.out.drewN q).sub (F' := F) ((List.sublist_cons_self _ _).trans (List.sublist_cons_self _ _))
  replace fA := Lib.hid fA
  replace fC := Lib.hid fC
  replace h3 := Lib.hid h3
  replace hk := Lib.hid hk
  clear hp hq h2 cs
  go_wp2_with fail
  go_ret
  exact ⟨k, rfl, hk.out, fA.out, fC.out, h3.out⟩

def Fit (l : List Row) : Prop := ∀ r ∈ l, 1 ≤ r.1 ∧ r.1 ≤ r.2 ∧ r.2 ≤ 1000000
theorem Fit.cnt {l : List Row} (h : Fit l) : 0 ≤ cnt l ∧ cnt l ≤ 1000000 * l.length := by
  induction l with
  | nil => simp [Go.Proofs.Ytdkchcbmhmlhnaa.cnt]
  | cons r l ih =>
    have h1 := h r (by simp)
    have h2 := ih fun x hx => h x (by simp [hx])
    rw [cnt_cons, List.length_cons]
    omega
theorem Fit.take {l : List Row} (h : Fit l) (k : Nat) : Fit (l.take k) := fun r hr => h r (List.mem_of_mem_take hr)
theorem Fit.drop {l : List Row} (h : Fit l) (k : Nat) : Fit (l.drop k) := fun r hr => h r (List.mem_of_mem_drop hr)
theorem cnt_take_succ {l : List Row} {k : Nat} {r : Row} (h : l[k]? = some r) : cnt (l.take (k + 1)) = cnt (l.take k) + (r.2 - r.1 + 1) := by
  rw [List.take_add_one, cnt_append, h]
  simp [cnt]

set_option maxHeartbeats 1000000 in
theorem numbers_any (h : ReadRows w v l) (hf : Fit l) (hl : l.length ≤ 2000000) : Calls Try.prog 38 #[v] w fun e w' => e = .returned (.int .i64 (cnt l)) ∧ ∃ q, w' = w.drewN q := by
  obtain ⟨a, cap, rfl, hc⟩ := h
  replace hc := Lib.hid hc
  replace hf := Lib.hid hf
  go_enter Try.func38, Try.ntmps38
  go_wp2_with fail
  refine wp_scope_ghost 0 (fun g a' w' => ∃ k q : Nat, k + g = l.length ∧ Fr 26 [(0, .slice a l.length cap), (3, .int .i64 k), (4, .int .i64 (cnt (l.take k)))] a' ∧ w' = w.drewN q) rfl ?_ ?_
  · rintro g a' w' ⟨k, q, hk, hfr, rfl⟩
    obtain ⟨f, rfl, hl'⟩ := hfr.lit
    clear hfr
    simp only [List.mem_cons, List.not_mem_nil, or_false, forall_eq_or_imp, forall_eq] at hl'
    obtain ⟨f0, f3, f4⟩ := hl'
    simp only [List.range, List.range.loop, List.map, f0, f3, f4]
    clear f0 f3 f4
    by_cases hlt : k < l.length
    · have hr : l[k]? = some l[k] := List.getElem?_eq_getElem hlt
      have hs := cnt_take_succ hr
      have hb := hf.out l[k] (List.getElem_mem _)
      have hb2 := (hf.out.take k).cnt
      have hb3 : (l.take k).length ≤ 2000000 := by rw [List.length_take]; omega
      generalize l[k] = r at hr hs hb
      obtain ⟨r1, r2⟩ := r
      simp only at hs hb
      obtain ⟨b, off, rfl, k1, k2⟩ := hc.out k _ hr
      simp only at k1 k2
      obtain ⟨hb0, hb1⟩ := hb2
      have hb4 : cnt (l.take k) ≤ 2000000000000 := by omega
      have hi0 : (0 : Int) ≤ k := by omega
      have hi1 : (k : Int) < l.length := by omega
      obtain ⟨hr0, hr1, hr2⟩ := hb
      replace hs := Lib.hid hs
      generalize cnt (l.take k) = cn at *
      clear hr hb1 hb3
      go_wp2_with fail
      go_quiet (fail)
      go_wp2_with fail
      refine wp_goto ?_
      refine ⟨rfl, l.length - (k + 1), by omega, k + 1, _, by omega, ⟨rfl, rfl, by simp [hs.out]⟩, rfl⟩
    · obtain rfl : k = l.length := by omega
      rw [List.take_length]
      go_wp2_with fail
      simp only [Exit.jump]
      go_ret
      exact ⟨rfl, _, rfl⟩
  · intro H
    go_wp2_with fail
    refine wp_label ?_
    go_step
    go_step
    exact H l.length _ _ ⟨0, 0, by omega, ⟨rfl, rfl, by simp [cnt]⟩, rfl⟩
end
end Go.Proofs.Ytdkchcbmhmlhnaa
