/- Guests: which of a stretch have spare, as a bitmap. -/
import Derived.Test.YtpnkaamijjeckaaDoorGsG
namespace Go.Proofs.YtpnkaamijjeckaaDoor
open Go.RowKit
set_option linter.unusedVariables false
set_option linter.unusedSectionVars false
set_option maxRecDepth 100000

/-- The slice at sa with sl elements tells who has spare. -/
structure SpAt (w : World) (sa : Option Addr) (sl : Nat) (s : Nat → Bool) : Prop where
  top : sl ≤ maxLen
  at_ : ∀ k, k < sl → ∃ b off, sa = some ⟨b, off, none⟩ ∧ w.cell? ⟨b, off + k, none⟩ = some (.bool (s k))
theorem SpAt.below {w w' : World} {sa : Option Addr} {sl : Nat} {s : Nat → Bool} (h : SpAt w sa sl s) (hb : Below w.heap.size w w') : SpAt w' sa sl s :=
  ⟨h.top, fun k hk => by
    obtain ⟨b, off, ha, hc⟩ := h.at_ k hk
    exact ⟨b, off, ha, cellUp hc hb⟩⟩
/-- The first places of stretch s. -/
def prt (f : Nat → Bool) (s q : Nat) : Nat → Bool := fun p => decide (p < q) && f (64 * s + p)
theorem prt_zero (f : Nat → Bool) (s : Nat) : prt f s 0 = none0 := by
  funext p
  simp [prt, none0]
theorem prt_step {f : Nat → Bool} {s q : Nat} (hq : q < 64) : setB (prt f s q) 64 (q : Int) (f (64 * s + q)) = prt f s (q + 1) := by
  have hp : isPlaceB 64 (q : Int) = true := by simp [isPlaceB]; omega
  unfold setB
  rw [hp, if_pos rfl, Int.toNat_natCast]
  funext p
  rcases Nat.lt_trichotomy p q with h | rfl | h
  · have h1 : decide (p < q) = true := by simpa using h
    have h2 : decide (p < q + 1) = true := by simp; omega
    have h3 : (p == q) = false := by simp; omega
    have h4 : (p != q) = true := by simp; omega
    cases f (64 * s + q) <;> simp [ins, del, prt, h1, h2, h3, h4]
  · cases hf : f (64 * s + p) <;> simp [ins, del, prt, hf]
  · have h1 : decide (p < q) = false := by simp; omega
    have h2 : decide (p < q + 1) = false := by simp; omega
    have h3 : (p == q) = false := by simp; omega
    have h4 : (p != q) = true := by simp; omega
    cases f (64 * s + q) <;> simp [ins, del, prt, h1, h2, h3, h4]
theorem prt_all {n sl s q : Nat} {sp : Nat → Bool} (hq : q ≤ 64) (he : 64 * s + 64 ≤ 64 * s + q ∨ n ≤ 64 * s + q ∨ sl ≤ 64 * s + q) : prt (sparG n sl sp) s q = inSt (sparG n sl sp) s := by
  funext p
  unfold prt inSt
  by_cases h : p < q
  · rw [decide_eq_true h, decide_eq_true (show p < 64 by omega)]
  · rw [decide_eq_false h]
    by_cases h4 : p < 64
    · have : sparG n sl sp (64 * s + p) = false := by
        unfold sparG
        rcases he with he | he | he
        · omega
        · rw [decide_eq_false (show ¬ 64 * s + p < n by omega)]; rfl
        · rw [decide_eq_false (show ¬ 64 * s + p < sl by omega)]; simp
      rw [this]
      simp
    · rw [decide_eq_false h4]

/-- What holds at the loop's label, at place m. -/
def PlJ' (w : World) (E : Nat) (f : Nat → Bool) (s g m bb : Nat) (wt : World) : Prop := ∃ q, q ≤ 64 ∧ m = 64 * s + q ∧ E - m = g ∧ BmIs w.heap.size w wt bb (prt f s q) 64 []
def PlJ (w : World) (gb x1 x2 : Nat) (sv : Value) (E : Nat) (f : Nat → Bool) (s g : Nat) (aq : Act) (wt : World) : Prop :=
  ∃ q m bb, q ≤ 64 ∧ m = 64 * s + q ∧ E - m = g ∧ Fr 39 [(0, gup gb), (1, .complex .f64 x1 x2), (2, sv), (6, .pointer none), (7, bptr bb), (8, .int .i64 (m : Int)), (9, .int .i64 (E : Int))] aq ∧ BmIs w.heap.size w wt bb (prt f s q) 64 []

section
variable {B : Nat} {w0 w w' : World} {gb b c T k g off n cap i j sl sc : Nat} {M L : List Gst} {a sa : Option Addr} {v : Value} {S R F F' X : List (Nat × Obj)} {x y : Gst} {sp : Nat → Bool}
set_option maxHeartbeats 4000000 in
theorem places_any (hT : Tab w.heap.size w) (hr : RdG w gb M a c) (hl : M.length ≤ 60000) (hs : SpAt w sa sl sp) (p s : Nat) (hs5 : s ≤ 1000) :
    Calls Tryd.prog 32 #[gup gb, seatV p s, .slice sa sl sc] w fun e w' => ∃ bb, e = .returned (bptr bb) ∧ BmIs w.heap.size w w' bb (inSt (sparG M.length sl sp) s) 64 [] := by
  have cn : Hid (Calls Tryd.prog 34 #[.int .i64 64] w fun e w' => ∃ bb, e = .returned (bptr bb) ∧ BmIs w.heap.size w w' bb none0 64 []) := Lib.hid (bm_new (k := 64) hT (St.start w) (by decide))
  obtain ⟨f, hf⟩ : ∃ f, f = sparG M.length sl sp := ⟨_, rfl⟩
  rw [← hf]
  have hfs : Hid (∀ k, k < M.length → k < sl → sp k = f k) := Lib.hid fun k h1 h2 => by
    rw [hf]
    simp [sparG, h1, h2]
  obtain ⟨E, hE⟩ : ∃ E, E = min (64 * s + 64) (min M.length sl) := ⟨_, rfl⟩
  have hall : Hid (∀ q, q ≤ 64 → E ≤ 64 * s + q → prt f s q = inSt f s) := Lib.hid fun q h1 h2 => by
    rw [hf]
    exact prt_all h1 (by omega)
  have hE1 : E ≤ M.length := by omega
  have hE2 : E ≤ sl := by omega
  have hE3 : E ≤ 64 * s + 64 := by omega
  have hEi : (E : Int) = (s : Int) * 64 + 64 ∧ (s : Int) * 64 + 64 ≤ M.length ∧ (s : Int) * 64 + 64 ≤ sl ∨ (E : Int) = M.length ∧ (M.length : Int) ≤ (s : Int) * 64 + 64 ∧ (M.length : Int) ≤ sl ∨ (E : Int) = sl ∧ (sl : Int) ≤ (s : Int) * 64 + 64 ∧ (sl : Int) ≤ M.length := by omega
  have hE0 : E ≤ 60000 := by omega
  have c0 := hr.c0
  have htop := hs.top
  have hsl : (sl : Int) ≤ 9223372036854775807 := by unfold maxLen at htop; omega
  have hsl0 : (0 : Int) ≤ sl := by omega
  have hn0 : (0 : Int) ≤ M.length := by omega
  have hn1 : (M.length : Int) ≤ 60000 := by omega
  have hs0 : (0 : Int) ≤ s := by omega
  have hs1 : (s : Int) ≤ 1000 := by omega
  have cv := fl_conv s (by omega)
  have c0u : Hid (∀ w1, Below w.heap.size w w1 → w1.cell? ⟨gb, 0, none⟩ = some (.slice a M.length c)) := Lib.hid fun w1 hb => cellUp c0 hb
  have hsu : Hid (∀ w1, Below w.heap.size w w1 → SpAt w1 sa sl sp) := Lib.hid fun w1 hb => hs.below hb
  replace hE := Lib.hid hE
  generalize M.length = n at *
  unfold seatV
  generalize floatOfInt .f64 (p : Int) = x1
  generalize floatOfInt .f64 (s : Int) = x2 at *
  clear hT hr hs hf hl htop c0
  go_enter Tryd.func32, Tryd.ntmps32
  go_wp2_with fail
  refine wp_scope_ghost 0 (PlJ w gb x1 x2 (.slice sa sl sc) E f s) rfl ?_ ?_
  · rintro g a' wr ⟨q, m, bb, hq, hm, hg, hfr, h1⟩
    obtain ⟨q', rfl, hl'⟩ := hfr.lit
    clear hfr
    simp only [List.mem_cons, List.not_mem_nil, or_false, forall_eq_or_imp, forall_eq] at hl'
    obtain ⟨f0, f1, f2, f6, f7, f8, f9⟩ := hl'
    simp only [List.range, List.range.loop, List.map, f0, f1, f2, f6, f7, f8, f9]
    clear f0 f1 f2 f6 f7 f8 f9 cn
    have hm0 : (0 : Int) ≤ m := by omega
    by_cases hlt : m < E
    · have hq2 : q < 64 := by omega
      have hm1 : (m : Int) < E := by omega
      have hm2 : (m : Int) < sl := by omega
      have hrem : (m : Int) % 64 = (q : Int) := by omega
      obtain ⟨b1, o1, hsa, k1⟩ := (hsu.out _ h1.below).at_ m (by omega)
      subst hsa
      have hst := prt_step (f := f) (s := s) hq2
      rw [← hm, ← hfs.out m (by omega) (by omega)] at hst
      have cs := Lib.hid (bm_set h1 (q : Int) (sp m) hst)
      have hm3 : (m : Int) ≤ 100000 := by omega
      have fin : Hid (∀ bb wt, BmIs w.heap.size w wt bb (prt f s (q + 1)) 64 [] → ∃ m', m' < g ∧ PlJ' w E f s m' (m + 1) bb wt) := Lib.hid fun bb wt h => ⟨g - 1, by omega, q + 1, by omega, by omega, by omega, h⟩
      replace hm := Lib.hid hm
      generalize sp m = on at *
      clear c0u hsu hall hfs h1 cv hEi hst hE hE1 hE2 hE3 hE0 hs0 hs1 hs5 hq hq2 hg
      go_wp2_with fail
      refine cs.out.mono ?_
      rintro e w2 ⟨rfl, h2⟩
      obtain ⟨m', hm', q2, hf1, hf2, hf3, hf4⟩ := fin.out _ _ h2
      clear cs fin h2
      go_wp2_with fail
      refine wp_goto ?_
      exact ⟨rfl, m', hm', q2, m + 1, _, hf1, hf2, hf3, ⟨rfl, rfl, by simp⟩, hf4⟩
    · have hfin := hall.out q hq (by omega)
      rw [hfin] at h1
      replace h1 := Lib.hid h1
      have hm1 : (E : Int) ≤ m := by omega
      replace hm := Lib.hid hm
      clear c0u hsu hall hfs cv hEi hE hE1 hE2 hE3 hE0 hs0 hs1 hs5 hq hg hfin hlt
      go_wp2_with fail
      simp only [Exit.jump]
      go_ret
      exact ⟨_, rfl, h1.out⟩
  · intro H
    go_wp2_with fail
    refine cn.out.mono ?_
    rintro e w1 ⟨bb, rfl, h1⟩
    have c0 := c0u.out _ h1.below
    rw [← prt_zero f s] at h1
    replace h1 := Lib.hid h1
    clear cn
    go_upto_region 3 with fail
    go_cut [9] (fun v wx => v = .int .i64 (E : Int) ∧ wx = w1)
    case first =>
      clear c0u hsu hall hfs h1 cv H
      rcases hEi with ⟨e1, e2, e3⟩ | ⟨e1, e2, e3⟩ | ⟨e1, e2, e3⟩
      all_goals
        go_wp2_with fail
        all_goals
          go_meet
          case rel => exact ⟨by congr 1; omega, rfl⟩
    case rest =>
      obtain ⟨rfl, rfl⟩ := hcut
      go_wp2_with fail
      refine wp_label ?_
      go_step
      go_step
      exact H (E - 64 * s) _ _ ⟨0, 64 * s, bb, by omega, by omega, by omega, ⟨rfl, rfl, by simp; omega⟩, h1.out⟩
end
end Go.Proofs.YtpnkaamijjeckaaDoor
