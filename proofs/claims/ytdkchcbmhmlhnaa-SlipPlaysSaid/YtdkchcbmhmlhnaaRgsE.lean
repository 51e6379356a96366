/- Sets of numbers: Add. -/
import Derived.Test.YtdkchcbmhmlhnaaRgsD
namespace Go.Proofs.Ytdkchcbmhmlhnaa
open Go.RowKit
set_option linter.unusedVariables false

section
variable {B : Nat} {w0 w : World} {F S Sx A : List (Nat × Obj)} {n m rb : Nat} {v : Value} {l : List Row} {xs : List Value}

/-- What lies at rb is the set with the rows l. -/
def RgsIs (B : Nat) (w0 w : World) (rb : Nat) (l : List Row) (F : List (Nat × Obj)) : Prop := Canon l ∧ ∃ v S, RgsAt B w0 w rb v l F S

theorem St.setMid {b : Nat} {c : Array Value} {T : TypeId} {p : Nat × Obj} {C : List (Nat × Obj)} (h : St B w0 w (p :: (b, .cells c T) :: C)) (i : Nat) (v : Value) : St B w0 (w.setCell ⟨b, i, none⟩ v) (p :: (b, .cells (c.setIfInBounds i v) T) :: C) :=
  St.set (A := [p]) h i v

theorem RgsAt.setFirst {b : Nat} {c : Array Value} {T : TypeId} (h : RgsAt B w0 w rb v l ((b, .cells c T) :: F) S) (i : Nat) (u : Value) : RgsAt B w0 (w.setCell ⟨b, i, none⟩ u) rb v l ((b, .cells (c.setIfInBounds i u) T) :: F) S :=
  ⟨h.sl, h.st.setMid i u⟩
theorem RgsAt.cellF {b : Nat} {c : Array Value} {T : TypeId} (h : RgsAt B w0 w rb v l F S) (hm : (b, .cells c T) ∈ F) {i : Nat} {u : Value} (hi : c[i]? = some u) : w.cell? ⟨b, i, none⟩ = some u :=
  h.st.cell (b := b) (i := i) (List.mem_append_left _ (List.mem_cons_of_mem _ hm)) hi
theorem RgsAt.softF {b : Nat} {c : Array Value} {T : TypeId} (h : RgsAt B w0 w rb v l F S) (hm : (b, .cells c T) ∈ F) (i : Nat) : w.frozen? ⟨b, i, none⟩ = false :=
  St.soft h.st (b := b) (List.mem_append_left _ (List.mem_cons_of_mem _ hm)) i

theorem RgsAt.drew (h : RgsAt B w0 w rb v l F S) : RgsAt B w0 w.drew rb v l F S := ⟨h.sl, h.st.drew⟩
theorem RgsAt.permF {F' : List (Nat × Obj)} (h : RgsAt B w0 w rb v l F S) (hp : F.Perm F') : RgsAt B w0 w rb v l F' S := ⟨h.sl, h.st.perm ((hp.cons _).append_right S)⟩

theorem Canon.fits {l : List Row} (h : Canon l) : Fit l := h.fit

/-- The rows of a set that touch lo..hi stand together. -/
theorem split3 {l : List Row} {i k : Nat} (hk : i + k ≤ l.length) : l = l.take i ++ ((l.drop i).take k ++ l.drop (i + k)) := by
  rw [← List.drop_drop, List.take_append_drop, List.take_append_drop]

def joinOf (lo hi : Int) (l : List Row) (i k : Nat) : Row := joinAll (lo, hi) ((l.drop i).take k)
theorem joinOf_succ {lo hi : Int} {l : List Row} {i k : Nat} {r : Row} (h : l[i + k]? = some r) : joinOf lo hi l i (k + 1) = joinR (joinOf lo hi l i k) r := by
  unfold joinOf
  rw [List.take_add_one, List.getElem?_drop, h]
  exact joinAll_snoc _ _ _

/-- Numbers lo to hi are in it. -/
def AddR (B : Nat) (w0 : World) (rb : Nat) (l : List Row) (F : List (Nat × Obj)) (lo hi : Int) (e : Ending) (w' : World) : Prop :=
  ∃ l', e = .returned (.int .i64 (cnt l' - cnt l)) ∧ (∀ k, Inn l' k ↔ Inn l k ∨ (max lo 1 ≤ k ∧ k ≤ min hi 1000000)) ∧ RgsIs B w0 w' rb l' F

set_option maxHeartbeats 1000000 in
set_option maxRecDepth 100000 in
theorem add_nothing (h : RgsIs B w0 w rb l F) (lo hi : Int) (hn : min hi 1000000 < max lo 1) : Calls Try.prog 22 #[gptr rb, .int .i64 lo, .int .i64 hi] w (AddR B w0 rb l F lo hi) := by
  have fin : AddR B w0 rb l F lo hi (.returned (.int .i64 0)) w := ⟨l, by simp, fun k => ⟨.inl, fun h => h.elim id fun h => absurd h (by omega)⟩, h⟩
  have cw := Lib.hid (within_any lo hi w)
  replace fin := Lib.hid fin
  generalize max lo 1 = lo' at *
  generalize min hi 1000000 = hi' at *
  clear h
  go_enter Try.func22, Try.ntmps22
  go_wp2_with fail
  refine wp_scope_ghost 0 (fun _ _ _ => False) rfl (fun _ _ _ h => h.elim) ?_
  intro _
  go_wp2_with fail
  refine cw.out.mono ?_
  rintro e w1 ⟨rfl, rfl⟩
  go_wp2_with fail
  simp only [Exit.jump]
  go_ret
  exact fin.out

/-- The row that was joined is laid in. -/
theorem add_lay {lo hi : Int} (hn : lo ≤ hi) (b1 : 1 ≤ lo) (b2 : hi ≤ 1000000) (hc : Canon l) {i k jb : Nat} (hik : i + k ≤ l.length) (hA : ∀ r ∈ l.take i, r.2 < lo - 1) (hM : ∀ r ∈ (l.drop i).take k, lo - 1 ≤ r.2 ∧ r.1 ≤ hi + 1) (hC : ∀ r ∈ l.drop (i + k), hi + 1 < r.1) {o : Obj}
    (h : RgsAt B w0 w rb v l ((jb, o) :: F) S) :
    Calls Try.prog 31 #[gptr rb, .int .i64 i, .int .i64 (i + k : Nat), .slice (some ⟨w.heap.size, 0, none⟩) 1 1] (w.alloc (.cells #[.int .i64 (joinOf lo hi l i k).1, .int .i64 (joinOf lo hi l i k).2] 63))
      fun e w' => ∃ l', e = .returned (.int .i64 (cnt l' - cnt l)) ∧ (∀ k, Inn l' k ↔ Inn l k ∨ (lo ≤ k ∧ k ≤ hi)) ∧ RgsIs B w0 w' rb l' F := by
  have hs := split3 hik
  have hlen := hc.len_bd
  have h2 := (h.alloc (.cells #[.int .i64 (joinOf lo hi l i k).1, .int .i64 (joinOf lo hi l i k).2] 63)).permF (F' := (((jb, o) :: F) ++ [(w.heap.size, .cells #[.int .i64 (joinOf lo hi l i k).1, .int .i64 (joinOf lo hi l i k).2] 63)])) (List.perm_append_singleton _ _).symm
  have hx : SlIs 63 2 (.slice (some ⟨w.heap.size, 0, none⟩) 1 1) [joinOf lo hi l i k].length (rowsV [joinOf lo hi l i k]) [(w.heap.size, .cells #[.int .i64 (joinOf lo hi l i k).1, .int .i64 (joinOf lo hi l i k).2] 63)] :=
    SlIs.made rfl (by unfold maxLen; simp)
  have hcan := joined_canon (A := l.take i) (M := (l.drop i).take k) (C := l.drop (i + k)) (by rw [← hs]; exact hc) lo hi b1 hn b2 hA hC
  have hinn := joined_inn (A := l.take i) (M := (l.drop i).take k) (C := l.drop (i + k)) lo hi hM
  have hfJ : Fit [joinOf lo hi l i k] := fun r hr => hcan.fit r (by obtain rfl := List.mem_singleton.1 hr; simp [joinOf])
  have e1 : (l.take i).length = i := by rw [List.length_take]; omega
  have e2 : ((l.drop i).take k).length = k := by rw [List.length_take, List.length_drop]; omega
  rw [hs] at h2
  refine (rgsReplace_any (i := i) (j := i + k) (L1 := l.take i) (M := (l.drop i).take k) (L2 := l.drop (i + k)) (news := [joinOf lo hi l i k]) (by omega) (by omega) (by rw [← hs] at h2 ⊢; exact h2) hx (by rw [← hs]; exact hc.fits) hfJ (by rw [← hs]; simp; omega)).mono ?_
  rintro e w' ⟨rfl, v', S', h3⟩
  refine ⟨_, ?_, ?_, hcan, v', S', h3.sub (List.sublist_cons_self _ _)⟩
  · have h4 : cnt l = cnt (l.take i) + (cnt ((l.drop i).take k) + cnt (l.drop (i + k))) := by rw [← cnt_append, ← cnt_append, ← hs]
    rw [h4, cnt_append, cnt_append]
    congr 2
    show cnt [joinOf lo hi l i k] - _ = _
    unfold joinOf
    omega
  · intro q
    rw [hinn q, ← hs]

set_option maxHeartbeats 4000000 in
set_option maxRecDepth 100000 in
theorem add_some (h : RgsIs B w0 w rb l F) (lo hi : Int) (hn : max lo 1 ≤ min hi 1000000) : Calls Try.prog 22 #[gptr rb, .int .i64 lo, .int .i64 hi] w (AddR B w0 rb l F lo hi) := by
  obtain ⟨hc, v, S, h⟩ := h
  have cw := Lib.hid (within_any lo hi w)
  have b1 : 1 ≤ max lo 1 := by omega
  have b2 : min hi 1000000 ≤ 1000000 := by omega
  unfold AddR
  generalize max lo 1 = lo' at *
  generalize min hi 1000000 = hi' at *
  have cr := Lib.hid (rowUp_any h hc (lo' - 1))
  have hlen := hc.len_bd
  replace hc := Lib.hid hc
  clear h
  go_enter Try.func22, Try.ntmps22
  go_wp2_with fail
  refine wp_scope_ghost 0 (fun g a' w' => ∃ (i k jb : Nat), i + k ≤ l.length ∧ i + k + g = l.length ∧ Fr 79 [(0, gptr rb), (2, .int .i64 hi'), (7, .int .i64 i), (8, .int .i64 (i + k : Nat)), (9, gptr jb)] a' ∧ (∀ r ∈ l.take i, r.2 < lo' - 1) ∧ (∀ r ∈ l.drop i, lo' - 1 ≤ r.2) ∧ (∀ r ∈ (l.drop i).take k, r.1 ≤ hi' + 1) ∧
      ∃ v S, RgsAt B w0 w' rb v l ((jb, .cells #[.int .i64 (joinOf lo' hi' l i k).1, .int .i64 (joinOf lo' hi' l i k).2] 63) :: F) S) rfl ?_ ?_
  · rintro g a' w' ⟨i, k, jb, hik, hg, hfr, hA, hC, hM, v, S, hw⟩
    obtain ⟨f, rfl, hl'⟩ := hfr.lit
    clear hfr cr cw
    simp only [List.mem_cons, List.not_mem_nil, or_false, forall_eq_or_imp, forall_eq] at hl'
    obtain ⟨f0, f2, f7, f8, f9⟩ := hl'
    simp only [List.range, List.range.loop, List.map, f0, f2, f7, f8, f9]
    clear f0 f2 f7 f8 f9
    have c0 := hw.c0
    obtain ⟨a, cap, rfl, -, -, ha⟩ := hw.sl.form
    have jc0 : w'.cell? ⟨jb, 0, none⟩ = some (.int .i64 (joinOf lo' hi' l i k).1) := hw.cellF (i := 0) List.mem_cons_self rfl
    have jc1 : w'.cell? ⟨jb, 1, none⟩ = some (.int .i64 (joinOf lo' hi' l i k).2) := hw.cellF (i := 1) List.mem_cons_self rfl
    have jf0 := hw.softF List.mem_cons_self 0
    have hMM : ∀ r ∈ (l.drop i).take k, lo' - 1 ≤ r.2 ∧ r.1 ≤ hi' + 1 := fun r hr => ⟨hC r (List.mem_of_mem_take hr), hM r hr⟩
    have exit : (∀ r ∈ l.drop (i + k), hi' + 1 < r.1) → Calls Try.prog 31 #[gptr rb, .int .i64 i, .int .i64 (i + k : Nat), .slice (some ⟨w'.heap.size, 0, none⟩) 1 1] (w'.alloc (.cells #[.int .i64 (joinOf lo' hi' l i k).1, .int .i64 (joinOf lo' hi' l i k).2] 63)) _ :=
      fun hC2 => add_lay hn b1 b2 hc.out hik hA hMM hC2 hw
    replace exit := Lib.hid exit
    have hh0 : (0 : Int) ≤ hi' := by omega
    by_cases hlt : i + k < l.length
    · have hr : l[i + k]? = some l[i + k] := List.getElem?_eq_getElem hlt
      have hfit := hc.out.fit l[i + k] (List.getElem_mem _)
      have hJ := joinOf_succ (lo := lo') (hi := hi') hr
      have hdrop : l.drop (i + k) = l[i + k] :: l.drop (i + k + 1) := List.drop_eq_getElem_cons hlt
      have hap : ∀ x ∈ l.drop (i + k + 1), l[i + k].2 + 1 < x.1 := by
        have h := hc.out.apart.drop (i := i + k)
        rw [hdrop] at h
        exact (List.pairwise_cons.1 h).1
      have hread := hw.read
      have hMn : (l.drop i).take (k + 1) = (l.drop i).take k ++ [l[i + k]] := by
        rw [List.take_add_one, List.getElem?_drop, hr]; rfl
      generalize l[i + k] = r at *
      obtain ⟨r1, r2⟩ := r
      obtain ⟨a', cap', e, hrd⟩ := hread
      cases e
      obtain ⟨g', off, rfl, k1, k2⟩ := hrd _ _ hr
      simp only at k1 k2 hfit hap
      by_cases hle : r1 ≤ hi' + 1
      · have hMnew : ∀ x ∈ (l.drop i).take (k + 1), x.1 ≤ hi' + 1 := fun x hx => by
          rw [hMn] at hx
          rcases List.mem_append.1 hx with hx | hx
          · exact hM x hx
          · obtain rfl := List.mem_singleton.1 hx
            exact hle
        have hlt' : ((i + k : Nat) : Int) < l.length := by omega
        have hti : (0 : Int) ≤ (i + k : Nat) := by omega
        have hnext : ∀ W, RgsAt B w0 W rb (.slice (some ⟨g', off, none⟩) l.length cap) l ((jb, .cells #[.int .i64 (min (joinOf lo' hi' l i k).1 r1), .int .i64 (max (joinOf lo' hi' l i k).2 r2)] 63) :: F) S →
            ∃ i₁ k₁ jb₁, i₁ + k₁ ≤ l.length ∧ i₁ + k₁ + (l.length - (i + k + 1)) = l.length ∧ (i₁ = i ∧ k₁ = k + 1 ∧ jb₁ = jb) ∧ (∀ r ∈ l.take i₁, r.2 < lo' - 1) ∧ (∀ r ∈ l.drop i₁, lo' - 1 ≤ r.2) ∧ (∀ r ∈ (l.drop i₁).take k₁, r.1 ≤ hi' + 1) ∧
              ∃ v S, RgsAt B w0 W rb v l ((jb₁, .cells #[.int .i64 (joinOf lo' hi' l i₁ k₁).1, .int .i64 (joinOf lo' hi' l i₁ k₁).2] 63) :: F) S := fun W hW => by
          refine ⟨i, k + 1, jb, by omega, by omega, ⟨rfl, rfl, rfl⟩, hA, hC, hMnew, .slice (some ⟨g', off, none⟩) l.length cap, S, ?_⟩
          rw [hJ]
          exact hW
        have hdr := Lib.hid hw
        have hrr := Lib.hid hr
        replace hnext := Lib.hid hnext
        generalize hJ' : joinOf lo' hi' l i k = J at *
        generalize hT : i + k = t at *
        obtain ⟨J1, J2⟩ := J
        simp only at jc0 jc1
        replace hT := Lib.hid hT
        clear exit hJ hJ' hw hdrop hap hrd hr hM hMM hA hC hMn hMnew ha
        have hmm : (J1 ≤ r1 ∨ ¬ J1 ≤ r1) ∧ (r2 ≤ J2 ∨ ¬ r2 ≤ J2) := ⟨Decidable.em _, Decidable.em _⟩
        obtain ⟨h5 | h5, h6 | h6⟩ := hmm
        · as_aux_lemma =>
            rw [Int.min_eq_left h5, Int.max_eq_left h6] at hnext
            have h7 := (hdr.out.setFirst 0 (.int .i64 J1)).drew
            have h8 := Lib.hid ((h7.setFirst 1 (.int .i64 J2)).drew)
            have d0 := h7.c0
            have d1 : ((w'.setCell ⟨jb, 0, none⟩ (.int .i64 J1)).drew).cell? ⟨jb, 1, none⟩ = some (.int .i64 J2) := h7.cellF (i := 1) List.mem_cons_self rfl
            have df := h7.softF List.mem_cons_self 1
            have d2 := h7.sl.cellAt h7.st (rowsV_at hrr.out).2
            rw [← Nat.add_assoc] at d2
            replace h7 := Lib.hid h7
            go_wp2_with fail
            go_still_tail 12, (by kernel_rfl)
            change wpList _ _ _ _ _ w'.drew
            go_wp2_with fail
            generalize (w'.setCell ⟨jb, 0, none⟩ (.int .i64 J1)).drew = W at *
            clear c0 jc0 jc1 jf0 k1 k2
            go_still_tail 12, (by kernel_rfl)
            change wpList _ _ _ _ _ W.drew
            go_wp2_with fail
            obtain ⟨i₁, k₁, jb₁, g1, g2, ⟨rfl, rfl, rfl⟩, g3, g4, g5, g6⟩ := hnext.out _ h8.out
            refine wp_goto ?_
            refine ⟨rfl, l.length - (t + 1), by omega, _, _, _, g1, g2, ⟨rfl, rfl, by simp; have := hT.out; omega⟩, g3, g4, g5, g6⟩
        · as_aux_lemma =>
            rw [Int.min_eq_left h5, Int.max_eq_right (Int.le_of_lt (Int.not_le.1 h6))] at hnext
            have h7 := (hdr.out.setFirst 0 (.int .i64 J1)).drew
            have h8 := Lib.hid ((h7.setFirst 1 (.int .i64 r2)).drew)
            have d0 := h7.c0
            have d1 : ((w'.setCell ⟨jb, 0, none⟩ (.int .i64 J1)).drew).cell? ⟨jb, 1, none⟩ = some (.int .i64 J2) := h7.cellF (i := 1) List.mem_cons_self rfl
            have df := h7.softF List.mem_cons_self 1
            have d2 := h7.sl.cellAt h7.st (rowsV_at hrr.out).2
            rw [← Nat.add_assoc] at d2
            replace h7 := Lib.hid h7
            go_wp2_with fail
            go_still_tail 12, (by kernel_rfl)
            change wpList _ _ _ _ _ w'.drew
            go_wp2_with fail
            generalize (w'.setCell ⟨jb, 0, none⟩ (.int .i64 J1)).drew = W at *
            clear c0 jc0 jc1 jf0 k1 k2
            go_still_tail 12, (by kernel_rfl)
            change wpList _ _ _ _ _ W.drew
            go_wp2_with fail
            obtain ⟨i₁, k₁, jb₁, g1, g2, ⟨rfl, rfl, rfl⟩, g3, g4, g5, g6⟩ := hnext.out _ h8.out
            refine wp_goto ?_
            refine ⟨rfl, l.length - (t + 1), by omega, _, _, _, g1, g2, ⟨rfl, rfl, by simp; have := hT.out; omega⟩, g3, g4, g5, g6⟩
        · as_aux_lemma =>
            rw [Int.min_eq_right (Int.le_of_lt (Int.not_le.1 h5)), Int.max_eq_left h6] at hnext
            have h7 := (hdr.out.setFirst 0 (.int .i64 r1)).drew
            have h8 := Lib.hid ((h7.setFirst 1 (.int .i64 J2)).drew)
            have d0 := h7.c0
            have d1 : ((w'.setCell ⟨jb, 0, none⟩ (.int .i64 r1)).drew).cell? ⟨jb, 1, none⟩ = some (.int .i64 J2) := h7.cellF (i := 1) List.mem_cons_self rfl
            have df := h7.softF List.mem_cons_self 1
            have d2 := h7.sl.cellAt h7.st (rowsV_at hrr.out).2
            rw [← Nat.add_assoc] at d2
            replace h7 := Lib.hid h7
            go_wp2_with fail
            go_still_tail 12, (by kernel_rfl)
            change wpList _ _ _ _ _ w'.drew
            go_wp2_with fail
            generalize (w'.setCell ⟨jb, 0, none⟩ (.int .i64 r1)).drew = W at *
            clear c0 jc0 jc1 jf0 k1 k2
            go_still_tail 12, (by kernel_rfl)
            change wpList _ _ _ _ _ W.drew
            go_wp2_with fail
            obtain ⟨i₁, k₁, jb₁, g1, g2, ⟨rfl, rfl, rfl⟩, g3, g4, g5, g6⟩ := hnext.out _ h8.out
            refine wp_goto ?_
            refine ⟨rfl, l.length - (t + 1), by omega, _, _, _, g1, g2, ⟨rfl, rfl, by simp; have := hT.out; omega⟩, g3, g4, g5, g6⟩
        · as_aux_lemma =>
            rw [Int.min_eq_right (Int.le_of_lt (Int.not_le.1 h5)), Int.max_eq_right (Int.le_of_lt (Int.not_le.1 h6))] at hnext
            have h7 := (hdr.out.setFirst 0 (.int .i64 r1)).drew
            have h8 := Lib.hid ((h7.setFirst 1 (.int .i64 r2)).drew)
            have d0 := h7.c0
            have d1 : ((w'.setCell ⟨jb, 0, none⟩ (.int .i64 r1)).drew).cell? ⟨jb, 1, none⟩ = some (.int .i64 J2) := h7.cellF (i := 1) List.mem_cons_self rfl
            have df := h7.softF List.mem_cons_self 1
            have d2 := h7.sl.cellAt h7.st (rowsV_at hrr.out).2
            rw [← Nat.add_assoc] at d2
            replace h7 := Lib.hid h7
            go_wp2_with fail
            go_still_tail 12, (by kernel_rfl)
            change wpList _ _ _ _ _ w'.drew
            go_wp2_with fail
            generalize (w'.setCell ⟨jb, 0, none⟩ (.int .i64 r1)).drew = W at *
            clear c0 jc0 jc1 jf0 k1 k2
            go_still_tail 12, (by kernel_rfl)
            change wpList _ _ _ _ _ W.drew
            go_wp2_with fail
            obtain ⟨i₁, k₁, jb₁, g1, g2, ⟨rfl, rfl, rfl⟩, g3, g4, g5, g6⟩ := hnext.out _ h8.out
            refine wp_goto ?_
            refine ⟨rfl, l.length - (t + 1), by omega, _, _, _, g1, g2, ⟨rfl, rfl, by simp; have := hT.out; omega⟩, g3, g4, g5, g6⟩
      · have cx := Lib.hid (exit.out (fun r hr' => by
          rw [hdrop] at hr'
          rcases List.mem_cons.1 hr' with rfl | hr'
          · show hi' + 1 < r1; omega
          · have := hap r hr'; omega))
        have hd : decide (r1 ≤ hi' + 1) = false := by simpa using hle
        have hlt' : ((i + k : Nat) : Int) < l.length := by omega
        have hti : (0 : Int) ≤ (i + k : Nat) := by omega
        generalize hJ' : joinOf lo' hi' l i k = J at *
        generalize hT : i + k = t at *
        obtain ⟨J1, J2⟩ := J
        simp only at jc0 jc1
        clear exit hJ hJ' hw hdrop hap hrd hr hM hMM hA hC hMn hfit ha
        go_wp2_with fail
        refine cx.out.mono ?_
        rintro e w2 ⟨l', rfl, h3, h4⟩
        replace h3 := Lib.hid h3
        replace h4 := Lib.hid h4
        clear cx
        go_wp2_with fail
        simp only [Exit.jump]
        go_ret
        exact ⟨l', rfl, h3.out, h4.out⟩
    · have hC2 : l.drop (i + k) = [] := List.drop_of_length_le (by omega)
      have cx := Lib.hid (exit.out (by rw [hC2]; simp))
      have hlt' : decide ((i + k : Nat) < l.length) = false := by simp; omega
      generalize hJ' : joinOf lo' hi' l i k = J at *
      generalize hT : i + k = t at *
      obtain ⟨J1, J2⟩ := J
      simp only at jc0 jc1
      clear exit hJ' hw hM hMM hA hC ha
      go_wp2_with fail
      refine cx.out.mono ?_
      rintro e w2 ⟨l', rfl, h3, h4⟩
      replace h3 := Lib.hid h3
      replace h4 := Lib.hid h4
      clear cx
      go_wp2_with fail
      simp only [Exit.jump]
      go_ret
      exact ⟨l', rfl, h3.out, h4.out⟩
  · intro H
    go_wp2_with fail
    refine cw.out.mono ?_
    rintro e w1 ⟨rfl, rfl⟩
    go_wp2_with fail
    refine cr.out.mono ?_
    rintro e w1 ⟨i, rfl, hi1, hA, hC, h1⟩
    have h2 := h1.alloc (.cells #[.int .i64 lo', .int .i64 hi'] 63)
    have h3 := H (l.length - i)
    replace hA := Lib.hid hA
    replace hC := Lib.hid hC
    replace h2 := Lib.hid h2
    replace hi1 := Lib.hid hi1
    clear h1 cr cw H
    go_wp2_with fail
    refine wp_label ?_
    go_step
    go_step
    have hil := hi1.out
    exact h3 _ _ ⟨i, 0, w1.heap.size, by omega, by omega, ⟨rfl, rfl, by simp⟩, hA.out, hC.out, by simp, v, S, h2.out⟩
end
end Go.Proofs.Ytdkchcbmhmlhnaa
