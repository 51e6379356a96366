/- The document's own dial: Due. -/
import Derived.Test.YtldocgpnmfmnaaaDlS
namespace Go.Proofs.Ytldocgpnmfmnaaa
open Go.RowKit
set_option linter.unusedVariables false

section
variable {B : Nat} {w0 w : World} {rb : Nat} {A S X : List (Nat × Obj)} {v : Value} {L : List (Int × Int)} {id t : Int}

/-- Behind Due: what is due, in a slice of its own. -/
def RdDueR (B : Nat) (w0 : World) (A : List (Nat × Obj)) (rb : Nat) (L : List (Int × Int)) (now : Int) (e : Ending) (w' : World) : Prop :=
  ∃ u So, e = .returned u ∧ SlIs 3 1 u (dueL now L).length (idsV (dueL now L)) So ∧ RefAt B w0 w' (A ++ So) rb (restL now L)

/-- On the way: T were told, L2 are left. -/
def RdDueAt (B : Nat) (w0 : World) (A : List (Nat × Obj)) (rb : Nat) (L : List (Int × Int)) (now : Int) (g : Nat) (v5 : Value) (wr : World) : Prop :=
  ∃ (T L2 : List (Int × Int)) (a : Option Addr) (c : Nat) (So S : List (Nat × Obj)) (v : Value), v5 = .slice a T.length c ∧ T ++ L2 = L ∧ (∀ x ∈ T, x.1 ≤ now) ∧ L2.length = g ∧ SlIs 3 1 (.slice a T.length c) T.length (idsV T) So ∧
    SlIs 42 2 v L2.length (duesV L2) S ∧ St B w0 wr (((A ++ [(rb, refO v)]) ++ S) ++ So)

theorem perm_l {α : Type} (A S T : List α) (x : α) : (((A ++ [x]) ++ S) ++ T).Perm (((A ++ T) ++ [x]) ++ S) := by
  classical
  exact List.perm_iff_count.2 fun a => by simp only [List.count_append]; omega
theorem perm_m {α : Type} (A S T : List α) (x : α) : (((A ++ [x]) ++ S) ++ T).Perm (A ++ x :: (S ++ T)) := by
  classical
  exact List.perm_iff_count.2 fun a => by simp only [List.count_append, List.count_cons, List.count_nil]; omega

set_option maxHeartbeats 2000000 in
set_option maxRecDepth 100000 in
theorem rd_due (h : RefAt B w0 w A rb L) (hL : L.length ≤ 5000) (now : Int) : Calls Try.prog 15 #[.pointer (some ⟨rb, 0, none⟩), .int .i64 now] w (RdDueR B w0 A rb L now) := by
  replace h := Lib.hid h
  go_enter Try.func15, Try.ntmps15
  go_wp2_with fail
  go_loopg [5] L.length (fun g v5 wr => RdDueAt B w0 A rb L now g v5 wr)
  case atStart =>
    obtain ⟨v, S, hs, hst⟩ := h.out
    exact ⟨[], L, none, 0, [], S, v, rfl, rfl, by simp, rfl, SlIs.nil, hs, by simpa using hst⟩
  case round =>
    clear h
    obtain ⟨T, L2, a, c, So, S, v, rfl, hTL, hT, hg, h1, h2, h3⟩ := hrel
    have c0 : wr.cell? ⟨rb, 0, none⟩ = some v := h3.cell (b := rb) (c := #[v]) (T := 29) (fr := (0, 0)) (by simp) rfl
    have stop : Hid ((∀ x, L2.head? = some x → ¬ x.1 ≤ now) → RdDueR B w0 A rb L now (.returned (.slice a T.length c)) wr) := Lib.hid fun k => by
      obtain ⟨e1, e2⟩ := take_due hT k
      rw [hTL] at e1 e2
      refine ⟨_, So, rfl, by rw [e1]; exact h1, ?_⟩
      rw [e2]
      exact ⟨v, S, h2, h3.perm (perm_l _ _ _ _)⟩
    cases L2 with
    | nil =>
      have fin := Lib.hid (stop.out (by simp))
      obtain ⟨av, cv, rfl, -, -, -⟩ := h2.form
      simp only [List.length_nil] at c0
      clear stop h1 h2 h3 hT hTL
      generalize T.length = tl at *
      go_wp2_with fail
      go_ret
      exact fin.out
    | cons x L2 =>
      obtain ⟨av, cv, rfl, hcap, hcm, ha⟩ := h2.form
      obtain ⟨gb, off, rfl⟩ := ha 0 (by simp)
      obtain ⟨k1, k2⟩ := h2.due (h3.perm (perm_k _ _ _)) (i := 0) (x := x) rfl
      rw [Nat.zero_mul, Nat.add_zero] at k1 k2
      have hlen := congrArg List.length hTL
      rw [List.length_append, List.length_cons] at hlen
      rw [List.length_cons] at c0 hcap
      have hb1 : (L2.length : Int) ≤ 5000 := by omega
      have hb0 : (0 : Int) ≤ L2.length := by omega
      have hb2 : (0 : Int) < (L2.length : Int) + 1 := by omega
      have hTb : T.length ≤ 5000 := by omega
      by_cases hle : x.1 ≤ now
      · obtain ⟨i0, hi0, hz0, hz1, hz2⟩ := info_parts5 infInt5
        have hrd := Reads.one wr (.int .i64 x.2) 3
        obtain ⟨v2, W2, S2, hr, hs2, hst2⟩ := run_append_sl (P := Try.prog) 35 0 3 i0 _ 1 8 uInts5 hi0 hz0 hz1 hz2 rfl h1 (A := (wr.heap.size, .cells #[.int .i64 x.2] 3) :: ((A ++ [(rb, refO (.slice (some ⟨gb, off, none⟩) (L2.length + 1) cv))]) ++ S)) (h3.alloc (.cells #[.int .i64 x.2] 3)) hrd (by intro u hu; obtain rfl := List.mem_singleton.1 hu; rfl) (by unfold maxLen; omega) (by omega)
        obtain ⟨a2, c2, rfl, -, -, -⟩ := hs2.form
        have hst3 := hst2.sub (List.sublist_cons_self _ _)
        have d0 : W2.cell? ⟨rb, 0, none⟩ = some (.slice (some ⟨gb, off, none⟩) (L2.length + 1) cv) := hst3.cell (b := rb) (c := #[.slice (some ⟨gb, off, none⟩) (L2.length + 1) cv]) (T := 29) (fr := (0, 0)) (by simp) rfl
        have df : W2.frozen? ⟨rb, 0, none⟩ = false := St.soft hst3 (b := rb) (c := #[.slice (some ⟨gb, off, none⟩) (L2.length + 1) cv]) (T := 29) (by simp) 0
        obtain ⟨j0, hj0, hy0, hy1, hy2⟩ := info_parts5 infDue
        obtain ⟨v', h4, -, hcut, -⟩ := run_piece (P := Try.prog) uDues hj0 hy1 h2 1 (L2.length + 1) (by omega) (by simp)
        replace hcut := hcut (by simp)
        obtain ⟨a', c', rfl, -, -, -⟩ := h4.form
        rw [show L2.length + 1 - 1 = L2.length by omega] at h4 hcut
        replace hcut : ∀ W, (Instr.slice 27 (.slice (some ⟨gb, off, none⟩) (L2.length + 1) cv) (some (.int .i64 1)) none none).run Try.prog W = .ok (.slice a' L2.length c') W := hcut
        have h5 : SlIs 42 2 (.slice a' L2.length c') L2.length (duesV L2) S := by
          have e : List.take (L2.length * 2) (List.drop (1 * 2) (duesV (x :: L2))) = duesV L2 := by
            rw [duesV_cons]
            simp only [Nat.one_mul, List.drop_succ_cons, List.drop_zero]
            rw [List.take_of_length_le (by rw [duesV_len]; exact Nat.le_refl _)]
          rw [e] at h4
          exact h4
        have hst5 : St B w0 (W2.setCell ⟨rb, 0, none⟩ (.slice a' L2.length c')) (((A ++ [(rb, refO (.slice a' L2.length c'))]) ++ S) ++ S2) := by
          have k := hst3.perm (perm_m _ _ _ _)
          have k2 := k.set 0 (.slice a' L2.length c')
          exact St.perm (H' := ((A ++ [(rb, refO (.slice a' L2.length c'))]) ++ S) ++ S2) k2 (perm_m _ _ _ _).symm
        have next : Hid (RdDueAt B w0 A rb L now L2.length (.slice a2 (T.length + 1) c2) (W2.setCell ⟨rb, 0, none⟩ (.slice a' L2.length c'))) := Lib.hid ⟨T ++ [x], L2, a2, c2, S2, S, _, by simp, by rw [← hTL]; simp, by
            intro y hy
            rcases List.mem_append.1 hy with hy | hy
            · exact hT y hy
            · obtain rfl := List.mem_singleton.1 hy
              exact hle, rfl, by
            rw [List.length_append, List.length_singleton, show idsV (T ++ [x]) = idsV T ++ [.int .i64 x.2] by simp [idsV]]
            exact hs2, h5, hst5⟩
        obtain ⟨x1, x2⟩ := x
        simp only at k1 k2 hle hr hcut
        have hg2 : L2.length < gk := by rw [List.length_cons] at hg; omega
        clear stop h1 h2 h3 hT hTL hs2 hst2 hst3 hst5 h5 h4 hrd ha hlen hg
        generalize T.length = tl at *
        generalize L2.length = ln at *
        go_wp2_with (at_builtin; refine wpList_append_go rfl (.tmp 23) (.tmp 31) 35 35 rfl _ _ rfl rfl hr ?_)
        go_roundg ln
        case measure => omega
        case rel => exact next.out
      · have fin := Lib.hid (stop.out (by intro y hy; simp only [List.head?_cons, Option.some.injEq] at hy; subst hy; exact hle))
        obtain ⟨x1, x2⟩ := x
        simp only at k1 k2 hle
        clear stop h1 h2 h3 hT hTL hlen hg ha
        generalize T.length = tl at *
        generalize L2.length = ln at *
        go_wp2_with fail
        go_ret
        exact fin.out
end
end Go.Proofs.Ytldocgpnmfmnaaa
