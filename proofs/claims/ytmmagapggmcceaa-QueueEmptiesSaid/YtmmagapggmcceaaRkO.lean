/- All of a rack: row by row. -/
import Derived.Test.YtmmagapggmcceaaRkN
namespace Go.Proofs.Ytmmagapggmcceaa
open Go.RowKit
open Go.ChangeMaps (setBlock)
set_option linter.unusedVariables false
set_option linter.unusedSectionVars false
set_option linter.unusedSimpArgs false
set_option maxRecDepth 100000

def uptoE (M : List Ent) (i : Nat) : List Ent := (List.range i).flatMap fun (j : Nat) => entP M (3 - (j : Int))
theorem upto_succ (M : List Ent) (i : Nat) : uptoE M (i + 1) = uptoE M i ++ entP M (3 - (i : Int)) := by simp [uptoE, List.range_succ]
theorem upto_zero (M : List Ent) : uptoE M 0 = [] := rfl
theorem upto_all {M : List Ent} (h : RkOk M) : uptoE M 4 = M := by
  have := by_rows h
  simp only [uptoE, List.range, List.range.loop, List.flatMap_cons, List.flatMap_nil]
  simp only [Int.cast_ofNat_Int, Int.sub_zero, List.append_nil]
  exact this.symm
theorem upto_len {M : List Ent} (h : RkOk M) {i : Nat} (hi : i < 4) : (uptoE M i).length + (entP M (3 - (i : Int))).length ≤ M.length := by
  have h4 := congrArg List.length (upto_all h)
  rw [show 4 = 3 + 1 from rfl, upto_succ, show 3 = 2 + 1 from rfl, upto_succ, show 2 = 1 + 1 from rfl, upto_succ, show 1 = 0 + 1 from rfl, upto_succ] at h4
  simp only [List.length_append, Int.cast_ofNat_Int] at h4
  rcases (by omega : i = 0 ∨ i = 1 ∨ i = 2 ∨ i = 3) with rfl | rfl | rfl | rfl
  · simp only [Int.cast_ofNat_Int] at h4 ⊢; omega
  · rw [show (1 : Nat) = 0 + 1 from rfl, upto_succ, List.length_append]; simp only [Int.cast_ofNat_Int] at h4 ⊢; omega
  · rw [show (2 : Nat) = 1 + 1 from rfl, upto_succ, show (1 : Nat) = 0 + 1 from rfl, upto_succ, List.length_append, List.length_append]; simp only [Int.cast_ofNat_Int] at h4 ⊢; omega
  · rw [show (3 : Nat) = 2 + 1 from rfl, upto_succ, show (2 : Nat) = 1 + 1 from rfl, upto_succ, show (1 : Nat) = 0 + 1 from rfl, upto_succ, List.length_append, List.length_append, List.length_append]; simp only [Int.cast_ofNat_Int] at h4 ⊢; omega

section
variable {B : Nat} {w0 w : World} {rk q rb i k : Nat} {rbs : List Nat} {R : List (List Int)} {H M L : List Ent} {F A S : List (Nat × Obj)} {e e0 : Ent} {E : List Ent} {l : List Int}
theorem RkAt.ring_all (h : RkAt B w0 w rk q rbs R H F) (hb : rbs[i]? = some rb) (hl : R[i]? = some l) : Calls Try.prog 43 #[rptr rb] w fun r w' => ∃ a c A, r = .returned (.slice a l.length c) ∧ SlIs 3 1 (.slice a l.length c) l.length (ints l) A ∧ RkAt B w0 w' rk q rbs R H (A ++ F) := by
  obtain ⟨Z, hr, hback⟩ := h.ring hb hl
  refine (Go.Proofs.Ytmmagapggmcceaa.ring_all hr).mono ?_
  rintro r w' ⟨v, A, rfl, hs, h'⟩
  obtain ⟨a, c, rfl, -⟩ := hs.form
  have h2 := hback w' l (A ++ F) (h'.perm (by
    classical
    exact List.perm_iff_count.2 fun a => by simp only [List.count_append]; omega))
  have e1 : R.set i l = R := by
    apply List.ext_getElem?
    intro j
    rw [List.getElem?_set]
    split
    · rename_i hj
      subst hj
      split
      · exact hl.symm
      · rename_i h9
        rw [List.getElem?_eq_none (by omega)]
    · rfl
  rw [e1] at h2
  exact ⟨a, c, A, rfl, hs, h2⟩
/-- What is told put behind what there is. -/
theorem RkAt.app {a a2 : Option Addr} {c c2 : Nat} {Y : List (Nat × Obj)} (h : RkAt B w0 w rk q rbs R H (Y ++ (S ++ F))) (hs : EnsIs (.slice a L.length c) L S) (h2 : EnsIs (.slice a2 E.length c2) E Y) (hl : L.length + E.length ≤ 100000) :
    ∃ a' c' W S', (Builtin.append_ #[28, 28] 0 #[.slice a L.length c, .slice a2 E.length c2]).run Try.prog w = .ok (.slice a' (L ++ E).length c') W ∧ EnsIs (.slice a' (L ++ E).length c') (L ++ E) S' ∧ RkAt B w0 W rk q rbs R H (S' ++ F) := by
  obtain ⟨Z, z1, z2⟩ := h.beside
  have p1 : (Z ++ (Y ++ (S ++ F))).Perm ((Z ++ (Y ++ F)) ++ S) := by
    classical
    exact List.perm_iff_count.2 fun a => by simp only [List.count_append]; omega
  have p2 : (Z ++ (Y ++ (S ++ F))).Perm ((Z ++ (S ++ F)) ++ Y) := by
    classical
    exact List.perm_iff_count.2 fun a => by simp only [List.count_append]; omega
  obtain ⟨a', c', W, S', q1, q2, q3⟩ := ens_app hs (z1.perm p1) h2 (z1.perm p2) hl
  refine ⟨a', c', W, S', q1, q2, z2 _ _ ((q3.perm (H' := (Z ++ (S' ++ F)) ++ Y) ?_).sub (List.sublist_append_left _ _))⟩
  classical
  exact List.perm_iff_count.2 fun a => by simp only [List.count_append]; omega
theorem EnsIs.made (t : Nat) (E : List Ent) (h : E.length ≤ 100000) : EnsIs (.slice (some ⟨t, 0, none⟩) E.length E.length) E [(t, ensO E)] := SlIs.made (entsV_len E) (by unfold maxLen; omega)

def AllJ (B : Nat) (w0 : World) (rk q : Nat) (rbs : List Nat) (M : List Ent) (F : List (Nat × Obj)) (g : Nat) (a' : Act) (w' : World) : Prop :=
  ∃ (i : Nat) (a : Option Addr) (c : Nat) (S : List (Nat × Obj)), i + g = 4 ∧ Fr 27 [(0, rptr rk), (3, .slice a (uptoE M i).length c), (4, .int .i64 i)] a' ∧ EnsIs (.slice a (uptoE M i).length c) (uptoE M i) S ∧ RkAt B w0 w' rk q rbs (rowsM M) M (S ++ F)
def AllR (B : Nat) (w0 : World) (rk : Nat) (M : List Ent) (F : List (Nat × Obj)) (r : Ending) (w' : World) : Prop :=
  ∃ a c S, r = .returned (.slice a M.length c) ∧ EnsIs (.slice a M.length c) M S ∧ RackIs B w0 w' rk M (S ++ F)

set_option maxHeartbeats 2000000 in
theorem all_some (hok : RkOk M) (h : RkAt B w0 w rk q rbs (rowsM M) M F) : Calls Try.prog 27 #[rptr rk] w (AllR B w0 rk M F) := by
  have hfew := h.few
  have hlen4 := Lib.hid h.len
  replace h := Lib.hid h
  replace hok := Lib.hid hok
  go_enter Try.func27, Try.ntmps27
  go_wp2_with fail
  refine wp_scope_ghost 0 (AllJ B w0 rk q rbs M F) rfl ?_ ?_
  · clear h
    rintro g a' wr ⟨i, a, c, S, hi, hfr, hs, hR⟩
    obtain ⟨fr, rfl, hl'⟩ := hfr.lit
    clear hfr
    simp only [List.mem_cons, List.not_mem_nil, or_false, forall_eq_or_imp, forall_eq] at hl'
    obtain ⟨f0, f3, f4⟩ := hl'
    simp only [List.range, List.range.loop, List.map, f0, f3, f4]
    clear f0 f3 f4
    have c0 := hR.c0
    by_cases hlt : i < 4
    · obtain ⟨rb, hb⟩ := hR.row_at hlt
      have hgl := rows_get (M := M) hlt
      have c1 := hR.at_ hb
      have hle := upto_len hok.out hlt
      have hsub : ∀ x ∈ entP M (3 - (i : Int)), x ∈ M := fun x hx => (mem_entP.1 hx).1
      have hrl : (rowP M (3 - (i : Int))).length = (entP M (3 - (i : Int))).length := by unfold rowP; rw [List.length_map]
      have ca := hR.ring_all hb hgl
      rw [hrl] at ca
      replace ca := Lib.hid ca
      have ce : Hid (∀ w' a1 c1 A, SlIs 3 1 (.slice a1 (entP M (3 - (i : Int))).length c1) (entP M (3 - (i : Int))).length (ints (rowP M (3 - (i : Int)))) A → RkAt B w0 w' rk q rbs (rowsM M) M (A ++ (S ++ F)) → Calls Try.prog 42 #[rptr rk, .slice a1 (entP M (3 - (i : Int))).length c1] w' fun r w'' => ∃ t, r = .returned (.slice (some ⟨t, 0, none⟩) (entP M (3 - (i : Int))).length (entP M (3 - (i : Int))).length) ∧
          ∃ a' c' W S', (Builtin.append_ #[28, 28] 0 #[.slice a (uptoE M i).length c, .slice (some ⟨t, 0, none⟩) (entP M (3 - (i : Int))).length (entP M (3 - (i : Int))).length]).run Try.prog w'' = .ok (.slice a' (uptoE M (i + 1)).length c') W ∧
            ∀ a9, Fr 27 [(0, rptr rk), (3, .slice a' (uptoE M (i + 1)).length c'), (4, .int .i64 ((i : Int) + 1))] a9 → ∃ m, m < g ∧ AllJ B w0 rk q rbs M F m a9 W) := Lib.hid fun w' a1 c1 A hA hR' => by
        refine (entries_any (E := entP M (3 - (i : Int))) hR' hA hsub (by omega)).mono ?_
        rintro r w'' ⟨t, rfl, h5⟩
        obtain ⟨a', c', W, S', q1, q2, q3⟩ := RkAt.app (Y := [(t, ensO (entP M (3 - (i : Int))))]) h5 hs (EnsIs.made t _ (by omega)) (by omega)
        rw [← upto_succ] at q1 q2
        exact ⟨t, rfl, a', c', W, S', q1, fun a9 hf => ⟨g - 1, by omega, i + 1, a', c', S', by omega, hf, q2, q3⟩⟩
      have i0 : (0 : Int) ≤ i := by omega
      have i1 : (i : Int) < 4 := by omega
      clear hR hs hb hgl hle hsub hrl hi
      generalize (uptoE M (i + 1)).length = n1 at *
      generalize (uptoE M i).length = n0 at *
      generalize (entP M (3 - (i : Int))).length = n2 at *
      go_wp2_with fail
      refine ca.out.mono ?_
      rintro r w1 ⟨a1, c1, A, rfl, hA, hR1⟩
      have ce1 := Lib.hid (ce.out _ _ _ _ hA hR1)
      clear ca ce hA hR1
      go_wp2_with fail
      refine ce1.out.mono ?_
      rintro r w2 ⟨t, rfl, a3, c3, W, S', hrun, fin⟩
      replace fin := Lib.hid fin
      clear ce1
      go_wp2_with (at_builtin; refine wpList_append_go rfl (.tmp 13) (.tmp 23) 28 28 rfl _ _ rfl rfl hrun ?_)
      refine wp_goto ?_
      exact ⟨rfl, fin.out _ ⟨rfl, rfl, by simp⟩⟩
    · have hin : i = 4 := by omega
      subst hin
      rw [upto_all hok.out] at hs ⊢
      have fin : Hid (AllR B w0 rk M F (.returned (.slice a M.length c)) wr) := Lib.hid ⟨a, c, S, rfl, hs, hok.out, .inr ⟨q, rbs, hR⟩⟩
      clear hR hs hi
      simp only [Int.cast_ofNat_Int]
      go_wp2_with fail
      simp only [Exit.jump]
      go_ret
      exact fin.out
  · intro HJ
    go_wp2_with fail
    refine wp_label ?_
    go_step
    go_step
    exact HJ 4 _ _ ⟨0, none, 0, [], rfl, ⟨rfl, rfl, by simp [upto_zero]⟩, by rw [upto_zero]; exact EnsIs.nil, h.out⟩
theorem all_none (h : St B w0 w ((rk, rack0) :: F)) : Calls Try.prog 27 #[rptr rk] w (AllR B w0 rk [] F) := by
  have c0 : w.cell? ⟨rk, 0, none⟩ = some (.slice none 0 0) := h.cell (b := rk) List.mem_cons_self rfl
  have fin : Hid (AllR B w0 rk [] F (.returned (.slice none 0 0)) w) := Lib.hid ⟨none, 0, [], rfl, EnsIs.nil, RkOk.nil, .inl ⟨rfl, h⟩⟩
  clear h
  go_enter Try.func27, Try.ntmps27
  go_wp2_with fail
  refine wp_scope_ghost 0 (fun g a' w' => Fr 27 [(0, rptr rk), (3, .slice none 0 0), (4, .int .i64 0)] a' ∧ w' = w) rfl ?_ ?_
  · rintro g a' wr ⟨hfr, rfl⟩
    obtain ⟨fr, rfl, hl'⟩ := hfr.lit
    clear hfr
    simp only [List.mem_cons, List.not_mem_nil, or_false, forall_eq_or_imp, forall_eq] at hl'
    obtain ⟨f0, f3, f4⟩ := hl'
    simp only [List.range, List.range.loop, List.map, f0, f3, f4]
    clear f0 f3 f4
    go_wp2_with fail
    simp only [Exit.jump]
    go_ret
    exact fin.out
  · intro HJ
    go_wp2_with fail
    refine wp_label ?_
    go_step
    go_step
    exact HJ 0 _ _ ⟨⟨rfl, rfl, by simp⟩, rfl⟩
theorem rk_all (h : RackIs B w0 w rk M F) : Calls Try.prog 27 #[rptr rk] w (AllR B w0 rk M F) := by
  obtain ⟨h1, ⟨rfl, h3⟩ | ⟨q, rbs, h2⟩⟩ := h
  · exact all_none h3
  · exact all_some h1 h2
end
end Go.Proofs.Ytmmagapggmcceaa
