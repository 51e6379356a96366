/- Slips: those with a tag not above one; all. -/
import Derived.Test.YtdkchcbmhmlhnaaSpH
import Derived.Deep.RegionHeld3
namespace Go.Proofs.Ytdkchcbmhmlhnaa
open Go.RowKit
set_option linter.unusedVariables false
set_option linter.unusedSectionVars false
set_option linter.unusedSimpArgs false
set_option maxRecDepth 100000

section
variable {M U E : List Slp} {l : List Row} {t : Int} {k : Nat} {r : Row}
theorem tags_inj (h : OkS M) : ∀ {A B : List Slp}, (∀ x ∈ A, x ∈ M) → (∀ x ∈ B, x ∈ M) → tagsL A = tagsL B → A = B
  | [], [], _, _, _ => rfl
  | [], b :: B, _, _, e => by simp [tagsL] at e
  | a :: A, [], _, _, e => by simp [tagsL] at e
  | a :: A, b :: B, h1, h2, e => by
    simp only [tagsL, List.map_cons, List.cons.injEq] at e
    rw [h.inj (h1 a List.mem_cons_self) (h2 b List.mem_cons_self) e.1, tags_inj h (fun x hx => h1 x (List.mem_cons_of_mem _ hx)) (fun x hx => h2 x (List.mem_cons_of_mem _ hx)) e.2]
abbrev notAb (l : List Int) (t : Int) : List Int := l.filter fun n => decide (n ≤ t)
theorem nums_notAb (h : r.1 ≤ t) : notAb (nums r) t = nums (r.1, min r.2 t) :=
  two_sorted ((nums_sorted r).filter _) (nums_sorted _) fun k => by
    rw [List.mem_filter, mem_nums_iff, mem_nums_iff, decide_eq_true_iff]
    simp only
    omega
theorem upto_tags : tagsL (uptoS M t) = notAb (tagsL M) t := by
  unfold tagsL uptoS notAb
  rw [List.filter_map]
  rfl
theorem flat_succ (h : l[k]? = some r) : flat (l.take (k + 1)) = flat (l.take k) ++ nums r := by
  rw [List.take_add_one, h, flat_append]
  simp [flat]
theorem notAb_end (hc : Canon l) (h : l[k]? = some r) (ht : t < r.1) : notAb (flat (l.take k)) t = notAb (flat l) t := by
  have hk : k < l.length := (List.getElem?_eq_some_iff.1 h).1
  have e : l = l.take k ++ l.drop k := (List.take_append_drop k l).symm
  have hd : l.drop k = r :: l.drop (k + 1) := by
    rw [List.drop_eq_getElem_cons hk]
    congr 1
    exact (List.getElem?_eq_some_iff.1 h).2
  have hap := hc.apart
  rw [e] at hap
  have h2 := (List.pairwise_append.1 hap).2.1
  rw [hd] at h2
  have h3 := (List.pairwise_cons.1 h2).1
  have hfit := hc.fit r (List.mem_of_getElem? h)
  have h4 : notAb (flat (l.drop k)) t = [] := List.filter_eq_nil_iff.2 fun n hn => by
    obtain ⟨q, hq, q1, q2⟩ := mem_flat hn
    rw [hd] at hq
    rcases List.mem_cons.1 hq with rfl | hq
    · simp; omega
    · have := h3 q hq
      simp; omega
  conv => rhs; rw [e, flat_append]
  unfold notAb at *
  rw [List.filter_append, h4, List.append_nil]
theorem row_slips (hM : OkS M) (hl : RowsOf l M) (hr : r ∈ l) (ht : r.1 ≤ t) (hc : Canon l) : ∃ E : List Slp, (∀ (j : Nat) (x : Slp), E[j]? = some x → x ∈ M ∧ x.tag = r.1 + j) ∧ min r.2 t - r.1 + 1 = E.length ∧ tagsL E = notAb (nums r) t ∧ E.length ≤ 1000000 := by
  have hfit := hc.fit r hr
  have hmem : ∀ n, r.1 ≤ n → n ≤ min r.2 t → ∃ x ∈ M, x.tag = n ∧ getS M n = some x := fun n h1 h2 => by
    have : n ∈ tagsL M := (hl n).1 ⟨r, hr, h1, by omega⟩
    obtain ⟨x, hx, rfl⟩ := List.mem_map.1 this
    exact ⟨x, hx, rfl, getS_some hM hx⟩
  refine ⟨(nums (r.1, min r.2 t)).map fun n => (getS M n).getD z0L, fun j x hj => ?_, ?_, ?_, ?_⟩
  · rw [List.getElem?_map, Option.map_eq_some_iff] at hj
    obtain ⟨n, hn, rfl⟩ := hj
    have hm := mem_nums (List.mem_of_getElem? hn)
    have hjl := (List.getElem?_eq_some_iff.1 hn).1
    rw [nums_len] at hjl
    have hat := nums_at (r := (r.1, min r.2 t)) (k := j) (by simp only; simp only at hjl; omega)
    rw [hat] at hn
    obtain ⟨y, hy, h1, h2⟩ := hmem n hm.1 hm.2
    rw [h2]
    refine ⟨hy, ?_⟩
    show y.tag = _
    rw [h1]
    exact (Option.some.inj hn).symm
  · rw [List.length_map, nums_len]
    simp only
    omega
  · rw [nums_notAb ht]
    unfold tagsL
    rw [List.map_map]
    refine (List.map_congr_left fun n hn => ?_).trans (List.map_id _)
    have hm := mem_nums hn
    obtain ⟨y, hy, h1, h2⟩ := hmem n hm.1 hm.2
    simp only [Function.comp_apply, h2]
    exact h1
  · rw [List.length_map, nums_len]
    simp only
    omega
end
section
variable {B : Nat} {w0 w : World} {sb rb k : Nat} {l : List Row} {M L E : List Slp} {F S Y : List (Nat × Obj)} {t : Int}
theorem SlsIs.made (b : Nat) (E : List Slp) (h : E.length ≤ 1000000) : SlsIs (.slice (some ⟨b, 0, none⟩) E.length E.length) E [(b, slsO E)] := SlIs.made (slsV_len E) (by unfold maxLen; omega)
theorem MidIs.app {a : Option Addr} {c n : Nat} (h : MidIs B w0 w sb l M ((k, slsO E) :: (S ++ F))) (hs : SlsIs (.slice a L.length c) L S) (hE : E.length ≤ 1000000) (hL : L.length ≤ 1000000) :
    ∃ a' c' W S', (Builtin.append_ #[27, 27] 0 #[.slice a L.length c, .slice (some ⟨k, 0, none⟩) E.length E.length]).run Try.prog w = .ok (.slice a' (L ++ E).length c') W ∧ SlsIs (.slice a' (L ++ E).length c') (L ++ E) S' ∧ MidIs B w0 W sb l M (S' ++ F) := by
  obtain ⟨Z, z1, z2⟩ := h.beside
  have p1 : (Z ++ ((k, slsO E) :: (S ++ F))).Perm ((Z ++ ((k, slsO E) :: F)) ++ S) := by
    classical
    exact List.perm_iff_count.2 fun a => by simp only [List.count_append, List.count_cons]; omega
  have p2 : (Z ++ ((k, slsO E) :: (S ++ F))).Perm ((Z ++ (S ++ F)) ++ [(k, slsO E)]) := by
    classical
    exact List.perm_iff_count.2 fun a => by simp only [List.count_append, List.count_cons, List.count_nil]; omega
  obtain ⟨a', c', W, S', q1, q2, q3⟩ := sls_app hs (z1.perm p1) (SlsIs.made k E hE) (z1.perm p2) (by omega)
  refine ⟨a', c', W, S', q1, q2, z2 _ _ ((q3.perm (H' := (k, slsO E) :: (Z ++ (S' ++ F))) ?_).sub (List.sublist_cons_self _ _))⟩
  classical
  exact List.perm_iff_count.2 fun a => by simp only [List.count_append, List.count_cons]; omega

def NotJ (B : Nat) (w0 : World) (sb : Nat) (l : List Row) (M : List Slp) (F : List (Nat × Obj)) (t : Int) (g : Nat) (a' : Act) (w' : World) : Prop :=
  ∃ (k : Nat) (U : List Slp) (a : Option Addr) (c : Nat) (S : List (Nat × Obj)) (v : Value) (Y : List (Nat × Obj)), k + g = l.length ∧ Fr 43 [(0, gptr sb), (1, .int .i64 t), (5, .slice a U.length c), (6, v), (7, .int .i64 k)] a' ∧ ((∀ x ∈ U, x ∈ M) ∧ tagsL U = notAb (flat (l.take k)) t) ∧
    SlsIs (.slice a U.length c) U S ∧ SlIs 63 2 v l.length (rowsV l) Y ∧ MidIs B w0 w' sb l M (S ++ (Y ++ F))
def NotR (B : Nat) (w0 : World) (sb : Nat) (l : List Row) (M : List Slp) (F : List (Nat × Obj)) (N : List Slp) (r : Ending) (w' : World) : Prop :=
  ∃ a c S, r = .returned (.slice a N.length c) ∧ SlsIs (.slice a N.length c) N S ∧ MidIs B w0 w' sb l M (S ++ F)
theorem few_of (hM : OkS M) (hl : RowsOf l M) (hc : Canon l) {U : List Slp} (hk : tagsL U = notAb (flat (l.take k)) t) : U.length ≤ 1000000 := by
  have h1 : (tagsL U).length ≤ (tagsL M).length := by
    rw [hk, ← hl.flat hc hM]
    refine Nat.le_trans (List.length_filter_le _ _) ?_
    conv => rhs; rw [← List.take_append_drop k l, flat_append]
    rw [List.length_append]
    omega
  have := hM.few
  unfold tagsL at h1
  rw [List.length_map, List.length_map] at h1
  omega

set_option maxHeartbeats 2000000 in
theorem not_any (hl : RowsOf l M) (h : MidIs B w0 w sb l M F) (t : Int) : Calls Try.prog 26 #[gptr sb, .int .i64 t] w (NotR B w0 sb l M F (uptoS M t)) := by
  have hM := Lib.hid h.ok
  have hc := Lib.hid h.canon
  have cs := Lib.hid (set_any h)
  replace hl := Lib.hid hl
  clear h
  go_enter Try.func26, Try.ntmps26
  go_wp2_with fail
  refine wp_scope_ghost 0 (NotJ B w0 sb l M F t) rfl ?_ ?_
  · clear cs
    rintro g a' wr ⟨k, U, a, c, S, v, Y, hi, hfr, ⟨hU, hUt⟩, hs, hv, hR⟩
    obtain ⟨fr, rfl, hl'⟩ := hfr.lit
    clear hfr
    simp only [List.mem_cons, List.not_mem_nil, or_false, forall_eq_or_imp, forall_eq] at hl'
    obtain ⟨f0, f1, f5, f6, f7⟩ := hl'
    obtain ⟨av, cv, rfl, -, -, hform⟩ := hv.form
    simp only [List.range, List.range.loop, List.map, f0, f1, f5, f6, f7]
    clear f0 f1 f5 f6 f7
    have hlen := hc.out.len_half
    have hrd : Hid (∀ w' G, MidIs B w0 w' sb l M (G ++ (Y ++ F)) → ∀ j r, l[j]? = some r → ∃ b off, av = some ⟨b, off, none⟩ ∧ w'.cell? ⟨b, off + j * 2, none⟩ = some (.int .i64 r.1) ∧ w'.cell? ⟨b, off + j * 2 + 1, none⟩ = some (.int .i64 r.2)) := Lib.hid fun w' G h j r hj => by
      obtain ⟨Z, z1, -⟩ := h.beside
      obtain ⟨b, off, rfl⟩ := hform j (List.getElem?_eq_some_iff.1 hj).1
      have z2 := z1.perm (H' := (Z ++ (G ++ F)) ++ Y) (by
        classical
        exact List.perm_iff_count.2 fun a => by simp only [List.count_append]; omega)
      exact ⟨b, off, rfl, hv.cellAt z2 (rowsV_at hj).1, hv.cellAt z2 (rowsV_at hj).2⟩
    have hfin : Hid (notAb (flat (l.take k)) t = notAb (flat l) t → NotR B w0 sb l M F (uptoS M t) (.returned (.slice a U.length c)) wr) := Lib.hid fun e => by
      have : U = uptoS M t := tags_inj hM.out hU (fun x hx => (List.mem_filter.1 hx).1) (by rw [hUt, e, upto_tags, hl.out.flat hc.out hM.out])
      subst this
      exact ⟨a, c, S, rfl, hs, hR.sub ((List.Sublist.refl S).append (List.sublist_append_right _ _))⟩
    have hUl := few_of hM.out hl.out hc.out hUt
    by_cases hlt : k < l.length
    · have hr : l[k]? = some l[k] := List.getElem?_eq_getElem hlt
      generalize l[k] = r at hr
      obtain ⟨gb, off, rfl, e1, e2⟩ := hrd.out wr S hR k r hr
      have hkB : ((k : Int) == l.length) = false := by rw [beq_eq_false_iff_ne]; omega
      have hk0 : (0 : Int) ≤ k := by omega
      have hk1 : (k : Int) < l.length := by omega
      have hl3 : (l.length : Int) ≤ 1000000 := by omega
      have hrm := List.mem_of_getElem? hr
      have hfit := hc.out.fit r hrm
      by_cases hgt : t < r.1
      · have fin := Lib.hid (hfin.out (notAb_end hc.out hr hgt))
        obtain ⟨r1, r2⟩ := r
        simp only at e1 e2 hgt
        clear hfin hR hs hU hUt hUl hr hi hrm hfit hv hform
        generalize l.length = n at *
        go_wp2_with fail
        simp only [Exit.jump]
        go_ret
        exact fin.out
      · obtain ⟨E, hE, hEn, hEt, hEl⟩ := row_slips hM.out hl.out hrm (by omega : r.1 ≤ t) hc.out
        have hflat := flat_succ hr
        have e1d : wr.drew.cell? ⟨gb, off + k * 2, none⟩ = some (.int .i64 r.1) := e1
        have ca := Lib.hid (row_any (E := E) (hR.grow (drew_b wr)) hE hEn hEl (by omega))
        have fin : Hid (∀ b w', MidIs B w0 w' sb l M ((b, slsO E) :: (S ++ (Y ++ F))) → ∃ a2 c2 W, (Builtin.append_ #[27, 27] 0 #[.slice a U.length c, .slice (some ⟨b, 0, none⟩) E.length E.length]).run Try.prog w' = .ok (.slice a2 (U ++ E).length c2) W ∧ (W.cell? ⟨gb, off + k * 2, none⟩ = some (.int .i64 r.1) ∧ W.cell? ⟨gb, off + k * 2 + 1, none⟩ = some (.int .i64 r.2)) ∧ (w'.cell? ⟨gb, off + k * 2, none⟩ = some (.int .i64 r.1) ∧ w'.cell? ⟨gb, off + k * 2 + 1, none⟩ = some (.int .i64 r.2)) ∧
            ∀ a', Fr 43 [(0, gptr sb), (1, .int .i64 t), (5, .slice a2 (U ++ E).length c2), (6, .slice (some ⟨gb, off, none⟩) l.length cv), (7, .int .i64 ((k : Int) + 1))] a' → ∃ m, m < g ∧ NotJ B w0 sb l M F t m a' W) := Lib.hid fun b w' h => by
          obtain ⟨a2, c2, W, S', q1, q2, q3⟩ := MidIs.app (n := 0) h hs hEl hUl
          obtain ⟨b1, o1, ea, s1, s2⟩ := hrd.out W S' q3 k r hr
          cases ea
          obtain ⟨b2, o2, ea, s3, s4⟩ := hrd.out w' ((b, slsO E) :: S) h k r hr
          cases ea
          refine ⟨a2, c2, W, q1, ⟨s1, s2⟩, ⟨s3, s4⟩, fun a' hf => ⟨g - 1, by omega, k + 1, U ++ E, a2, c2, S', _, Y, by omega, hf, ⟨fun x hx => ?_, ?_⟩, q2, hv, q3⟩⟩
          · rcases List.mem_append.1 hx with hx | hx
            · exact hU x hx
            · obtain ⟨j, hj⟩ := List.getElem?_of_mem hx
              exact (hE j x hj).1
          · rw [hflat]
            unfold notAb at *
            rw [List.filter_append, ← hUt, ← hEt]
            simp [tagsL]
        have hgt' : ¬ t < r.1 := hgt
        obtain ⟨r1, r2⟩ := r
        simp only at e1 e2 hgt ca hfit e1d fin
        have hs0 : Hid (wr.drew.cell? ⟨gb, off + k * 2, none⟩ = some (.int .i64 r1) ∧ wr.drew.cell? ⟨gb, off + k * 2 + 1, none⟩ = some (.int .i64 r2)) := Lib.hid ⟨e1, e2⟩
        clear hfin hR hs hU hUt hUl hr hi hrm hE hEn hEt hEl hflat hgt' hv hform
        generalize (U ++ E).length = n2 at *
        generalize U.length = n0 at *
        generalize E.length = n1 at *
        generalize l.length = n at *
        go_upto_region 6 with fail
        obtain ⟨m, hm⟩ : ∃ m, m = min r2 t := ⟨_, rfl⟩
        have hif : (if t < r2 then t else r2) = m := by rw [hm]; split <;> omega
        rw [← hm] at ca
        clear hm
        go_region_held3 (fun q => q.cell? ⟨gb, off + k * 2, none⟩ = some (.int .i64 r1) ∧ q.cell? ⟨gb, off + k * 2 + 1, none⟩ = some (.int .i64 r2)) (first | exact kW | exact kS | exact hs0.out) (first
          | (go_at_call 35; refine ca.out.mono ?_; rintro r w5 ⟨b, rfl, hR5⟩; obtain ⟨a2, c2, W, hrun, kW0, kS, hf⟩ := fin.out _ _ hR5; replace kW0 := Lib.hid kW0; replace hf := Lib.hid hf; clear hR5)
          | (refine step_append_go rfl (.tmp 25) (.tmp 39) 27 27 rfl _ _ rfl rfl hrun ?_; have kW := kW0.out))
        go_wp2_with fail
        refine wp_goto ?_
        exact ⟨rfl, hf.out _ ⟨rfl, rfl, by simp⟩⟩
    · have hin : k = l.length := by omega
      have fin := Lib.hid (hfin.out (by rw [List.take_of_length_le (by omega)]))
      subst hin
      clear hfin hR hs hU hUt hi hv hform
      go_wp2_with fail
      simp only [Exit.jump]
      go_ret
      exact fin.out
  · intro HJ
    go_wp2_with fail
    refine cs.out.mono ?_
    rintro r w1 ⟨rb, rfl, Z, h1, h2⟩
    have ch := Lib.hid (rgs_all h1)
    replace h2 := Lib.hid h2
    clear cs h1
    go_wp2_with fail
    refine ch.out.mono ?_
    rintro r w2 ⟨v, Y, rfl, hv, h3⟩
    have h4 : Hid (MidIs B w0 w2 sb l M ([] ++ (Y ++ F))) := Lib.hid ((h2.out _ _ (F ++ Y) (h3.perm (by rw [List.append_assoc]))).permF List.perm_append_comm)
    replace hv := Lib.hid hv
    clear ch h2 h3
    go_wp2_with fail
    refine wp_label ?_
    go_step
    go_step
    exact HJ l.length _ _ ⟨0, [], none, 0, [], v, Y, by omega, ⟨rfl, rfl, by simp⟩, ⟨by simp, by simp [flat, tagsL]⟩, SlsIs.nil, hv.out, h4.out⟩
end
end Go.Proofs.Ytdkchcbmhmlhnaa
