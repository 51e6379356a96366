/- Sets of numbers: the methods that change them, but for Add and Cut. -/
import Derived.Test.YtdkchcbmhmlhnaaRgsL
import Derived.Lib.SliceRun
namespace Go.Proofs.Ytdkchcbmhmlhnaa
open Go.RowKit
set_option linter.unusedVariables false

section
variable {B : Nat} {w0 w : World} {F S Sx A : List (Nat × Obj)} {n m rb : Nat} {v : Value} {l : List Row} {xs : List Value}

set_option maxHeartbeats 1000000 in
set_option maxRecDepth 100000 in
theorem rgsClone_any {s : Value} (hs : SlIs 63 2 s n xs S) (hst : St B w0 w (A ++ S)) (hn : n ≤ 4000000) (h1 : ∀ u ∈ xs, u.oneCell' = true) :
    Calls Try.prog 44 #[s] w (EditR B w0 (A ++ S) n xs) := by
  obtain ⟨i0, hi0, hz0, hz1, hz2⟩ := info_parts infPair
  have hst1 := hst.alloc (.cells #[] 63)
  have hst2 := hst1.perm (H' := (A ++ S) ++ [(w.heap.size, .cells #[] 63)]) (List.perm_append_singleton _ _).symm
  have hrd := hs.reads (A := (w.heap.size, .cells #[] 63) :: A) hst1
  have hemp : SlIs 63 2 (.slice (some ⟨w.heap.size, 0, none⟩) 0 0) 0 [] [(w.heap.size, .cells #[] 63)] := SlIs.made rfl (by unfold maxLen; omega)
  obtain ⟨v2, W2, F2, hr2, hs2, hst3⟩ := run_append_sl (P := Try.prog) 64 0 63 i0 _ 2 16 uRows hi0 hz0 hz1 hz2 rfl hemp hst2 hrd h1 (by unfold maxLen; omega) (by omega)
  rw [Nat.zero_add, List.nil_append] at hs2
  have fin : EditR B w0 (A ++ S) n xs (.returned v2) W2 := ⟨v2, F2, rfl, hs2, hst3⟩
  have fin0 : s = .slice none 0 0 → EditR B w0 (A ++ S) n xs (.returned (.slice none 0 0)) w := fun e => by
    subst e
    obtain ⟨a, cap, e, -, -, -⟩ := hs.form
    cases e
    obtain rfl : xs = [] := List.eq_nil_of_length_eq_zero (by have := hs.len; omega)
    exact ⟨_, [], rfl, SlIs.nil, by simpa using hst⟩
  obtain ⟨a, cap, rfl, hc1, hc2, ha⟩ := hs.form
  replace fin := Lib.hid fin
  replace fin0 := Lib.hid fin0
  have hq := fun w => Lib.run_eql_slice_nil (P := Try.prog) w 64 63 a n cap 0 0 uRows
  have hnil : a = none → (Value.slice a n cap) = .slice none 0 0 := fun e => by
    subst e
    obtain ⟨_, ⟨h, _⟩ | ⟨_, _, _, _, h, _⟩⟩ := hs
    · exact h
    · cases h
  replace hnil := Lib.hid hnil
  clear hs hst hst1 hst2 hrd hemp hs2 hst3 hz0 hz1 hz2 hi0 h1 hc1 hc2 ha
  cases a with
  | none =>
    have h := hnil.out rfl
    simp only [Value.slice.injEq, true_and] at h
    obtain ⟨rfl, rfl⟩ := h
    clear hnil fin hr2
    go_enter Try.func44, Try.ntmps44
    go_wp2_with fail
    go_ret
    exact fin0.out trivial
  | some ad =>
    clear hnil fin0
    go_enter Try.func44, Try.ntmps44
    go_wp2_with (refine wpList_append_go rfl (.tmp 5) (.tmp 6) 64 64 rfl _ _ rfl rfl hr2 ?_)
    go_ret
    exact fin.out

/-! ### room that isn't needed any more -/
set_option maxHeartbeats 1000000 in
set_option maxRecDepth 100000 in
theorem rgsGiveBack_any (h : RgsAt B w0 w rb v l F S) (hl : l.length ≤ 4000000) :
    Calls Try.prog 40 #[gptr rb] w fun e w' => e = .returned (.tuple #[]) ∧ ∃ v' S', RgsAt B w0 w' rb v' l F S' := by
  have c0 := h.c0
  have cf := h.soft 0
  have cl := Lib.hid (rgsClone_any h.sl h.st hl (rowsV_one l))
  have stay := Lib.hid (fun n => h.drewN n)
  have go := Lib.hid (fun n => rgsClone_any h.sl (h.st.drewN n) hl (rowsV_one l))
  obtain ⟨a, cap, rfl, hc1, hc2, -⟩ := h.sl.form
  have hcm : (cap : Int) ≤ 9223372036854775807 := by unfold maxLen at hc2; omega
  have hcp : (0 : Int) ≤ cap := by omega
  have hl0 : (0 : Int) ≤ l.length := by omega
  clear h cl hc1 hc2 hl
  by_cases h8 : (8 : Int) < cap
  · by_cases hq : (l.length : Int) ≤ (cap : Int) / 4
    · go_enter Try.func40, Try.ntmps40
      go_wp2_with fail
      go_quiet (fail)
      go_wp2_with fail
      refine (go.out _).mono ?_
      rintro e w1 ⟨s', S', rfl, h1, h2⟩
      obtain ⟨a', cap', rfl, -, -, -⟩ := h1.form
      have k0 : w1.frozen? ⟨rb, 0, none⟩ = false := St.soft h2 (b := rb) (c := #[.slice a l.length cap, .int .i64 (cnt l)]) (T := 66) (by simp) 0
      have k1 : w1.cell? ⟨rb, 0, none⟩ = some (.slice a l.length cap) := h2.cell (b := rb) (c := #[.slice a l.length cap, .int .i64 (cnt l)]) (T := 66) (fr := (0, 0)) (by simp) rfl
      have h3 : RgsAt B w0 (w1.setCell ⟨rb, 0, none⟩ (.slice a' l.length cap')) rb (.slice a' l.length cap') l F S' := by
        refine ⟨h1, ?_⟩
        have h4 := (h2.sub (H' := ((rb, .cells #[.slice a l.length cap, .int .i64 (cnt l)] 66) :: F) ++ S') ((List.sublist_append_left _ _).append (List.Sublist.refl _))).set0 (C := F ++ S') 0 (.slice a' l.length cap')
        exact h4
      replace h3 := Lib.hid h3
      clear h1 h2 go stay c0 cf
      go_wp2_with fail
      exact bodyPost_end (results_none rfl _ _ _) rfl ⟨rfl, _, _, h3.out⟩
    · have hq' : decide ((l.length : Int) ≤ (cap : Int) / 4) = false := by simpa using hq
      clear hq go
      go_enter Try.func40, Try.ntmps40
      go_wp2_with fail
      go_quiet (fail)
      go_wp2_with fail
      exact bodyPost_end (results_none rfl _ _ _) rfl ⟨rfl, _, _, stay.out _⟩
  · have h8' : decide ((8 : Int) < cap) = false := by simpa using h8
    clear h8 go
    go_enter Try.func40, Try.ntmps40
    go_wp2_with fail
    go_quiet (fail)
    go_wp2_with fail
    exact bodyPost_end (results_none rfl _ _ _) rfl ⟨rfl, _, _, stay.out _⟩

/-! ### rows go, others are laid in their place -/
set_option maxHeartbeats 2000000 in
set_option maxRecDepth 100000 in
theorem rgsReplace_any {M L1 L2 news : List Row} {x : Value} {i j : Nat} (hi : i = L1.length) (hj : j = L1.length + M.length) (h : RgsAt B w0 w rb v (L1 ++ (M ++ L2)) (F ++ Sx) S) (hx : SlIs 63 2 x news.length (rowsV news) Sx) (hf : Fit (L1 ++ (M ++ L2))) (hfn : Fit news) (hl : (L1 ++ (M ++ L2)).length + news.length ≤ 2000000) :
    Calls Try.prog 31 #[gptr rb, .int .i64 i, .int .i64 j, x] w fun e w' => e = .returned (.int .i64 (cnt news - cnt M)) ∧ ∃ v' S', RgsAt B w0 w' rb v' (L1 ++ (news ++ L2)) F S' := by
  obtain ⟨i0, hi0, hz0, hz1, hz2⟩ := info_parts infPair
  have hlen : (L1 ++ (M ++ L2)).length = L1.length + (M.length + L2.length) := by simp
  have c0 := h.c0
  have c1 := h.c1
  have cf0 := h.soft 0
  have cf1 := h.soft 1
  have hrx : ReadRows w x news := hx.readRows (A := ((rb, .cells #[v, .int .i64 (cnt (L1 ++ (M ++ L2)))] 66) :: F) ++ S) (h.st.perm (by simp only [List.append_assoc, List.cons_append]; exact .cons _ (List.perm_append_comm.append_left F)))
  have cn1 := Lib.hid (fun q => numbers_any (hrx.drewN q) hfn (by omega))
  obtain ⟨v', hv', hrun, -, -⟩ := run_piece (P := Try.prog) uRows hi0 hz1 h.sl i j (by omega) (by omega)
  rw [show j - i = M.length by omega] at hv'
  have hpc : ((rowsV (L1 ++ (M ++ L2))).drop (i * 2)).take (M.length * 2) = rowsV M := by
    rw [hi, rowsV_drop, List.drop_left, rowsV_take, List.take_left]
  rw [hpc] at hv'
  have hrM := Lib.hid (fun q => SlIs.readRows hv' (h.st.drewN q))
  have hfM : Fit M := fun r hr => hf r (by simp [hr])
  have cn2 := Lib.hid (fun q => numbers_any (hrM.out q) hfM (by omega))
  have hcM := hfM.cnt
  have hcn := hfn.cnt
  have hcA := hf.cnt
  have hst := h.st
  have cr := Lib.hid (fun q => replace_any (m := news.length) (i := i) (j := j) h.sl hx ((hst.drewN q).perm (H' := ((((rb, Obj.cells #[v, .int .i64 (cnt (L1 ++ (M ++ L2)))] 66 (0, 0)) :: F)) ++ Sx) ++ S) (by simp)) (by omega) (by omega) (by omega) (rowsV_one _) (rowsV_one _))
  have hnew : (rowsV (L1 ++ (M ++ L2))).take (i * 2) ++ rowsV news ++ (rowsV (L1 ++ (M ++ L2))).drop (j * 2) = rowsV (L1 ++ (news ++ L2)) := by
    rw [hi, hj, rowsV_take, List.take_left, rowsV_drop, ← List.append_assoc L1 M L2, show L1.length + M.length = (L1 ++ M).length by simp, List.drop_left]
    simp only [rowsV_append, List.append_assoc]
  have hcnew : cnt (L1 ++ (news ++ L2)) = cnt (L1 ++ (M ++ L2)) + (cnt news - cnt M) := by simp only [cnt_append]; omega
  have hlnew : i + news.length + ((L1 ++ (M ++ L2)).length - j) = (L1 ++ (news ++ L2)).length := by simp; omega
  have hl2 : (L1 ++ (news ++ L2)).length ≤ 4000000 := by simp at hl ⊢; omega
  have hlM : M.length ≤ 2000000 := by simp at hl; omega
  have hln : news.length ≤ 2000000 := by omega
  obtain ⟨hcM0, hcM1⟩ := hcM
  obtain ⟨hcn0, hcn1⟩ := hcn
  obtain ⟨hcA0, hcA1⟩ := hcA
  have hlA : (L1 ++ (M ++ L2)).length ≤ 2000000 := by omega
  have bd : cnt M ≤ 2000000000000 ∧ cnt news ≤ 2000000000000 ∧ cnt (L1 ++ (M ++ L2)) ≤ 2000000000000 := by omega
  obtain ⟨bd1, bd2, bd3⟩ := bd
  obtain ⟨a, cap, rfl, -, -, -⟩ := h.sl.form
  obtain ⟨ax, cx, rfl, -, -, -⟩ := hx.form
  obtain ⟨a2, cap2, rfl, -, -, -⟩ := hv'.form
  generalize hcA : cnt (L1 ++ (M ++ L2)) = ca at *
  generalize hln' : (L1 ++ (M ++ L2)).length = ln at *
  generalize cnt M = cm at *
  generalize cnt news = cn at *
  replace hnew := Lib.hid hnew
  replace hcnew := Lib.hid hcnew
  replace hlnew := Lib.hid hlnew
  replace hl2 := Lib.hid hl2
  clear h hx hf hfn hl hlen hi hj hrx hv' hpc hrM hfM hst hcA hln' hz0 hz1 hz2 hi0 hcM1 hcn1 hcA1
  go_enter Try.func31, Try.ntmps31
  go_wp2_with fail
  go_quiet ((go_at_call 38; first | (with_reducible exact Calls.quiet_of (cn1.out _)) | (with_reducible exact Calls.quiet_of (cn2.out _))))
  go_wp2_with fail
  refine (cr.out _).mono ?_
  rintro e w1 ⟨s', S', rfl, h1, h2⟩
  rw [hnew.out, hlnew.out] at h1
  obtain ⟨a', cap', rfl, -, -, -⟩ := h1.form
  have h3 := h2.sub (H' := ((rb, Obj.cells #[Value.slice a ln cap, Value.int IntKind.i64 ca] 66) :: F) ++ S') ((List.sublist_append_left _ _).append (List.Sublist.refl _))
  have k0 : w1.frozen? ⟨rb, 0, none⟩ = false := St.soft h3 List.mem_cons_self 0
  have k1 : w1.frozen? ⟨rb, 1, none⟩ = false := St.soft h3 List.mem_cons_self 1
  have k2 : w1.cell? ⟨rb, 0, none⟩ = some (.slice a ln cap) := h3.cell List.mem_cons_self rfl
  have k3 : w1.cell? ⟨rb, 1, none⟩ = some (.int .i64 ca) := h3.cell List.mem_cons_self rfl
  have h4 : RgsAt B w0 ((w1.setCell ⟨rb, 0, none⟩ (.slice a' (L1 ++ (news ++ L2)).length cap')).setCell ⟨rb, 1, none⟩ (.int .i64 (ca + (cn - cm)))) rb (.slice a' (L1 ++ (news ++ L2)).length cap') (L1 ++ (news ++ L2)) F S' := by
    refine ⟨h1, ?_⟩
    have h5 := (h3.set0 (C := F ++ S') 0 (.slice a' (L1 ++ (news ++ L2)).length cap')).set0 (C := F ++ S') 1 (.int .i64 (ca + (cn - cm)))
    rw [hcnew.out]
    exact h5
  have cg := Lib.hid (rgsGiveBack_any h4 hl2.out)
  generalize (L1 ++ (news ++ L2)).length = l2 at *
  clear h1 h2 h3 h4 hnew hlnew cn1 cn2 cr c0 c1 cf0 cf1 hrun hcnew hl2
  go_wp2_with fail
  refine cg.out.mono ?_
  rintro e w2 ⟨rfl, v', S2, h6⟩
  replace h6 := Lib.hid h6
  clear cg
  go_wp2_with fail
  go_ret
  exact ⟨rfl, v', S2, h6.out⟩
end
end Go.Proofs.Ytdkchcbmhmlhnaa
