/- Dials: drop. -/
import Derived.Test.YtldocgpnmfmnaaaDlG
import Derived.Deep.DeepCutAuto
import Derived.Deep.CutBlock
import Derived.LaidEqlPtr
namespace Go.Proofs.Ytldocgpnmfmnaaa
open Go.RowKit
set_option linter.unusedVariables false

section
variable {B : Nat} {w0 w : World} {db : Nat} {M M' : List Mk} {hv : Value} {hF F R A : List (Nat × Obj)} {mv : Option Nat} {es : List (Int × Value × Nat)} {clk : Nat} {i j p n : Nat} {m o : Mk}

theorem DmAt.somewhere (h : DmAt B w0 w db M hv hF mv es clk F) (hm : m ∈ M) : ∃ mb, mv = some mb := by
  cases hv : mv with
  | some mb => exact ⟨mb, rfl⟩
  | none =>
    have := h.bare hv
    have h1 := h.map.length_eq
    rw [this] at h1
    have := List.eq_nil_of_length_eq_zero (l := M) (by simpa using h1.symm)
    subst this
    cases hm

/-- Behind drop: the marks but for m, a heap again. -/
def DropR (B : Nat) (w0 : World) (db : Nat) (M : List Mk) (m : Mk) (F : List (Nat × Obj)) (e : Ending) (w' : World) : Prop :=
  e = .returned (.tuple #[]) ∧ ∃ M' hv hF mv es clk, M.Perm (m :: M') ∧ Heap M' ∧ DmAt B w0 w' db M' hv hF mv es clk F

section
variable {P : Program} (w : World)
theorem run_neq_ptr_same {tp te : TypeId} {j : TypeInfo} (a : Addr) (hp : P.underlying tp = some (.pointer te)) (hte : P.info? te = some j) :
    (binOp .neq tp (.pointer (some a)) (.pointer (some a))).run P w = .ok (.bool false) w := by
  have h : ∀ d : Nat, (Op.equalIn (d + 1) tp (.pointer (some a)) (.pointer (some a))).run P w = .ok true w := fun d => by
    simp [Op.equalIn, run_underlying hp, sizeOf, typeInfo, hte, run_sameAddr_same]
  simp only [binOp]
  simp [Op.equal, Op.maxDepth, h 9999]
theorem run_neq_ptr_other {tp te : TypeId} {j : TypeInfo} {a b : Addr} {ca cb : Array Value} {ta tb : TypeId} (hp : P.underlying tp = some (.pointer te)) (hte : P.info? te = some j) (hsz : j.size ≠ 0)
    (hne : a ≠ b) (ha : w.heap[a.block]? = some (.cells ca ta (0, 0))) (hb : w.heap[b.block]? = some (.cells cb tb (0, 0))) :
    (binOp .neq tp (.pointer (some a)) (.pointer (some b))).run P w = .ok (.bool true) w := by
  have h : ∀ d : Nat, (Op.equalIn (d + 1) tp (.pointer (some a)) (.pointer (some b))).run P w = .ok false w := fun d => by
    simp [Op.equalIn, run_underlying hp, sizeOf, typeInfo, hte, hsz, run_sameAddr_other w hne ha hb]
  simp only [binOp]
  simp [Op.equal, Op.maxDepth, h 9999]
end
theorem uPMark : Try.prog.underlying 55 = some (.pointer 59) := by kernel_rfl
theorem infMark : (Try.prog.info? 59).map (fun i => i.size) = some 3 := by kernel_rfl
theorem info_mark : ∃ j, Try.prog.info? 59 = some j ∧ j.size ≠ 0 := by
  have h := infMark
  cases hi : Try.prog.info? 59 with
  | none => rw [hi] at h; cases h
  | some j =>
    rw [hi] at h
    simp only [Option.map_some, Option.some.injEq] at h
    exact ⟨j, rfl, by omega⟩

theorem mksO_take (M : List Mk) (n : Nat) : mksO (M.take n) = (mksO M).take n := by
  apply List.ext_getElem?
  intro k
  simp only [mksO, List.getElem?_mapIdx, List.getElem?_take]
  by_cases h : k < n
  · simp [h]
  · simp [h]
theorem take_set_lt {α : Type} (l : List α) (n : Nat) (x : α) : (l.set n x).take n = l.take n := by
  apply List.ext_getElem?
  intro k
  simp only [List.getElem?_take]
  by_cases h : k < n
  · rw [if_pos h, if_pos h, List.getElem?_set, if_neg (by omega)]
  · rw [if_neg h, if_neg h]
theorem take_perm {M : List Mk} (hl : M.length = n + 1) (hm : M[n]? = some m) : M.Perm (m :: M.take n) := by
  have h1 : M = M.take n ++ [m] := by
    conv => lhs; rw [← List.take_append_drop n M]
    congr 1
    rw [List.drop_eq_getElem_cons (by omega), (List.getElem?_eq_some_iff.1 hm).2, List.drop_eq_nil_of_le (by omega)]
  conv => lhs; rw [h1]
  exact List.perm_append_singleton _ _

theorem mksO_split {M : List Mk} (hl : M.length = n + 1) (hm : M[n]? = some m) : mksO M = mksO (M.take n) ++ [mkO n m] := by
  rw [mksO_take]
  conv => lhs; rw [← List.take_append_drop n (mksO M)]
  congr 1
  have hlt : n < (mksO M).length := by rw [mksO_len]; omega
  rw [List.drop_eq_getElem_cons hlt, (List.getElem?_eq_some_iff.1 (mksO_get hm)).2, List.drop_eq_nil_of_le (by rw [mksO_len]; omega)]
theorem perm_h {α : Type} (d x : α) (A R F H : List α) : ((d :: ((A ++ [x]) ++ (R ++ F))) ++ H).Perm ((d :: (A ++ (R ++ x :: F))) ++ H) := by
  classical
  exact List.perm_iff_count.2 fun a => by simp only [List.count_append, List.count_cons, List.count_nil]; omega

/-- The last place cut off: the header of the slice turned; the mark that lay there lies beside. -/
theorem DlAt.cut {R1 : List (Nat × Obj)} (h : DlAt B w0 w db M hv hF mv (R1 ++ F)) (hl : M.length = n + 1) (hm : M[n]? = some m) {g off cap : Nat} (he : hv = .slice (some ⟨g, off, none⟩) (n + 1) cap) :
    ∃ v', (∀ W, (Instr.slice 51 (.slice (some ⟨g, off, none⟩) (n + 1) cap) none (some (.int .i64 n)) none).run Try.prog W = .ok v' W) ∧
      (w.setCell ⟨g, off + n, none⟩ (.pointer none)).cell? ⟨db, 0, none⟩ = some hv ∧ (w.setCell ⟨g, off + n, none⟩ (.pointer none)).frozen? ⟨db, 0, none⟩ = false ∧
      ∃ F', DlAt B w0 ((w.setCell ⟨g, off + n, none⟩ (.pointer none)).setCell ⟨db, 0, none⟩ v') db (M.take n) v' F' mv (R1 ++ mkO n m :: F) := by
  obtain ⟨i0, hi0, hz0, hz1, hz2⟩ := info_parts5 infPMark
  have hs := h.sl
  rw [hl] at hs
  subst he
  obtain ⟨F1, h1, s1, -⟩ := hs.set h.st n (.pointer none)
  obtain ⟨v', h2, -, -, hr⟩ := run_piece (P := Try.prog) uMarks hi0 hz1 h1 0 n (Nat.zero_le _) (by omega)
  have s2 : St B w0 ((w.setCell ⟨g, off + n, none⟩ (.pointer none)).setCell ⟨db, 0, none⟩ v') ((db, dialO v' mv) :: ((mksO M ++ (R1 ++ F)) ++ F1)) := by
    have := s1
    rw [List.cons_append] at this
    exact this.set0 0 v'
  have hd : (db, dialO (.slice (some ⟨g, off, none⟩) (n + 1) cap) mv) ∈ ((db, dialO (.slice (some ⟨g, off, none⟩) (n + 1) cap) mv) :: (mksO M ++ (R1 ++ F))) ++ F1 := List.mem_append_left _ List.mem_cons_self
  refine ⟨v', hr rfl, s1.cell hd rfl, St.soft s1 hd 0, F1, ⟨?_, ?_, fun x hx => h.times x (List.mem_of_mem_take hx), ?_⟩⟩
  · have e1 : (M.take n).length = n := by rw [List.length_take]; omega
    rw [e1]
    have e2 : (List.take ((n - 0) * 1) (List.drop (0 * 1) ((ptrs M).set n (.pointer none)))) = ptrs (M.take n) := by
      simp only [Nat.sub_zero, Nat.mul_one, List.drop_zero]
      rw [take_set_lt, ptrs, ptrs, List.map_take]
    rw [e2] at h2
    exact h2
  · rw [mksO_split hl hm, ← List.cons_append] at s2
    exact s2.perm (perm_h _ _ _ _ _ _)
  · rw [List.length_take]; have := h.few; omega

theorem perm_end {M : List Mk} (hl : M.length = n + 1) (hi : M[i]? = some m) : (swapL M i n)[n]? = some m ∧ M.Perm (m :: (swapL M i n).take n) := by
  have hil := (List.getElem?_eq_some_iff.1 hi).1
  have h1 := swap_at hi (show n < M.length by omega)
  exact ⟨h1, (swapL_perm hil (by omega)).symm.trans (take_perm (by rw [swapL_len]; exact hl) h1)⟩

/-- The marks but for the one at i, the last one in its place. -/
theorem swap_end {M : List Mk} (hl : M.length = n + 1) (hi : i < n) : (swapL M i n).take n = (M.take n).set i (V M n) := by
  apply List.ext_getElem?
  intro k
  simp only [swapL, List.getElem?_take, List.getElem?_set, List.length_set, List.length_take]
  by_cases hk : k < n
  · rw [if_pos hk, if_neg (by omega), if_pos hk]
    by_cases e : i = k
    · rw [if_pos e, if_pos e, if_pos (by omega), if_pos (by omega)]
    · rw [if_neg e, if_neg e]
  · rw [if_neg hk, if_neg hk]
    rw [if_neg (by omega)]

theorem swap_self {M : List Mk} : (swapL M n n).take n = M.take n := by rw [swapL, take_set_lt, take_set_lt]
theorem DlAt.blocks (h : DlAt B w0 w db M hv hF mv R) : (M.map Mk.b).Nodup := by
  have h1 := h.st.nodup
  have e : (mksO M).map (·.1) = M.map Mk.b := by
    apply List.ext_getElem?
    intro k
    simp only [mksO, List.getElem?_map, List.getElem?_mapIdx]
    cases M[k]? <;> rfl
  rw [← e]
  refine h1.sublist ?_
  refine List.Sublist.map _ ?_
  exact (List.Sublist.cons _ (List.sublist_append_left _ _)).trans (List.sublist_append_left _ _)
theorem DlAt.apart (h : DlAt B w0 w db M hv hF mv R) (hi : M[i]? = some m) (hj : M[j]? = some o) (hne : i ≠ j) : m.b ≠ o.b := fun e =>
  hne ((List.getElem?_inj (by simpa using (List.getElem?_eq_some_iff.1 hi).1) h.blocks).1 (by simp [hi, hj, e]))

theorem DmAt.rest {x : Nat × Obj} (h : DmAt B w0 w db M hv hF mv es clk (x :: F)) : DmAt B w0 w db M hv hF mv es clk F :=
  ⟨⟨h.at_.sl, h.at_.st.sub (List.Sublist.append (List.Sublist.cons_cons _ (List.Sublist.append (List.Sublist.refl _) (List.Sublist.append (List.Sublist.refl _) (List.sublist_cons_self _ _)))) (List.Sublist.refl _)), h.at_.times, h.at_.few⟩, h.map, h.ids, h.bare⟩
theorem DropR.of {w' : World} {M2 M3 : List Mk} {x : Nat × Obj} (hperm : M.Perm (m :: M2)) (hp : M3.Perm M2) (hh : Heap M3) (h : BackR B w0 db M3 (x :: F) (.returned (.tuple #[])) w') : DropR B w0 db M m F (.returned (.tuple #[])) w' := by
  obtain ⟨-, hv, hF, mv, es, clk, h⟩ := h
  exact ⟨rfl, M3, hv, hF, mv, es, clk, hperm.trans (hp.symm.cons m), hh, h.rest⟩

set_option maxHeartbeats 4000000 in
set_option maxRecDepth 100000 in
theorem drop_any (h : DmAt B w0 w db M hv hF mv es clk F) (hh : Heap M) (hi : M[i]? = some m) :
    Calls Try.prog 23 #[mp db, mp m.b] w (DropR B w0 db M m F) := by
  obtain ⟨mb, rfl⟩ := h.somewhere (List.mem_of_getElem? hi)
  have hil := (List.getElem?_eq_some_iff.1 hi).1
  obtain ⟨n, hl⟩ : ∃ n, M.length = n + 1 := ⟨M.length - 1, by omega⟩
  obtain ⟨g, off, cap, rfl, hcell, -⟩ := h.at_.head hi
  have hfew := h.at_.few
  have hend := V_get (M := M) (i := n) (by omega)
  have hapart : i ≠ n → m.b ≠ (V M n).b := fun hne => h.at_.apart hi hend hne
  have c0 := h.at_.c0
  have ce := hcell n _ hend
  have sw := swap_any h.at_ hi hend
  obtain ⟨hm1, hperm⟩ := perm_end hl hi
  have hn0 : (0 : Int) ≤ n := by omega
  have hn1 : (n : Int) ≤ 5000 := by omega
  have hall := Lib.hid (And.intro h.map (And.intro h.ids hh))
  rw [hl] at c0 sw
  replace sw := Lib.hid sw
  replace hcell := Lib.hid hcell
  clear h
  go_enter Try.func23, Try.ntmps23
  go_wp2_with fail
  refine sw.out.mono ?_
  rintro e w1 ⟨rfl, F1, h1⟩
  have hl1 : (swapL M i n).length = n + 1 := by rw [swapL_len, hl]
  obtain ⟨v', hr, d0, df, F2, h2⟩ := h1.cut hl1 hm1 rfl
  have hmx : (m.b, Obj.cells (mkC n m) 59) ∈ ((db, dialO v' (some mb)) :: (mksO ((swapL M i n).take n) ++ (mapH (some mb) es clk ++ mkO n m :: F))) ++ F2 := by simp [mkO]
  have h3 := h2.st.cell hmx (i := 0) rfl
  have d1 := h1.c0
  obtain ⟨g', off', cap', hc', hcell1, hsoft1⟩ := h1.head hm1
  rw [hl1] at hc'
  simp only [Value.slice.injEq, Option.some.injEq, Addr.mk.injEq, and_true] at hc'
  obtain ⟨⟨rfl, rfl⟩, -, rfl⟩ := hc'
  have cn := hcell1 n _ hm1
  have fn := hsoft1 (off + n)
  have hlt2 : ((swapL M i n).take n).length = n := by rw [List.length_take, hl1]; omega
  obtain ⟨a', c', hv'⟩ := h2.form
  rw [hlt2] at hv'
  subst hv'
  have e1 := h2.c1
  have hdel : DmAt B w0 (ChangeMaps.setBlock ((w1.setCell ⟨g, off + n, none⟩ (.pointer none)).setCell ⟨db, 0, none⟩ (.slice a' n c')).drew mb (.map (entsI (es.eraseP (·.1 == m.id))) clk)) db ((swapL M i n).take n) (.slice a' n c') F2 (some mb) (es.eraseP (·.1 == m.id)) clk (mkO n m :: F) := by
    refine ⟨(h2.drewN 1).setMap, hall.out.1.erase hall.out.2.1 hperm, ?_, fun e => by cases e⟩
    have := (hperm.map Mk.id).nodup_iff.1 hall.out.2.1
    exact (List.nodup_cons.1 this).2
  have hget := Lib.hid (h2.drewN 1).mapGet
  have hgm := hdel.at_.st.get (b := m.b) (o := .cells (mkC n m) 59) (by simp [mkO])
  obtain ⟨jm, hjm, hjs⟩ := info_mark
  clear h1 h2 hcell hcell1 hsoft1 sw c0 ce
  generalize hW : (w1.setCell ⟨g, off + n, none⟩ (.pointer none)).setCell ⟨db, 0, none⟩ (.slice a' n c') = W3 at *
  replace hW := Lib.hid hW
  by_cases hin : i = n
  · subst hin
    have hVm : V M i = m := V_eq hi
    have hheap : Heap ((swapL M i i).take i) := by rw [swap_self]; exact hh.take i
    have gb := Lib.hid (giveBack_any hdel)
    have fin : Hid (∀ w', BackR B w0 db ((swapL M i i).take i) (mkO i m :: F) (.returned (.tuple #[])) w' → DropR B w0 db M m F (.returned (.tuple #[])) w') := Lib.hid fun w' h => DropR.of hperm (.refl _) hheap h
    have heq := run_neq_ptr_same (ChangeMaps.setBlock W3.drew mb (.map (entsI (es.eraseP (·.1 == m.id))) clk)) (⟨m.b, 0, none⟩ : Addr) uPMark hjm
    replace heq := Lib.hid heq
    rw [hVm]
    clear hdel hapart hVm hheap hperm hall hgm
    go_upto_region 5 with fail
    rw [hW.out]
    clear hW
    go_still_tail 8, (by kernel_rfl)
    change wpList _ _ _ _ _ W3.drew
    go_wp2_with (at_delete; refine wpList_deleteI rfl (.tmp 41) (.tmp 45) rfl uMmap uInt5 rfl hget.out m.id rfl ?_; intro w2 hw2; rw [← hw2.out] at gb heq; replace heq := heq.out)
    refine gb.out.mono ?_
    rintro e w3 ⟨rfl, h⟩
    have f2 := Lib.hid (fin.out w3 ⟨rfl, h⟩)
    clear h
    go_wp2_with fail
    exact bodyPost_end (results_none rfl _ _ _) rfl f2.out
  · have hin' : i < n := by omega
    have hM2 := swap_end (M := M) hl hin'
    have ho : ((swapL M i n).take n)[i]? = some (V M n) := by
      rw [hM2, List.getElem?_set, if_pos rfl, if_pos (by rw [List.length_take]; omega)]
    have hrise : Rises ((swapL M i n).take n) i := by rw [hM2]; exact (hh.take n).rises i _
    have hgo := hdel.at_.st.get (b := (V M n).b) (o := .cells (mkC i (V M n)) 59) (List.mem_append_left _ (List.mem_cons_of_mem _ (List.mem_append_left _ (mksO_mem ho))))
    have heq := run_neq_ptr_other (a := ⟨(V M n).b, 0, none⟩) (b := ⟨m.b, 0, none⟩) (ChangeMaps.setBlock W3.drew mb (.map (entsI (es.eraseP (·.1 == m.id))) clk)) uPMark hjm hjs (fun e => hapart hin (congrArg Addr.block e).symm) hgo hgm
    have se := settle_any hdel.at_ ho hrise
    have gb : Hid (∀ w' M3 hF', M3.Perm ((swapL M i n).take n) → Heap M3 → DlAt B w0 w' db M3 (.slice a' n c') hF' (some mb) (mapH (some mb) (es.eraseP (·.1 == m.id)) clk ++ mkO n m :: F) →
        Calls Try.prog 29 #[mp db] w' (BackR B w0 db M3 (mkO n m :: F))) := Lib.hid fun w' M3 hF' hp hhp hat =>
      giveBack_any ⟨hat, hdel.map.perm hp, (hp.map Mk.id).nodup_iff.2 hdel.ids, fun e => by cases e⟩
    have fin : Hid (∀ w' M3, M3.Perm ((swapL M i n).take n) → Heap M3 → BackR B w0 db M3 (mkO n m :: F) (.returned (.tuple #[])) w' → DropR B w0 db M m F (.returned (.tuple #[])) w') := Lib.hid fun w' M3 hp hhp h => DropR.of hperm hp hhp h
    replace heq := Lib.hid heq
    replace se := Lib.hid se
    generalize V M n = o at *
    clear hdel hapart hperm hall hgm hgo hrise ho hM2
    go_upto_region 5 with fail
    rw [hW.out]
    clear hW
    go_still_tail 8, (by kernel_rfl)
    change wpList _ _ _ _ _ W3.drew
    go_wp2_with (at_delete; refine wpList_deleteI rfl (.tmp 41) (.tmp 45) rfl uMmap uInt5 rfl hget.out m.id rfl ?_; intro w2 hw2; rw [← hw2.out] at se heq; replace heq := heq.out)
    refine se.out.mono ?_
    rintro e w3 ⟨rfl, M3, hF3, p1, p2, p3⟩
    have g2 := Lib.hid (gb.out _ _ _ p1 p2 p3)
    have f2 := Lib.hid (fin.out · M3 p1 p2)
    clear p1 p2 p3 heq
    go_wp2_with fail
    refine g2.out.mono ?_
    rintro e w4 ⟨rfl, h⟩
    have f3 := Lib.hid (f2.out w4 ⟨rfl, h⟩)
    clear h
    go_wp2_with fail
    exact bodyPost_end (results_none rfl _ _ _) rfl f3.out
end
end Go.Proofs.Ytldocgpnmfmnaaa
