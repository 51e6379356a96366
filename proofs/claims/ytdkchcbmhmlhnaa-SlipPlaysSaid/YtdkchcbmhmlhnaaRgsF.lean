/- Sets of numbers: Cut. -/
import Derived.Test.YtdkchcbmhmlhnaaRgsE
import Derived.Deep.DeepCutAuto
import Derived.Deep.CutBlock
namespace Go.Proofs.Ytdkchcbmhmlhnaa
open Go.RowKit
set_option linter.unusedVariables false

section
variable {B : Nat} {w0 w : World} {F S Sx A F9 : List (Nat × Obj)} {n m rb : Nat} {v v9 : Value} {l ps : List Row} {xs : List Value}

theorem Canon.len2 : ∀ {l : List Row}, Canon l → ∀ (b : Int), (∀ r ∈ l, b ≤ r.1) → b ≤ 1000002 → 2 * (l.length : Int) + b ≤ 1000002
  | [], _, b, _, hb => by simp; omega
  | r :: l, h, b, hr, hb => by
    have hf := h.fit r (by simp)
    have hb1 := hr r (by simp)
    have := h.tail.len2 (r.2 + 2) (fun x hx => by have := h.head x hx; omega) (by omega)
    rw [List.length_cons]
    omega
theorem Canon.len_half {l : List Row} (h : Canon l) : l.length ≤ 500001 := by
  have := h.len2 1 (fun r hr => (h.fit r hr).1) (by omega)
  omega

/-- The set at rb, and beside it what is left of the rows that are cut. -/
structure CutAt (B : Nat) (w0 w : World) (rb : Nat) (v : Value) (l : List Row) (F S : List (Nat × Obj)) (v9 : Value) (ps : List Row) (F9 : List (Nat × Obj)) : Prop where
  sl : SlIs 63 2 v l.length (rowsV l) S
  left : SlIs 63 2 v9 ps.length (rowsV ps) F9
  st : St B w0 w ((((rb, .cells #[v, .int .i64 (cnt l)] 66) :: F) ++ S) ++ F9)

theorem CutAt.rgs (h : CutAt B w0 w rb v l F S v9 ps F9) : RgsAt B w0 w rb v l (F ++ F9) S :=
  ⟨h.sl, h.st.perm (by simp only [List.append_assoc, List.cons_append]; exact .cons _ (List.perm_append_comm.append_left F))⟩
theorem CutAt.drew (h : CutAt B w0 w rb v l F S v9 ps F9) : CutAt B w0 w.drew rb v l F S v9 ps F9 := ⟨h.sl, h.left, h.st.drew⟩
theorem CutAt.sub {F' : List (Nat × Obj)} (h : CutAt B w0 w rb v l F S v9 ps F9) (hs : F'.Sublist F) : CutAt B w0 w rb v l F' S v9 ps F9 :=
  ⟨h.sl, h.left, h.st.sub (((hs.cons_cons _).append (List.Sublist.refl _)).append (List.Sublist.refl _))⟩
theorem CutAt.alloc (h : CutAt B w0 w rb v l F S v9 ps F9) (o : Obj) : CutAt B w0 (w.alloc o) rb v l ((w.heap.size, o) :: F) S v9 ps F9 :=
  ⟨h.sl, h.left, (h.st.alloc o).perm (List.Perm.swap _ _ _)⟩

set_option maxRecDepth 100000 in
/-- A piece more is left. -/
theorem CutAt.push (h : CutAt B w0 w rb v l F S v9 ps F9) (p : Row) (hp : ps.length ≤ 4000000) :
    ∃ a cap w' F', (Builtin.append_ #[64, 64] 0 #[v9, .slice (some ⟨w.heap.size, 0, none⟩) 1 1]).run Try.prog (w.alloc (.cells #[.int .i64 p.1, .int .i64 p.2] 63)) = .ok (.slice a (ps ++ [p]).length cap) w' ∧
      CutAt B w0 w' rb v l F S (.slice a (ps ++ [p]).length cap) (ps ++ [p]) F' := by
  obtain ⟨i0, hi0, hz0, hz1, hz2⟩ := info_parts infPair
  have h2 := h.alloc (.cells #[.int .i64 p.1, .int .i64 p.2] 63)
  have hrd : Reads (w.alloc (.cells #[.int .i64 p.1, .int .i64 p.2] 63)) (.slice (some ⟨w.heap.size, 0, none⟩) 1 1) 1 2 [.int .i64 p.1, .int .i64 p.2] :=
    Reads.block (cs := [.int .i64 p.1, .int .i64 p.2]) (T := 63) (fr := (0, 0)) (MapKept.heap_alloc w _).1 rfl 1
  obtain ⟨v', w', F', hr, hs, hst⟩ := run_append_sl (P := Try.prog) 64 0 63 i0 _ 2 16 uRows hi0 hz0 hz1 hz2 rfl h2.left h2.st hrd (rowsV_one [p]) (by unfold maxLen; omega) (by omega)
  have e : rowsV ps ++ [.int .i64 p.1, .int .i64 p.2] = rowsV (ps ++ [p]) := by rw [rowsV_append]; rfl
  have el : ps.length + 1 = (ps ++ [p]).length := by simp
  rw [e, el] at hs
  obtain ⟨a, cap, rfl, -, -, -⟩ := hs.form
  exact ⟨a, cap, w', F', hr, h2.sl, hs, hst.sub (((List.sublist_cons_self _ _).cons_cons _ |>.append (List.Sublist.refl _)).append (List.Sublist.refl _))⟩

def cutOf (lo hi : Int) (l : List Row) (i k : Nat) : List Row := cutAll lo hi ((l.drop i).take k)
theorem cutOf_succ {lo hi : Int} {l : List Row} {i k : Nat} {r : Row} (h : l[i + k]? = some r) : cutOf lo hi l i (k + 1) = cutOf lo hi l i k ++ pieces lo hi r := by
  unfold cutOf
  rw [List.take_add_one, List.getElem?_drop, h]
  exact cutAll_snoc _ _ _ _

/-- Numbers lo to hi aren't in it. -/
def CutR (B : Nat) (w0 : World) (rb : Nat) (l : List Row) (F : List (Nat × Obj)) (lo hi : Int) (e : Ending) (w' : World) : Prop :=
  ∃ l', e = .returned (.int .i64 (cnt l - cnt l')) ∧ (∀ k, Inn l' k ↔ Inn l k ∧ ¬ (max lo 1 ≤ k ∧ k ≤ min hi 1000000)) ∧ RgsIs B w0 w' rb l' F

set_option maxHeartbeats 1000000 in
set_option maxRecDepth 100000 in
theorem cut_nothing (h : RgsIs B w0 w rb l F) (lo hi : Int) (hn : min hi 1000000 < max lo 1) : Calls Try.prog 24 #[gptr rb, .int .i64 lo, .int .i64 hi] w (CutR B w0 rb l F lo hi) := by
  have fin : CutR B w0 rb l F lo hi (.returned (.int .i64 0)) w := ⟨l, by simp, fun k => ⟨fun h => ⟨h, by omega⟩, fun h => h.1⟩, h⟩
  have cw := Lib.hid (within_any lo hi w)
  replace fin := Lib.hid fin
  generalize max lo 1 = lo' at *
  generalize min hi 1000000 = hi' at *
  clear h
  go_enter Try.func24, Try.ntmps24
  go_wp2_with fail
  refine wp_scope_ghost 0 (fun _ _ _ => False) rfl (fun _ _ _ h => h.elim) ?_
  intro _
  go_wp2_with fail
  refine cw.out.mono ?_
  rintro e w1 ⟨rfl, rfl⟩
  go_wp2_with fail
  simp only [Exit.jump]
  go_ret
  exact fin.out

/-- What is left is laid in. -/
theorem cut_lay {lo hi : Int} (hn : lo ≤ hi) (b1 : 1 ≤ lo) (b2 : hi ≤ 1000000) (hc : Canon l) {i k : Nat} (hik : i + k ≤ l.length) (hA : ∀ r ∈ l.take i, r.2 < lo) (hM : ∀ r ∈ (l.drop i).take k, lo ≤ r.2 ∧ r.1 ≤ hi) (hC : ∀ r ∈ l.drop (i + k), hi < r.1)
    (h : CutAt B w0 w rb v l F S v9 (cutOf lo hi l i k) F9) :
    Calls Try.prog 31 #[gptr rb, .int .i64 i, .int .i64 (i + k : Nat), v9] w
      fun e w' => ∃ l', e = .returned (.int .i64 (cnt l' - cnt l)) ∧ (∀ k, Inn l' k ↔ Inn l k ∧ ¬ (lo ≤ k ∧ k ≤ hi)) ∧ RgsIs B w0 w' rb l' F := by
  have hs := split3 hik
  have hlen := hc.len_half
  have h2 := h.rgs
  have hx := h.left
  have hcan := cut_canon (A := l.take i) (M := (l.drop i).take k) (C := l.drop (i + k)) (by rw [← hs]; exact hc) lo hi b1 hn b2 hM
  have hinn := cut_inn (A := l.take i) (M := (l.drop i).take k) (C := l.drop (i + k)) lo hi hA hM hC
  have hcc : Canon (cutOf lo hi l i k) := hcan.parts.2.1
  have hclen := hcc.len_half
  have e1 : (l.take i).length = i := by rw [List.length_take]; omega
  have e2 : ((l.drop i).take k).length = k := by rw [List.length_take, List.length_drop]; omega
  rw [hs] at h2
  refine (rgsReplace_any (i := i) (j := i + k) (L1 := l.take i) (M := (l.drop i).take k) (L2 := l.drop (i + k)) (news := cutOf lo hi l i k) (by omega) (by omega) (by rw [← hs] at h2 ⊢; exact h2) hx (by rw [← hs]; exact hc.fits) hcc.fits (by rw [← hs]; omega)).mono ?_
  rintro e w' ⟨rfl, v', S', h3⟩
  refine ⟨_, ?_, ?_, hcan, v', S', h3⟩
  · have h4 : cnt l = cnt (l.take i) + (cnt ((l.drop i).take k) + cnt (l.drop (i + k))) := by rw [← cnt_append, ← cnt_append, ← hs]
    rw [h4, cnt_append, cnt_append]
    congr 2
    show cnt (cutOf lo hi l i k) - _ = _
    unfold cutOf
    omega
  · intro q
    rw [hinn q, ← hs]

set_option maxHeartbeats 4000000 in
set_option maxRecDepth 100000 in
theorem cut_some (h : RgsIs B w0 w rb l F) (lo hi : Int) (hn : max lo 1 ≤ min hi 1000000) : Calls Try.prog 24 #[gptr rb, .int .i64 lo, .int .i64 hi] w (CutR B w0 rb l F lo hi) := by
  obtain ⟨hc, v, S, h⟩ := h
  have cw := Lib.hid (within_any lo hi w)
  have b1 : 1 ≤ max lo 1 := by omega
  have b2 : min hi 1000000 ≤ 1000000 := by omega
  unfold CutR
  generalize max lo 1 = lo' at *
  generalize min hi 1000000 = hi' at *
  have cr := Lib.hid (rowUp_any h hc lo')
  have hlen := hc.len_half
  have hcbd := hc.cnt_bd
  replace hc := Lib.hid hc
  clear h
  go_enter Try.func24, Try.ntmps24
  go_wp2_with fail
  refine wp_scope_ghost 0 (fun g a' w' => ∃ (i k : Nat) (v9 : Value), i + k ≤ l.length ∧ i + k + g = l.length ∧ Fr 82 [(0, gptr rb), (1, .int .i64 lo'), (2, .int .i64 hi'), (7, .int .i64 i), (8, .int .i64 (i + k : Nat)), (9, v9)] a' ∧ (∀ r ∈ l.take i, r.2 < lo') ∧ (∀ r ∈ l.drop i, lo' ≤ r.2) ∧ (∀ r ∈ (l.drop i).take k, r.1 ≤ hi') ∧
      ∃ v S F9, CutAt B w0 w' rb v l F S v9 (cutOf lo' hi' l i k) F9) rfl ?_ ?_
  · rintro g a' w' ⟨i, k, v9, hik, hg, hfr, hA, hC, hM, v, S, F9, hw⟩
    obtain ⟨f, rfl, hl'⟩ := hfr.lit
    clear hfr cr cw
    simp only [List.mem_cons, List.not_mem_nil, or_false, forall_eq_or_imp, forall_eq] at hl'
    obtain ⟨f0, f1, f2, f7, f8, f9⟩ := hl'
    simp only [List.range, List.range.loop, List.map, f0, f1, f2, f7, f8, f9]
    clear f0 f1 f2 f7 f8 f9
    have c0 := hw.rgs.c0
    obtain ⟨a, cap, rfl, -, -, ha⟩ := hw.sl.form
    obtain ⟨a9, cap9, rfl, -, -, -⟩ := hw.left.form
    have hMM : ∀ r ∈ (l.drop i).take k, lo' ≤ r.2 ∧ r.1 ≤ hi' := fun r hr => ⟨hC r (List.mem_of_mem_take hr), hM r hr⟩
    have exit : (∀ r ∈ l.drop (i + k), hi' < r.1) → Calls Try.prog 31 #[gptr rb, .int .i64 i, .int .i64 (i + k : Nat), .slice a9 (cutOf lo' hi' l i k).length cap9] w' fun e w'' => ∃ l' d, e = .returned (.int .i64 d) ∧ (-1000001 ≤ d ∧ d ≤ 1000001) ∧ -d = cnt l - cnt l' ∧ (∀ k, Inn l' k ↔ Inn l k ∧ ¬ (lo' ≤ k ∧ k ≤ hi')) ∧ RgsIs B w0 w'' rb l' F :=
      fun hC2 => (cut_lay hn b1 b2 hc.out hik hA hMM hC2 hw).mono fun e w'' ⟨l', he, h1, h2⟩ => ⟨l', _, he, by have := h2.1.cnt_bd; omega, by omega, h1, h2⟩
    replace exit := Lib.hid exit
    have hh0 : (0 : Int) ≤ hi' := by omega
    have hclen : (cutOf lo' hi' l i k).length ≤ 1000000 := by
      have h1 : Canon ((l.drop i).take k) := ⟨fun r hr => hc.out.fit r (List.mem_of_mem_drop (List.mem_of_mem_take hr)), (hc.out.apart.drop).take⟩
      have := (cutAll_canon hn b1 b2 h1 hMM).1.len_half
      unfold cutOf
      omega
    have out : ∀ e w2, (∃ l' d, e = Ending.returned (.int .i64 d) ∧ (-1000001 ≤ d ∧ d ≤ 1000001) ∧ -d = cnt l - cnt l' ∧ (∀ k, Inn l' k ↔ Inn l k ∧ ¬ (lo' ≤ k ∧ k ≤ hi')) ∧ RgsIs B w0 w2 rb l' F) →
        ∃ d, e = Ending.returned (.int .i64 d) ∧ (-1000001 ≤ d ∧ d ≤ 1000001) ∧ Hid (∃ l', (Ending.returned (.int .i64 (-d)) = .returned (.int .i64 (cnt l - cnt l'))) ∧ (∀ k, Inn l' k ↔ Inn l k ∧ ¬ (lo' ≤ k ∧ k ≤ hi')) ∧ RgsIs B w0 w2 rb l' F) :=
      fun e w2 ⟨l', d, h1, h2, h3, h4⟩ => ⟨d, h1, h2, Lib.hid ⟨l', by rw [h3], h4⟩⟩
    by_cases hlt : i + k < l.length
    · have hr : l[i + k]? = some l[i + k] := List.getElem?_eq_getElem hlt
      have hfit := hc.out.fit l[i + k] (List.getElem_mem _)
      have hJ := cutOf_succ (lo := lo') (hi := hi') hr
      have hdrop : l.drop (i + k) = l[i + k] :: l.drop (i + k + 1) := List.drop_eq_getElem_cons hlt
      have hap : ∀ x ∈ l.drop (i + k + 1), l[i + k].2 + 1 < x.1 := by
        have h := hc.out.apart.drop (i := i + k)
        rw [hdrop] at h
        exact (List.pairwise_cons.1 h).1
      have hread := hw.rgs.read
      have hMn : (l.drop i).take (k + 1) = (l.drop i).take k ++ [l[i + k]] := by
        rw [List.take_add_one, List.getElem?_drop, hr]; rfl
      generalize l[i + k] = r at *
      obtain ⟨r1, r2⟩ := r
      obtain ⟨a', cap', e, hrd⟩ := hread
      cases e
      obtain ⟨g', off, rfl, k1, k2⟩ := hrd _ _ hr
      simp only at k1 k2 hfit hap
      by_cases hle : r1 ≤ hi'
      · have hMnew : ∀ x ∈ (l.drop i).take (k + 1), x.1 ≤ hi' := fun x hx => by
          rw [hMn] at hx
          rcases List.mem_append.1 hx with hx | hx
          · exact hM x hx
          · obtain rfl := List.mem_singleton.1 hx
            exact hle
        have hlt' : ((i + k : Nat) : Int) < l.length := by omega
        have hti : (0 : Int) ≤ (i + k : Nat) := by omega
        have c1 := hw.alloc (.cells #[.int .i64 r1, .int .i64 r2] 63)
        have hnext : ∀ W v9' ps' F9', CutAt B w0 W rb (.slice (some ⟨g', off, none⟩) l.length cap) l ((w'.heap.size, .cells #[.int .i64 r1, .int .i64 r2] 63) :: F) S v9' ps' F9' → ps' = cutOf lo' hi' l i k ++ pieces lo' hi' (r1, r2) →
            ∃ i₁ k₁ v₁, i₁ + k₁ ≤ l.length ∧ i₁ + k₁ + (l.length - (i + k + 1)) = l.length ∧ (i₁ = i ∧ k₁ = k + 1 ∧ v₁ = v9') ∧ (∀ r ∈ l.take i₁, r.2 < lo') ∧ (∀ r ∈ l.drop i₁, lo' ≤ r.2) ∧ (∀ r ∈ (l.drop i₁).take k₁, r.1 ≤ hi') ∧
              ∃ v S F9, CutAt B w0 W rb v l F S v₁ (cutOf lo' hi' l i₁ k₁) F9 := fun W v9' ps' F9' hW hps => by
          refine ⟨i, k + 1, v9', by omega, by omega, ⟨rfl, rfl, rfl⟩, hA, hC, hMnew, .slice (some ⟨g', off, none⟩) l.length cap, S, F9', ?_⟩
          rw [hJ, ← hps]
          exact hW.sub (List.sublist_cons_self _ _)
        replace hnext := Lib.hid hnext
        generalize hT : i + k = t at *
        replace hT := Lib.hid hT
        have hlo0 : (1 : Int) ≤ lo' := b1
        have hlo1 : lo' ≤ 1000000 := by omega
        obtain ⟨hr10, hr12, hr21⟩ := hfit
        clear exit hJ hw hdrop hap hrd hr hM hMM hA hC hMn hMnew ha out
        by_cases hlow : r1 < lo'
        · obtain ⟨a1, cap1, W1, F1, hr1, c2⟩ := c1.push (r1, lo' - 1) (by omega)
          have h10 : W1.cell? ⟨w'.heap.size, 1, none⟩ = some (.int .i64 r2) := c2.rgs.cellF (i := 1) (c := #[.int .i64 r1, .int .i64 r2]) (T := 63) (by simp) rfl
          simp only [World.size_alloc] at hr1
          by_cases hhigh : hi' < r2
          · as_aux_lemma =>
              obtain ⟨a2, cap2, W2, F2, hr2, c3⟩ := c2.push (hi' + 1, r2) (by simp; omega)
              have hps : ((cutOf lo' hi' l i k) ++ [(r1, lo' - 1)]) ++ [(hi' + 1, r2)] = cutOf lo' hi' l i k ++ pieces lo' hi' (r1, r2) := by simp [pieces, hlow, hhigh]
              replace c3 := Lib.hid c3
              replace hps := Lib.hid hps
              generalize hq1 : (cutOf lo' hi' l i k ++ [(r1, lo' - 1)]).length = q1 at *
              generalize hq2 : ((cutOf lo' hi' l i k ++ [(r1, lo' - 1)]) ++ [(hi' + 1, r2)]).length = q2 at *
              generalize hq0 : (cutOf lo' hi' l i k).length = q0 at *
              clear c1 c2 hq0 hq1
              go_wp2_with (at_builtin; first | refine wpList_append_go rfl (.tmp 54) (.tmp 60) 64 64 rfl _ _ rfl rfl hr1 ?_ | refine wpList_append_go rfl (.tmp 66) (.tmp 72) 64 64 rfl _ _ rfl rfl hr2 ?_)
              obtain ⟨i₁, k₁, jb₁, g1, g2, ⟨rfl, rfl, rfl⟩, g3, g4, g5, g6⟩ := hnext.out _ _ _ _ c3.out hps.out
              refine wp_goto ?_
              refine ⟨rfl, l.length - (t + 1), by omega, _, _, _, g1, g2, ⟨rfl, rfl, by simp; have := hT.out; omega⟩, g3, g4, g5, g6⟩
          · as_aux_lemma =>
              have hps : (cutOf lo' hi' l i k) ++ [(r1, lo' - 1)] = cutOf lo' hi' l i k ++ pieces lo' hi' (r1, r2) := by simp [pieces, hlow, hhigh]
              replace c2 := Lib.hid c2
              replace hps := Lib.hid hps
              generalize hq2 : (cutOf lo' hi' l i k ++ [(r1, lo' - 1)]).length = q1 at *
              generalize hq0 : (cutOf lo' hi' l i k).length = q0 at *
              clear c1 hq0
              go_wp2_with (at_builtin; refine wpList_append_go rfl (.tmp 54) (.tmp 60) 64 64 rfl _ _ rfl rfl hr1 ?_)
              obtain ⟨i₁, k₁, jb₁, g1, g2, ⟨rfl, rfl, rfl⟩, g3, g4, g5, g6⟩ := hnext.out _ _ _ _ c2.out hps.out
              refine wp_goto ?_
              refine ⟨rfl, l.length - (t + 1), by omega, _, _, _, g1, g2, ⟨rfl, rfl, by simp; have := hT.out; omega⟩, g3, g4, g5, g6⟩
        · by_cases hhigh : hi' < r2
          · obtain ⟨a2, cap2, W2, F2, hr2, c3⟩ := c1.push (hi' + 1, r2) (by omega)
            simp only [World.size_alloc] at hr2
            as_aux_lemma =>
              have hps : (cutOf lo' hi' l i k) ++ [(hi' + 1, r2)] = cutOf lo' hi' l i k ++ pieces lo' hi' (r1, r2) := by simp [pieces, hlow, hhigh]
              replace c3 := Lib.hid c3
              replace hps := Lib.hid hps
              generalize hq2 : (cutOf lo' hi' l i k ++ [(hi' + 1, r2)]).length = q1 at *
              generalize hq0 : (cutOf lo' hi' l i k).length = q0 at *
              clear c1 hq0
              go_wp2_with (at_builtin; refine wpList_append_go rfl (.tmp 66) (.tmp 72) 64 64 rfl _ _ rfl rfl hr2 ?_)
              obtain ⟨i₁, k₁, jb₁, g1, g2, ⟨rfl, rfl, rfl⟩, g3, g4, g5, g6⟩ := hnext.out _ _ _ _ c3.out hps.out
              refine wp_goto ?_
              refine ⟨rfl, l.length - (t + 1), by omega, _, _, _, g1, g2, ⟨rfl, rfl, by simp; have := hT.out; omega⟩, g3, g4, g5, g6⟩
          · as_aux_lemma =>
              have hps : cutOf lo' hi' l i k = cutOf lo' hi' l i k ++ pieces lo' hi' (r1, r2) := by simp [pieces, hlow, hhigh]
              replace c1 := Lib.hid c1
              replace hps := Lib.hid hps
              generalize hq2 : (cutOf lo' hi' l i k).length = q0 at *
              go_wp2_with fail
              obtain ⟨i₁, k₁, jb₁, g1, g2, ⟨rfl, rfl, rfl⟩, g3, g4, g5, g6⟩ := hnext.out _ _ _ _ c1.out hps.out
              refine wp_goto ?_
              refine ⟨rfl, l.length - (t + 1), by omega, _, _, _, g1, g2, ⟨rfl, rfl, by simp; have := hT.out; omega⟩, g3, g4, g5, g6⟩
      · have cx := Lib.hid (exit.out (fun r hr' => by
          rw [hdrop] at hr'
          rcases List.mem_cons.1 hr' with rfl | hr'
          · show hi' < r1; omega
          · have := hap r hr'; omega))
        have hd : decide (r1 ≤ hi') = false := by simpa using hle
        have hlt' : ((i + k : Nat) : Int) < l.length := by omega
        have hti : (0 : Int) ≤ (i + k : Nat) := by omega
        generalize hJ' : (cutOf lo' hi' l i k).length = J at *
        generalize hT : i + k = t at *
        replace out := Lib.hid out
        clear exit hJ hJ' hw hdrop hap hrd hr hM hMM hA hC hMn hfit ha
        go_wp2_with fail
        refine cx.out.mono ?_
        intro e w2 hx
        obtain ⟨d, rfl, ⟨hd1, hd2⟩, h3⟩ := out.out e w2 hx
        clear hx cx out
        go_wp2_with fail
        simp only [Exit.jump]
        go_ret
        exact h3.out
    · have hC2 : l.drop (i + k) = [] := List.drop_of_length_le (by omega)
      have cx := Lib.hid (exit.out (by rw [hC2]; simp))
      have hlt' : decide ((i + k : Nat) < l.length) = false := by simp; omega
      generalize hJ' : (cutOf lo' hi' l i k).length = J at *
      generalize hT : i + k = t at *
      replace out := Lib.hid out
      clear exit hJ' hw hM hMM hA hC ha
      go_wp2_with fail
      refine cx.out.mono ?_
      intro e w2 hx
      obtain ⟨d, rfl, ⟨hd1, hd2⟩, h3⟩ := out.out e w2 hx
      clear hx cx out
      go_wp2_with fail
      simp only [Exit.jump]
      go_ret
      exact h3.out
  · intro H
    go_wp2_with fail
    refine cw.out.mono ?_
    rintro e w1 ⟨rfl, rfl⟩
    go_wp2_with fail
    refine cr.out.mono ?_
    rintro e w1 ⟨i, rfl, hi1, hA, hC, h1⟩
    have h3 := H (l.length - i)
    have h2 : CutAt B w0 w1 rb v l F S (.slice none 0 0) [] [] := ⟨h1.sl, SlIs.nil, by simpa using h1.st⟩
    replace hA := Lib.hid hA
    replace hC := Lib.hid hC
    replace h2 := Lib.hid h2
    replace hi1 := Lib.hid hi1
    clear h1 cr cw H
    go_wp2_with fail
    refine wp_label ?_
    go_step
    go_step
    have hil := hi1.out
    exact h3 _ _ ⟨i, 0, .slice none 0 0, by omega, by omega, ⟨rfl, rfl, by simp⟩, hA.out, hC.out, by simp, v, S, [], h2.out⟩
end
end Go.Proofs.Ytdkchcbmhmlhnaa
