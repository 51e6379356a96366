/- A trie: a key matched. -/
import Derived.Test.YtbfelfejelkdpaaTrZ
import Derived.Test.YtbfelfejelkdpaaTrJ
namespace Go.Proofs.Ytbfelfejelkdpaa
open Go.RowKit
open Go.ChangeMaps (setBlock)
set_option linter.unusedVariables false
set_option linter.unusedSectionVars false
set_option linter.unusedSimpArgs false
set_option maxRecDepth 100000

section
variable {B : Nat} {w0 w : World} {F S : List (Nat × Obj)} {L : List Nd} {tb c wb kb clk : Nat} {n m : Nd} {K K0 : Kn} {H A X : List Nd} {M : Prs}

/-- What Match leaves; what it knows at its label. -/
def MatchR (B : Nat) (w0 : World) (tb : Nat) (M : Prs) (F : List (Nat × Obj)) (c : Nat) (P : Wds) (e : Ending) (w' : World) : Prop :=
  ∃ (v : Value) (l : List Int) (S : List (Nat × Obj)), e = .returned v ∧ SlIs 3 1 v l.length (l.map encI) S ∧ Rises1 l ∧ (∀ k, k ∈ l ↔ ∃ p, (p, k) ∈ M ∧ gl p P = true) ∧ TrIs B w0 w' tb M (S ++ F) c
def MatchAt (B : Nat) (w0 : World) (L : List Nd) (F : List (Nat × Obj)) (P : Wds) (g : Nat) (a' : Act) (w' : World) : Prop :=
  ∃ (wb at_ : Nat) (K : Kn) (H : List Nd) (a : Option Addr) (cap : Nat) (S : List (Nat × Obj)), at_ + g = P.length ∧ Here L (P.take at_) K H ∧ WkAt B w0 w' wb L H [] K (S ++ F) ∧ TssIs (.slice a P.length cap) P S ∧ Fr 39 [(5, np wb), (6, .slice a P.length cap), (7, .int .i64 at_)] a'

theorem WkAt.new (hst : St B w0 w (objsL L ++ F)) (ht : TreeOk L tb c) : WkAt B w0 ((w.alloc (.map #[] 0)).alloc (.cells #[.slice none 0 0, .slice none 0 0, .map (some w.heap.size)] 60)) (w.heap.size + 1) L [] [] (fun _ => 0) F := by
  have h2 := (hst.alloc (.map #[] 0)).alloc (.cells #[.slice none 0 0, .slice none 0 0, .map (some w.heap.size)] 60)
  have hsz : (w.alloc (.map #[] 0)).heap.size = w.heap.size + 1 := by simp
  rw [hsz] at h2
  refine ⟨.slice none 0 0, .slice none 0 0, [], [], w.heap.size, [], 0, SlIs.nil, SlIs.nil, ⟨fun n hn => by simp [seek], by simp⟩, h2.perm ?_⟩
  classical
  exact List.perm_iff_count.2 fun a => by simp only [List.count_append, List.count_cons, List.count_nil, List.nil_append]; simp [entsE]; omega

set_option maxHeartbeats 2000000 in
theorem match_any (h : TrIs B w0 w tb M F c) (l : List UInt8) (hl : l.length ≤ 1000) (hc : c ≤ 700000) : Calls Try.prog 12 #[np tb, tx l] w (MatchR B w0 tb M F c (wordsL l)) := by
  obtain ⟨L, hst, ht, hid, hnd, hroot⟩ := h
  obtain ⟨n0, hn0, e1, e2⟩ := ht.root
  have hmk := fun w : World => run_makeMap (P := Try.prog) 57 w
  have hwl := words_len l
  have hws := words_short l
  have cst := Lib.hid (start_any (WkAt.new hst ht) ht (by omega) hn0 e1 e2)
  have cw := Lib.hid (fun w => words_st (l := l) (by omega) w)
  have fin : Hid (∀ v (l2 : List Int) S2 w', SlIs 3 1 v l2.length (l2.map encI) S2 → Rises1 l2 → (∀ k, k ∈ l2 ↔ ∃ p, HasId L p k ∧ gl p (wordsL l) = true) → St B w0 w' (objsL L ++ (S2 ++ F)) → MatchR B w0 tb M F c (wordsL l) (.returned v) w') := Lib.hid fun v l2 S2 w' g1 g2 g3 g4 =>
    ⟨v, l2, S2, rfl, g1, g2, fun k => by rw [g3]; exact ⟨fun ⟨p, h1, h2⟩ => ⟨p, (hid p k).1 h1, h2⟩, fun ⟨p, h1, h2⟩ => ⟨p, (hid p k).2 h1, h2⟩⟩, L, g4, ht, hid, hnd, hroot⟩
  have hPl : (wordsL l).length ≤ 1001 := by omega
  have hws : ∀ x ∈ wordsL l, x.length ≤ 1000 := fun x hx => by have := hws x hx; omega
  have hfew := ht.few
  replace ht := Lib.hid ht
  clear hst hid hnd hroot hn0 e1 e2 hwl
  generalize wordsL l = P at *
  go_enter Try.func12, Try.ntmps12
  go_wp2_with fail
  refine wp_scope_ghost 0 (MatchAt B w0 L F P) rfl ?_ ?_
  · clear cst cw hmk
    rintro g a' w' ⟨wb, at_, K, H, a, cap, S, hg, hH, hw, hS, hfr⟩
    obtain ⟨f, rfl, hl'⟩ := hfr.lit
    clear hfr
    simp only [List.mem_cons, List.not_mem_nil, or_false, forall_eq_or_imp, forall_eq] at hl'
    obtain ⟨f5, f6, f7⟩ := hl'
    simp only [List.range, List.range.loop, List.map, f5, f6, f7]
    clear f5 f6 f7
    obtain ⟨ah, caph, ch, -⟩ := hw.hereAt
    have hat0 : (0 : Int) ≤ at_ := by omega
    have hP0 : (P.length : Int) ≤ 1001 := by omega
    have hHl := hH.len
    have hend : Hid (Here L P K H → ∃ e2 : Calls Try.prog 23 #[np wb] w' (IdsR B w0 L H (S ++ F)), True) := Lib.hid fun h => ⟨ids_any hw (ht.out.mono (show c ≤ 800000 by omega)) (Nat.le_refl _) h.mem (by omega), trivial⟩
    have after : Hid (∀ w1 v (l2 : List Int) S2, Here L P K H → SlIs 3 1 v l2.length (l2.map encI) S2 → (∀ k, k ∈ l2 ↔ ∃ n ∈ H, k ∈ n.i.es.map (·.1)) → l2.length ≤ 1000000000000 → St B w0 w1 (objsL L ++ (S2 ++ (S ++ F))) →
        Calls Try.prog 24 #[v] w1 fun e w2 => e = .returned (.tuple #[]) ∧ Calls Try.prog 25 #[v] w2 fun e w3 => ∃ v', e = .returned v' ∧ MatchR B w0 tb M F c P (.returned v') w3) := Lib.hid fun w1 v l2 S2 hHP g1 g2 g3 g4 => by
      refine (sortI_any g1 (X := objsL L ++ (S ++ F)) (g4.perm ?_) g3).mono ?_
      · rw [List.append_assoc]
        exact List.Perm.append_left _ List.perm_append_comm
      rintro e w2 ⟨rfl, S3, k1, k2⟩
      have hsl : (sortL l2).length = l2.length := List.length_mergeSort _
      refine ⟨rfl, (compactI_any k1 k2 (by omega)).mono ?_⟩
      rintro e w3 ⟨v', S4, rfl, q1, q2⟩
      obtain ⟨o1, o2⟩ := onceI l2
      refine ⟨v', rfl, fin.out v' _ S4 w3 q1 o1 (fun k => by rw [o2, g2, hHP.ids]) ((q2.sub ((((List.Sublist.refl _).append (List.sublist_append_right S F))).append (List.Sublist.refl _))).perm ?_)⟩
      rw [List.append_assoc]
      exact List.Perm.append_left _ List.perm_append_comm
    by_cases hlt : at_ < P.length
    · by_cases hH0 : H = []
      · subst hH0
        have hHP : Here L P K [] := by
          have := hH.none ht.out (P.drop at_)
          rwa [List.take_append_drop] at this
        obtain ⟨ci, -⟩ := hend.out hHP
        replace ci := Lib.hid ci
        have after := Lib.hid (fun w1 v l2 S2 => after.out w1 v l2 S2 hHP)
        have hlt' : (at_ : Int) < P.length := by omega
        clear hend hH hw hS ht hws fin hHP hfew hHl
        go_wp2_with fail
        refine ci.out.mono ?_
        rintro e w1 ⟨v, l2, S2, rfl, g1, g2, g3, g4⟩
        have c2 := Lib.hid (after.out w1 v l2 S2 g1 g2 g3 g4)
        clear g1 g2 g3 g4 after ci
        go_wp2_with fail
        refine c2.out.mono ?_
        rintro e w2 ⟨rfl, c3⟩
        replace c3 := Lib.hid c3
        clear c2
        go_wp2_with fail
        refine c3.out.mono ?_
        rintro e w3 ⟨v', rfl, fin⟩
        replace fin := Lib.hid fin
        go_wp2_with fail
        simp only [Exit.jump]
        go_ret
        exact fin.out
      · have hpos : (0 : Int) < H.length := by
          have := List.length_pos_iff.2 hH0
          omega
        have hx : P[at_]? = some P[at_] := List.getElem?_eq_getElem hlt
        have hrd : ReadTs w' (.slice a P.length cap) P := by
          obtain ⟨O, g1, g2⟩ := hw.beside
          refine hS.read (X := O ++ F) (g1.perm ?_) (fun x hx => by have := hws x hx; unfold maxLen; omega)
          rw [List.append_assoc]
          exact List.Perm.append_left _ List.perm_append_comm
        obtain ⟨a2, cap2, e2, hta⟩ := hrd
        simp only [Value.slice.injEq, true_and] at e2
        obtain ⟨rfl, rfl⟩ := e2
        obtain ⟨-, b, off, rfl, hcell⟩ := hta.at_ _ _ hx
        have ck := Lib.hid (take_any hw ht.out (by omega) hH P[at_] (hws _ (List.mem_of_getElem? hx)))
        rw [take_snoc hx] at ck
        have hlt' : (at_ : Int) < P.length := by omega
        generalize P[at_] = x at *
        replace hS := Lib.hid hS
        generalize H.length = hl at *
        clear hend hH hw ht hws fin hfew hHl after hta hx hH0
        go_wp2_with fail
        refine ck.out.mono ?_
        rintro e w1 ⟨rfl, K2, H2, hH2, hw2⟩
        replace hw2 := Lib.hid hw2
        clear ck
        go_wp2_with fail
        refine wp_goto ?_
        refine ⟨rfl, P.length - (at_ + 1), by omega, wb, at_ + 1, K2, H2, _, _, S, by omega, hH2, hw2.out, hS.out, ?_⟩
        exact ⟨rfl, rfl, by simp⟩
    · obtain rfl : at_ = P.length := by omega
      have hHP : Here L P K H := by rwa [List.take_length] at hH
      obtain ⟨ci, -⟩ := hend.out hHP
      replace ci := Lib.hid ci
      have after := Lib.hid (fun w1 v l2 S2 => after.out w1 v l2 S2 hHP)
      generalize H.length = hl at *
      clear hend hH hw hS ht hws fin hHP hfew hHl
      go_wp2_with fail
      refine ci.out.mono ?_
      rintro e w1 ⟨v, l2, S2, rfl, g1, g2, g3, g4⟩
      have c2 := Lib.hid (after.out w1 v l2 S2 g1 g2 g3 g4)
      clear g1 g2 g3 g4 after ci
      go_wp2_with fail
      refine c2.out.mono ?_
      rintro e w2 ⟨rfl, c3⟩
      replace c3 := Lib.hid c3
      clear c2
      go_wp2_with fail
      refine c3.out.mono ?_
      rintro e w3 ⟨v', rfl, fin⟩
      replace fin := Lib.hid fin
      go_wp2_with fail
      simp only [Exit.jump]
      go_ret
      exact fin.out
  · intro H1
    go_wp2_with fail
    refine cst.out.mono ?_
    rintro e w1 ⟨rfl, K, X, hH, hw⟩
    have cw := Lib.hid (cw.out w1)
    have nx : Hid (∀ w2 S, St w1.heap.size w1 w2 S → WkAt B w0 w2 (w.heap.size + 1) L X [] K (S ++ F)) := Lib.hid fun w2 S h => by
      obtain ⟨O, g1, g2⟩ := hw.beside
      refine g2 _ _ ((g1.join h).perm ?_)
      rw [List.append_assoc]
      exact List.Perm.append_left _ List.perm_append_comm
    replace hH := Lib.hid hH
    clear hw cst
    go_wp2_with fail
    refine cw.out.mono ?_
    rintro e w2 ⟨v, S, rfl, hS, hst2⟩
    have hw2 := Lib.hid (nx.out w2 S hst2)
    obtain ⟨a, cap, rfl⟩ := hS.form
    replace hS := Lib.hid hS
    clear nx cw hst2
    go_wp2_with fail
    refine wp_label ?_
    go_step
    go_step
    refine H1 P.length _ _ ⟨w.heap.size + 1, 0, K, X, a, cap, S, by omega, by rw [List.take_zero]; exact hH.out, hw2.out, hS.out, ?_⟩
    exact ⟨rfl, rfl, by simp⟩
end
end Go.Proofs.Ytbfelfejelkdpaa
