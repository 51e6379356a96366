/- A tree of nodes: words found; what leads nowhere taken out. -/
import Derived.Test.YtbfelfejelkdpaaTrG
namespace Go.Proofs.Ytbfelfejelkdpaa
open Go.RowKit
open Go.ChangeMaps (setBlock)
set_option linter.unusedVariables false
set_option linter.unusedSectionVars false
set_option linter.unusedSimpArgs false
set_option maxRecDepth 100000

section
variable {B : Nat} {w0 w : World} {F : List (Nat × Obj)} {L : List Nd} {tb c : Nat} {n m : Nd} {P : Wds}
theorem TreeOk.one (h : TreeOk L tb c) {k : Nat} (hk : k < P.length) (hm : ∃ m ∈ L, m.p = P.take (k + 1)) : ∃ m ∈ L, m.p = P.take k := by
  obtain ⟨m, hm, e⟩ := hm
  have hx : P[k]? = some P[k] := List.getElem?_eq_getElem hk
  rw [← take_snoc hx] at e
  rcases h.ups m hm with ⟨h1, _⟩ | ⟨q, hq, w, h1, _, _⟩
  · rw [h1] at e
    have := congrArg List.length e
    rw [List.length_append, List.length_singleton, List.length_nil] at this
    omega
  · rw [h1] at e
    exact ⟨q, hq, (snoc_inj e).1⟩
theorem TreeOk.pre (h : TreeOk L tb c) (hm : ∃ m ∈ L, m.p = P) : ∀ (d k : Nat), k + d = P.length → ∃ m ∈ L, m.p = P.take k
  | 0, k, e => by rw [List.take_of_length_le (by omega)]; exact hm
  | d + 1, k, e => h.one (by omega) (TreeOk.pre h hm d (k + 1) (by omega))
theorem TreeOk.lost (h : TreeOk L tb c) {k : Nat} (hk : k ≤ P.length) (hn : nd L (P.take k) = none) : nd L P = none := by
  rw [nd_none]
  intro m hm e
  obtain ⟨q, hq, e2⟩ := h.pre ⟨m, hm, e⟩ (P.length - k) k (by omega)
  exact nd_none.1 hn q hq e2

/-- What find knows at its label. -/
def FindAt (w : World) (L : List Nd) (P : Wds) (g : Nat) (a' : Act) (w' : World) : Prop :=
  ∃ (at_ : Nat) (a : Option Addr) (cap : Nat), at_ + g = P.length ∧ Fr 30 [(0, ptrP L (P.take at_)), (5, .slice a P.length cap), (6, .int .i64 at_)] a' ∧ ReadTs w' (.slice a P.length cap) P ∧ Below w.heap.size w w'

set_option maxHeartbeats 1000000 in
theorem find_any (hst : St B w0 w (objsL L ++ F)) (ht : TreeOk L tb c) (hn : n ∈ L) (h0 : n.p = []) (l : List UInt8) (hl : l.length ≤ 1000) :
    Calls Try.prog 14 #[np n.b, tx l] w fun e w' => e = .returned (ptrP L (wordsL l)) ∧ Below w.heap.size w w' := by
  have hwl := words_len l
  have cw := Lib.hid (words_to (l := l) (by omega) w)
  have e0 : np n.b = ptrP L ((wordsL l).take 0) := by
    rw [List.take_zero, ← h0, ht.ptr hn]
  generalize wordsL l = P at *
  have hPl : P.length ≤ 1001 := by omega
  rw [e0]
  replace hst := Lib.hid hst
  replace ht := Lib.hid ht
  clear hwl e0 hn h0
  generalize hnv : ptrP L (P.take 0) = nv at *
  replace hnv := Lib.hid hnv
  go_enter Try.func14, Try.ntmps14
  go_wp2_with fail
  refine wp_scope_ghost 0 (FindAt w L P) rfl ?_ ?_
  · clear cw hnv
    rintro g a' w' ⟨at_, a, cap, hg, hfr, hv, hb⟩
    obtain ⟨f, rfl, hl'⟩ := hfr.lit
    clear hfr
    simp only [List.mem_cons, List.not_mem_nil, or_false, forall_eq_or_imp, forall_eq] at hl'
    obtain ⟨f0, f5, f6⟩ := hl'
    simp only [List.range, List.range.loop, List.map, f0, f5, f6]
    clear f0 f5 f6
    have hP0 : (P.length : Int) ≤ 1001 := by omega
    have hat0 : (0 : Int) ≤ at_ := by omega
    cases hm : nd L (P.take at_) with
    | none =>
      have e1 : ptrP L (P.take at_) = .pointer none := by unfold ptrP; rw [hm]
      have e2 : ptrP L P = .pointer none := by unfold ptrP; rw [ht.out.lost (by omega) hm]
      rw [e1]
      replace e2 := Lib.hid e2
      replace hb := Lib.hid hb
      clear hv hst ht e1 hm
      go_wp2_with fail
      simp only [Exit.jump]
      go_ret
      exact ⟨by rw [e2.out]; rfl, hb.out⟩
    | some m =>
      obtain ⟨hm1, hm2⟩ := nd_mem hm
      have e1 : ptrP L (P.take at_) = np m.b := by unfold ptrP; rw [hm]
      rw [e1]
      by_cases hlt : at_ < P.length
      · have hx : P[at_]? = some P[at_] := List.getElem?_eq_getElem hlt
        obtain ⟨a2, cap2, e2, hta⟩ := id hv
        simp only [Value.slice.injEq, true_and] at e2
        obtain ⟨rfl, rfl⟩ := e2
        obtain ⟨-, b, off, rfl, hcell⟩ := hta.at_ _ _ hx
        have hst' : St B w0 w' (objsL L ++ F) := hst.out.grow hb
        have hk := run_kid hst'.drew ht.out hm1 P[at_]
        rw [hm2, take_snoc hx] at hk
        have c2 := hst'.node hm1 (j := 2) (v := .map m.s.mv) rfl
        have hlt' : (at_ : Int) < P.length := by omega
        have hneB : ((at_ : Int) == (P.length : Int)) = false := by
          rw [beq_eq_false_iff_ne]
          omega
        replace hv := Lib.hid hv
        replace hb := Lib.hid hb
        clear hst ht hst' hm hm1 hm2 e1 hta
        generalize P[at_] = x at *
        generalize hnx : ptrP L (P.take (at_ + 1)) = nx at *
        replace hnx := Lib.hid hnx
        go_upto_region 5 with fail
        go_still_tail 10, (by kernel_rfl)
        change wpList _ _ _ _ _ w'.drew
        go_wp2_with fail
        refine wp_goto ?_
        exact ⟨rfl, P.length - (at_ + 1), by omega, at_ + 1, _, _, by omega, ⟨rfl, rfl, by simp [hnx.out]⟩, hv.out.below (Below.refl _ _).drew, hb.out.drew⟩
      · obtain rfl : at_ = P.length := by omega
        rw [List.take_length] at e1
        replace e1 := Lib.hid e1
        replace hb := Lib.hid hb
        clear hst ht hv hm hm1 hm2
        go_wp2_with fail
        simp only [Exit.jump]
        go_ret
        exact ⟨by rw [e1.out]; rfl, hb.out⟩
  · intro H
    go_wp2_with fail
    refine cw.out.mono ?_
    rintro e w1 ⟨v, rfl, hv, hb⟩
    obtain ⟨a, cap, rfl, hta⟩ := id hv
    clear cw hta
    replace hv := Lib.hid hv
    replace hb := Lib.hid hb
    go_wp2_with fail
    refine wp_label ?_
    go_step
    go_step
    exact H P.length _ _ ⟨0, a, cap, by omega, ⟨rfl, rfl, by simp only [List.mem_cons, List.not_mem_nil, or_false, forall_eq_or_imp, forall_eq]; exact ⟨by rw [hnv.out]; rfl, rfl, rfl⟩⟩, hv.out, hb.out⟩

theorem Same.cut {R : List Nd} {s' : Tb (List UInt8)} (hp : m.p ≠ []) (hi : m.i.es = []) : Same (m :: n :: R) ({ n with s := s' } :: R) := by
  refine ⟨fun p k => ⟨?_, ?_⟩, ?_⟩
  · rintro ⟨q, hq, e1, e2⟩
    rcases List.mem_cons.1 hq with rfl | hq
    · exact ⟨n, by simp, e1, e2⟩
    · exact ⟨q, by simp [hq], e1, e2⟩
  · rintro ⟨q, hq, e1, e2⟩
    rcases List.mem_cons.1 hq with rfl | hq
    · rw [hi] at e2
      exact absurd e2 (by simp)
    rcases List.mem_cons.1 hq with rfl | hq
    · exact ⟨{ q with s := s' }, by simp, e1, e2⟩
    · exact ⟨q, by simp [hq], e1, e2⟩
  · rintro X ⟨q, hq, e1, e2⟩
    rcases List.mem_cons.1 hq with rfl | hq
    · exact absurd e1 hp
    rcases List.mem_cons.1 hq with rfl | hq
    · exact ⟨{ q with s := s' }, by simp, e1, e2⟩
    · exact ⟨q, by simp [hq], e1, e2⟩

/-- What prune leaves; what it knows at its label. -/
def PruneR (B : Nat) (w0 : World) (tb : Nat) (L : List Nd) (F : List (Nat × Obj)) (c : Nat) (e : Ending) (w' : World) : Prop :=
  e = .returned (.tuple #[]) ∧ ∃ L', St B w0 w' (objsL L' ++ F) ∧ TreeOk L' tb c ∧ Same L L'
def PruneAt (B : Nat) (w0 : World) (tb : Nat) (L0 : List Nd) (F : List (Nat × Obj)) (c : Nat) (g : Nat) (a' : Act) (w' : World) : Prop :=
  ∃ L m, m ∈ L ∧ m.p.length = g ∧ Fr 36 [(0, np m.b)] a' ∧ St B w0 w' (objsL L ++ F) ∧ TreeOk L tb c ∧ Same L0 L

set_option maxHeartbeats 1000000 in
theorem prune_any (hst : St B w0 w (objsL L ++ F)) (ht : TreeOk L tb c) (hm : m ∈ L) (hc : c ≤ 1000000) :
    Calls Try.prog 17 #[np m.b] w (PruneR B w0 tb L F c) := by
  have start : Hid (St B w0 w (objsL L ++ F) ∧ TreeOk L tb c ∧ m ∈ L) := Lib.hid ⟨hst, ht, hm⟩
  clear hst ht hm
  generalize hnv : np m.b = nv at *
  replace hnv := Lib.hid hnv
  go_enter Try.func17, Try.ntmps17
  go_wp2_with fail
  refine wp_scope_ghost 0 (PruneAt B w0 tb L F c) rfl ?_ ?_
  · clear start hnv
    rintro g a' w' ⟨L1, m, hm, hg, hfr, hst, ht, hsame⟩
    obtain ⟨f, rfl, hl'⟩ := hfr.lit
    clear hfr
    simp only [List.mem_cons, List.not_mem_nil, or_false, forall_eq_or_imp, forall_eq] at hl'
    simp only [List.range, List.range.loop, List.map, hl']
    clear hl'
    have c0 := hst.node hm (j := 0) (v := upV m.u) rfl
    have c1 := hst.node hm (j := 1) (v := tx (lastW m.p)) rfl
    have stop : Hid (PruneR B w0 tb L F c (.returned (.tuple #[])) w') := Lib.hid ⟨rfl, L1, hst, ht, hsame⟩
    have ci := Lib.hid (countI_any (hst.tabI hm) fun e => ((ht.oks m hm).2.bare e).1)
    have cs := Lib.hid (countS_any (hst.tabS hm) fun e => ((ht.oks m hm).1.bare e).1)
    rcases ht.up hm with ⟨hp0, hu⟩ | ⟨q, hq, wd, hpq, hu⟩
    · rw [hu] at c0
      clear hst ht hm c1 ci cs hsame
      go_wp2_with fail
      simp only [Exit.jump]
      exact bodyPost_end (results_none rfl _ _ _) rfl stop.out
    · rw [hu] at c0
      by_cases hi : m.i.es = []
      · rw [hi] at ci
        by_cases hs : m.s.es = []
        · rw [hs] at cs
          rw [hpq, lastW_snoc] at c1
          obtain ⟨R, hp⟩ : ∃ R, L1.Perm (m :: q :: R) := by
            obtain ⟨a, b, rfl⟩ := List.append_of_mem hm
            have hq2 : q ∈ a ++ b := by
              rcases List.mem_append.1 hq with hq | hq
              · exact List.mem_append_left _ hq
              · rcases List.mem_cons.1 hq with rfl | hq
                · have := congrArg List.length hpq
                  rw [List.length_append, List.length_singleton] at this
                  omega
                · exact List.mem_append_right _ hq
            obtain ⟨a2, b2, e2⟩ := List.append_of_mem hq2
            exact ⟨a2 ++ b2, List.perm_middle.trans (List.Perm.cons _ (by rw [e2]; exact List.perm_middle))⟩
          have hwd : wd ∈ q.s.es.map (·.1) := by
            rcases ht.ups m hm with ⟨e, _⟩ | ⟨q2, hq2, w2, e1, _, e3⟩
            · rw [e] at hpq; simp at hpq
            · rw [hpq] at e1
              obtain ⟨e4, rfl⟩ := snoc_inj e1
              obtain rfl := map_inj ht.paths hq hq2 e4
              rw [← keys_rows]
              exact List.mem_map_of_mem (f := (·.1)) e3
          have hs2 : St B w0 w'.drew ((q.b, .cells q.cells q.y) :: (tabH encS q.s ++ (tabH encI q.i ++ (objsL R ++ (m.objs ++ F))))) := by
            refine hst.drew.perm (((objs_perm hp).append_right F).trans ?_)
            rw [objs_cons, objs_cons]
            show (m.objs ++ (((q.b, .cells q.cells q.y) :: (tabH encS q.s ++ tabH encI q.i)) ++ objsL R) ++ F).Perm _
            classical
            exact List.perm_iff_count.2 fun a => by simp only [List.count_append, List.count_cons, List.append_assoc, List.cons_append]; omega
          have cd : Hid (Calls Try.prog 29 #[.pointer (some ⟨q.b, 2, none⟩), tx wd] w'.drew fun e w3 => e = .returned (.tuple #[]) ∧ ∃ L', ∃ q' ∈ L', q'.p = q.p ∧ q'.b = q.b ∧ St B w0 w3 (objsL L' ++ F) ∧ TreeOk L' tb c ∧ Same L L' ∧ w3.cell? ⟨m.b, 0, none⟩ = some (np q.b)) := Lib.hid (by
            refine (dropS_any hs2 rfl rfl (ht.oks q hq).1 hc hwd).mono ?_
            rintro e w3 ⟨rfl, s', ⟨g1, g2⟩, g3⟩
            rw [cells_s] at g3
            have hm0 : m.p ≠ [] := by rw [hpq]; simp
            refine ⟨rfl, { q with s := s' } :: R, _, List.mem_cons_self, rfl, rfl, ?_, (ht.perm hp).cut hpq (by simp [Tb.rows, hs]) g1 g2, hsame.trans ((Same.perm hp).trans (Same.cut hm0 hi)), ?_⟩
            · have g4 : St B w0 w3 (m.objs ++ (objsL ({ q with s := s' } :: R) ++ F)) := by
                refine g3.perm ?_
                rw [objs_cons]
                show List.Perm _ (m.objs ++ (((q.b, .cells ({ q with s := s' } : Nd).cells q.y) :: (tabH encS s' ++ tabH encI q.i)) ++ objsL R ++ F))
                classical
                exact List.perm_iff_count.2 fun a => by simp only [List.count_append, List.count_cons, List.append_assoc, List.cons_append]; omega
              exact g4.sub (List.sublist_append_right _ _)
            · refine g3.cell (b := m.b) (c := m.cells) (T := m.y) (fr := (0, 0)) ?_ (show m.cells[0]? = some (np q.b) by rw [← hu]; rfl)
              unfold Nd.objs
              simp)
          replace hpq := Lib.hid (congrArg List.length hpq)
          replace hg := Lib.hid hg
          clear hst ht hm hsame hs hi hwd hs2 stop hp hu hq
          go_wp2_with fail
          refine ci.out.mono ?_
          rintro e w2 ⟨rfl, rfl⟩
          go_wp2_with fail
          refine cs.out.mono ?_
          rintro e w2 ⟨rfl, rfl⟩
          go_upto_region 1 with fail
          go_still_tail 10, (by kernel_rfl)
          change wpList _ _ _ _ _ w2.drew
          go_wp2_with fail
          refine cd.out.mono ?_
          rintro e w3 ⟨rfl, L', q', g0, g1, g2, g3, g4, g5, g6⟩
          replace g3 := Lib.hid g3
          go_wp2_with fail
          refine wp_goto ?_
          refine ⟨rfl, q'.p.length, ?_, L', q', g0, rfl, ⟨rfl, rfl, fun p hp => by rw [List.mem_singleton] at hp; subst hp; rw [g2]; rfl⟩, g3.out, g4, g5⟩
          have := hpq.out
          rw [List.length_append, List.length_singleton] at this
          rw [g1, ← hg.out]
          omega
        · have hpos : (0 : Int) < m.s.es.length := by
            have := List.length_pos_iff.2 hs
            omega
          generalize m.s.es.length = k at *
          clear hst ht hm c1 hsame hs hi
          go_wp2_with fail
          refine ci.out.mono ?_
          rintro e w2 ⟨rfl, rfl⟩
          go_wp2_with fail
          refine cs.out.mono ?_
          rintro e w2 ⟨rfl, rfl⟩
          go_wp2_with fail
          simp only [Exit.jump]
          exact bodyPost_end (results_none rfl _ _ _) rfl stop.out
      · have hpos : (0 : Int) < m.i.es.length := by
          have := List.length_pos_iff.2 hi
          omega
        generalize m.i.es.length = k at *
        clear hst ht hm c1 cs hsame
        go_wp2_with fail
        refine ci.out.mono ?_
        rintro e w2 ⟨rfl, rfl⟩
        go_wp2_with fail
        simp only [Exit.jump]
        exact bodyPost_end (results_none rfl _ _ _) rfl stop.out
  · intro H
    obtain ⟨k1, k2, k3⟩ := start.out
    replace k1 := Lib.hid k1
    go_wp2_with fail
    refine wp_label ?_
    go_step
    go_step
    refine H m.p.length _ _ ?_
    refine ⟨L, m, k3, rfl, ⟨rfl, rfl, ?_⟩, k1.out, k2, Same.refl _⟩
    intro p hp
    rw [List.mem_singleton] at hp
    subst hp
    rw [hnv.out]
    rfl
end
end Go.Proofs.Ytbfelfejelkdpaa
