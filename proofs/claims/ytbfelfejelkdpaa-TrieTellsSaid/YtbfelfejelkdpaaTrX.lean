/- Walks over a tree, in memory: reached. -/
import Derived.Test.YtbfelfejelkdpaaTrW
import Derived.Test.YtbfelfejelkdpaaEdit
namespace Go.Proofs.Ytbfelfejelkdpaa
open Go.RowKit
open Go.ChangeMaps (setBlock)
set_option linter.unusedVariables false
set_option linter.unusedSectionVars false
set_option linter.unusedSimpArgs false
set_option maxRecDepth 100000

theorem uPNodes : Try.prog.underlying 58 = some (.slice 41) := by kernel_rfl
theorem infPNode : (Try.prog.info? 41).map (fun i => (i.zero, i.size, i.bytes)) = some (some (.pointer none), 1, 8) := by kernel_rfl
theorem info_parts12 {T : TypeId} {v : Value} {a b : Nat} (h : (Try.prog.info? T).map (fun i => (i.zero, i.size, i.bytes)) = some (some v, a, b)) :
    ∃ i, Try.prog.info? T = some i ∧ i.zero = some v ∧ i.size = a ∧ i.bytes = b := by
  cases hi : Try.prog.info? T with
  | none => rw [hi] at h; cases h
  | some i =>
    rw [hi] at h
    simp only [Option.map_some, Option.some.injEq, Prod.mk.injEq] at h
    exact ⟨i, rfl, h.1, h.2.1, h.2.2⟩

section
variable {B : Nat} {w0 w : World} {F : List (Nat × Obj)} {L : List Nd} {tb c wb kb clk : Nat} {n m : Nd} {K K0 : Kn} {H A X : List Nd} {kes : List (Ent Nat)} {o0 o : Option Nd}
theorem ptr_ov (L : List Nd) (p : Wds) : ptrP L p = ov (nd L p) := by
  unfold ptrP ov
  cases nd L p <;> rfl
theorem perm_a {α : Type} (O SH SA F : List α) (x y : α) : (O ++ (x :: (y :: (SH ++ (SA ++ F))))).Perm ((O ++ (x :: (y :: (SH ++ F)))) ++ SA) := by
  classical
  exact List.perm_iff_count.2 fun a => by simp only [List.count_append, List.count_cons]; omega
theorem perm_h {α : Type} (O SH SA F : List α) (x y : α) : (O ++ (x :: (y :: (SH ++ (SA ++ F))))).Perm ((O ++ (x :: (y :: (SA ++ F)))) ++ SH) := by
  classical
  exact List.perm_iff_count.2 fun a => by simp only [List.count_append, List.count_cons]; omega
theorem perm_w {α : Type} (O R : List α) (x : α) : (O ++ (x :: R)).Perm (x :: (O ++ R)) := by
  classical
  exact List.perm_iff_count.2 fun a => by simp only [List.count_append, List.count_cons]; omega
/-- A node laid ahead. -/
theorem WkAt.push (h : WkAt B w0 w wb L H A K F) (hl : A.length ≤ 900000) (n : Nd) : ∃ a cap, w.cell? ⟨wb, 1, none⟩ = some (.slice a A.length cap) ∧
    ∃ a' cap' W2, (Builtin.append_ #[58, 58] 0 #[.slice a A.length cap, .slice (some ⟨w.heap.size, 0, none⟩) 1 1]).run Try.prog (w.alloc (.cells #[np n.b] 41)) = .ok (.slice a' (A.length + 1) cap') W2 ∧
      W2.cell? ⟨wb, 1, none⟩ = some (.slice a A.length cap) ∧ W2.frozen? ⟨wb, 1, none⟩ = false ∧ WkAt B w0 (W2.setCell ⟨wb, 1, none⟩ (.slice a' (A.length + 1) cap')) wb L H (A ++ [n]) K F := by
  obtain ⟨hv, av, SH, SA, kb, kes, clk, s1, s2, s3, hst⟩ := h
  obtain ⟨a, cap, rfl, -⟩ := s2.form
  obtain ⟨i0, hi0, hz0, hz1, hz2⟩ := info_parts12 infPNode
  have hrd := Reads.one w (np n.b) 41
  have hst1 := (hst.alloc (.cells #[np n.b] 41)).perm (((perm_a _ _ _ _ _ _).cons _).trans (List.Perm.of_eq (List.cons_append).symm))
  obtain ⟨v2, W2, F2, hr, hs2, hst2⟩ := run_append_sl (P := Try.prog) 58 0 41 i0 _ 1 8 uPNodes hi0 hz0 hz1 hz2 rfl s2 hst1 hrd
    (by intro u hu; rw [List.mem_singleton] at hu; subst hu; rfl) (by unfold maxLen; omega) (by omega)
  obtain ⟨a', cap', rfl, -⟩ := hs2.form
  have hst3 := (hst2.sub ((List.sublist_cons_self _ _).append (List.Sublist.refl _))).perm (perm_a _ _ _ _ _ _).symm
  refine ⟨a, cap, hst.cell (b := wb) (c := #[hv, .slice a A.length cap, .map (some kb)]) (T := 60) (fr := (0, 0)) (by simp) rfl, a', cap', W2, hr,
    hst3.cell (b := wb) (c := #[hv, .slice a A.length cap, .map (some kb)]) (T := 60) (fr := (0, 0)) (by simp) rfl, hst3.soft (b := wb) (c := #[hv, .slice a A.length cap, .map (some kb)]) (T := 60) (by simp) 1,
    hv, .slice a' (A.length + 1) cap', SH, F2, kb, kes, clk, s1, ?_, s3, ?_⟩
  · rw [List.length_append, List.length_singleton, List.map_append]
    exact hs2
  · exact ((hst3.perm (perm_w _ _ _)).set0 1 (.slice a' (A.length + 1) cap')).perm (perm_w _ _ _).symm
/-- Looked up: where a word leads. -/
theorem WkAt.kid (h : WkAt B w0 w wb L H A K F) (ht : TreeOk L tb c) (hn : n ∈ L) (v : List UInt8) : w.cell? ⟨n.b, 2, none⟩ = some (.map n.s.mv) ∧
    (Instr.lookup 42 (.map n.s.mv) (tx v) false).run Try.prog w = .ok (ov (nd L (n.p ++ [v]))) w := by
  obtain ⟨hv, av, SH, SA, kb, kes, clk, s1, s2, s3, hst⟩ := h
  refine ⟨hst.node hn rfl, ?_⟩
  rw [← ptr_ov]
  exact run_kid hst ht hn v
theorem WkAt.node (h : WkAt B w0 w wb L H A K F) (hn : n ∈ L) : w.cell? ⟨n.b, 0, none⟩ = some (upV n.u) ∧ w.cell? ⟨n.b, 1, none⟩ = some (tx (lastW n.p)) := by
  obtain ⟨hv, av, SH, SA, kb, kes, clk, s1, s2, s3, hst⟩ := h
  exact ⟨hst.node hn rfl, hst.node hn rfl⟩
theorem WkAt.known (h : WkAt B w0 w wb L H A K F) (hn : n ∈ L) : ∃ kb, w.cell? ⟨wb, 2, none⟩ = some (.map (some kb)) ∧ (Instr.lookup 57 (.map (some kb)) (np n.b) false).run Try.prog w = .ok (.int .i64 (K n.p)) w := by
  obtain ⟨hv, av, SH, SA, kb, kes, clk, s1, s2, s3, hst⟩ := h
  exact ⟨kb, hst.cell (b := wb) (c := #[hv, av, .map (some kb)]) (T := 60) (fr := (0, 0)) (by simp) rfl, s3.look hst hn (hst.get (b := kb) (o := .map (entsE np kes) clk) (by simp))⟩
theorem WkAt.know (h : WkAt B w0 w wb L H A K F) (ht : TreeOk L tb c) (hn : n ∈ L) (v : Nat) : ∃ kb W, w.cell? ⟨wb, 2, none⟩ = some (.map (some kb)) ∧ (Instr.mapUpdate 57 (.map (some kb)) (np n.b) (.int .i64 v)).run Try.prog w = .ok () W ∧
    (Instr.lookup 57 (.map (some kb)) (np n.b) false).run Try.prog w = .ok (.int .i64 (K n.p)) w ∧ WkAt B w0 W wb L H A (K.set n.p v) F := by
  obtain ⟨hv, av, SH, SA, kb, kes, clk, s1, s2, s3, hst⟩ := h
  have hg := hst.get (b := kb) (o := .map (entsE np kes) clk) (by simp)
  obtain ⟨kes', clk', hmu, hkn⟩ := s3.put ht hst hn hg v
  exact ⟨kb, _, hst.cell (b := wb) (c := #[hv, av, .map (some kb)]) (T := 60) (fr := (0, 0)) (by simp) rfl, hmu, s3.look hst hn hg, hv, av, SH, SA, kb, kes', clk', s1, s2, hkn, WkAt.turn s1 s2 hst hkn⟩

theorem last_hash {p : Wds} (h : lastW p = [35]) : ∃ q, p = q ++ [[35]] := by
  rcases List.eq_nil_or_concat p with rfl | ⟨q, v, rfl⟩
  · cases h
  · rw [List.concat_eq_append] at h ⊢
    rw [lastW_snoc] at h
    exact ⟨q, by rw [h]⟩

/-- What reach leaves; what it knows at its label. -/
def ReachR (B : Nat) (w0 : World) (wb : Nat) (L H A : List Nd) (K0 : Kn) (o0 : Option Nd) (F : List (Nat × Obj)) (e : Ending) (w' : World) : Prop :=
  e = .returned (.tuple #[]) ∧ ∃ K X o, ReachOk L K0 A o0 K X o ∧ Stop K o ∧ WkAt B w0 w' wb L H (A ++ X) K F
def ReachAt (B : Nat) (w0 : World) (wb : Nat) (L H A : List Nd) (K0 : Kn) (o0 : Option Nd) (F : List (Nat × Obj)) (g : Nat) (a' : Act) (w' : World) : Prop :=
  ∃ K X o, L.length + 1 - (A ++ X).length = g ∧ ReachOk L K0 A o0 K X o ∧ WkAt B w0 w' wb L H (A ++ X) K F ∧ Fr 47 [(0, np wb), (1, ov o)] a'
/-- What is known where a node is laid ahead. -/
def Told (L : List Nd) (K K' : Kn) (n : Nd) : Prop :=
  KOk L K' ∧ (∀ q, K' q = K q ∨ K' q = 2 ∨ q = n.p) ∧ (∀ p, n.p = p ++ [[35]] → K' n.p ≠ 0) ∧ ((∀ p, n.p ≠ p ++ [[35]]) → K' n.p = K n.p ∨ K' n.p = 2)

set_option maxHeartbeats 1000000 in
theorem reach_any (h : WkAt B w0 w wb L H A K0 F) (ht : TreeOk L tb c) (hc : c ≤ 800000) (hR : ReachOk L K0 A o0 K0 [] o0) :
    Calls Try.prog 31 #[np wb, ov o0] w (ReachR B w0 wb L H A K0 o0 F) := by
  have start : Hid (∀ a', Fr 47 [(0, np wb), (1, ov o0)] a' → ReachAt B w0 wb L H A K0 o0 F (L.length + 1 - (A ++ []).length) a' w) := Lib.hid fun a' ha => ⟨K0, [], o0, rfl, hR, by rw [List.append_nil]; exact h, ha⟩
  replace ht := Lib.hid ht
  clear h hR
  generalize ov o0 = nv at *
  go_enter Try.func31, Try.ntmps31
  go_wp2_with fail
  refine wp_scope_ghost 0 (ReachAt B w0 wb L H A K0 o0 F) rfl ?_ ?_
  · clear start
    rintro g a' w' ⟨K, X, o, hg, hR, hw, hfr⟩
    obtain ⟨f, rfl, hl'⟩ := hfr.lit
    clear hfr
    simp only [List.mem_cons, List.not_mem_nil, or_false, forall_eq_or_imp, forall_eq] at hl'
    obtain ⟨f0, f1⟩ := hl'
    simp only [List.range, List.range.loop, List.map, f0, f1]
    clear f0 f1
    cases o with
    | none =>
      have stop : Hid (ReachR B w0 wb L H A K0 o0 F (.returned (.tuple #[])) w') := Lib.hid ⟨rfl, K, X, none, hR, (fun y hy => by cases hy), hw⟩
      have e1 : ov none = .pointer none := rfl
      rw [e1]
      clear hR hw ht
      go_wp2_with fail
      simp only [Exit.jump]
      exact bodyPost_end (results_none rfl _ _ _) rfl stop.out
    | some n =>
      have e1 : ov (some n) = np n.b := rfl
      rw [e1]
      have hn := (hR.next n rfl).1
      obtain ⟨kb, W1, cw, hmu, hlk, hW1⟩ := hw.know ht.out hn 1
      have hmu : (Instr.mapUpdate 57 (.map (some kb)) (np n.b) (.int .i64 1)).run Try.prog w' = .ok () W1 := hmu
      by_cases hz : K n.p = 0
      · have hlen : (A ++ X).length + 1 ≤ L.length := by
          have h1 : (A ++ X ++ [n]).Nodup := by
            rw [List.nodup_append]
            exact ⟨hR.nodup, by simp, by rintro a ha b hb rfl; rw [List.mem_singleton] at hb; subst hb; exact (hR.next a rfl).2.1 hz ha⟩
          have := nodup_len h1 (m := L) (fun y hy => by
            rcases List.mem_append.1 hy with hy | hy
            · exact hR.mem y hy
            · rw [List.mem_singleton] at hy; subst hy; exact hn)
          rw [List.length_append, List.length_singleton] at this
          exact this
        have hfew := ht.out.few
        rw [hz] at hlk
        obtain ⟨c0, c1⟩ := hw.node hn
        obtain ⟨d0, -⟩ := hW1.node hn
        replace hR := Lib.hid hR
        have hAX : (A ++ X).length ≤ 900000 := by omega
        go_upto_if 19 with fail
        go_cut [] (fun wy => ∃ K', Hid (Told L K K' n) ∧ Hid (WkAt B w0 wy wb L H (A ++ X) K' F))
        case first =>
          cases hbb : (lastW n.p == [35]) with
          | true =>
            have hh : lastW n.p = [35] := by simpa using hbb
            obtain ⟨p, hp⟩ := last_hash hh
            obtain ⟨q, hq, hu⟩ : ∃ q ∈ L, n.p = q.p ++ [[35]] ∧ upV n.u = np q.b := by
              rcases ht.out.up hn with ⟨e, _⟩ | ⟨q, hq, v, e, e2⟩
              · rw [e] at hp; simp at hp
              · have e3 := e
                rw [hp] at e3
                obtain ⟨-, rfl⟩ := snoc_inj e3
                exact ⟨q, hq, e, e2⟩
            obtain ⟨hnq, hu⟩ := hu
            rw [hu] at d0
            have hk1 := hR.out.ok.reach ht.out hn hp
            have cp := pass_any hW1 ht.out (by omega) hk1 (o := some q) (fun q' hq' => by cases hq'; exact ⟨hq, n, hn, _, hnq, by rw [Kn.set_same]; decide⟩)
            have e2 : ov (some q) = np q.b := rfl
            rw [e2] at cp
            replace cp := Lib.hid cp
            have fin : Hid (∀ w2 K2, KOk L K2 → PassK (K.set n.p 1) K2 → WkAt B w0 w2 wb L H (A ++ X) K2 F → ∃ K', Hid (Told L K K' n) ∧ Hid (WkAt B w0 w2 wb L H (A ++ X) K' F)) := Lib.hid fun w2 K2 g1 g2 g3 => by
              refine ⟨K2, Lib.hid ⟨g1, fun q => ?_, fun _ _ => g2.up (by rw [Kn.set_same]; decide), fun hno => absurd hp (hno p)⟩, Lib.hid g3⟩
              by_cases e : q = n.p
              · exact .inr (.inr e)
              · rcases g2 q with g | g
                · rw [Kn.set_ne _ _ e] at g
                  exact .inl g
                · exact .inr (.inl g)
            clear hW1 hw hR hk1 hnq hu hq hp hlen hfew hh hbb c1
            go_wp2_with fail
            refine cp.out.mono ?_
            rintro e w2 ⟨rfl, K2, g1, g2, g3⟩
            have fin := Lib.hid (fin.out w2 K2 g1 g2 g3)
            clear g1 g2 g3 cp
            go_wp2_with fail
            go_meet
            case rel => exact fin.out
          | false =>
            have hh : ¬ lastW n.p = [35] := by simpa using hbb
            have fin : Hid (∃ K', Hid (Told L K K' n) ∧ Hid (WkAt B w0 w' wb L H (A ++ X) K' F)) := Lib.hid ⟨K, Lib.hid ⟨hR.out.ok, fun q => .inl rfl, fun p hp => absurd (by rw [hp, lastW_snoc]) hh, fun _ => .inl rfl⟩, Lib.hid hw⟩
            clear hW1 hw hR hlen hfew d0 hmu hh hbb c1
            go_wp2_with fail
            go_meet
            case rel => exact fin.out
        case rest =>
          obtain ⟨K', ⟨t1, t2, t3, t4⟩, hw2⟩ := hcut
          have hR2 := hR.out.step ht.out hz t1 t2 t3 t4
          obtain ⟨a, cap, k0, a', cap', W2, hrun, k1, k2, hw3⟩ := hw2.out.push (by omega) n
          obtain ⟨k3, k4⟩ := hw3.kid ht.out hn [35]
          have fin : Hid (∀ a2, Fr 47 [(0, np wb), (1, ov (nd L (n.p ++ [[35]])))] a2 → ∃ m, m < g ∧ ReachAt B w0 wb L H A K0 o0 F m a2 (W2.setCell ⟨wb, 1, none⟩ (.slice a' ((A ++ X).length + 1) cap'))) := Lib.hid fun a2 ha => by
            have e3 : A ++ (X ++ [n]) = (A ++ X) ++ [n] := by simp
            refine ⟨_, ?_, K', X ++ [n], _, rfl, hR2, by rw [e3]; exact hw3, ha⟩
            rw [e3, List.length_append, List.length_singleton, ← hg]
            omega
          generalize ov (nd L (n.p ++ [[35]])) = nx at *
          generalize (A ++ X).length = ln at *
          clear hw3 hw2 hR2 hR t1 t2 t3 t4 hw hW1 hmu hlk c0 c1 d0 ht hn hz hg hlen hfew
          go_wp2_with (at_builtin; refine wpList_append_go rfl (.tmp 35) (.tmp 37) 58 58 rfl _ _ rfl rfl hrun ?_)
          refine wp_goto ?_
          exact ⟨rfl, fin.out _ ⟨rfl, rfl, by simp⟩⟩
      · have stop : Hid (ReachR B w0 wb L H A K0 o0 F (.returned (.tuple #[])) w') := Lib.hid ⟨rfl, K, X, some n, hR, (fun y hy => by cases hy; exact hz), hw⟩
        have hzB : ((K n.p : Int) == 0) = false := by
          rw [beq_eq_false_iff_ne]
          omega
        generalize K n.p = kk at *
        clear hR hw ht hW1 hmu hz
        go_wp2_with fail
        simp only [Exit.jump]
        exact bodyPost_end (results_none rfl _ _ _) rfl stop.out
  · intro H1
    go_wp2_with fail
    refine wp_label ?_
    go_step
    go_step
    refine H1 _ _ _ (start.out _ ?_)
    exact ⟨rfl, rfl, by simp⟩
end
end Go.Proofs.Ytbfelfejelkdpaa
