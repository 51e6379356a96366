import Derived.Test.YtknjamfjonapiaaGreatDoorZ13
import Derived.Test.YtknjamfjonapiaaGreatDoorZ05
import Derived.RegionTactic
namespace Go.Proofs.YtknjamfjonapiaaGreatDoor
open Go.RowKit
set_option linter.unusedVariables false
set_option linter.unusedSectionVars false
set_option linter.unusedSimpArgs false
set_option maxRecDepth 100000
section
open Go.ChangeMaps (setBlock)
theorem uPNodes : Tryz.prog.underlying 344 = some (.slice 310) := by kernel_rfl
theorem infPNode : (Tryz.prog.info? 310).map (fun i => (i.zero, i.size, i.bytes)) = some (some (.pointer none), 1, 8) := by kernel_rfl
theorem info_parts12 {T : TypeId} {v : Value} {a b : Nat} (h : (Tryz.prog.info? T).map (fun i => (i.zero, i.size, i.bytes)) = some (some v, a, b)) :
  ∃ i, Tryz.prog.info? T = some i ∧ i.zero = some v ∧ i.size = a ∧ i.bytes = b := by
 cases hi : Tryz.prog.info? T with
 | none => rw [hi] at h; cases h
 | some i =>
  rw [hi] at h
  simp only [Option.map_some, Option.some.injEq, Prod.mk.injEq] at h
  exact ⟨i, rfl, h.1, h.2.1, h.2.2⟩
section
variable {B : Nat} {w0 w : World} {F : List (Nat × Obj)} {L : List Nd} {tb c wb kb clk : Nat} {n m : Nd} {K K0 : Kn} {H A X : List Nd} {kes : List (MapRow Nat)} {o0 o : Option Nd}
theorem ptr_ov (L : List Nd) (p : Wds) : ptrP L p = ov (nd L p) := by
 unfold ptrP ov
 cases nd L p <;> rfl
theorem trPerm_a {α : Type} (O SH SA F : List α) (x y : α) : (O ++ (x :: (y :: (SH ++ (SA ++ F))))).Perm ((O ++ (x :: (y :: (SH ++ F)))) ++ SA) := by
 classical
 exact List.perm_iff_count.2 fun a => by simp only [List.count_append, List.count_cons]; omega
theorem perm_h {α : Type} (O SH SA F : List α) (x y : α) : (O ++ (x :: (y :: (SH ++ (SA ++ F))))).Perm ((O ++ (x :: (y :: (SA ++ F)))) ++ SH) := by
 classical
 exact List.perm_iff_count.2 fun a => by simp only [List.count_append, List.count_cons]; omega
theorem perm_w {α : Type} (O R : List α) (x : α) : (O ++ (x :: R)).Perm (x :: (O ++ R)) := by
 classical
 exact List.perm_iff_count.2 fun a => by simp only [List.count_append, List.count_cons]; omega
theorem WkAt.push (h : WkAt B w0 w wb L H A K F) (hl : A.length ≤ 900000) (n : Nd) : ∃ a cap, w.cell? ⟨wb, 1, none⟩ = some (.slice a A.length cap) ∧
  ∃ a' cap' W2, (Builtin.append_ #[344, 344] 0 #[.slice a A.length cap, .slice (some ⟨w.heap.size, 0, none⟩) 1 1]).run Tryz.prog (w.alloc (.cells #[np n.b] 310)) = .ok (.slice a' (A.length + 1) cap') W2 ∧
   W2.cell? ⟨wb, 1, none⟩ = some (.slice a A.length cap) ∧ W2.frozen? ⟨wb, 1, none⟩ = false ∧ WkAt B w0 (W2.setCell ⟨wb, 1, none⟩ (.slice a' (A.length + 1) cap')) wb L H (A ++ [n]) K F := by
 obtain ⟨hv, av, SH, SA, kb, kes, clk, s1, s2, s3, hst⟩ := h
 obtain ⟨a, cap, rfl, -⟩ := s2.form
 obtain ⟨i0, hi0, hz0, hz1, hz2⟩ := info_parts12 infPNode
 have hrd := Reads.one w (np n.b) 310
 have hst1 := (hst.alloc (.cells #[np n.b] 310)).perm (((trPerm_a _ _ _ _ _ _).cons _).trans (List.Perm.of_eq (List.cons_append).symm))
 obtain ⟨v2, W2, F2, hr, hs2, hst2⟩ := run_append_sl (P := Tryz.prog) 344 0 310 i0 _ 1 8 uPNodes hi0 hz0 hz1 hz2 rfl s2 hst1 hrd
  (by intro u hu; rw [List.mem_singleton] at hu; subst hu; rfl) (by unfold maxLen; omega) (by omega)
 obtain ⟨a', cap', rfl, -⟩ := hs2.form
 have hst3 := (hst2.sub ((List.sublist_cons_self _ _).append (List.Sublist.refl _))).perm (trPerm_a _ _ _ _ _ _).symm
 refine ⟨a, cap, hst.cell (b := wb) (c := #[hv, .slice a A.length cap, .map (some kb)]) (T := 346) (fr := (0, 0)) (by simp) rfl, a', cap', W2, hr,
  hst3.cell (b := wb) (c := #[hv, .slice a A.length cap, .map (some kb)]) (T := 346) (fr := (0, 0)) (by simp) rfl, hst3.soft (b := wb) (c := #[hv, .slice a A.length cap, .map (some kb)]) (T := 346) (by simp) 1,
  hv, .slice a' (A.length + 1) cap', SH, F2, kb, kes, clk, s1, ?_, s3, ?_⟩
 ·rw [List.length_append, List.length_singleton, List.map_append]
  exact hs2
 ·exact ((hst3.perm (perm_w _ _ _)).set0 1 (.slice a' (A.length + 1) cap')).perm (perm_w _ _ _).symm
theorem WkAt.kid (h : WkAt B w0 w wb L H A K F) (ht : TreeOk L tb c) (hn : n ∈ L) (v : List UInt8) : w.cell? ⟨n.b, 2, none⟩ = some (.map n.s.mv) ∧
  (Instr.lookup 311 (.map n.s.mv) (tx v) false).run Tryz.prog w = .ok (ov (nd L (n.p ++ [v]))) w := by
 obtain ⟨hv, av, SH, SA, kb, kes, clk, s1, s2, s3, hst⟩ := h
 refine ⟨hst.node hn rfl, ?_⟩
 rw [← ptr_ov]
 exact run_kid hst ht hn v
theorem WkAt.node (h : WkAt B w0 w wb L H A K F) (hn : n ∈ L) : w.cell? ⟨n.b, 0, none⟩ = some (upV n.u) ∧ w.cell? ⟨n.b, 1, none⟩ = some (tx (lastW n.p)) := by
 obtain ⟨hv, av, SH, SA, kb, kes, clk, s1, s2, s3, hst⟩ := h
 exact ⟨hst.node hn rfl, hst.node hn rfl⟩
theorem WkAt.known (h : WkAt B w0 w wb L H A K F) (hn : n ∈ L) : ∃ kb, w.cell? ⟨wb, 2, none⟩ = some (.map (some kb)) ∧ (Instr.lookup 343 (.map (some kb)) (np n.b) false).run Tryz.prog w = .ok (.int .i64 (K n.p)) w := by
 obtain ⟨hv, av, SH, SA, kb, kes, clk, s1, s2, s3, hst⟩ := h
 exact ⟨kb, hst.cell (b := wb) (c := #[hv, av, .map (some kb)]) (T := 346) (fr := (0, 0)) (by simp) rfl, s3.look hst hn (hst.get (b := kb) (o := .map (entsE np kes) clk) (by simp))⟩
theorem WkAt.know (h : WkAt B w0 w wb L H A K F) (ht : TreeOk L tb c) (hn : n ∈ L) (v : Nat) : ∃ kb W, w.cell? ⟨wb, 2, none⟩ = some (.map (some kb)) ∧ (Instr.mapUpdate 343 (.map (some kb)) (np n.b) (.int .i64 v)).run Tryz.prog w = .ok () W ∧
  (Instr.lookup 343 (.map (some kb)) (np n.b) false).run Tryz.prog w = .ok (.int .i64 (K n.p)) w ∧ WkAt B w0 W wb L H A (K.set n.p v) F := by
 obtain ⟨hv, av, SH, SA, kb, kes, clk, s1, s2, s3, hst⟩ := h
 have hg := hst.get (b := kb) (o := .map (entsE np kes) clk) (by simp)
 obtain ⟨kes', clk', hmu, hkn⟩ := s3.put ht hst hn hg v
 exact ⟨kb, _, hst.cell (b := wb) (c := #[hv, av, .map (some kb)]) (T := 346) (fr := (0, 0)) (by simp) rfl, hmu, s3.look hst hn hg, hv, av, SH, SA, kb, kes', clk', s1, s2, hkn, WkAt.turn s1 s2 hst hkn⟩
theorem last_hash {p : Wds} (h : lastW p = [35]) : ∃ q, p = q ++ [[35]] := by
 rcases List.eq_nil_or_concat p with rfl | ⟨q, v, rfl⟩
 ·cases h
 ·rw [List.concat_eq_append] at h ⊢
  rw [lastW_snoc] at h
  exact ⟨q, by rw [h]⟩
def ReachR (B : Nat) (w0 : World) (wb : Nat) (L H A : List Nd) (K0 : Kn) (o0 : Option Nd) (F : List (Nat × Obj)) (e : Ending) (w' : World) : Prop :=
 e = .returned (.tuple #[]) ∧ ∃ K X o, ReachOk L K0 A o0 K X o ∧ Stop K o ∧ WkAt B w0 w' wb L H (A ++ X) K F
def ReachAt (B : Nat) (w0 : World) (wb : Nat) (L H A : List Nd) (K0 : Kn) (o0 : Option Nd) (F : List (Nat × Obj)) (g : Nat) (a' : Act) (w' : World) : Prop :=
 ∃ K X o, L.length + 1 - (A ++ X).length = g ∧ ReachOk L K0 A o0 K X o ∧ WkAt B w0 w' wb L H (A ++ X) K F ∧ Fr 47 [(0, np wb), (1, ov o)] a'
def Told (L : List Nd) (K K' : Kn) (n : Nd) : Prop :=
 KOk L K' ∧ (∀ q, K' q = K q ∨ K' q = 2 ∨ q = n.p) ∧ (∀ p, n.p = p ++ [[35]] → K' n.p ≠ 0) ∧ ((∀ p, n.p ≠ p ++ [[35]]) → K' n.p = K n.p ∨ K' n.p = 2)
set_option maxHeartbeats 1000000 in
theorem reach_any (h : WkAt B w0 w wb L H A K0 F) (ht : TreeOk L tb c) (hc : c ≤ 800000) (hR : ReachOk L K0 A o0 K0 [] o0) :
  Calls Tryz.prog 295 #[np wb, ov o0] w (ReachR B w0 wb L H A K0 o0 F) := by
 have start : Hid (∀ a', Fr 47 [(0, np wb), (1, ov o0)] a' → ReachAt B w0 wb L H A K0 o0 F (L.length + 1 - (A ++ []).length) a' w) := Lib.hid fun a' ha => ⟨K0, [], o0, rfl, hR, by rw [List.append_nil]; exact h, ha⟩
 replace ht := Lib.hid ht
 clear h hR
 generalize ov o0 = nv at *
 go_enter Tryz.func295, Tryz.ntmps295
 go_wp2_with fail
 refine wp_scope_ghost 0 (ReachAt B w0 wb L H A K0 o0 F) rfl ?_ ?_
 ·clear start
  rintro g a' w' ⟨K, X, o, hg, hR, hw, hfr⟩
  obtain ⟨f, rfl, hl'⟩ := hfr.lit
  clear hfr
  simp only [List.mem_cons, List.not_mem_nil, or_false, forall_eq_or_imp, forall_eq] at hl'
  obtain ⟨f0, f1⟩ := hl'
  simp only [List.range, List.range.loop, List.map, f0, f1]
  clear f0 f1
  cases o with
  | none =>
   have stop : Hid (ReachR B w0 wb L H A K0 o0 F (.returned (.tuple #[])) w') := Lib.hid ⟨rfl, K, X, none, hR, (fun y hy => by cases hy), hw⟩
   have e1 : ov none = .pointer none := rfl
   rw [e1]
   clear hR hw ht
   go_wp2_with fail
   simp only [Exit.jump]
   exact bodyPost_end (results_none rfl _ _ _) rfl stop.out
  | some n =>
   have e1 : ov (some n) = np n.b := rfl
   rw [e1]
   have hn := (hR.next n rfl).1
   obtain ⟨kb, W1, cw, hmu, hlk, hW1⟩ := hw.know ht.out hn 1
   have hmu : (Instr.mapUpdate 343 (.map (some kb)) (np n.b) (.int .i64 1)).run Tryz.prog w' = .ok () W1 := hmu
   by_cases hz : K n.p = 0
   ·have hlen : (A ++ X).length + 1 ≤ L.length := by
     have h1 : (A ++ X ++ [n]).Nodup := by
      rw [List.nodup_append]
      exact ⟨hR.nodup, by simp, by rintro a ha b hb rfl; rw [List.mem_singleton] at hb; subst hb; exact (hR.next a rfl).2.1 hz ha⟩
     have := nodup_len h1 (m := L) (fun y hy => by
      rcases List.mem_append.1 hy with hy | hy
      ·exact hR.mem y hy
      ·rw [List.mem_singleton] at hy; subst hy; exact hn)
     rw [List.length_append, List.length_singleton] at this
     exact this
    have hfew := ht.out.few
    rw [hz] at hlk
    obtain ⟨c0, c1⟩ := hw.node hn
    obtain ⟨d0, -⟩ := hW1.node hn
    replace hR := Lib.hid hR
    have hAX : (A ++ X).length ≤ 900000 := by omega
    go_upto_if 19 with fail
    go_cut [] (fun wy => ∃ K', Hid (Told L K K' n) ∧ Hid (WkAt B w0 wy wb L H (A ++ X) K' F))
    case first =>
     cases hbb : (lastW n.p == [35]) with
     | true =>
      have hh : lastW n.p = [35] := by simpa using hbb
      obtain ⟨p, hp⟩ := last_hash hh
      obtain ⟨q, hq, hu⟩ : ∃ q ∈ L, n.p = q.p ++ [[35]] ∧ upV n.u = np q.b := by
       rcases ht.out.up hn with ⟨e, _⟩ | ⟨q, hq, v, e, e2⟩
       ·rw [e] at hp; simp at hp
       ·have e3 := e
        rw [hp] at e3
        obtain ⟨-, rfl⟩ := snoc_inj e3
        exact ⟨q, hq, e, e2⟩
      obtain ⟨hnq, hu⟩ := hu
      rw [hu] at d0
      have hk1 := hR.out.ok.reach ht.out hn hp
      have cp := pass_any hW1 ht.out (by omega) hk1 (o := some q) (fun q' hq' => by cases hq'; exact ⟨hq, n, hn, _, hnq, by rw [Kn.set_same]; decide⟩)
      have e2 : ov (some q) = np q.b := rfl
      rw [e2] at cp
      replace cp := Lib.hid cp
      have fin : Hid (∀ w2 K2, KOk L K2 → PassK (K.set n.p 1) K2 → WkAt B w0 w2 wb L H (A ++ X) K2 F → ∃ K', Hid (Told L K K' n) ∧ Hid (WkAt B w0 w2 wb L H (A ++ X) K' F)) := Lib.hid fun w2 K2 g1 g2 g3 => by
       refine ⟨K2, Lib.hid ⟨g1, fun q => ?_, fun _ _ => g2.up (by rw [Kn.set_same]; decide), fun hno => absurd hp (hno p)⟩, Lib.hid g3⟩
       by_cases e : q = n.p
       ·exact .inr (.inr e)
       ·rcases g2 q with g | g
        ·rw [Kn.set_ne _ _ e] at g
         exact .inl g
        ·exact .inr (.inl g)
      clear hW1 hw hR hk1 hnq hu hq hp hlen hfew hh hbb c1
      go_wp2_with fail
      refine cp.out.mono ?_
      rintro e w2 ⟨rfl, K2, g1, g2, g3⟩
      have fin := Lib.hid (fin.out w2 K2 g1 g2 g3)
      clear g1 g2 g3 cp
      go_wp2_with fail
      go_meet
      case rel => exact fin.out
     | false =>
      have hh : ¬ lastW n.p = [35] := by simpa using hbb
      have fin : Hid (∃ K', Hid (Told L K K' n) ∧ Hid (WkAt B w0 w' wb L H (A ++ X) K' F)) := Lib.hid ⟨K, Lib.hid ⟨hR.out.ok, fun q => .inl rfl, fun p hp => absurd (by rw [hp, lastW_snoc]) hh, fun _ => .inl rfl⟩, Lib.hid hw⟩
      clear hW1 hw hR hlen hfew d0 hmu hh hbb c1
      go_wp2_with fail
      go_meet
      case rel => exact fin.out
    case rest =>
     obtain ⟨K', ⟨t1, t2, t3, t4⟩, hw2⟩ := hcut
     have hR2 := hR.out.step ht.out hz t1 t2 t3 t4
     obtain ⟨a, cap, k0, a', cap', W2, hrun, k1, k2, hw3⟩ := hw2.out.push (by omega) n
     obtain ⟨k3, k4⟩ := hw3.kid ht.out hn [35]
     have fin : Hid (∀ a2, Fr 47 [(0, np wb), (1, ov (nd L (n.p ++ [[35]])))] a2 → ∃ m, m < g ∧ ReachAt B w0 wb L H A K0 o0 F m a2 (W2.setCell ⟨wb, 1, none⟩ (.slice a' ((A ++ X).length + 1) cap'))) := Lib.hid fun a2 ha => by
      have e3 : A ++ (X ++ [n]) = (A ++ X) ++ [n] := by simp
      refine ⟨_, ?_, K', X ++ [n], _, rfl, hR2, by rw [e3]; exact hw3, ha⟩
      rw [e3, List.length_append, List.length_singleton, ← hg]
      omega
     generalize ov (nd L (n.p ++ [[35]])) = nx at *
     generalize (A ++ X).length = ln at *
     clear hw3 hw2 hR2 hR t1 t2 t3 t4 hw hW1 hmu hlk c0 c1 d0 ht hn hz hg hlen hfew
     go_wp2_with (at_builtin; refine wpList_append_go rfl (.tmp 35) (.tmp 37) 344 344 rfl _ _ rfl rfl hrun ?_)
     refine wp_goto ?_
     exact ⟨rfl, fin.out _ ⟨rfl, rfl, by simp⟩⟩
   ·have stop : Hid (ReachR B w0 wb L H A K0 o0 F (.returned (.tuple #[])) w') := Lib.hid ⟨rfl, K, X, some n, hR, (fun y hy => by cases hy; exact hz), hw⟩
    have hzB : ((K n.p : Int) == 0) = false := by
     rw [beq_eq_false_iff_ne]
     omega
    generalize K n.p = kk at *
    clear hR hw ht hW1 hmu hz
    go_wp2_with fail
    simp only [Exit.jump]
    exact bodyPost_end (results_none rfl _ _ _) rfl stop.out
 ·intro H1
  go_wp2_with fail
  refine wp_label ?_
  go_step
  go_step
  refine H1 _ _ _ (start.out _ ?_)
  exact ⟨rfl, rfl, by simp⟩
end
end
section
open Go.ChangeMaps (setBlock)
section
variable {B : Nat} {w0 w : World} {F : List (Nat × Obj)} {L : List Nd} {tb c wb kb clk : Nat} {n m : Nd} {K K0 : Kn} {H A X : List Nd} {kes : List (MapRow Nat)} {o0 o : Option Nd}
theorem SlIs.none0 {T : TypeId} {n : Nat} {xs : List Value} {S : List (Nat × Obj)} {a : Option Addr} {cap : Nat} (h : SlIs T 1 (.slice a n cap) n xs S) : SlIs T 1 (.slice a 0 cap) 0 [] S := by
 have := h.piece 0 0 (Nat.le_refl _) (Nat.zero_le _) rfl
 have e : (if cap = 0 then a else a.map (·.add (0 * 1))) = a := by
  split
  ·rfl
  ·cases a with
   | none => rfl
   | some ad => simp [Addr.add]
 rw [e] at this
 simpa using this
theorem perm_s {α : Type} (O SH SA F : List α) (x y : α) : (O ++ (x :: (y :: (SH ++ (SA ++ F))))).Perm (O ++ (x :: (y :: (SA ++ (SH ++ F))))) := by
 classical
 exact List.perm_iff_count.2 fun a => by simp only [List.count_append, List.count_cons]; omega
set_option maxHeartbeats 1000000 in
theorem step_any (h : WkAt B w0 w wb L H A K F) : Calls Tryz.prog 296 #[np wb] w fun e w' => e = .returned (.tuple #[]) ∧ WkAt B w0 w' wb L A [] K F := by
 obtain ⟨hv, av, SH, SA, kb, kes, clk, s1, s2, s3, hst⟩ := h
 obtain ⟨a1, cap1, rfl, -⟩ := s1.form
 obtain ⟨a2, cap2, rfl, -⟩ := s2.form
 have c0 := hst.cell (b := wb) (c := #[.slice a1 H.length cap1, .slice a2 A.length cap2, .map (some kb)]) (T := 346) (fr := (0, 0)) (by simp) (i := 0) rfl
 have c1 := hst.cell (b := wb) (c := #[.slice a1 H.length cap1, .slice a2 A.length cap2, .map (some kb)]) (T := 346) (fr := (0, 0)) (by simp) (i := 1) rfl
 have f0 := hst.soft (b := wb) (c := #[.slice a1 H.length cap1, .slice a2 A.length cap2, .map (some kb)]) (T := 346) (by simp) 0
 have f1 := hst.soft (b := wb) (c := #[.slice a1 H.length cap1, .slice a2 A.length cap2, .map (some kb)]) (T := 346) (by simp) 1
 have fin : Hid (WkAt B w0 ((w.drew.setCell ⟨wb, 0, none⟩ (.slice a2 A.length cap2)).setCell ⟨wb, 1, none⟩ (.slice a1 0 cap1)) wb L A [] K F) := Lib.hid ⟨_, _, SA, SH, kb, kes, clk, s2, s1.none0, s3,
  ((((hst.drew.perm (perm_w _ _ _)).set0 0 (.slice a2 A.length cap2)).set0 1 (.slice a1 0 cap1)).perm (perm_w _ _ _).symm).perm (perm_s _ _ _ _ _ _)⟩
 clear hst s1 s2 s3
 go_enter Tryz.func296, Tryz.ntmps296
 go_wp2_with fail
 go_region
 exact bodyPost_end (results_none rfl _ _ _) rfl ⟨rfl, fin.out⟩
theorem WkAt.hereAt (h : WkAt B w0 w wb L H A K F) : ∃ a cap, w.cell? ⟨wb, 0, none⟩ = some (.slice a H.length cap) ∧ ∀ (j : Nat) n, H[j]? = some n → ∃ g off, a = some ⟨g, off, none⟩ ∧ w.cell? ⟨g, off + j, none⟩ = some (np n.b) := by
 obtain ⟨hv, av, SH, SA, kb, kes, clk, s1, s2, s3, hst⟩ := h
 obtain ⟨a, cap, rfl, -, -, ha⟩ := s1.form
 refine ⟨a, cap, hst.cell (b := wb) (c := #[.slice a H.length cap, av, .map (some kb)]) (T := 346) (fr := (0, 0)) (by simp) rfl, fun j n hn => ?_⟩
 have hj := (List.getElem?_eq_some_iff.1 hn).1
 obtain ⟨g, off, rfl⟩ := ha j hj
 exact ⟨g, off, rfl, s1.cellAt (hst.perm (perm_h _ _ _ _ _ _)) (by simp [hn])⟩
section
variable {ks : Wds} {x : List UInt8} {stays stays' : Nd → Prop} {led led' : Nd → List UInt8 → Prop}
theorem Taking.iff (h : Taking L ks x K0 H stays led K A) (h1 : ∀ n ∈ H, (stays' n ↔ stays n)) (h2 : ∀ n ∈ H, ∀ v, (led' n v ↔ led n v)) : Taking L ks x K0 H stays' led' K A :=
 ⟨h.here, h.ok, h.nodup, h.mem, h.sound, h.hash, h.kids, h.turn, fun n hn hs hk => h.stay n hn ((h1 n hn).1 hs) hk, fun n hn v hv => h.lead n hn v ((h2 n hn v).1 hv),
  fun y hy hno => by
   obtain ⟨n, hn, v, e1, e2⟩ := h.from_ y hy hno
   exact ⟨n, hn, v, e1, (h2 n hn v).2 e2⟩,
  fun y hy hyH p e => (h1 y hyH).2 (h.back y hy hyH p e)⟩
def Upto (H : List Nd) (at_ : Nat) (n : Nd) : Prop := ∃ j, j < at_ ∧ H[j]? = some n
def Led (H : List Nd) (x : List UInt8) (at_ : Nat) (n : Nd) (v : List UInt8) : Prop := Upto H at_ n ∧ (v = x ∨ v = [42])
theorem Upto.succ {at_ : Nat} (hn : H[at_]? = some n) (m : Nd) : Upto H (at_ + 1) m ↔ Upto H at_ m ∨ m = n := by
 constructor
 ·rintro ⟨j, hj, e⟩
  by_cases h : j < at_
  ·exact .inl ⟨j, h, e⟩
  ·obtain rfl : j = at_ := by omega
   rw [hn] at e
   exact .inr (Option.some.inj e).symm
 ·rintro (⟨j, hj, e⟩ | rfl)
  ·exact ⟨j, by omega, e⟩
  ·exact ⟨at_, by omega, hn⟩
theorem Upto.not {at_ : Nat} (hnd : H.Nodup) (hn : H[at_]? = some n) : ¬ Upto H at_ n := by
 rintro ⟨j, hj, e⟩
 have := (List.getElem?_inj (by have := (List.getElem?_eq_some_iff.1 e).1; exact this) hnd).1 (e.trans hn.symm)
 omega
def TakeAt (B : Nat) (w0 : World) (wb : Nat) (L H : List Nd) (ks : Wds) (x : List UInt8) (K0 : Kn) (F : List (Nat × Obj)) (g : Nat) (a' : Act) (w' : World) : Prop :=
 ∃ (at_ : Nat) (K : Kn) (A : List Nd), at_ + g = H.length ∧ Taking L ks x K0 H (Upto H at_) (Led H x at_) K A ∧ WkAt B w0 w' wb L H A K F ∧ Fr 60 [(0, np wb), (1, tx x), (4, .int .i64 at_)] a'
def TakeR (B : Nat) (w0 : World) (wb : Nat) (L : List Nd) (ks : Wds) (F : List (Nat × Obj)) (e : Ending) (w' : World) : Prop :=
 e = .returned (.tuple #[]) ∧ ∃ K' A, Here L ks K' A ∧ WkAt B w0 w' wb L A [] K' F
set_option maxHeartbeats 2000000 in
theorem take_any (h : WkAt B w0 w wb L H [] K0 F) (ht : TreeOk L tb c) (hc : c ≤ 800000) (hH : Here L ks K0 H) (x : List UInt8) (hx : x.length ≤ 1000) :
  Calls Tryz.prog 275 #[np wb, tx x] w (TakeR B w0 wb L (ks ++ [x]) F) := by
 have hlen : H.length ≤ 800000 := by
  have := hH.len
  have := ht.few
  omega
 have start : Hid (∀ a', Fr 60 [(0, np wb), (1, tx x), (4, .int .i64 (0 : Nat))] a' → TakeAt B w0 wb L H ks x K0 F H.length a' w) := Lib.hid fun a' ha =>
  ⟨0, K0, [], by omega, (Taking.start hH x).iff (fun n _ => ⟨fun ⟨j, hj, _⟩ => by omega, fun e => e.elim⟩) (fun n _ v => ⟨fun ⟨⟨j, hj, _⟩, _⟩ => by omega, fun e => e.elim⟩), h, ha⟩
 replace ht := Lib.hid ht
 replace hH := Lib.hid hH
 clear h
 go_enter Tryz.func275, Tryz.ntmps275
 go_wp2_with fail
 refine wp_scope_ghost 0 (TakeAt B w0 wb L H ks x K0 F) rfl ?_ ?_
 ·clear start
  rintro g a' w' ⟨at_, K, A, hg, hT, hw, hfr⟩
  obtain ⟨f, rfl, hl'⟩ := hfr.lit
  clear hfr
  simp only [List.mem_cons, List.not_mem_nil, or_false, forall_eq_or_imp, forall_eq] at hl'
  obtain ⟨f0, f1, f4⟩ := hl'
  simp only [List.range, List.range.loop, List.map, f0, f1, f4]
  clear f0 f1 f4
  obtain ⟨a, cap, ch, hat⟩ := hw.hereAt
  have hat0 : (0 : Int) ≤ at_ := by omega
  have hl0 : (H.length : Int) ≤ 800000 := by omega
  by_cases hlt : at_ < H.length
  ·have hnx : H[at_]? = some H[at_] := List.getElem?_eq_getElem hlt
   generalize H[at_] = n at hnx
   obtain ⟨gb, off, rfl, hcell⟩ := hat at_ n hnx
   have hnH : n ∈ H := List.mem_of_getElem? hnx
   have hn := hH.out.mem n hnH
   obtain ⟨kb, cw, hlk⟩ := hw.known hn
   have hns := Upto.not hH.out.nodup hnx
   have hneB : ((at_ : Int) == (H.length : Int)) = false := by
    rw [beq_eq_false_iff_ne]
    omega
   have hlt' : (at_ : Int) < H.length := by omega
   have hAl : A.length ≤ 900000 := by
    have := nodup_len hT.nodup hT.mem
    have := ht.out.few
    omega
   replace hg := Lib.hid hg
   replace hT := Lib.hid hT
   replace hw := Lib.hid hw
   replace hns := Lib.hid hns
   go_upto_if 30 with fail
   go_cut [] (fun wy => ∃ A1, Hid (Taking L ks x K0 H (fun y => Upto H at_ y ∨ y = n) (Led H x at_) K A1) ∧ Hid (WkAt B w0 wy wb L H A1 K F))
   case first =>
    by_cases h1 : K n.p = 1
    ·rw [h1] at hlk
     obtain ⟨a1, cap1, k0, a', cap', W2, hrun, k1, k2, hw3⟩ := hw.out.push hAl n
     have fin : Hid (∃ A1, Hid (Taking L ks x K0 H (fun y => Upto H at_ y ∨ y = n) (Led H x at_) K A1) ∧ Hid (WkAt B w0 (W2.setCell ⟨wb, 1, none⟩ (.slice a' (A.length + 1) cap')) wb L H A1 K F)) :=
      Lib.hid ⟨A ++ [n], Lib.hid (hT.out.stay1 hnH hns.out h1), Lib.hid hw3⟩
     generalize A.length = ln at *
     clear hw3 hT hw hH ht hns hnH hn hnx hat hcell
     rw [h1]
     go_wp2_with (at_builtin; refine wpList_append_go rfl (.tmp 35) (.tmp 37) 344 344 rfl _ _ rfl rfl hrun ?_)
     go_meet
     case rel => exact fin.out
    ·have fin : Hid (∃ A1, Hid (Taking L ks x K0 H (fun y => Upto H at_ y ∨ y = n) (Led H x at_) K A1) ∧ Hid (WkAt B w0 w' wb L H A1 K F)) := Lib.hid ⟨A, Lib.hid (hT.out.stay0 h1), hw⟩
     have h1B : ((K n.p : Int) == 1) = false := by
      rw [beq_eq_false_iff_ne]
      omega
     clear hT hw hH ht hns hnH hn hnx hat hcell
     generalize K n.p = kk at *
     go_wp2_with fail
     go_meet
     case rel => exact fin.out
   case rest =>
    obtain ⟨A1, hT1, hw1⟩ := hcut
    obtain ⟨k3, k4⟩ := hw1.out.kid ht.out hn x
    have hnl : ¬ Led H x at_ n x := fun h => hns.out h.1
    have c1 := Lib.hid (reach_any hw1.out ht.out hc (ReachOk.start hT1.out.ok hT1.out.nodup hT1.out.mem hT1.out.hash (hT1.out.ask ht.out hnH hnl)))
    have nx1 : Hid (∀ K2 X2 o2, ReachOk L K A1 (nd L (n.p ++ [x])) K2 X2 o2 → Stop K2 o2 → Taking L ks x K0 H (fun y => Upto H at_ y ∨ y = n) (fun y u => Led H x at_ y u ∨ (y = n ∧ u = x)) K2 (A1 ++ X2)) := Lib.hid fun K2 X2 o2 R hs =>
     hT1.out.reach ht.out hnH (.inl (by simp [stands])) R hs
    have fin : Hid (∀ w3 K3 A3, Taking L ks x K0 H (fun y => Upto H at_ y ∨ y = n) (fun y u => Led H x at_ y u ∨ (y = n ∧ (u = x ∨ u = [42]))) K3 A3 → WkAt B w0 w3 wb L H A3 K3 F → ∀ a2, Fr 60 [(0, np wb), (1, tx x), (4, .int .i64 ((at_ : Int) + 1))] a2 → ∃ m, m < g ∧ TakeAt B w0 wb L H ks x K0 F m a2 w3) := Lib.hid fun w3 K3 A3 hT3 hw3 a2 ha => by
     have := hg.out
     refine ⟨H.length - (at_ + 1), by omega, at_ + 1, K3, A3, by omega, hT3.iff (fun m _ => Upto.succ hnx m) (fun m _ v => ?_), hw3, ?_⟩
     ·unfold Led
      rw [Upto.succ hnx m]
      constructor
      ·rintro ⟨h1 | h1, h2⟩
       ·exact .inl ⟨h1, h2⟩
       ·exact .inr ⟨h1, h2⟩
      ·rintro (⟨h1, h2⟩ | ⟨h1, h2⟩)
       ·exact ⟨.inl h1, h2⟩
       ·exact ⟨.inr h1, h2⟩
     ·exact ha
    clear hT1 hT hcell hat hlk hneB hlt'
    generalize ov (nd L (n.p ++ [x])) = o1v at *
    go_wp2_with fail
    refine c1.out.mono ?_
    rintro e w2 ⟨rfl, K2, X2, o2, R2, hs2, hw2⟩
    have hT2 := nx1.out K2 X2 o2 R2 hs2
    clear nx1 R2 hs2 c1 k3 k4 hw1
    cases hbb : (x == [42]) with
    | true =>
     have e42 : x = [42] := by simpa using hbb
     have fin := Lib.hid (fin.out w2 K2 (A1 ++ X2) (hT2.iff (fun _ _ => Iff.rfl) (fun m _ v => or_congr Iff.rfl (and_congr Iff.rfl ⟨fun h => h.elim id fun h => h.trans e42.symm, .inl⟩))) hw2)
     clear hT2 hw2 e42 hH ht hw hns hnH hn hnx hnl
     go_wp2_with fail
     refine wp_goto ?_
     refine ⟨rfl, fin.out _ ?_⟩
     exact ⟨rfl, rfl, by simp⟩
    | false =>
     have e42 : x ≠ [42] := by simpa using hbb
     obtain ⟨k3, k4⟩ := hw2.kid ht.out hn [42]
     have c2 := Lib.hid (reach_any hw2 ht.out hc (ReachOk.start hT2.ok hT2.nodup hT2.mem hT2.hash (hT2.ask ht.out hnH (fun h => h.elim (fun h => hns.out h.1) (fun h => e42 h.2.symm)))))
     have fin : Hid (∀ w3 K3 X3 o3, ReachOk L K2 (A1 ++ X2) (nd L (n.p ++ [[42]])) K3 X3 o3 → Stop K3 o3 → WkAt B w0 w3 wb L H ((A1 ++ X2) ++ X3) K3 F → ∀ a2, Fr 60 [(0, np wb), (1, tx x), (4, .int .i64 ((at_ : Int) + 1))] a2 → ∃ m, m < g ∧ TakeAt B w0 wb L H ks x K0 F m a2 w3) := Lib.hid fun w3 K3 X3 o3 R hs hw3 =>
      fin.out w3 K3 _ ((hT2.reach ht.out hnH (.inl (by simp [stands])) R hs).iff (fun _ _ => Iff.rfl) (fun m _ v => by
       rw [or_assoc]
       exact or_congr Iff.rfl ⟨fun ⟨h1, h2⟩ => h2.imp (fun h => ⟨h1, h⟩) (fun h => ⟨h1, h⟩), fun h => h.elim (fun h => ⟨h.1, .inl h.2⟩) (fun h => ⟨h.1, .inr h.2⟩)⟩)) hw3
     clear hT2 hw2 e42 hH ht hw hns hnH hn hnx hnl
     generalize ov (nd L (n.p ++ [[42]])) = o2v at *
     go_wp2_with fail
     refine c2.out.mono ?_
     rintro e w3 ⟨rfl, K3, X3, o3, R3, hs3, hw3⟩
     have fin := Lib.hid (fin.out w3 K3 X3 o3 R3 hs3 hw3)
     clear R3 hs3 hw3 c2
     go_wp2_with fail
     refine wp_goto ?_
     refine ⟨rfl, fin.out _ ?_⟩
     exact ⟨rfl, rfl, by simp⟩
  ·obtain rfl : at_ = H.length := by omega
   have hfin := hT.done ht.out (fun n hn => by
    obtain ⟨j, hj⟩ := List.getElem?_of_mem hn
    exact ⟨j, (List.getElem?_eq_some_iff.1 hj).1, hj⟩) (fun n hn v _ hv => by
    obtain ⟨j, hj⟩ := List.getElem?_of_mem hn
    refine ⟨⟨j, (List.getElem?_eq_some_iff.1 hj).1, hj⟩, ?_⟩
    unfold stands at hv
    rw [Bool.or_eq_true, beq_iff_eq, beq_iff_eq] at hv
    exact hv.symm)
   have cs := Lib.hid (step_any hw)
   replace hfin := Lib.hid hfin
   clear hT hw hH ht hat
   go_wp2_with fail
   refine cs.out.mono ?_
   rintro e w2 ⟨rfl, hw2⟩
   have fin : Hid (TakeR B w0 wb L (ks ++ [x]) F (.returned (.tuple #[])) w2) := Lib.hid ⟨rfl, K, A, hfin.out, hw2⟩
   clear hw2 cs hfin
   go_wp2_with fail
   simp only [Exit.jump]
   exact bodyPost_end (results_none rfl _ _ _) rfl fin.out
 ·intro H1
  go_wp2_with fail
  refine wp_label ?_
  go_step
  go_step
  refine H1 _ _ _ (start.out _ ?_)
  exact ⟨rfl, rfl, by simp⟩
end
end
end
end Go.Proofs.YtknjamfjonapiaaGreatDoor
