/- Walks over a tree, in memory: a step; a word taken. -/
import Derived.Test.YtbfelfejelkdpaaTrX
import Derived.RegionTactic
namespace Go.Proofs.Ytbfelfejelkdpaa
open Go.RowKit
open Go.ChangeMaps (setBlock)
set_option linter.unusedVariables false
set_option linter.unusedSectionVars false
set_option linter.unusedSimpArgs false
set_option maxRecDepth 100000

section
variable {B : Nat} {w0 w : World} {F : List (Nat × Obj)} {L : List Nd} {tb c wb kb clk : Nat} {n m : Nd} {K K0 : Kn} {H A X : List Nd} {kes : List (Ent Nat)} {o0 o : Option Nd}

theorem SlIs.none0 {T : TypeId} {n : Nat} {xs : List Value} {S : List (Nat × Obj)} {a : Option Addr} {cap : Nat} (h : SlIs T 1 (.slice a n cap) n xs S) : SlIs T 1 (.slice a 0 cap) 0 [] S := by
  have := h.piece 0 0 (Nat.le_refl _) (Nat.zero_le _) rfl
  have e : (if cap = 0 then a else a.map (·.add (0 * 1))) = a := by
    split
    · rfl
    · cases a with
      | none => rfl
      | some ad => simp [Addr.add]
  rw [e] at this
  simpa using this

theorem perm_s {α : Type} (O SH SA F : List α) (x y : α) : (O ++ (x :: (y :: (SH ++ (SA ++ F))))).Perm (O ++ (x :: (y :: (SA ++ (SH ++ F))))) := by
  classical
  exact List.perm_iff_count.2 fun a => by simp only [List.count_append, List.count_cons]; omega

set_option maxHeartbeats 1000000 in
theorem step_any (h : WkAt B w0 w wb L H A K F) : Calls Try.prog 32 #[np wb] w fun e w' => e = .returned (.tuple #[]) ∧ WkAt B w0 w' wb L A [] K F := by
  obtain ⟨hv, av, SH, SA, kb, kes, clk, s1, s2, s3, hst⟩ := h
  obtain ⟨a1, cap1, rfl, -⟩ := s1.form
  obtain ⟨a2, cap2, rfl, -⟩ := s2.form
  have c0 := hst.cell (b := wb) (c := #[.slice a1 H.length cap1, .slice a2 A.length cap2, .map (some kb)]) (T := 60) (fr := (0, 0)) (by simp) (i := 0) rfl
  have c1 := hst.cell (b := wb) (c := #[.slice a1 H.length cap1, .slice a2 A.length cap2, .map (some kb)]) (T := 60) (fr := (0, 0)) (by simp) (i := 1) rfl
  have f0 := hst.soft (b := wb) (c := #[.slice a1 H.length cap1, .slice a2 A.length cap2, .map (some kb)]) (T := 60) (by simp) 0
  have f1 := hst.soft (b := wb) (c := #[.slice a1 H.length cap1, .slice a2 A.length cap2, .map (some kb)]) (T := 60) (by simp) 1
  have fin : Hid (WkAt B w0 ((w.drew.setCell ⟨wb, 0, none⟩ (.slice a2 A.length cap2)).setCell ⟨wb, 1, none⟩ (.slice a1 0 cap1)) wb L A [] K F) := Lib.hid ⟨_, _, SA, SH, kb, kes, clk, s2, s1.none0, s3,
    ((((hst.drew.perm (perm_w _ _ _)).set0 0 (.slice a2 A.length cap2)).set0 1 (.slice a1 0 cap1)).perm (perm_w _ _ _).symm).perm (perm_s _ _ _ _ _ _)⟩
  clear hst s1 s2 s3
  go_enter Try.func32, Try.ntmps32
  go_wp2_with fail
  go_region
  exact bodyPost_end (results_none rfl _ _ _) rfl ⟨rfl, fin.out⟩

theorem WkAt.hereAt (h : WkAt B w0 w wb L H A K F) : ∃ a cap, w.cell? ⟨wb, 0, none⟩ = some (.slice a H.length cap) ∧ ∀ (j : Nat) n, H[j]? = some n → ∃ g off, a = some ⟨g, off, none⟩ ∧ w.cell? ⟨g, off + j, none⟩ = some (np n.b) := by
  obtain ⟨hv, av, SH, SA, kb, kes, clk, s1, s2, s3, hst⟩ := h
  obtain ⟨a, cap, rfl, -, -, ha⟩ := s1.form
  refine ⟨a, cap, hst.cell (b := wb) (c := #[.slice a H.length cap, av, .map (some kb)]) (T := 60) (fr := (0, 0)) (by simp) rfl, fun j n hn => ?_⟩
  have hj := (List.getElem?_eq_some_iff.1 hn).1
  obtain ⟨g, off, rfl⟩ := ha j hj
  exact ⟨g, off, rfl, s1.cellAt (hst.perm (perm_h _ _ _ _ _ _)) (by simp [hn])⟩

section
variable {ks : Wds} {x : List UInt8} {stays stays' : Nd → Prop} {led led' : Nd → List UInt8 → Prop}
theorem Taking.iff (h : Taking L ks x K0 H stays led K A) (h1 : ∀ n ∈ H, (stays' n ↔ stays n)) (h2 : ∀ n ∈ H, ∀ v, (led' n v ↔ led n v)) : Taking L ks x K0 H stays' led' K A :=
  ⟨h.here, h.ok, h.nodup, h.mem, h.sound, h.hash, h.kids, h.turn, fun n hn hs hk => h.stay n hn ((h1 n hn).1 hs) hk, fun n hn v hv => h.lead n hn v ((h2 n hn v).1 hv),
    fun y hy hno => by
      obtain ⟨n, hn, v, e1, e2⟩ := h.from_ y hy hno
      exact ⟨n, hn, v, e1, (h2 n hn v).2 e2⟩,
    fun y hy hyH p e => (h1 y hyH).2 (h.back y hy hyH p e)⟩
/-- Those of H that stand ahead of a place. -/
def Upto (H : List Nd) (at_ : Nat) (n : Nd) : Prop := ∃ j, j < at_ ∧ H[j]? = some n
def Led (H : List Nd) (x : List UInt8) (at_ : Nat) (n : Nd) (v : List UInt8) : Prop := Upto H at_ n ∧ (v = x ∨ v = [42])
theorem Upto.succ {at_ : Nat} (hn : H[at_]? = some n) (m : Nd) : Upto H (at_ + 1) m ↔ Upto H at_ m ∨ m = n := by
  constructor
  · rintro ⟨j, hj, e⟩
    by_cases h : j < at_
    · exact .inl ⟨j, h, e⟩
    · obtain rfl : j = at_ := by omega
      rw [hn] at e
      exact .inr (Option.some.inj e).symm
  · rintro (⟨j, hj, e⟩ | rfl)
    · exact ⟨j, by omega, e⟩
    · exact ⟨at_, by omega, hn⟩
theorem Upto.not {at_ : Nat} (hnd : H.Nodup) (hn : H[at_]? = some n) : ¬ Upto H at_ n := by
  rintro ⟨j, hj, e⟩
  have := (List.getElem?_inj (by have := (List.getElem?_eq_some_iff.1 e).1; exact this) hnd).1 (e.trans hn.symm)
  omega

/-- What take knows at its label. -/
def TakeAt (B : Nat) (w0 : World) (wb : Nat) (L H : List Nd) (ks : Wds) (x : List UInt8) (K0 : Kn) (F : List (Nat × Obj)) (g : Nat) (a' : Act) (w' : World) : Prop :=
  ∃ (at_ : Nat) (K : Kn) (A : List Nd), at_ + g = H.length ∧ Taking L ks x K0 H (Upto H at_) (Led H x at_) K A ∧ WkAt B w0 w' wb L H A K F ∧ Fr 60 [(0, np wb), (1, tx x), (4, .int .i64 at_)] a'
def TakeR (B : Nat) (w0 : World) (wb : Nat) (L : List Nd) (ks : Wds) (F : List (Nat × Obj)) (e : Ending) (w' : World) : Prop :=
  e = .returned (.tuple #[]) ∧ ∃ K' A, Here L ks K' A ∧ WkAt B w0 w' wb L A [] K' F

set_option maxHeartbeats 2000000 in
theorem take_any (h : WkAt B w0 w wb L H [] K0 F) (ht : TreeOk L tb c) (hc : c ≤ 800000) (hH : Here L ks K0 H) (x : List UInt8) (hx : x.length ≤ 1000) :
    Calls Try.prog 22 #[np wb, tx x] w (TakeR B w0 wb L (ks ++ [x]) F) := by
  have hlen : H.length ≤ 800000 := by
    have := hH.len
    have := ht.few
    omega
  have start : Hid (∀ a', Fr 60 [(0, np wb), (1, tx x), (4, .int .i64 (0 : Nat))] a' → TakeAt B w0 wb L H ks x K0 F H.length a' w) := Lib.hid fun a' ha =>
    ⟨0, K0, [], by omega, (Taking.start hH x).iff (fun n _ => ⟨fun ⟨j, hj, _⟩ => by omega, fun e => e.elim⟩) (fun n _ v => ⟨fun ⟨⟨j, hj, _⟩, _⟩ => by omega, fun e => e.elim⟩), h, ha⟩
  replace ht := Lib.hid ht
  replace hH := Lib.hid hH
  clear h
  go_enter Try.func22, Try.ntmps22
  go_wp2_with fail
  refine wp_scope_ghost 0 (TakeAt B w0 wb L H ks x K0 F) rfl ?_ ?_
  · clear start
    rintro g a' w' ⟨at_, K, A, hg, hT, hw, hfr⟩
    obtain ⟨f, rfl, hl'⟩ := hfr.lit
    clear hfr
    simp only [List.mem_cons, List.not_mem_nil, or_false, forall_eq_or_imp, forall_eq] at hl'
    obtain ⟨f0, f1, f4⟩ := hl'
    simp only [List.range, List.range.loop, List.map, f0, f1, f4]
    clear f0 f1 f4
    obtain ⟨a, cap, ch, hat⟩ := hw.hereAt
    have hat0 : (0 : Int) ≤ at_ := by omega
    have hl0 : (H.length : Int) ≤ 800000 := by omega
    by_cases hlt : at_ < H.length
    · have hnx : H[at_]? = some H[at_] := List.getElem?_eq_getElem hlt
      generalize H[at_] = n at hnx
      obtain ⟨gb, off, rfl, hcell⟩ := hat at_ n hnx
      have hnH : n ∈ H := List.mem_of_getElem? hnx
      have hn := hH.out.mem n hnH
      obtain ⟨kb, cw, hlk⟩ := hw.known hn
      have hns := Upto.not hH.out.nodup hnx
      have hneB : ((at_ : Int) == (H.length : Int)) = false := by
        rw [beq_eq_false_iff_ne]
        omega
      have hlt' : (at_ : Int) < H.length := by omega
      have hAl : A.length ≤ 900000 := by
        have := nodup_len hT.nodup hT.mem
        have := ht.out.few
        omega
      replace hg := Lib.hid hg
      replace hT := Lib.hid hT
      replace hw := Lib.hid hw
      replace hns := Lib.hid hns
      go_upto_if 30 with fail
      go_cut [] (fun wy => ∃ A1, Hid (Taking L ks x K0 H (fun y => Upto H at_ y ∨ y = n) (Led H x at_) K A1) ∧ Hid (WkAt B w0 wy wb L H A1 K F))
      case first =>
        by_cases h1 : K n.p = 1
        · rw [h1] at hlk
          obtain ⟨a1, cap1, k0, a', cap', W2, hrun, k1, k2, hw3⟩ := hw.out.push hAl n
          have fin : Hid (∃ A1, Hid (Taking L ks x K0 H (fun y => Upto H at_ y ∨ y = n) (Led H x at_) K A1) ∧ Hid (WkAt B w0 (W2.setCell ⟨wb, 1, none⟩ (.slice a' (A.length + 1) cap')) wb L H A1 K F)) :=
            Lib.hid ⟨A ++ [n], Lib.hid (hT.out.stay1 hnH hns.out h1), Lib.hid hw3⟩
          generalize A.length = ln at *
          clear hw3 hT hw hH ht hns hnH hn hnx hat hcell
          rw [h1]
          go_wp2_with (at_builtin; refine wpList_append_go rfl (.tmp 35) (.tmp 37) 58 58 rfl _ _ rfl rfl hrun ?_)
          go_meet
          case rel => exact fin.out
        · have fin : Hid (∃ A1, Hid (Taking L ks x K0 H (fun y => Upto H at_ y ∨ y = n) (Led H x at_) K A1) ∧ Hid (WkAt B w0 w' wb L H A1 K F)) := Lib.hid ⟨A, Lib.hid (hT.out.stay0 h1), hw⟩
          have h1B : ((K n.p : Int) == 1) = false := by
            rw [beq_eq_false_iff_ne]
            omega
          clear hT hw hH ht hns hnH hn hnx hat hcell
          generalize K n.p = kk at *
          go_wp2_with fail
          go_meet
          case rel => exact fin.out
      case rest =>
        obtain ⟨A1, hT1, hw1⟩ := hcut
        obtain ⟨k3, k4⟩ := hw1.out.kid ht.out hn x
        have hnl : ¬ Led H x at_ n x := fun h => hns.out h.1
        have c1 := Lib.hid (reach_any hw1.out ht.out hc (ReachOk.start hT1.out.ok hT1.out.nodup hT1.out.mem hT1.out.hash (hT1.out.ask ht.out hnH hnl)))
        have nx1 : Hid (∀ K2 X2 o2, ReachOk L K A1 (nd L (n.p ++ [x])) K2 X2 o2 → Stop K2 o2 → Taking L ks x K0 H (fun y => Upto H at_ y ∨ y = n) (fun y u => Led H x at_ y u ∨ (y = n ∧ u = x)) K2 (A1 ++ X2)) := Lib.hid fun K2 X2 o2 R hs =>
          hT1.out.reach ht.out hnH (.inl (by simp [stands])) R hs
        have fin : Hid (∀ w3 K3 A3, Taking L ks x K0 H (fun y => Upto H at_ y ∨ y = n) (fun y u => Led H x at_ y u ∨ (y = n ∧ (u = x ∨ u = [42]))) K3 A3 → WkAt B w0 w3 wb L H A3 K3 F → ∀ a2, Fr 60 [(0, np wb), (1, tx x), (4, .int .i64 ((at_ : Int) + 1))] a2 → ∃ m, m < g ∧ TakeAt B w0 wb L H ks x K0 F m a2 w3) := Lib.hid fun w3 K3 A3 hT3 hw3 a2 ha => by
          have := hg.out
          refine ⟨H.length - (at_ + 1), by omega, at_ + 1, K3, A3, by omega, hT3.iff (fun m _ => Upto.succ hnx m) (fun m _ v => ?_), hw3, ?_⟩
          · unfold Led
            rw [Upto.succ hnx m]
            constructor
            · rintro ⟨h1 | h1, h2⟩
              · exact .inl ⟨h1, h2⟩
              · exact .inr ⟨h1, h2⟩
            · rintro (⟨h1, h2⟩ | ⟨h1, h2⟩)
              · exact ⟨.inl h1, h2⟩
              · exact ⟨.inr h1, h2⟩
          · exact ha
        clear hT1 hT hcell hat hlk hneB hlt'
        generalize ov (nd L (n.p ++ [x])) = o1v at *
        go_wp2_with fail
        refine c1.out.mono ?_
        rintro e w2 ⟨rfl, K2, X2, o2, R2, hs2, hw2⟩
        have hT2 := nx1.out K2 X2 o2 R2 hs2
        clear nx1 R2 hs2 c1 k3 k4 hw1
        cases hbb : (x == [42]) with
        | true =>
          have e42 : x = [42] := by simpa using hbb
          have fin := Lib.hid (fin.out w2 K2 (A1 ++ X2) (hT2.iff (fun _ _ => Iff.rfl) (fun m _ v => or_congr Iff.rfl (and_congr Iff.rfl ⟨fun h => h.elim id fun h => h.trans e42.symm, .inl⟩))) hw2)
          clear hT2 hw2 e42 hH ht hw hns hnH hn hnx hnl
          go_wp2_with fail
          refine wp_goto ?_
          refine ⟨rfl, fin.out _ ?_⟩
          exact ⟨rfl, rfl, by simp⟩
        | false =>
          have e42 : x ≠ [42] := by simpa using hbb
          obtain ⟨k3, k4⟩ := hw2.kid ht.out hn [42]
          have c2 := Lib.hid (reach_any hw2 ht.out hc (ReachOk.start hT2.ok hT2.nodup hT2.mem hT2.hash (hT2.ask ht.out hnH (fun h => h.elim (fun h => hns.out h.1) (fun h => e42 h.2.symm)))))
          have fin : Hid (∀ w3 K3 X3 o3, ReachOk L K2 (A1 ++ X2) (nd L (n.p ++ [[42]])) K3 X3 o3 → Stop K3 o3 → WkAt B w0 w3 wb L H ((A1 ++ X2) ++ X3) K3 F → ∀ a2, Fr 60 [(0, np wb), (1, tx x), (4, .int .i64 ((at_ : Int) + 1))] a2 → ∃ m, m < g ∧ TakeAt B w0 wb L H ks x K0 F m a2 w3) := Lib.hid fun w3 K3 X3 o3 R hs hw3 =>
            fin.out w3 K3 _ ((hT2.reach ht.out hnH (.inl (by simp [stands])) R hs).iff (fun _ _ => Iff.rfl) (fun m _ v => by
              rw [or_assoc]
              exact or_congr Iff.rfl ⟨fun ⟨h1, h2⟩ => h2.imp (fun h => ⟨h1, h⟩) (fun h => ⟨h1, h⟩), fun h => h.elim (fun h => ⟨h.1, .inl h.2⟩) (fun h => ⟨h.1, .inr h.2⟩)⟩)) hw3
          clear hT2 hw2 e42 hH ht hw hns hnH hn hnx hnl
          generalize ov (nd L (n.p ++ [[42]])) = o2v at *
          go_wp2_with fail
          refine c2.out.mono ?_
          rintro e w3 ⟨rfl, K3, X3, o3, R3, hs3, hw3⟩
          have fin := Lib.hid (fin.out w3 K3 X3 o3 R3 hs3 hw3)
          clear R3 hs3 hw3 c2
          go_wp2_with fail
          refine wp_goto ?_
          refine ⟨rfl, fin.out _ ?_⟩
          exact ⟨rfl, rfl, by simp⟩
    · obtain rfl : at_ = H.length := by omega
      have hfin := hT.done ht.out (fun n hn => by
        obtain ⟨j, hj⟩ := List.getElem?_of_mem hn
        exact ⟨j, (List.getElem?_eq_some_iff.1 hj).1, hj⟩) (fun n hn v _ hv => by
        obtain ⟨j, hj⟩ := List.getElem?_of_mem hn
        refine ⟨⟨j, (List.getElem?_eq_some_iff.1 hj).1, hj⟩, ?_⟩
        unfold stands at hv
        rw [Bool.or_eq_true, beq_iff_eq, beq_iff_eq] at hv
        exact hv.symm)
      have cs := Lib.hid (step_any hw)
      replace hfin := Lib.hid hfin
      clear hT hw hH ht hat
      go_wp2_with fail
      refine cs.out.mono ?_
      rintro e w2 ⟨rfl, hw2⟩
      have fin : Hid (TakeR B w0 wb L (ks ++ [x]) F (.returned (.tuple #[])) w2) := Lib.hid ⟨rfl, K, A, hfin.out, hw2⟩
      clear hw2 cs hfin
      go_wp2_with fail
      simp only [Exit.jump]
      exact bodyPost_end (results_none rfl _ _ _) rfl fin.out
  · intro H1
    go_wp2_with fail
    refine wp_label ?_
    go_step
    go_step
    refine H1 _ _ _ (start.out _ ?_)
    exact ⟨rfl, rfl, by simp⟩
end
end
end Go.Proofs.Ytbfelfejelkdpaa
