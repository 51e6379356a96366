/- The document's own table: Add. -/
import Derived.Test.YtpogfbnaendfoaaBdI
namespace Go.Proofs.Ytpogfbnaendfoaa
open Go.RowKit
set_option linter.unusedVariables false

section
variable {B : Nat} {w0 w w' : World} {S F A X : List (Nat × Obj)} {T : TypeId} {tb : Nat} {v u z : Value} {L l : List Bnd} {b : Bnd}

/-! ### Add -/
set_option maxHeartbeats 4000000 in
theorem radd_any (h : TbIs T B w0 w tb L A) (hL : L.length ≤ 40) (b : Bnd) : Calls Try.prog 9 #[bpt tb, bV b] w (AddR T B w0 tb L b A) := by
  have h1 := h.alloc (bO b)
  have q0 : (w.alloc (bO b)).cell? ⟨w.heap.size, 0, none⟩ = some (tx b.1) := by simp
  have q1 : (w.alloc (bO b)).cell? ⟨w.heap.size, 1, none⟩ = some (tx b.2.1) := by simp
  have q2 : (w.alloc (bO b)).cell? ⟨w.heap.size, 2, none⟩ = some (tx b.2.2) := by simp
  obtain ⟨W1, hW⟩ : ∃ W1, W1 = w.alloc (bO b) := ⟨_, rfl⟩
  rw [← hW] at h1 q0 q1 q2
  obtain ⟨v, ho, hv⟩ := h1.one
  obtain ⟨a, cap, rfl, hr⟩ := rows_at ho hv
  have fin : Hid (∀ w2, Below W1.heap.size W1 w2 → (b ∈ L → AddR T B w0 tb L b A (.returned (.tuple #[.bool false, .int .i64 0])) w2) ∧ (b ∉ L → 40 ≤ L.length → AddR T B w0 tb L b A (.returned (.tuple #[.bool false, .int .i64 12])) w2)) := Lib.hid fun w2 hb2 => by
    have h2 := (h1.grow hb2).sub (List.sublist_cons_self _ _)
    refine ⟨fun hin => ⟨by rw [addL, if_pos hin], by rw [addL, if_pos hin]; exact h2⟩, fun hin hf => ⟨by rw [addL, if_neg hin, if_pos hf], by rw [addL, if_neg hin, if_pos hf]; exact h2⟩⟩
  have hq : Hid (∀ w2, Below W1.heap.size W1 w2 → w2.cell? ⟨w.heap.size, 0, none⟩ = some (tx b.1) ∧ w2.cell? ⟨w.heap.size, 1, none⟩ = some (tx b.2.1) ∧ w2.cell? ⟨w.heap.size, 2, none⟩ = some (tx b.2.2)) := Lib.hid fun w2 hb2 =>
    ⟨cellOn (c := (_, 0)) q0 hb2, cellOn (c := (_, 1)) q1 hb2, cellOn (c := (_, 2)) q2 hb2⟩
  have ap : Hid (b ∉ L → ¬ 40 ≤ L.length → ∀ W, Below W1.heap.size W1 W →
      (∃ a2 c2 W2, (Builtin.append_ #[27, 27] 0 #[.slice none 0 0, .slice a L.length cap]).run Try.prog W = .ok (.slice a2 L.length c2) W2 ∧
        (W2.cell? ⟨w.heap.size, 0, none⟩ = some (tx b.1) ∧ W2.cell? ⟨w.heap.size, 1, none⟩ = some (tx b.2.1) ∧ W2.cell? ⟨w.heap.size, 2, none⟩ = some (tx b.2.2)) ∧
        ∃ a3 c3 W3, (Builtin.append_ #[27, 27] 0 #[.slice a2 L.length c2, .slice (some ⟨W2.heap.size, 0, none⟩) 1 1]).run Try.prog (W2.alloc (bO b)) = .ok (.slice a3 (L.length + 1) c3) W3 ∧
          (W3.cell? ⟨tb, 0, none⟩ = some (.slice a L.length cap) ∧ W3.frozen? ⟨tb, 0, none⟩ = false) ∧ AddR T B w0 tb L b A (.returned (.tuple #[.bool true, .int .i64 0])) (W3.setCell ⟨tb, 0, none⟩ (.slice a3 (L.length + 1) c3))) ∧
      ((W.alloc (bO b)).cell? ⟨tb, 0, none⟩ = some (.slice a L.length cap) ∧ ∃ a2 c2 W2, (Builtin.append_ #[27, 27] 0 #[.slice none 0 0, .slice a L.length cap]).run Try.prog (W.alloc (bO b)) = .ok (.slice a2 L.length c2) W2 ∧
        ∃ a3 c3 W3, (Builtin.append_ #[27, 27] 0 #[.slice a2 L.length c2, .slice (some ⟨W.heap.size, 0, none⟩) 1 1]).run Try.prog W2 = .ok (.slice a3 (L.length + 1) c3) W3 ∧
          (W3.cell? ⟨tb, 0, none⟩ = some (.slice a L.length cap) ∧ W3.frozen? ⟨tb, 0, none⟩ = false) ∧ AddR T B w0 tb L b A (.returned (.tuple #[.bool true, .int .i64 0])) (W3.setCell ⟨tb, 0, none⟩ (.slice a3 (L.length + 1) c3)))) := by
    refine Lib.hid fun hin hfull W hb => ?_
    obtain ⟨v', S, hs, hst⟩ := h1.grow hb
    have e : v' = .slice a L.length cap := by
      have e1 := hst.cell (b := tb) (i := 0) (v := v') (List.mem_append_right _ List.mem_cons_self) rfl
      have e2 := (hr.out W hb).1.1
      exact Option.some.inj (e1.symm.trans e2)
    subst e
    have last : ∀ W3 a3 c3 F3 R, BnsIs (.slice a3 (L.length + 1) c3) (L ++ [b]) F3 → St B w0 W3 ((((w.heap.size, bO b) :: A) ++ (tb, .cells #[.slice a L.length cap] T) :: (S ++ R)) ++ F3) →
        (W3.cell? ⟨tb, 0, none⟩ = some (.slice a L.length cap) ∧ W3.frozen? ⟨tb, 0, none⟩ = false) ∧ AddR T B w0 tb L b A (.returned (.tuple #[.bool true, .int .i64 0])) (W3.setCell ⟨tb, 0, none⟩ (.slice a3 (L.length + 1) c3)) := by
      intro W3 a3 c3 F3 R hs3 hst3
      have hst4 : St B w0 W3 (((w.heap.size, bO b) :: A) ++ (tb, .cells #[.slice a L.length cap] T) :: F3) := hst3.sub (by
        rw [List.append_assoc]
        exact (List.Sublist.refl _).append ((List.sublist_append_right _ _).cons_cons _))
      refine ⟨⟨hst4.cell (b := tb) (i := 0) (List.mem_append_right _ List.mem_cons_self) rfl, St.soft (b := tb) hst4 (List.mem_append_right _ List.mem_cons_self) 0⟩, ?_, ?_⟩
      · rw [addL, if_neg hin, if_neg hfull]
      · rw [addL, if_neg hin, if_neg hfull]
        have h5 := hst4.set 0 (.slice a3 (L.length + 1) c3)
        exact ⟨_, F3, hs3, h5.sub (by rw [List.cons_append]; exact List.sublist_cons_self _ _)⟩
    refine ⟨?_, (cellOn (c := (tb, 0)) (hr.out W hb).1.1 (new_below W (bO b))), ?_⟩
    · obtain ⟨a2, c2, W2, F2, hrun2, hs2, hst2⟩ := bnd_copy (X := ((w.heap.size, bO b) :: A) ++ [(tb, .cells #[.slice a L.length cap] T)]) hs (by simpa using hst) (by omega)
      have hm0 : (w.heap.size, bO b) ∈ ((((w.heap.size, bO b) :: A) ++ [(tb, .cells #[.slice a L.length cap] T)]) ++ S) ++ F2 := List.mem_append_left _ (List.mem_append_left _ (List.mem_append_left _ List.mem_cons_self))
      refine ⟨a2, c2, W2, hrun2, ⟨hst2.cell hm0 rfl, hst2.cell hm0 rfl, hst2.cell hm0 rfl⟩, ?_⟩
      obtain ⟨a3, c3, W3, F3, hrun3, hs3, hst3⟩ := bnd_append hs2 hst2 b (by omega)
      exact ⟨a3, c3, W3, hrun3, last W3 a3 c3 F3 [] hs3 (by simpa using hst3)⟩
    · have hst1 := hst.alloc (bO b)
      obtain ⟨a2, c2, W2, F2, hrun2, hs2, hst2⟩ := bnd_copy (X := (W.heap.size, bO b) :: (((w.heap.size, bO b) :: A) ++ [(tb, .cells #[.slice a L.length cap] T)])) hs (by simpa using hst1) (by omega)
      obtain ⟨a3, c3, W3, F3, hrun3, hs3, hst3⟩ := bnd_put (p := W.heap.size) (b := b) hs2 hst2 (by simp) (by omega)
      refine ⟨a2, c2, W2, hrun2, a3, c3, W3, hrun3, last W3 a3 c3 F3 [] hs3 ?_⟩
      have := hst3.sub (H' := _) (List.sublist_cons_self _ _)
      simpa using this
  obtain ⟨D, hD⟩ : ∃ D, D = addL L b := ⟨_, rfl⟩
  have hmem : Hid (∀ (i : Nat) y, L[i]? = some y → y = b → b ∈ L) := Lib.hid fun i y hy e => e ▸ List.mem_of_getElem? hy
  obtain ⟨b1, b2, b3⟩ := b
  simp only at hq ap
  replace hW : Hid (w.alloc (.cells #[tx b1, tx b2, tx b3] 31) = W1) := Lib.hid hW.symm
  clear h h1 hv ho q0 q1 q2 hD
  go_enter Try.func9, Try.ntmps9
  go_upto_region 1 with fail
  rw [hW.out]
  go_wp2_with fail
  go_loopg [6] L.length (fun g v6 wr => ∃ i : Nat, v6 = .int .i64 i ∧ i + g = L.length ∧ Hid ((b1, b2, b3) ∉ L.take i) ∧ Hid (Below W1.heap.size W1 wr))
  case atStart => exact ⟨0, rfl, by omega, Lib.hid (by simp), Lib.hid (Below.refl _ _)⟩
  case round =>
    obtain ⟨i, rfl, hi, hno, hbel⟩ := hrel
    have hi0 : (0 : Int) ≤ i := by omega
    obtain ⟨⟨ct, fz⟩, hrows⟩ := hr.out wr hbel.out
    obtain ⟨q0, q1, q2⟩ := hq.out wr hbel.out
    by_cases hlt : i < L.length
    · have hi1 : (i : Int) < L.length := by omega
      have hx : L[i]? = some L[i] := List.getElem?_eq_getElem hlt
      generalize L[i] = y at hx
      obtain ⟨c1, o1, rfl, k1, k2, k3⟩ := hrows i y hx
      rcases bnd_cases y (b1, b2, b3) with rfl | hc
      · have f := Lib.hid (fun n => (fin.out (wr.drewN n) (bel hbel.out (drewN_below wr n))).1 (hmem.out i _ hx rfl))
        simp only at k1 k2 k3
        clear hx hno hr hrows fin ap fz hmem
        go_wp2_with fail
        go_quiet (fail)
        go_wp2_with fail
        go_ret2
        exact f.out _
      · have hno2 := Lib.hid (not_in_step hno.out hx (fun e => bnd_ne hc e.symm))
        have hb2 := Lib.hid (fun n => bel hbel.out (drewN_below wr n))
        obtain ⟨y1, y2, y3⟩ := y
        simp only at k1 k2 k3 hc
        clear hx hno hr hrows fin ap fz hmem
        rcases hc with hc | ⟨rfl, hc⟩ | ⟨rfl, rfl, hc⟩
        all_goals
          go_wp2_with fail
          go_quiet (fail)
          go_wp2_with fail
          go_roundg (L.length - (i + 1))
          case measure => omega
          case rel => exact ⟨i + 1, by go_num, by omega, hno2, Lib.hid (hb2.out _)⟩
    · have hin := hno.out
      rw [List.take_of_length_le (by omega)] at hin
      by_cases hfull : 40 ≤ L.length
      · have hfI : (40 : Int) ≤ L.length := by omega
        have f := Lib.hid ((fin.out wr hbel.out).2 hin hfull)
        clear hno hr hrows fin ap fz hmem
        go_wp2_with fail
        go_ret2
        exact f.out
      · have hfI : ¬ (40 : Int) ≤ L.length := by omega
        have hb2 : Below W1.heap.size W1 wr.drew := bel hbel.out (Below.refl _ wr).drew
        obtain ⟨⟨a2, c2, W2, run1, ⟨m0, m1, m2⟩, a3, c3, W3, run2, ⟨k0, k1⟩, f⟩, dt, a4, c4, W4, run3, a5, c5, W5, run4, ⟨k2, k3⟩, f2⟩ := ap.out hin hfull wr.drew hb2
        have dt' : (wr.alloc (.cells #[tx b1, tx b2, tx b3] 31)).cell? ⟨tb, 0, none⟩ = some (.slice a L.length cap) := dt
        have run3' : (Builtin.append_ #[27, 27] 0 #[.slice none 0 0, .slice a L.length cap]).run Try.prog (wr.alloc (.cells #[tx b1, tx b2, tx b3] 31)).drew = .ok (.slice a4 L.length c4) W4 := run3
        have run4' : (Builtin.append_ #[27, 27] 0 #[.slice a4 L.length c4, .slice (some ⟨wr.heap.size, 0, none⟩) 1 1]).run Try.prog W4 = .ok (.slice a5 (L.length + 1) c5) W5 := run4
        replace f := Lib.hid f
        replace f2 := Lib.hid f2
        clear dt run3 run4 hfull hL
        clear hno hr hrows fin ap fz hmem hb2 hq hin
        go_wp2_with fail
        go_region_law (first
          | (refine step_append_go rfl (.const (.slice none 0 0)) (.tmp 35) 27 27 rfl _ _ rfl rfl run1 ?_)
          | (refine step_append_go rfl (.const (.slice none 0 0)) (.tmp 35) 27 27 rfl _ _ rfl rfl run3' ?_)
          | (refine step_append_go rfl (.tmp 36) (.tmp 38) 27 27 rfl _ _ rfl rfl run2 ?_)
          | (refine step_append_go rfl (.tmp 36) (.tmp 38) 27 27 rfl _ _ rfl rfl run4' ?_))
        all_goals
          go_wp2_with fail
          go_ret2
          first | exact f.out | exact f2.out
end
end Go.Proofs.Ytpogfbnaendfoaa
