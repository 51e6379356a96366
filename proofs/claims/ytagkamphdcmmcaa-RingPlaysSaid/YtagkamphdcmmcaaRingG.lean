/- The statement of layer 2 about every row of steps. -/
import Derived.Test.YtagkamphdcmmcaaRingF
import Derived.Test.YtagkamphdcmmcaaSame
import Derived.Deep.DeepCutAuto
import Derived.Deep.CutBlock
namespace Go.Proofs.Ytagkamphdcmmcaa
open Go.RowKit

structure RStep where
  what : Int
  n : Int

theorem rstep_shape {w : World} {cs : List Value} (h : Read Try.prog w 28 cs) : ∃ s : RStep, cs = [.int .i64 s.what, .int .i64 s.n] ∧ (-9223372036854775808 ≤ s.what ∧ s.what ≤ 9223372036854775807) ∧ (-9223372036854775808 ≤ s.n ∧ s.n ≤ 9223372036854775807) := by
  obtain ⟨hl, hf⟩ := Read.struct Try.underlying28 h
  rw [show Try.prog.cellsOf 28 = 2 by kernel_rfl] at hl
  obtain ⟨v0, v1, rfl⟩ : ∃ v0 v1, cs = [v0, v1] := by
    match cs, hl with
    | [v0, v1], _ => exact ⟨v0, v1, rfl⟩
  have t0 : Read Try.prog w 3 (([v0, v1].drop 0).take (Try.prog.cellsOf 3)) := hf 0 _ rfl
  have t1 : Read Try.prog w 3 (([v0, v1].drop 1).take (Try.prog.cellsOf 3)) := hf 1 _ rfl
  rw [show Try.prog.cellsOf 3 = 1 by kernel_rfl] at t0 t1
  obtain ⟨n0, e0, b0⟩ := Read.int Try.underlying3 t0
  obtain ⟨n1, e1, b1⟩ := Read.int Try.underlying3 t1
  simp at e0 e1
  subst e0 e1
  exact ⟨⟨n0, n1⟩, rfl, bounds_i64 b0, bounds_i64 b1⟩

set_option maxRecDepth 100000 in
set_option maxHeartbeats 4000000 in
theorem plays2_walk (a : Option Addr) (len cap : Nat) (rd : Nat → List Value) (at_ : Int) (w : World) (hl : RowsAt Try.prog w 28 a len rd) (ha0 : -9223372036854775808 ≤ at_) (ha1 : at_ ≤ 9223372036854775807) :
    Calls Try.prog 3 #[.slice a len cap, .int .i64 at_] w fun e w' => e = .returned (.bool true) ∧ Below w.heap.size w w' := by
  have hk := Lib.hid (known2_true w)
  by_cases hlong : (150 : Int) < len
  · clear hl
    go_enter Try.func3, Try.ntmps3
    go_wp2_with fail
    refine hk.out.mono ?_
    rintro e w1 ⟨rfl, hb⟩
    replace hb := Lib.hid hb
    go_wp2_with fail
    go_ret
    exact ⟨rfl, hb.out⟩
  · have hlen : len ≤ 150 := by omega
    clear hlong
    have hlong : decide ((150 : Int) < len) = false := by simp; omega
    replace hl := Lib.hid hl
    go_enter Try.func3, Try.ntmps3
    go_wp2_with fail
    refine hk.out.mono ?_
    rintro e w1 ⟨rfl, hb⟩
    have c1 := Lib.hid (ring_new (St.start w1))
    replace hb := Lib.hid hb
    clear hk
    go_wp2_with fail
    refine c1.out.mono ?_
    rintro e w2 ⟨rfl, h2⟩
    replace h2 := Lib.hid h2
    clear c1
    have hcell : Hid (∀ w', Below w1.heap.size w1 w' → ∀ i, i < len → ∃ b off s, a = some ⟨b, off, none⟩ ∧ w'.cell? ⟨b, off + i * 2, none⟩ = some (.int .i64 (RStep.what s)) ∧ w'.cell? ⟨b, off + i * 2 + 1, none⟩ = some (.int .i64 s.n) ∧
        (-9223372036854775808 ≤ s.what ∧ s.what ≤ 9223372036854775807) ∧ (-9223372036854775808 ≤ s.n ∧ s.n ≤ 9223372036854775807)) := fun w' hw i hi => by
      obtain ⟨b, off, e, hc⟩ := hl.out.cell (hb.out.trans (hw.mono hb.out.size)) hi
      obtain ⟨s, hs, h1, h2⟩ := rstep_shape (hl.out.at_ i hi).1
      rw [hs] at hc
      exact ⟨b, off, s, e, hc 0 _ rfl, hc 1 _ rfl, h1, h2⟩
    go_wp2_with fail
    go_loopw [6, 7] (fun m i wr => ∃ (j q : Nat) (L : List Int) (Fm : List (Nat × Obj)), i = .int .i64 j ∧ j ≤ len ∧ q ≤ j ∧ SlIs 3 1 m q (ints L) Fm ∧ RingIs w1.heap.size w1 wr w1.heap.size L Fm) (fun _ i _ => len - (intOf i).toNat)
    case atStart => exact ⟨0, 0, [], [], rfl, Nat.zero_le _, Nat.le_refl _, SlIs.nil, h2.out⟩
    case round =>
      obtain ⟨j, q, L, Fm, rfl, hj, hLj, hsl, hring⟩ := hrel
      clear h2
      by_cases hlt : j < len
      · obtain ⟨b, off, s, ea, hc0, hc1, hw, hn⟩ := hcell.out _ hring.below j hlt
        subst ea
        obtain ⟨wh, n⟩ := s
        simp only at hc0 hc1 hw hn
        obtain ⟨hw0, hw1⟩ := hw
        obtain ⟨hn0, hn1⟩ := hn
        have hLq : L.length = q := by have := hsl.len; rw [ints_len, Nat.mul_one] at this; exact this
        replace hLq := Lib.hid hLq
        obtain ⟨av, acap, rfl, hcap, hcm, hav⟩ := hsl.form
        replace hav := Lib.hid hav
        have hcm2 : acap ≤ 9223372036854775807 := hcm
        have hlt' : (j : Int) < len := by omega
        replace hsl := Lib.hid hsl
        replace hring := Lib.hid hring
        go_upto_block 2 with fail
        go_cut [6] (fun m wx => ∃ (q' : Nat) (L' : List Int) (Fm' : List (Nat × Obj)), q' ≤ j + 1 ∧ SlIs 3 1 m q' (ints L') Fm' ∧ RingIs w1.heap.size w1 wx w1.heap.size L' Fm')
        case first =>
          have hr2 := Lib.hid (hring.out.alloc (.cells #[.int .i64 wh, .int .i64 n] 28))
          have hd0 : (wr.alloc (.cells #[.int .i64 wh, .int .i64 n] 28)).cell? ⟨wr.heap.size, 0, none⟩ = some (.int .i64 wh) := by simp
          have hd1 : (wr.alloc (.cells #[.int .i64 wh, .int .i64 n] 28)).cell? ⟨wr.heap.size, 1, none⟩ = some (.int .i64 n) := by simp
          obtain ⟨i0, hi, hz0, hz1, hz2⟩ := info_parts infIntR
          have hLlen : L.length < 536870912 := by have := hLq.out; omega
          replace hLlen := Lib.hid hLlen
          by_cases hw2 : wh ≤ 2
          · as_aux_lemma =>
              have cp := Lib.hid (ring_push hr2.out hLlen.out n)
              go_wp2_with fail
              refine cp.out.mono ?_
              rintro e w5 ⟨rfl, h5⟩
              have hd1' := h5.cell (b := wr.heap.size) (i := 1) List.mem_cons_self rfl
              have h6 := Lib.hid (((h5.sub (List.sublist_cons_self _ _)).alloc (.cells #[.int .i64 n] 3)).sub (List.sublist_cons_self _ _))
              obtain ⟨X, hst, hback⟩ := h6.out.st
              replace hst := Lib.hid hst
              replace hback := Lib.hid hback
              clear h5 cp
              go_wp2_with (at_builtin; refine wpList_append_sl rfl _ _ _ rfl 3 i0 (.int .i64 0) 1 8 uIntsR hi hz0 hz1 hz2 rfl hsl.out hst.out (Reads.one w5 (.int .i64 n) 3) (by intro u hu; obtain rfl := List.mem_singleton.1 hu; rfl) (by unfold maxLen; omega) (by omega) rfl rfl ?_; intro v2 w6 F2 hsl2 hst2; have hsl3 := Lib.hid hsl2; have hst3 := Lib.hid hst2; clear hsl2 hst2)
              go_meet
              case rel => exact ⟨q + 1, L ++ [n], F2, by omega, by rw [ints_append]; exact hsl3.out, hback.out _ _ hst3.out⟩
          · by_cases hw5 : wh ≤ 5
            · as_aux_lemma =>
                have cp := Lib.hid (ring_unshift hr2.out hLlen.out n)
                go_wp2_with fail
                refine cp.out.mono ?_
                rintro e w5 ⟨rfl, h5⟩
                have hd1' := h5.cell (b := wr.heap.size) (i := 1) List.mem_cons_self rfl
                obtain ⟨X, hst0, hback⟩ := (h5.sub (List.sublist_cons_self _ _)).st
                have hst := hst0.alloc (.cells #[.int .i64 n] 3)
                have hrd := hsl.out.reads (A := (w5.heap.size, .cells #[.int .i64 n] 3) :: X) hst
                have hst' := hst.perm (H' := (X ++ Fm) ++ [(w5.heap.size, .cells #[.int .i64 n] 3)]) (by simpa using (List.perm_middle (a := (w5.heap.size, Obj.cells #[.int .i64 n] 3 (0, 0))) (l₁ := X ++ Fm) (l₂ := [])).symm)
                have hone : SlIs 3 1 (.slice (some ⟨w5.heap.size, 0, none⟩) 1 1) 1 [.int .i64 n] [(w5.heap.size, .cells #[.int .i64 n] 3)] := SlIs.made rfl (by unfold maxLen; omega)
                replace hst := Lib.hid hst'
                replace hback := Lib.hid hback
                replace hrd := Lib.hid hrd
                replace hone := Lib.hid hone
                clear h5 cp hst0 hst'
                go_wp2_with (at_builtin; refine wpList_append_sl rfl _ _ _ rfl 3 i0 (.int .i64 0) 1 8 uIntsR hi hz0 hz1 hz2 rfl hone.out hst.out hrd.out (by intro u hu; obtain ⟨z, _, rfl⟩ := List.mem_map.1 hu; rfl) (by unfold maxLen; omega) (by omega) rfl rfl ?_; intro v2 w6 F2 hsl2 hst2; have hsl3 := Lib.hid hsl2; have hst3 := Lib.hid hst2; clear hsl2 hst2)
                go_meet
                case rel => exact ⟨1 + q, n :: L, F2, by omega, hsl3.out, hback.out _ _ (hst3.out.sub ((List.sublist_append_left X Fm).append (List.Sublist.refl _)))⟩
            · by_cases hw7 : wh ≤ 7
              · by_cases hq : q = 0
                · as_aux_lemma =>
                    subst hq
                    obtain rfl : L = [] := List.eq_nil_of_length_eq_zero hLq.out
                    have cp := Lib.hid (ring_pop_to hr2.out (v := .tuple #[.int .i64 0, .bool false]) (l' := []) rfl rfl)
                    obtain ⟨v', hv', -, -, hrun⟩ := run_piece (P := Try.prog) uIntsR hi hz1 hsl.out 0 0 (Nat.le_refl _) (Nat.le_refl _)
                    have hrun' := hrun rfl
                    simp only [Int.natCast_zero] at hrun'
                    replace hv' := Lib.hid hv'
                    clear hrun
                    go_wp2_with fail
                    refine cp.out.mono ?_
                    rintro e w5 ⟨rfl, h5⟩
                    have h6 := Lib.hid (h5.sub (List.sublist_cons_self _ _))
                    clear h5 cp
                    go_wp2_with fail
                    go_meet
                    case rel => exact ⟨0, [], Fm, by omega, hv'.out, h6.out⟩
                · obtain ⟨k, rfl⟩ : ∃ k, q = k + 1 := ⟨q - 1, by omega⟩
                  as_aux_lemma =>
                    obtain ⟨L', x, rfl⟩ : ∃ L' x, L = L' ++ [x] := ⟨L.dropLast, L.getLast (by intro e; rw [e] at hLq; exact absurd hLq.out (by simp)), (List.dropLast_concat_getLast _).symm⟩
                    have hLk : L'.length = k := by have := hLq.out; simpa using this
                    have cp := Lib.hid (ring_pop_to hr2.out (v := .tuple #[.int .i64 x, .bool true]) (l' := L') (by simp [popR]) (by simp))
                    obtain ⟨g, off2, rfl⟩ := hav.out k (by omega)
                    have hv' := hsl.out.piece 0 k (Nat.zero_le _) (by omega) rfl
                    have hv2 : SlIs 3 1 (.slice (some ⟨g, off2, none⟩) k acap) k (ints L') Fm := by
                      rw [Nat.zero_mul, List.drop_zero, Nat.sub_zero, Nat.mul_one, ints_append, List.take_left' (by rw [ints_len]; exact hLk)] at hv'
                      simpa [Go.WideShapes.add_plain] using hv'
                    have hx : (ints (L' ++ [x]))[k]? = some (.int .i64 x) := ints_at (by rw [← hLk]; simp)
                    replace hv2 := Lib.hid hv2
                    replace hx := Lib.hid hx
                    replace hLk := Lib.hid hLk
                    clear hv'
                    go_wp2_with fail
                    refine cp.out.mono ?_
                    rintro e w5 ⟨rfl, h5⟩
                    have h6 := h5.sub (List.sublist_cons_self _ _)
                    obtain ⟨X, hst, -⟩ := h6.st
                    have hcx := hsl.out.cellAt hst hx.out
                    replace h6 := Lib.hid h6
                    clear h5 cp hst
                    go_wp2_with fail
                    · go_meet
                      case rel => exact ⟨k, L', Fm, by omega, hv2.out, h6.out⟩
                    · obtain rfl : k = 0 := by omega
                      go_meet
                      case rel => exact ⟨0, L', Fm, by omega, hv2.out, h6.out⟩
              · by_cases hq : q = 0
                · as_aux_lemma =>
                    subst hq
                    obtain rfl : L = [] := List.eq_nil_of_length_eq_zero hLq.out
                    have cp := Lib.hid (ring_shift_to hr2.out (v := .tuple #[.int .i64 0, .bool false]) (l' := []) rfl rfl)
                    obtain ⟨v', hv', -, hrun, -⟩ := run_piece (P := Try.prog) uIntsR hi hz1 hsl.out 0 0 (Nat.le_refl _) (Nat.le_refl _)
                    have hrun' := hrun rfl
                    simp only [Int.natCast_zero] at hrun'
                    replace hv' := Lib.hid hv'
                    clear hrun
                    go_wp2_with fail
                    refine cp.out.mono ?_
                    rintro e w5 ⟨rfl, h5⟩
                    have h6 := Lib.hid (h5.sub (List.sublist_cons_self _ _))
                    clear h5 cp
                    go_wp2_with fail
                    go_meet
                    case rel => exact ⟨0, [], Fm, by omega, hv'.out, h6.out⟩
                · obtain ⟨k, rfl⟩ : ∃ k, q = k + 1 := ⟨q - 1, by omega⟩
                  as_aux_lemma =>
                    obtain ⟨x, L', rfl⟩ : ∃ x L', L = x :: L' := by
                      cases L with
                      | nil => exact absurd hLq.out (by simp)
                      | cons x L' => exact ⟨x, L', rfl⟩
                    have hLk : L'.length = k := by have := hLq.out; simpa using this
                    have cp := Lib.hid (ring_shift_to hr2.out (v := .tuple #[.int .i64 x, .bool true]) (l' := L') rfl rfl)
                    obtain ⟨v', hv', -, hrun, -⟩ := run_piece (P := Try.prog) uIntsR hi hz1 hsl.out 1 (k + 1) (by omega) (Nat.le_refl _)
                    have hrun' := hrun rfl
                    simp only [Int.natCast_one] at hrun'
                    have hv2 : SlIs 3 1 v' k (ints L') Fm := by
                      rw [Nat.mul_one, Nat.add_sub_cancel, Nat.mul_one] at hv'
                      have e : (List.drop 1 (ints (x :: L'))).take k = ints L' := by
                        show (ints L').take k = ints L'
                        exact List.take_of_length_le (by rw [ints_len]; omega)
                      rw [e] at hv'
                      exact hv'
                    obtain ⟨g, off2, rfl⟩ := hav.out 0 (by omega)
                    have hx : (ints (x :: L'))[0]? = some (.int .i64 x) := rfl
                    replace hv2 := Lib.hid hv2
                    replace hx := Lib.hid hx
                    replace hLk := Lib.hid hLk
                    clear hrun hv'
                    go_wp2_with fail
                    refine cp.out.mono ?_
                    rintro e w5 ⟨rfl, h5⟩
                    have h6 := h5.sub (List.sublist_cons_self _ _)
                    obtain ⟨X, hst, -⟩ := h6.st
                    have hcx := hsl.out.cellAt hst hx.out
                    rw [Nat.add_zero] at hcx
                    replace h6 := Lib.hid h6
                    clear h5 cp hst
                    go_wp2_with fail
                    go_meet
                    case rel => exact ⟨k, L', Fm, by omega, hv2.out, h6.out⟩
        case rest =>
          as_aux_lemma =>
            obtain ⟨q', L', Fm', hq', hsl', hring'⟩ := hcut
            clear hsl hring hav hLq
            have hL' : L'.length = q' := by have := hsl'.len; rw [ints_len, Nat.mul_one] at this; exact this
            subst hL'
            obtain ⟨av, acap, rfl, hcap, hcm, hav⟩ := hsl'.form
            replace hav := Lib.hid hav
            replace hsl' := Lib.hid hsl'
            by_cases his : 0 ≤ at_ ∧ at_ < (L'.length : Int)
            · obtain ⟨his0, his1⟩ := his
              obtain ⟨p, rfl⟩ : ∃ p : Nat, at_ = p := ⟨at_.toNat, by omega⟩
              have hp : p < L'.length := by omega
              obtain ⟨g, off2, rfl⟩ := hav.out p hp
              have hx : L'[p]? = some L'[p] := List.getElem?_eq_getElem hp
              generalize L'[p] = x at hx
              have cp := Lib.hid (ring_at_to hring' (p : Int) (v := .tuple #[.int .i64 x, .bool true]) (by unfold atR; rw [if_neg (by omega), Int.toNat_natCast, hx]))
              replace hx := Lib.hid hx
              clear hring'
              go_wp2_with fail
              refine cp.out.mono ?_
              rintro e w5 ⟨rfl, h5⟩
              obtain ⟨X, hst, -⟩ := h5.st
              have hcx := hsl'.out.cellAt hst (ints_at hx.out)
              have ca := Lib.hid (ring_all h5)
              clear cp hst
              go_wp2_with fail
              refine ca.out.mono ?_
              rintro e w6 ⟨v, A, rfl, hsA, h6⟩
              obtain ⟨X, hst, -⟩ := h6.st
              have r1 := SlIs.readInts hsA (hst.perm (H' := (X ++ Fm') ++ A) (by simpa using List.perm_append_comm.append_left X))
              have r2 := SlIs.readInts (A := X ++ A) hsl'.out (by simpa using hst)
              have cs := Lib.hid (sameInts_true r1 r2 (by omega))
              have cl := Lib.hid (fun m => ring_len_to (h6.drewN m) rfl)
              have h7 := Lib.hid (h6.sub (List.sublist_append_right A Fm'))
              clear ca hst r1 r2 h5 h6 hsA
              go_wp2_with fail
              refine cs.out.mono ?_
              rintro e w7 ⟨rfl, m, rfl⟩
              go_wp2_with fail
              refine (cl.out _).mono ?_
              rintro e w8 ⟨rfl, rfl⟩
              go_wp2_with fail
              go_roundw
              case rel => exact ⟨j + 1, L'.length, L', Fm', by go_num, by omega, by omega, hsl'.out, h7.out.drewN _⟩
              case measure => simp [intOf]; omega
            · have hat : atR L' at_ = .tuple #[.int .i64 0, .bool false] := by
                unfold atR
                by_cases h0 : at_ < 0
                · rw [if_pos h0]
                · rw [if_neg h0, List.getElem?_eq_none (by omega)]
              have cp := Lib.hid (ring_at_to hring' at_ hat)
              have hdec : (0 ≤ at_ ∧ decide (at_ < (L'.length : Int)) = false) ∨ decide (0 ≤ at_) = false := by
                by_cases h0 : 0 ≤ at_
                · exact .inl ⟨h0, by simp; omega⟩
                · exact .inr (by simpa using h0)
              clear hring' hat his
              rcases hdec with ⟨hd0, hd⟩ | hd
              all_goals
                go_wp2_with fail
                refine cp.out.mono ?_
                rintro e w5 ⟨rfl, h5⟩
                have ca := Lib.hid (ring_all h5)
                clear cp
                go_wp2_with fail
                refine ca.out.mono ?_
                rintro e w6 ⟨v, A, rfl, hsA, h6⟩
                obtain ⟨X, hst, -⟩ := h6.st
                have r1 := SlIs.readInts hsA (hst.perm (H' := (X ++ Fm') ++ A) (by simpa using List.perm_append_comm.append_left X))
                have r2 := SlIs.readInts (A := X ++ A) hsl'.out (by simpa using hst)
                have cs := Lib.hid (sameInts_true r1 r2 (by omega))
                have cl := Lib.hid (fun m => ring_len_to (h6.drewN m) rfl)
                have h7 := Lib.hid (h6.sub (List.sublist_append_right A Fm'))
                clear ca hst r1 r2 h5 h6 hsA
                go_wp2_with fail
                refine cs.out.mono ?_
                rintro e w7 ⟨rfl, m, rfl⟩
                go_wp2_with fail
                refine (cl.out _).mono ?_
                rintro e w8 ⟨rfl, rfl⟩
                go_wp2_with fail
                go_roundw
                case rel => exact ⟨j + 1, L'.length, L', Fm', by go_num, by omega, by omega, hsl'.out, h7.out.drewN _⟩
                case measure => simp [intOf]; omega
      · replace hsl := Lib.hid hsl
        replace hring := Lib.hid hring
        go_wp2_with fail
        go_ret
        exact ⟨rfl, hb.out.trans (hring.out.below.mono hb.out.size)⟩

theorem plays2_row {a : Option Addr} {len cap : Nat} {n : Int} {w : World} (r0 : Read Try.prog w 22 [.slice a len cap]) (r1 : Read Try.prog w 3 [.int .i64 n]) :
    Calls Try.prog 3 #[.slice a len cap, .int .i64 n] w fun e w' => e = .returned (.bool true) ∧ Below w.heap.size w w' := by
  obtain ⟨rd, hl⟩ := Read.slice Try.underlying22 (by rw [show Try.prog.cellsOf 28 = 2 by kernel_rfl]; decide) r0
  obtain ⟨n', e, hn⟩ := Read.int Try.underlying3 r1
  cases e
  have hb := bounds_i64 hn
  exact plays2_walk a len cap rd n w hl hb.1 hb.2
end Go.Proofs.Ytagkamphdcmmcaa
