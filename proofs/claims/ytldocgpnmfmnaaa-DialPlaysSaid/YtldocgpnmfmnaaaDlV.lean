/- The statement of layer 5 about every row of steps. -/
import Derived.Test.YtldocgpnmfmnaaaDlU
import Derived.Deep.CutBlock
namespace Go.Proofs.Ytldocgpnmfmnaaa
open Go.RowKit
set_option linter.unusedVariables false

structure DStep where
  what : Int
  id : Int
  t : Int

theorem dstep_shape {w : World} {cs : List Value} (h : Read Try.prog w 31 cs) : ∃ s : DStep, cs = [.int .i64 s.what, .int .i64 s.id, .int .i64 s.t] ∧ T64 s.what ∧ T64 s.id ∧ T64 s.t := by
  obtain ⟨hl, hf⟩ := Read.struct Try.underlying31 h
  rw [show Try.prog.cellsOf 31 = 3 by kernel_rfl] at hl
  obtain ⟨v0, v1, v2, rfl⟩ : ∃ v0 v1 v2, cs = [v0, v1, v2] := by
    match cs, hl with
    | [v0, v1, v2], _ => exact ⟨v0, v1, v2, rfl⟩
  have t0 : Read Try.prog w 3 (([v0, v1, v2].drop 0).take (Try.prog.cellsOf 3)) := hf 0 _ rfl
  have t1 : Read Try.prog w 3 (([v0, v1, v2].drop 1).take (Try.prog.cellsOf 3)) := hf 1 _ rfl
  have t2 : Read Try.prog w 3 (([v0, v1, v2].drop 2).take (Try.prog.cellsOf 3)) := hf 2 _ rfl
  rw [show Try.prog.cellsOf 3 = 1 by kernel_rfl] at t0 t1 t2
  obtain ⟨n0, e0, b0⟩ := Read.int Try.underlying3 t0
  obtain ⟨n1, e1, b1⟩ := Read.int Try.underlying3 t1
  obtain ⟨n2, e2, b2⟩ := Read.int Try.underlying3 t2
  simp at e0 e1 e2
  subst e0 e1 e2
  exact ⟨⟨n0, n1, n2⟩, rfl, bounds_i64 b0, bounds_i64 b1, bounds_i64 b2⟩

set_option maxRecDepth 100000 in
set_option maxHeartbeats 8000000 in
theorem plays5_walk (a : Option Addr) (len cap : Nat) (rd : Nat → List Value) (w : World) (hl : RowsAt Try.prog w 31 a len rd) :
    Calls Try.prog 3 #[.slice a len cap] w fun e w' => e = .returned (.bool true) ∧ Below w.heap.size w w' := by
  have hk := Lib.hid (known5_true w)
  have htop := hl.top
  have hlm : (len : Int) ≤ 9223372036854775807 := by unfold maxLen at htop; omega
  by_cases hlong : (80 : Int) < len
  · clear hl
    go_enter Try.func3, Try.ntmps3
    go_wp2_with fail
    refine hk.out.mono ?_
    rintro e w1 ⟨rfl, hb⟩
    replace hb := Lib.hid hb
    go_wp2_with fail
    go_ret
    exact ⟨rfl, hb.out⟩
  · have hlen : len ≤ 80 := by omega
    have hlen' : (len : Int) ≤ 80 := by omega
    clear hlong htop
    replace hl := Lib.hid hl
    go_enter Try.func3, Try.ntmps3
    go_wp2_with fail
    refine hk.out.mono ?_
    rintro e w1 ⟨rfl, hb⟩
    have c1 := Lib.hid (dl_new (St.start w1))
    replace hb := Lib.hid hb
    clear hk
    go_wp2_with fail
    refine c1.out.mono ?_
    rintro e w2 ⟨db, rfl, h2⟩
    have h3 : Hid (Two w1.heap.size w1 (w2.alloc (.cells #[.slice none 0 0] 29)) db w2.heap.size [] [] []) := Lib.hid (by
      have h2' : DialIs w1.heap.size w1 w2 db [] ([] ++ []) := h2
      obtain ⟨A, k1, k2⟩ := h2'.beside
      refine ⟨.slice none 0 0, [], SlIs.nil, ?_⟩
      exact k2 _ [(w2.heap.size, refO (.slice none 0 0))] ((k1.alloc (refO (.slice none 0 0))).perm (by simpa using (List.perm_append_singleton _ _).symm)))
    generalize hrb : w2.heap.size = rb at *
    replace hrb := Lib.hid hrb
    clear c1 h2
    have hcell : Hid (∀ w', Below w1.heap.size w1 w' → ∀ i, i < len → ∃ b off s, a = some ⟨b, off, none⟩ ∧ w'.cell? ⟨b, off + i * 3, none⟩ = some (.int .i64 (DStep.what s)) ∧ w'.cell? ⟨b, off + i * 3 + 1, none⟩ = some (.int .i64 s.id) ∧ w'.cell? ⟨b, off + i * 3 + 2, none⟩ = some (.int .i64 s.t) ∧
        T64 s.what ∧ T64 s.id ∧ T64 s.t) := fun w' hw i hi => by
      obtain ⟨b, off, e, hc⟩ := hl.out.cell (hb.out.trans (hw.mono hb.out.size)) hi
      obtain ⟨s, hs, h1, h2, h3⟩ := dstep_shape (hl.out.at_ i hi).1
      rw [hs] at hc
      exact ⟨b, off, s, e, hc 0 _ rfl, hc 1 _ rfl, hc 2 _ rfl, h1, h2, h3⟩
    go_wp2_with fail
    rw [hrb.out]
    clear hrb
    go_loopg [5] len (fun g v5 wr => ∃ (j : Nat) (L : List (Int × Int)), v5 = .int .i64 j ∧ j + g = len ∧ L.length ≤ j ∧ Hid (Two w1.heap.size w1 wr db rb [] L L))
    case atStart => exact ⟨0, [], rfl, by omega, by simp, h3⟩
    case round =>
      clear h3
      obtain ⟨j, L, rfl, hj, hLj, hT⟩ := hrel
      by_cases hlt : j < len
      · obtain ⟨b, off, s, rfl, q0, q1, q2, ⟨u0, u1⟩, ⟨u2, u3⟩, ⟨u4, u5⟩⟩ := hcell.out _ hT.out.below j hlt
        obtain ⟨wh, id, t⟩ := s
        simp only at q0 q1 q2 u0 u1 u2 u3 u4 u5
        have hj1 : (j : Int) < len := by omega
        have hj0 : (0 : Int) ≤ j := by omega
        have hT2 := Lib.hid (hT.out.alloc (.cells #[.int .i64 wh, .int .i64 id, .int .i64 t] 31))
        have d0 : (wr.alloc (.cells #[.int .i64 wh, .int .i64 id, .int .i64 t] 31)).cell? ⟨wr.heap.size, 0, none⟩ = some (.int .i64 wh) := hT2.out.cell (List.mem_cons_self) (i := 0) rfl
        have d1 : (wr.alloc (.cells #[.int .i64 wh, .int .i64 id, .int .i64 t] 31)).cell? ⟨wr.heap.size, 1, none⟩ = some (.int .i64 id) := hT2.out.cell (List.mem_cons_self) (i := 1) rfl
        have d2 : (wr.alloc (.cells #[.int .i64 wh, .int .i64 id, .int .i64 t] 31)).cell? ⟨wr.heap.size, 2, none⟩ = some (.int .i64 t) := hT2.out.cell (List.mem_cons_self) (i := 2) rfl
        have hfin := Lib.hid (hb.out.trans (hT2.out.below.mono hb.out.size))
        by_cases hf1 : (1125899906842624 : Int) < t
        · go_wp2_with fail
          go_ret
          exact ⟨rfl, hfin.out⟩
        by_cases hf2 : t < (-1125899906842624 : Int)
        · go_wp2_with fail
          go_ret
          exact ⟨rfl, hfin.out⟩
        clear hfin hT
        have htT : T64 t := ⟨u4, u5⟩
        replace htT := Lib.hid htT
        have hT3 : Hid (∀ W E Ld Lr, Two w1.heap.size w1 W db rb E Ld Lr → (wr.heap.size, Obj.cells #[.int .i64 wh, .int .i64 id, .int .i64 t] 31) ∈ E → W.cell? ⟨wr.heap.size, 0, none⟩ = some (.int .i64 wh) ∧ W.cell? ⟨wr.heap.size, 1, none⟩ = some (.int .i64 id) ∧ W.cell? ⟨wr.heap.size, 2, none⟩ = some (.int .i64 t)) := Lib.hid fun W E Ld Lr h hm =>
          ⟨h.cell hm rfl, h.cell hm rfl, h.cell hm rfl⟩
        go_upto_block 2 with fail
        clear q0 q1 q2
        generalize wr.alloc (.cells #[.int .i64 wh, .int .i64 id, .int .i64 t] 31) = W0 at *
        generalize Obj.cells #[.int .i64 wh, .int .i64 id, .int .i64 t] 31 = xO at *
        generalize wr.heap.size = xb at *
        go_cut [7] (fun v7 wx => v7 = .bool true ∧ ∃ L', L'.length ≤ j + 1 ∧ Hid (Two w1.heap.size w1 wx db rb [(xb, xO)] L' L'))
        case first =>
          have hL5 : L.length < 5000 := by omega
          have hL6 : L.length ≤ 5000 := by omega
          have hsl := @setL_len L id t
          have hnd := hT2.out.nodup
          by_cases hw4 : wh ≤ 4
          · as_aux_lemma =>
              have cs := Lib.hid (two_set hT2.out id t htT.out hL5)
              clear hT2
              go_wp2_with fail
              refine cs.out.mono ?_
              rintro e w5 ⟨rfl, h5⟩
              obtain ⟨e0, e1, e2⟩ := hT3.out _ _ _ _ h5 List.mem_cons_self
              have cr := Lib.hid (two_rset h5 id t hL6)
              clear cs h5 d0 d1 d2
              go_wp2_with fail
              refine cr.out.mono ?_
              rintro e w6 ⟨rfl, h6⟩
              replace h6 := Lib.hid h6
              clear cr
              go_wp2_with fail
              go_meet
              case rel => exact ⟨rfl, _, by omega, h6⟩
          · by_cases hw6 : wh ≤ 6
            · have c1 := Lib.hid (two_clear (hT2.out.drewN 1) id)
              have c2 : Hid (∀ W Ld, Two w1.heap.size w1 W db rb [(xb, xO)] Ld L → Calls Try.prog 12 #[.pointer (some ⟨rb, 0, none⟩), .int .i64 id] W fun e w' => e = .returned (.bool (hasL id L)) ∧ Two w1.heap.size w1 w' db rb [(xb, xO)] Ld (del id L)) := Lib.hid fun W Ld h => two_rclear h id hL6 hnd
              have hdl : (del id L).length ≤ L.length := List.length_filter_le _ _
              generalize hasL id L = hz at *
              generalize del id L = L2 at *
              have d1' : W0.drew.cell? ⟨xb, 1, none⟩ = some (.int .i64 id) := d1
              clear hT2 hsl hnd
              go_wp2_with fail
              go_region_held3 (fun x => x.cell? ⟨xb, 1, none⟩ = some (.int .i64 id))
                (first
                  | exact d1'
                  | exact hk5
                  | exact hk6)
                ((first
                  | (go_at_call 11; refine c1.out.mono ?_; rintro e w5 ⟨rfl, h5⟩; have hk5 := (hT3.out _ _ _ _ h5 List.mem_cons_self).2.1; have h5' := Lib.hid h5; clear h5)
                  | (go_at_call 12; refine (c2.out _ _ h5'.out).mono ?_; rintro e w6 ⟨rfl, h6⟩; have hk6 := (hT3.out _ _ _ _ h6 List.mem_cons_self).2.1; have h6' := Lib.hid h6; clear h6)))
              go_wp2_with fail
              go_meet
              case rel => exact ⟨by simp, L2, by omega, h6'⟩
            · have c1 := Lib.hid (two_due (hT2.out.drewN 1) t htT.out)
              have c2 : Hid (∀ W u S Ld, SlIs 3 1 u (dueL t L).length (idsV (dueL t L)) S → Two w1.heap.size w1 W db rb (S ++ [(xb, xO)]) Ld L → Calls Try.prog 15 #[.pointer (some ⟨rb, 0, none⟩), .int .i64 t] W fun e w' => ∃ a cap, e = .returned (.slice a (dueL t L).length cap) ∧ ReadInts w' u ((dueL t L).map (·.2)) ∧ ReadInts w' (.slice a (dueL t L).length cap) ((dueL t L).map (·.2)) ∧ Two w1.heap.size w1 w' db rb [(xb, xO)] Ld (restL t L)) := Lib.hid fun W u S Ld hu h => two_rdue h t hL6 hu
              have hdue : ((dueL t L).map (·.2)).length ≤ 1073741824 := by
                have h1 := congrArg List.length (show dueL t L ++ restL t L = L from List.takeWhile_append_dropWhile)
                rw [List.length_append] at h1
                rw [List.length_map]
                omega
              have hrl : (restL t L).length ≤ L.length := by
                have h1 := congrArg List.length (show dueL t L ++ restL t L = L from List.takeWhile_append_dropWhile)
                rw [List.length_append] at h1
                omega
              have d2' : W0.drew.cell? ⟨xb, 2, none⟩ = some (.int .i64 t) := d2
              replace hdue := Lib.hid hdue
              generalize restL t L = L2 at *
              generalize dueL t L = D at *
              clear hT2 hsl hnd
              go_wp2_with fail
              go_region_held3 (fun x => x.cell? ⟨xb, 2, none⟩ = some (.int .i64 t))
                (first
                  | exact d2'
                  | exact hk5
                  | exact hk6
                  | exact hk7)
                ((first
                  | (go_at_call 14; refine c1.out.mono ?_; rintro e w5 ⟨u, S5, rfl, hu, h5⟩; have hk5 := (hT3.out _ _ _ _ h5 (List.mem_append_right _ List.mem_cons_self)).2.2; obtain ⟨au, cu, rfl, -⟩ := hu.form; have h5' := Lib.hid h5; have hu' := Lib.hid hu; clear h5 hu)
                  | (go_at_call 15; refine (c2.out _ _ _ _ hu'.out h5'.out).mono ?_; rintro e w6 ⟨a6, cap6, rfl, r1, r2, h6⟩; have hk6 := (hT3.out _ _ _ _ h6 List.mem_cons_self).2.2; have h6' := Lib.hid h6; have c3 := Lib.hid (sameInts_true r1 r2 hdue.out); clear h6 r1 r2)
                  | (go_at_call 13; refine c3.out.mono ?_; rintro e w7 ⟨rfl, n7, rfl⟩; have h7' := Lib.hid (h6'.out.drewN n7); have hk7 := (hT3.out _ _ _ _ h7'.out List.mem_cons_self).2.2)))
              go_wp2_with fail
              go_meet
              case rel => exact ⟨rfl, L2, by omega, h7'⟩
        case rest =>
          obtain ⟨rfl, L', hL', hT4⟩ := hcut
          obtain ⟨-, e1, -⟩ := hT3.out _ _ _ _ hT4.out List.mem_cons_self
          have cw := Lib.hid (two_when hT4.out id)
          have cr := Lib.hid (two_rwhen hT4.out id (by omega))
          have cl : Hid (∀ n, Calls Try.prog 19 #[mp db] (wc.drewN n) fun e w' => e = .returned (.int .i64 L'.length) ∧ ∃ m, w' = (wc.drewN n).drewN m) := Lib.hid fun n => (two_len (hT4.out.drewN n)).mono fun _ _ ⟨k1, k2⟩ => ⟨k1, 0, k2⟩
          obtain ⟨ar, capr, f0, fc⟩ := hT4.out.ref
          have hnext : Hid (∀ n, Two w1.heap.size w1 (wc.drewN n) db rb [] L' L') := Lib.hid fun n => (hT4.out.sub (List.nil_sublist _)).drewN n
          generalize (whenL id L').getD 0 = ga at *
          generalize (whenL id L').isSome = gb at *
          clear hT2 hT3 d0 d1 d2
          cases L' with
          | nil =>
            have cn := Lib.hid (two_next hT4.out (r := none) rfl)
            clear hT4 fc
            simp only [List.length_nil] at cl f0
            go_wp2_with fail
            refine cw.out.mono ?_
            rintro e w5 ⟨rfl, rfl⟩
            go_wp2_with fail
            refine cr.out.mono ?_
            rintro e w5 ⟨rfl, rfl⟩
            go_wp2_with fail
            refine cn.out.mono ?_
            rintro e w5 ⟨rfl, rfl⟩
            go_wp2_with fail
            go_quiet ((go_at_call 19; exact Calls.quiet_of (cl.out _)))
            go_wp2_with fail
            go_roundg (len - (j + 1))
            case measure => omega
            case rel => exact ⟨j + 1, [], by go_num, by omega, by simp, Lib.hid (hnext.out _)⟩
          | cons x L' =>
            have cn := Lib.hid (two_next hT4.out (r := some x.1) rfl)
            obtain ⟨gr, offr, rfl, f1, f2⟩ := fc 0 x rfl
            rw [Nat.zero_mul, Nat.add_zero] at f1
            obtain ⟨x1, x2⟩ := x
            simp only at f1 cn
            simp only [List.length_cons] at cl f0 hL'
            have hb0 : (0 : Int) ≤ L'.length := by omega
            have hb1 : (L'.length : Int) ≤ 80 := by omega
            have hb2 : (0 : Int) < (L'.length : Int) + 1 := by omega
            clear hT4 fc f2
            replace hL' := Lib.hid hL'
            go_wp2_with fail
            refine cw.out.mono ?_
            rintro e w5 ⟨rfl, rfl⟩
            go_wp2_with fail
            refine cr.out.mono ?_
            rintro e w5 ⟨rfl, rfl⟩
            go_wp2_with fail
            refine cn.out.mono ?_
            rintro e w5 ⟨rfl, rfl⟩
            go_wp2_with fail
            go_quiet ((go_at_call 19; exact Calls.quiet_of (cl.out _)))
            go_wp2_with fail
            go_roundg (len - (j + 1))
            case measure => omega
            case rel => exact ⟨j + 1, (x1, x2) :: L', by go_num, by omega, hL'.out, Lib.hid (hnext.out _)⟩
      · obtain rfl : j = len := by omega
        have hfin := Lib.hid (hb.out.trans (hT.out.below.mono hb.out.size))
        go_wp2_with fail
        go_ret
        exact ⟨rfl, hfin.out⟩

theorem plays5_row {a : Option Addr} {len cap : Nat} {w : World} (h : Read Try.prog w 22 [.slice a len cap]) :
    Calls Try.prog 3 #[.slice a len cap] w fun e w' => e = .returned (.bool true) ∧ Below w.heap.size w w' := by
  obtain ⟨rd, hl⟩ := Read.slice Try.underlying22 (by rw [show Try.prog.cellsOf 31 = 3 by kernel_rfl]; decide) h
  exact plays5_walk a len cap rd w hl
end Go.Proofs.Ytldocgpnmfmnaaa
