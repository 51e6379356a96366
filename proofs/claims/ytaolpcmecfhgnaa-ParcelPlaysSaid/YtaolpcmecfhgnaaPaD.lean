/- A parcel: what comes, bytes. -/
import Derived.Test.YtaolpcmecfhgnaaPaC
namespace Go.Proofs.Ytaolpcmecfhgnaa
open Go.RowKit
open Go.ChangeMaps (setBlock)
set_option linter.unusedVariables false
set_option linter.unusedSectionVars false
set_option linter.unusedSimpArgs false
set_option maxRecDepth 100000

section
variable {B : Nat} {w0 w w' W : World} {pb xb : Nat} {p : Pcl} {F F' S : List (Nat × Obj)} {x : Pie}
set_option maxHeartbeats 4000000 in
theorem come_body (h : PaIs B w0 w pb p F) (hn : p.next = 2) (hx : x.sort = 2) (hb : p.bytes.length + x.bytes.length ≤ 1000000) : Calls Try.prog 18 #[pptr pb, pieV x] w (ComeR B w0 pb (bodyP p x.bytes) F) := by
  obtain ⟨a, c, S, hs, hst⟩ := h
  have hst1 := (hst.alloc (pieO x)).perm (List.Perm.swap _ _ _)
  have on := PaOn.of (p := p) hst1 List.mem_cons_self (List.mem_cons_of_mem _ List.mem_cons_self)
  have hst2 := Lib.hid (fun n => hst1.drewN n)
  have k0 := on.p0
  have k1 := on.x0
  have k2 := Lib.hid (fun n => (PaOn.of (p := p) (x := x) (hst1.drewN n) List.mem_cons_self (List.mem_cons_of_mem _ List.mem_cons_self)))
  rw [hn] at k0
  rw [hx] at k1
  obtain ⟨xs, xe, xk, xbi, xsz, xp, xt, xby⟩ := x
  obtain ⟨nx, pe, pk, psz, pp, pt, pby, pbi⟩ := p
  simp only at hn hx
  subst hn hx
  simp only at k0 k1 k2 hs hb
  clear hst hst1 on
  replace hs := Lib.hid hs
  replace hb := Lib.hid hb
  go_enter Try.func18, Try.ntmps18
  go_wp2_with fail
  refine wp_scope_four (fun a' w' => PaJ B w0 pb ⟨2, pe, pk, psz, pp, pt, pby, pbi⟩ F a' w' ∧ bodyP ⟨2, pe, pk, psz, pp, pt, pby, pbi⟩ xby = ((false, 505), ⟨2, pe, pk, psz, pp, pt, pby, pbi⟩)) (fun _ _ => False) (PaJ1 B w0 pb w.heap.size ⟨2, pe, pk, psz, pp, pt, pby, pbi⟩ (.slice a pby.length c) ⟨2, xe, xk, xbi, xsz, xp, xt, xby⟩ (S ++ F))
    (fun a' w' => PaJ3 B w0 pb ⟨2, pe, pk, psz, pp, pt, pby ++ xby, pbi⟩ F a' w' ∧ bodyP ⟨2, pe, pk, psz, pp, pt, pby, pbi⟩ xby = weighP ⟨2, pe, pk, psz, pp, pt, pby ++ xby, pbi⟩) rfl rfl rfl rfl ?_ ?_ ?_ (fun _ _ h => h.elim) ?_
  · rintro a' w' ⟨⟨hfr, hP⟩, he⟩
    rw [he]
    obtain ⟨f, rfl, hl⟩ := hfr.lit
    clear hfr hl k0 k1 k2 hst2 he hs hb
    replace hP := Lib.hid hP
    simp only [List.range, List.range.loop, List.map]
    go_wp2_with fail
    simp only [jumps]
    go_ret2
    exact ⟨rfl, hP.out⟩
  · rintro a' w' ⟨⟨hfr, hP⟩, he⟩
    rw [he]
    obtain ⟨f, rfl, hl⟩ := hfr.lit
    clear hfr k0 k1 k2 hst2 hs he
    simp only [List.mem_cons, List.not_mem_nil, or_false, forall_eq] at hl
    simp only [List.range, List.range.loop, List.map, hl]
    clear hl
    obtain ⟨a1, c1, m0, m1, m2, m3, m4, m5⟩ := weigh_mem hP
    clear hP
    have hb : Hid ((pby ++ xby).length ≤ 1000000) := Lib.hid (by rw [List.length_append]; exact hb.out)
    generalize pby ++ xby = pby at *
    have hb0 : (0 : Int) ≤ pby.length := by omega
    have hb1 : (pby.length : Int) ≤ 1000000 := by have := hb.out; omega
    simp only at m0 m1
    replace m2 := Lib.hid m2
    replace m5 := Lib.hid m5
    replace m3 := Lib.hid m3
    replace m4 := Lib.hid m4
    by_cases hq : (pby.length : Int) = psz
    · have e : weighP ⟨2, pe, pk, psz, pp, pt, pby, pbi⟩ = ((true, 0), ⟨3, pe, pk, psz, pp, pt, pby, pbi⟩) := by unfold weighP; rw [if_pos hq]
      rw [e]
      have hB : ((pby.length : Int) == psz) = true := beq_iff_eq.2 hq
      clear hq e hb
      generalize pby.length = q at *
      go_wp2_with fail
      go_quiet (fail)
      have fin := Lib.hid (m5.out nq 3)
      have s0 := m3.out nq
      have s1 := m4.out nq
      clear m2 m3 m4 m5
      go_wp2_with fail
      simp only [jumps]
      go_ret2
      exact ⟨rfl, fin.out⟩
    · have e : weighP ⟨2, pe, pk, psz, pp, pt, pby, pbi⟩ = ((false, 0), ⟨2, pe, pk, psz, pp, pt, pby, pbi⟩) := by unfold weighP; rw [if_neg hq]
      rw [e]
      have hB : ((pby.length : Int) == psz) = false := beq_eq_false_iff_ne.2 hq
      clear hq e hb
      generalize pby.length = q at *
      go_wp2_with fail
      go_quiet (fail)
      have fin := Lib.hid (m2.out nq)
      clear m2 m3 m4 m5
      go_wp2_with fail
      simp only [jumps]
      go_ret2
      exact ⟨rfl, fin.out⟩
  · rintro H3 a' w' ⟨hfr, hP⟩
    obtain ⟨f, rfl, hl⟩ := hfr.lit
    clear hfr k0 k1 k2 hst2
    simp only [List.mem_cons, List.not_mem_nil, or_false, forall_eq_or_imp, forall_eq] at hl
    obtain ⟨f0, f3⟩ := hl
    simp only [List.range, List.range.loop, List.map, f0, f3]
    clear f0 f3
    generalize w.heap.size = xb at *
    have l0 : (0 : Int) ≤ pby.length := by omega
    have l1 : (0 : Int) ≤ xby.length := by omega
    have l2 : (pby.length : Int) + xby.length ≤ 1000000 := by have := hb.out; omega
    have j3 : w'.cell? ⟨pb, 3, none⟩ = some (.int .i64 psz) := hP.cell (b := pb) List.mem_cons_self rfl
    have j11 : w'.cell? ⟨pb, 11, none⟩ = some (.slice a pby.length c) := hP.cell (b := pb) List.mem_cons_self rfl
    have jx : w'.cell? ⟨xb, 7, none⟩ = some (tx xby) := hP.cell (b := xb) (List.mem_cons_of_mem _ List.mem_cons_self) rfl
    have hP2 := Lib.hid (fun n => hP.drewN n)
    by_cases hq : (pby.length : Int) + xby.length ≤ psz
    rotate_left
    · have he : bodyP ⟨2, pe, pk, psz, pp, pt, pby, pbi⟩ xby = ((false, 505), ⟨2, pe, pk, psz, pp, pt, pby, pbi⟩) := by
        unfold bodyP
        rw [if_neg fun h => hq h.2]
      have fin : Hid (∀ n, PaIs B w0 (w'.drewN n) pb ⟨2, pe, pk, psz, pp, pt, pby, pbi⟩ F) := Lib.hid fun n => ⟨a, c, S, hs.out, (hP2.out n).sub ((List.sublist_cons_self _ _).cons_cons _)⟩
      have hB : psz < (pby.length : Int) + xby.length := by omega
      replace he := Lib.hid he
      clear hP hP2 hs hb hq H3
      go_wp2_with fail
      go_quiet (fail)
      go_wp2_with fail
      refine wp_goto ?_
      exact .inl ⟨rfl, ⟨⟨rfl, rfl, by simp⟩, fin.out _⟩, he.out⟩
    · have he : bodyP ⟨2, pe, pk, psz, pp, pt, pby, pbi⟩ xby = weighP ⟨2, pe, pk, psz, pp, pt, pby ++ xby, pbi⟩ := by
        unfold bodyP
        rw [if_pos ⟨rfl, hq⟩]
      have hB : ¬ psz < (pby.length : Int) + xby.length := by omega
      have stp : Hid (∀ n, ∃ V, V = w'.drewN n ∧ V.drew.cell? ⟨pb, 11, none⟩ = some (.slice a pby.length c) ∧ V.drew.cell? ⟨xb, 7, none⟩ = some (tx xby) ∧ ∃ v' W, (Builtin.append_ #[47, 9] 0 #[.slice a pby.length c, tx xby]).run Try.prog V.drew = .ok v' W ∧
          W.cell? ⟨pb, 11, none⟩ = some (.slice a pby.length c) ∧ W.frozen? ⟨pb, 11, none⟩ = false ∧ (∃ a' c', v' = .slice a' (pby ++ xby).length c') ∧ PaIs B w0 (W.setCell ⟨pb, 11, none⟩ v') pb ⟨2, pe, pk, psz, pp, pt, pby ++ xby, pbi⟩ F) := Lib.hid fun n => by
        have hV := (hP2.out n).drew
        obtain ⟨i0, hi, hz0, hz1, hz2⟩ := info_parts infU8P
        have hb2 := hb.out
        obtain ⟨v2, w2, S2, hr, hs2, hst2⟩ := run_append_sl_str (P := Try.prog) 47 9 0 5 i0 uBytes6 uStr6 hi hz0 hz1 hz2 hs.out (A := (pb, paO ⟨2, pe, pk, psz, pp, pt, pby, pbi⟩ (.slice a pby.length c)) :: (xb, pieO ⟨2, xe, xk, xbi, xsz, xp, xt, xby⟩) :: F)
          (hV.perm (by simp only [List.cons_append]; exact .cons _ (.cons _ List.perm_append_comm))) ⟨xby.toArray⟩ (by show _ + xby.length ≤ _; unfold maxLen; omega) (by show _ + xby.length ≤ _; omega)
        rw [strCells_tx, ← byteCells_append, show (⟨xby.toArray⟩ : ByteArray).size = xby.length from rfl, ← List.length_append] at hs2
        obtain ⟨a', c', rfl, -, -, -⟩ := hs2.form
        refine ⟨_, rfl, hV.cell (b := pb) List.mem_cons_self rfl, hV.cell (b := xb) (List.mem_cons_of_mem _ List.mem_cons_self) rfl, _, w2, hr, hst2.cell (b := pb) (i := 11) (List.mem_append_left _ List.mem_cons_self) rfl, St.soft hst2 (b := pb) (List.mem_append_left _ List.mem_cons_self) 11, ⟨a', c', rfl⟩, a', c', S2, hs2, ?_⟩
        have h3 := hst2.set0 (C := ((xb, pieO ⟨2, xe, xk, xbi, xsz, xp, xt, xby⟩) :: F) ++ S2) 11 (.slice a' (pby ++ xby).length c')
        exact (h3.sub ((List.sublist_cons_self _ _).cons_cons _)).perm (.cons _ List.perm_append_comm)
      replace he := Lib.hid he
      clear hP hP2 hs hb hq
      go_wp2_with fail
      go_quiet (fail)
      obtain ⟨V, hV, y1, y2, v', W, run1, z1, z2, ⟨a', c', rfl⟩, fin⟩ := stp.out nq
      replace fin := Lib.hid fin
      clear stp j3 j11 jx
      go_upto_region 12 with fail
      rw [← hV]
      clear hV
      generalize (pby ++ xby).length = q2 at *
      go_region_law (refine step_append_go rfl (.tmp 84) (.tmp 86) 47 9 rfl _ _ (by simp [Act.eval]) (by simp [Act.eval]) run1 ?_)
      all_goals
        clear run1 y1 y2 z1 z2
        go_wp2_with fail
        refine wp_label ?_
        go_step
        go_step
        exact H3 _ _ ⟨⟨⟨rfl, rfl, by simp⟩, fin.out⟩, he.out⟩
  · go_wp2_with fail
    go_quiet (fail)
    have on2 := k2.out nq
    have hst3 := hst2.out nq
    clear k2 hst2 k0 k1
    obtain ⟨W, hW⟩ : ∃ W, W = World.drewN (w.alloc (pieO ⟨2, xe, xk, xbi, xsz, xp, xt, xby⟩)) nq := ⟨_, rfl⟩
    rw [← hW] at on2 hst3 ⊢
    clear hW
    have j0 := on2.x0
    clear on2
    go_wp2_with fail
    refine wp_goto ?_
    exact .inr (.inr (.inl ⟨rfl, ⟨rfl, rfl, by simp⟩, hst3⟩))
end
end Go.Proofs.Ytaolpcmecfhgnaa
