/- A parcel: what comes, a head. -/
import Derived.Test.YtaolpcmecfhgnaaPaB
namespace Go.Proofs.Ytaolpcmecfhgnaa
open Go.RowKit
open Go.ChangeMaps (setBlock)
set_option linter.unusedVariables false
set_option linter.unusedSectionVars false
set_option linter.unusedSimpArgs false
set_option maxRecDepth 100000

section
variable {B : Nat} {w0 w w' W : World} {pb xb : Nat} {p : Pcl} {F F' S : List (Nat × Obj)} {x : Pie}
/-- At the scales. -/
def PaJ3 (B : Nat) (w0 : World) (pb : Nat) (p : Pcl) (F : List (Nat × Obj)) (a : Act) (w : World) : Prop := Fr 104 [(0, pptr pb)] a ∧ PaIs B w0 w pb p F
/-- The scales' own facts. -/
theorem weigh_mem (h : PaIs B w0 w pb p F) : ∃ a c, w.cell? ⟨pb, 11, none⟩ = some (.slice a p.bytes.length c) ∧ w.cell? ⟨pb, 3, none⟩ = some (.int .i64 p.size) ∧ (∀ n, PaIs B w0 (w.drewN n) pb p F) ∧
    (∀ n, (w.drewN n).frozen? ⟨pb, 0, none⟩ = false) ∧ (∀ n, (w.drewN n).cell? ⟨pb, 0, none⟩ = some (.int .i64 (p.next : Nat))) ∧ ∀ n (k : Nat), PaIs B w0 ((w.drewN n).setCell ⟨pb, 0, none⟩ (.int .i64 k)) pb { p with next := k } F := by
  have hg := fun n => h.grow (drewN_below w n)
  obtain ⟨a, c, S, hs, hst⟩ := h
  exact ⟨a, c, hst.cell (b := pb) List.mem_cons_self rfl, hst.cell (b := pb) List.mem_cons_self rfl, hg, fun n => St.soft (hst.drewN n) (b := pb) List.mem_cons_self 0, fun n => (hst.drewN n).cell (b := pb) List.mem_cons_self rfl, fun n k => ⟨a, c, S, hs, (hst.drewN n).set0 0 (.int .i64 k)⟩⟩

/-- At a sort's label. -/
def PaJ1 (B : Nat) (w0 : World) (pb xb : Nat) (p : Pcl) (v : Value) (x : Pie) (H : List (Nat × Obj)) (a : Act) (w : World) : Prop := Fr 104 [(0, pptr pb), (3, pptr xb)] a ∧ St B w0 w ((pb, paO p v) :: (xb, pieO x) :: H)
set_option maxHeartbeats 4000000 in
theorem come_head (h : PaIs B w0 w pb p F) (hn : p.next = 1) (hx : x.sort = 1) (hb : p.bytes.length ≤ 1000000) : Calls Try.prog 18 #[pptr pb, pieV x] w (ComeR B w0 pb (weighP { p with size := x.size, prio := x.prio, ttl := x.ttl }) F) := by
  obtain ⟨a, c, S, hs, hst⟩ := h
  have hst1 := (hst.alloc (pieO x)).perm (List.Perm.swap _ _ _)
  have on := PaOn.of (p := p) hst1 List.mem_cons_self (List.mem_cons_of_mem _ List.mem_cons_self)
  have hst2 := Lib.hid (fun n => hst1.drewN n)
  have k0 := on.p0
  have k1 := on.x0
  have k2 := Lib.hid (fun n => (PaOn.of (p := p) (x := x) (hst1.drewN n) List.mem_cons_self (List.mem_cons_of_mem _ List.mem_cons_self)))
  rw [hn] at k0
  rw [hx] at k1
  obtain ⟨xs, xe, xk, xbi, xsz, xp, xt, xby⟩ := x
  obtain ⟨nx, pe, pk, psz, pp, pt, pby, pbi⟩ := p
  simp only at hn hx
  subst hn hx
  simp only at k0 k1 k2 hs hb
  clear hst hst1 on
  replace hs := Lib.hid hs
  replace hb := Lib.hid hb
  go_enter Try.func18, Try.ntmps18
  go_wp2_with fail
  refine wp_scope_four (fun _ _ => False) (PaJ1 B w0 pb w.heap.size ⟨1, pe, pk, psz, pp, pt, pby, pbi⟩ (.slice a pby.length c) ⟨1, xe, xk, xbi, xsz, xp, xt, xby⟩ (S ++ F)) (fun _ _ => False) (PaJ3 B w0 pb ⟨2, pe, pk, xsz, xp, xt, pby, pbi⟩ F) rfl rfl rfl rfl (fun _ _ h => h.elim) ?_ (fun _ _ _ h => h.elim) ?_ ?_
  · rintro a' w' ⟨hfr, hP⟩
    obtain ⟨f, rfl, hl⟩ := hfr.lit
    clear hfr k0 k1 k2 hst2 hs
    simp only [List.mem_cons, List.not_mem_nil, or_false, forall_eq] at hl
    simp only [List.range, List.range.loop, List.map, hl]
    clear hl
    obtain ⟨a1, c1, m0, m1, m2, m3, m4, m5⟩ := weigh_mem hP
    clear hP
    have hb0 : (0 : Int) ≤ pby.length := by omega
    have hb1 : (pby.length : Int) ≤ 1000000 := by have := hb.out; omega
    simp only at m0 m1
    replace m2 := Lib.hid m2
    replace m5 := Lib.hid m5
    replace m3 := Lib.hid m3
    replace m4 := Lib.hid m4
    by_cases hq : (pby.length : Int) = xsz
    · have e : weighP ⟨1, pe, pk, xsz, xp, xt, pby, pbi⟩ = ((true, 0), ⟨3, pe, pk, xsz, xp, xt, pby, pbi⟩) := by unfold weighP; rw [if_pos hq]
      rw [e]
      have hB : ((pby.length : Int) == xsz) = true := beq_iff_eq.2 hq
      clear hq e hb
      generalize pby.length = q at *
      go_wp2_with fail
      go_quiet (fail)
      have fin := Lib.hid (m5.out nq 3)
      have s0 := m3.out nq
      have s1 := m4.out nq
      clear m2 m3 m4 m5
      go_wp2_with fail
      simp only [jumps]
      go_ret2
      exact ⟨rfl, fin.out⟩
    · have e : weighP ⟨1, pe, pk, xsz, xp, xt, pby, pbi⟩ = ((false, 0), ⟨2, pe, pk, xsz, xp, xt, pby, pbi⟩) := by unfold weighP; rw [if_neg hq]
      rw [e]
      have hB : ((pby.length : Int) == xsz) = false := beq_eq_false_iff_ne.2 hq
      clear hq e hb
      generalize pby.length = q at *
      go_wp2_with fail
      go_quiet (fail)
      have fin := Lib.hid (m2.out nq)
      clear m2 m3 m4 m5
      go_wp2_with fail
      simp only [jumps]
      go_ret2
      exact ⟨rfl, fin.out⟩
  · rintro a' w' ⟨hfr, hP⟩
    obtain ⟨f, rfl, hl⟩ := hfr.lit
    clear hfr k0 k1 k2 hst2
    simp only [List.mem_cons, List.not_mem_nil, or_false, forall_eq_or_imp, forall_eq] at hl
    obtain ⟨f0, f3⟩ := hl
    simp only [List.range, List.range.loop, List.map, f0, f3]
    clear f0 f3
    generalize w.heap.size = xb at *
    obtain ⟨p0, p3, p4, p5, p6, p7, p11, p12, x0, x1, x2, x3, x4, x5, x6, x7, soft⟩ := PaOn.of (p := ⟨1, pe, pk, psz, pp, pt, pby, pbi⟩) (x := ⟨1, xe, xk, xbi, xsz, xp, xt, xby⟩) hP.drew List.mem_cons_self (List.mem_cons_of_mem _ List.mem_cons_self)
    have t3 := soft 3
    have t6 := soft 6
    have t7 := soft 7
    clear p0 p4 p5 p11 p12 x0 x1 x2 x3 x7
    simp only at p3 p6 p7 x4 x5 x6
    have hS0 : Hid (w'.drew.cell? ⟨xb, 4, none⟩ = some (.int .i64 xsz) ∧ w'.drew.cell? ⟨xb, 5, none⟩ = some (.int .i64 xp) ∧ w'.drew.cell? ⟨xb, 6, none⟩ = some (.int .i64 xt)) := Lib.hid ⟨x4, x5, x6⟩
    have hne := hP.ne (b' := xb) List.mem_cons_self
    have h3 := (((hP.set0 3 (.int .i64 xsz)).set0 6 (.int .i64 xp)).set0 7 (.int .i64 xt)).drew
    have cl : ∀ (W : World) (C : Array Value), St B w0 W ((pb, .cells C 52) :: (xb, pieO ⟨1, xe, xk, xbi, xsz, xp, xt, xby⟩) :: (S ++ F)) → W.cell? ⟨xb, 4, none⟩ = some (.int .i64 xsz) ∧ W.cell? ⟨xb, 5, none⟩ = some (.int .i64 xp) ∧ W.cell? ⟨xb, 6, none⟩ = some (.int .i64 xt) := fun W C h =>
      ⟨h.cell (b := xb) (List.mem_cons_of_mem _ List.mem_cons_self) rfl, h.cell (b := xb) (List.mem_cons_of_mem _ List.mem_cons_self) rfl, h.cell (b := xb) (List.mem_cons_of_mem _ List.mem_cons_self) rfl⟩
    have e1 := Lib.hid (cl _ _ (hP.set0 3 (.int .i64 xsz)).drew)
    have e2 := Lib.hid (cl _ _ ((hP.set0 3 (.int .i64 xsz)).set0 6 (.int .i64 xp)).drew)
    have e3 := Lib.hid (cl _ _ (((hP.set0 3 (.int .i64 xsz)).set0 6 (.int .i64 xp)).set0 7 (.int .i64 xt)).drew)
    have g6 := ((hP.set0 3 (.int .i64 xsz)).drew).cell (b := pb) List.mem_cons_self (i := 6) rfl
    have u6 := St.soft ((hP.set0 3 (.int .i64 xsz)).drew) (b := pb) List.mem_cons_self 6
    have g7 := (((hP.set0 3 (.int .i64 xsz)).set0 6 (.int .i64 xp)).drew).cell (b := pb) List.mem_cons_self (i := 7) rfl
    have u7 := St.soft (((hP.set0 3 (.int .i64 xsz)).set0 6 (.int .i64 xp)).drew) (b := pb) List.mem_cons_self 7
    clear cl
    simp only [List.setIfInBounds_toArray, List.set_cons_zero, List.set_cons_succ] at h3
    replace h3 := Lib.hid h3
    replace hP := Lib.hid hP
    clear soft x4 x5 x6
    go_upto_region 9 with fail
    go_region_held3 (fun wr => wr.cell? ⟨xb, 4, none⟩ = some (.int .i64 xsz) ∧ wr.cell? ⟨xb, 5, none⟩ = some (.int .i64 xp) ∧ wr.cell? ⟨xb, 6, none⟩ = some (.int .i64 xt)) (first | with_reducible exact hS0.out | with_reducible exact e1.out | with_reducible exact e2.out | with_reducible exact e3.out) (fail)
    have h4 := h3.out
    clear h3 g6 u6 g7 u7 e1 e2 e3 hS0 p3 p6 p7 t3 t6 t7 hne hP
    obtain ⟨V, hV⟩ : ∃ V, V = (((w'.setCell ⟨pb, 3, none⟩ (.int .i64 xsz)).setCell ⟨pb, 6, none⟩ (.int .i64 xp)).setCell ⟨pb, 7, none⟩ (.int .i64 xt)).drew := ⟨_, rfl⟩
    rw [← hV] at h4 ⊢
    clear hV
    have q0 := h4.cell (b := pb) List.mem_cons_self (i := 0) rfl
    have s0 := St.soft h4 (b := pb) List.mem_cons_self 0
    have fin : Hid (PaIs B w0 (V.setCell ⟨pb, 0, none⟩ (.int .i64 2)) pb ⟨2, pe, pk, xsz, xp, xt, pby, pbi⟩ F) := by
      have h5 := h4.set0 0 (.int .i64 2)
      exact Lib.hid ⟨a, c, S, hs.out, h5.sub ((List.sublist_cons_self _ _).cons_cons _)⟩
    clear h4
    go_wp2_with fail
    refine wp_goto ?_
    exact .inr (.inr (.inr ⟨rfl, ⟨rfl, rfl, by simp⟩, fin.out⟩))
  · go_wp2_with fail
    go_quiet (fail)
    have on2 := k2.out nq
    have hst3 := hst2.out nq
    clear k2 hst2 k0 k1
    obtain ⟨W, hW⟩ : ∃ W, W = World.drewN (w.alloc (pieO ⟨1, xe, xk, xbi, xsz, xp, xt, xby⟩)) nq := ⟨_, rfl⟩
    rw [← hW] at on2 hst3 ⊢
    clear hW
    have j0 := on2.x0
    clear on2
    go_wp2_with fail
    refine wp_goto ?_
    exact .inr (.inl ⟨rfl, ⟨rfl, rfl, by simp⟩, hst3⟩)
end
end Go.Proofs.Ytaolpcmecfhgnaa
