/- Heads that are read, by the program. -/
import Derived.Test.YtnnpcjhjmghobaaDoorCtC
import Derived.Test.YtnnpcjhjmghobaaDoorGoto
namespace Go.Proofs.YtnnpcjhjmghobaaDoor
open Go.RowKit
set_option linter.unusedVariables false

section
variable {P : Program} {a : Act} {w : World} {Q : Exit → Act → World → Prop}
def tri (l0 l1 l2 : Nat) (J0 J1 : Act → World → Prop) (K : Act → World → Prop) (l : Nat) (a : Act) (w : World) : Prop := (l = l0 ∧ J0 a w) ∨ (l = l1 ∧ J1 a w) ∨ (l = l2 ∧ K a w)
/-- A scope with three labels: l2 is jumped back to; l1 and l0 forward; l1 lies ahead of l0 and falls to it. -/
theorem wp_scope_tri {c X0 X1 X2 : Code} (l0 l1 l2 : Nat) (J0 J1 : Act → World → Prop) (J2 : Nat → Act → World → Prop) (h01 : l0 ≠ l1) (h02 : l0 ≠ l2) (h12 : l1 ≠ l2)
    (h0 : findLabel c l0 = some (.seq .skip X0)) (h1 : findLabel c l1 = some (.seq .skip X1)) (h2 : findLabel c l2 = some (.seq .skip X2))
    (pass0 : ∀ a w, J0 a w → X0.wp P (jumps (fun _ _ _ => False) Q) a w)
    (pass1 : (∀ a w, J0 a w → X0.wp P (jumps (fun _ _ _ => False) Q) a w) → ∀ a w, J1 a w → X1.wp P (jumps (fun _ _ _ => False) Q) a w)
    (pass2 : ∀ n a w, J2 n a w → X2.wp P (jumps (tri l0 l1 l2 J0 J1 fun a' w' => ∃ m, m < n ∧ J2 m a' w') Q) a w)
    (first : (∀ n a w, J2 n a w → X2.wp P (jumps (tri l0 l1 l2 J0 J1 fun a' w' => ∃ m, J2 m a' w') Q) a w) → c.wp P (jumps (tri l0 l1 l2 J0 J1 fun a' w' => ∃ m, J2 m a' w') Q) a w) : (Code.scope c).wp P Q a w := by
  refine wp_scope_gotos (fun l => if l = l0 then X0 else if l = l1 then X1 else X2) (fun l n a w => (l = l0 ∧ n = 0 ∧ J0 a w) ∨ (l = l1 ∧ n = 1 ∧ J1 a w) ∨ (l = l2 ∧ ∃ m, n = m + 2 ∧ J2 m a w)) ?_ ?_ ?_
  · rintro l n a w (⟨rfl, _⟩ | ⟨rfl, _⟩ | ⟨rfl, _⟩)
    · rw [if_pos rfl]; exact h0
    · rw [if_neg (Ne.symm h01), if_pos rfl]; exact h1
    · rw [if_neg (Ne.symm h02), if_neg (Ne.symm h12)]; exact h2
  · refine Code.wp_mono (jumps_mono ?_) (first fun n a w hJ => Code.wp_mono (jumps_mono ?_) (pass2 n a w hJ))
    · rintro l a' w' (⟨rfl, h⟩ | ⟨rfl, h⟩ | ⟨rfl, m, h⟩)
      · exact ⟨0, .inl ⟨rfl, rfl, h⟩⟩
      · exact ⟨1, .inr (.inl ⟨rfl, rfl, h⟩)⟩
      · exact ⟨m + 2, .inr (.inr ⟨rfl, m, rfl, h⟩)⟩
    · rintro l a' w' (⟨rfl, h⟩ | ⟨rfl, h⟩ | ⟨rfl, m, _, h⟩)
      · exact .inl ⟨rfl, h⟩
      · exact .inr (.inl ⟨rfl, h⟩)
      · exact .inr (.inr ⟨rfl, m, h⟩)
  · rintro l n a w (⟨rfl, rfl, h⟩ | ⟨rfl, rfl, h⟩ | ⟨rfl, m, rfl, h⟩)
    · rw [if_pos rfl]; exact Code.wp_mono (jumps_mono fun _ _ _ h => h.elim) (pass0 a w h)
    · rw [if_neg (Ne.symm h01), if_pos rfl]; exact Code.wp_mono (jumps_mono fun _ _ _ h => h.elim) (pass1 pass0 a w h)
    · rw [if_neg (Ne.symm h02), if_neg (Ne.symm h12)]
      refine Code.wp_mono (jumps_mono ?_) (pass2 m a w h)
      rintro l a' w' (⟨rfl, h⟩ | ⟨rfl, h⟩ | ⟨rfl, q, hq, h⟩)
      · exact ⟨0, by omega, .inl ⟨rfl, rfl, h⟩⟩
      · exact ⟨1, by omega, .inr (.inl ⟨rfl, rfl, h⟩)⟩
      · exact ⟨q + 2, by omega, .inr (.inr ⟨rfl, q, rfl, h⟩)⟩
end

/-! ### the memory of Read: the result, the numbers, the head -/
abbrev rowO (l : List Int) : Obj := .cells (l.map fun z => Value.int .i64 z).toArray 36
structure CtMem (w wr : World) (rb nb cb : Nat) (l : List Int) : Prop where
  st : St w.heap.size w wr [(rb, ctO 0 0 0), (nb, rowO l), (cb, ctO 0 0 0)]
  len : l.length = 3
section
variable {w wr w' : World} {rb nb cb : Nat} {l : List Int}
theorem CtMem.start (w : World) : CtMem w (((w.alloc (ctO 0 0 0)).alloc (rowO [0, 0, 0])).alloc (ctO 0 0 0)) w.heap.size (w.heap.size + 1) (w.heap.size + 1 + 1) [0, 0, 0] := by
  have h := (((St.start w).alloc (ctO 0 0 0)).alloc (rowO [0, 0, 0])).alloc (ctO 0 0 0)
  simp only [World.size_alloc] at h
  exact ⟨h.perm (List.reverse_perm [(w.heap.size, ctO 0 0 0), (w.heap.size + 1, rowO [0, 0, 0]), (w.heap.size + 1 + 1, ctO 0 0 0)]), rfl⟩
theorem CtMem.grow (h : CtMem w wr rb nb cb l) (hb : Below wr.heap.size wr w') : CtMem w w' rb nb cb l :=
  ⟨⟨h.st.below.trans (hb.mono h.st.base), Nat.le_trans h.st.base hb.size, h.st.nodup, fun p hm => ⟨(h.st.at_ p hm).1, (hb.block _ (St.lt (o := p.2) h.st hm)).trans (h.st.at_ p hm).2⟩⟩, h.len⟩
theorem CtMem.n (h : CtMem w wr rb nb cb l) {j : Nat} {z : Int} (hj : l[j]? = some z) : wr.cell? ⟨nb, j, none⟩ = some (.int .i64 z) :=
  h.st.cell (b := nb) (.tail _ (.head _)) (by simp [hj])
theorem CtMem.nf (h : CtMem w wr rb nb cb l) (j : Nat) : wr.frozen? ⟨nb, j, none⟩ = false := St.soft (b := nb) h.st (.tail _ (.head _)) j
theorem CtMem.c (h : CtMem w wr rb nb cb l) {j : Nat} (hj : j < 3) : wr.cell? ⟨cb, j, none⟩ = some (.int .i64 0) :=
  h.st.cell (b := cb) (.tail _ (.tail _ (.head _))) (by match j, hj with | 0, _ => rfl | 1, _ => rfl | 2, _ => rfl)
theorem CtMem.cf (h : CtMem w wr rb nb cb l) (j : Nat) : wr.frozen? ⟨cb, j, none⟩ = false := St.soft (b := cb) h.st (.tail _ (.tail _ (.head _))) j
theorem CtMem.r (h : CtMem w wr rb nb cb l) {j : Nat} (hj : j < 3) : wr.cell? ⟨rb, j, none⟩ = some (.int .i64 0) :=
  h.st.cell (b := rb) (.head _) (by match j, hj with | 0, _ => rfl | 1, _ => rfl | 2, _ => rfl)
theorem CtMem.rf (h : CtMem w wr rb nb cb l) (j : Nat) : wr.frozen? ⟨rb, j, none⟩ = false := St.soft (b := rb) h.st (.head _) j
theorem CtMem.set (h : CtMem w wr rb nb cb l) (j : Nat) (z : Int) : CtMem w (wr.setCell ⟨nb, j, none⟩ (.int .i64 z)) rb nb cb (l.set j z) := by
  refine ⟨?_, by rw [List.length_set, h.len]⟩
  have := St.set (A := [(rb, ctO 0 0 0)]) (b := nb) (C := [(cb, ctO 0 0 0)]) h.st j (.int .i64 z)
  rw [List.setIfInBounds_toArray, ← List.map_set] at this
  exact this
theorem St.grow {B : Nat} {w0 w w' : World} {H : List (Nat × Obj)} (h : St B w0 w H) (hb : Below w.heap.size w w') : St B w0 w' H :=
  ⟨h.below.trans (hb.mono h.base), Nat.le_trans h.base hb.size, h.nodup, fun p hm => ⟨(h.at_ p hm).1, (hb.block _ (St.lt (o := p.2) h hm)).trans (h.at_ p hm).2⟩⟩
theorem CtMem.setC (h : CtMem w wr rb nb cb l) (x y z : Int) : St w.heap.size w (((wr.setCell ⟨cb, 0, none⟩ (.int .i64 x)).setCell ⟨cb, 1, none⟩ (.int .i64 y)).setCell ⟨cb, 2, none⟩ (.int .i64 z)) [(rb, ctO 0 0 0), (cb, ctO x y z)] := by
  have h0 : St w.heap.size w wr ([(rb, ctO 0 0 0)] ++ (cb, ctO 0 0 0) :: []) := h.st.sub (.cons_cons _ (.cons _ (.cons_cons _ .slnil)))
  exact ((h0.set 0 (.int .i64 x)).set 1 (.int .i64 y)).set 2 (.int .i64 z)
theorem CtMem.below (h : CtMem w wr rb nb cb l) : Below w.heap.size w wr := h.st.below
theorem CtMem.ne (h : CtMem w wr rb nb cb l) : rb ≠ nb ∧ rb ≠ cb ∧ nb ≠ cb := by
  have := h.st.nodup
  simp only [List.map_cons, List.map_nil, List.nodup_cons, List.mem_cons, List.not_mem_nil, or_false, not_or] at this
  exact ⟨this.1.1, this.1.2, this.2.1⟩
end

theorem ret_ct {w : World} {rb : Nat} {tmps : Array Value} {x y z : Int} {e : Value} (h2 : tmps[2]? = some (.pointer (some ⟨rb, 0, none⟩))) (h3 : tmps[3]? = some e) (q0 : w.cell? ⟨rb, 0, none⟩ = some (.int .i64 x)) (q1 : w.cell? ⟨rb, 1, none⟩ = some (.int .i64 y)) (q2 : w.cell? ⟨rb, 2, none⟩ = some (.int .i64 z)) :
    (results Tryd.f11 tmps).run Tryd.prog w = .ok (.tuple #[ctV x y z, e]) w := by
  simp [results, Tryd.results11, go_sem, h2, h3, q0, q1, q2]

/-- Behind Read. -/
def ReadCR (w : World) (R : Red) (e : Ending) (w' : World) : Prop := e = .returned (.tuple #[ctV R.1.1 R.1.2.1 R.1.2.2, .int .i64 R.2]) ∧ Below w.heap.size w w'

/-! ### where the reading stands -/
def goJ (j : Nat) (l : List Int) (r : List UInt8) : Red :=
  match j, l with
  | 0, _ => readC r
  | 1, x :: _ => goC1 x r
  | 2, x :: y :: _ => goC2 x y r
  | 3, [x, y, z] => goD x y z r
  | _, _ => badC
theorem goJ_step {j : Nat} {l : List Int} {r : List UInt8} (hj : j < 3) (hl : l.length = 3) : goJ j l r = if (takeL r (widthsL.getD j 0)).2.2 = 0 then goJ (j + 1) (l.set j (takeL r (widthsL.getD j 0)).1) (takeL r (widthsL.getD j 0)).2.1 else badC := by
  match l, hl with
  | [x, y, z], _ =>
    match j, hj with
    | 0, _ => rfl
    | 1, _ => rfl
    | 2, _ => rfl
theorem takeL_le (r : List UInt8) (k : Int) : (takeL r k).2.1.length ≤ r.length := by
  unfold takeL
  split
  · simp
  · simp only [List.length_drop]
    omega

def TakeC (w : World) (R : Red) (g : Nat) (a' : Act) (wr : World) : Prop :=
  ∃ (j : Nat) (l : List Int) (r : List UInt8), j + g = 3 ∧ Fr 40 [(0, tx r), (2, .pointer (some ⟨w.heap.size, 0, none⟩)), (4, .pointer (some ⟨w.heap.size + 1, 0, none⟩)), (5, .pointer (some ⟨w.heap.size + 1 + 1, 0, none⟩)), (7, .int .i64 j)] a' ∧
    CtMem w wr w.heap.size (w.heap.size + 1) (w.heap.size + 1 + 1) l ∧ goJ j l r = R ∧ r.length ≤ maxLen
def EndC (w : World) (R : Red) (a' : Act) (wr : World) : Prop :=
  ∃ (x y z : Int) (r : List UInt8), Fr 40 [(0, tx r), (2, .pointer (some ⟨w.heap.size, 0, none⟩)), (4, .pointer (some ⟨w.heap.size + 1, 0, none⟩)), (5, .pointer (some ⟨w.heap.size + 1 + 1, 0, none⟩))] a' ∧
    CtMem w wr w.heap.size (w.heap.size + 1) (w.heap.size + 1 + 1) [x, y, z] ∧ goD x y z r = R ∧ r.length ≤ maxLen
def BadC (w : World) (R : Red) (a' : Act) (wr : World) : Prop :=
  Fr 40 [(2, .pointer (some ⟨w.heap.size, 0, none⟩))] a' ∧ St w.heap.size w wr [(w.heap.size, ctO 0 0 0)] ∧ R = badC
theorem ct_done {w wr : World} {B rb : Nat} (h : St B w wr [(rb, ctO 0 0 0)]) (x y z : Int) : ∀ w', Hid (w' = ((wr.setCell ⟨rb, 0, none⟩ (.int .i64 x)).setCell ⟨rb, 1, none⟩ (.int .i64 y)).setCell ⟨rb, 2, none⟩ (.int .i64 z)) →
    Below B w w' ∧ w'.cell? ⟨rb, 0, none⟩ = some (.int .i64 x) ∧ w'.cell? ⟨rb, 1, none⟩ = some (.int .i64 y) ∧ w'.cell? ⟨rb, 2, none⟩ = some (.int .i64 z) := by
  intro w' e
  obtain rfl := e.out
  have h1 := ((h.set0 (C := []) 0 (.int .i64 x)).set0 (C := []) 1 (.int .i64 y)).set0 (C := []) 2 (.int .i64 z)
  exact ⟨h1.below, h1.cell (b := rb) List.mem_cons_self rfl, h1.cell (b := rb) List.mem_cons_self rfl, h1.cell (b := rb) List.mem_cons_self rfl⟩
theorem CtMem.res {w wr : World} {rb nb cb : Nat} {l : List Int} (h : CtMem w wr rb nb cb l) : St w.heap.size w wr [(rb, ctO 0 0 0)] := h.st.sub (List.singleton_sublist.2 List.mem_cons_self)

set_option maxHeartbeats 4000000 in
theorem readc_any {l : List UInt8} (hl : l.length ≤ maxLen) (w : World) (hT : Widths w.heap.size w) : Calls Tryd.prog 11 #[tx l] w (ReadCR w (readC l)) := by
  have hW : Hid (∀ w', Below w.heap.size w w' → Widths w'.heap.size w') := Lib.hid fun w' hb => hT.on hb
  clear hT
  go_enter Tryd.func11, Tryd.ntmps11
  go_wp2_with fail
  refine wp_scope_tri 2 0 1 (BadC w (readC l)) (EndC w (readC l)) (TakeC w (readC l)) (by decide) (by decide) (by decide) rfl rfl rfl ?_ ?_ ?_ ?_
  · rintro a' wr ⟨hfr, hst, hr⟩
    rw [hr]
    obtain ⟨f, rfl, hl'⟩ := hfr.lit
    clear hfr hr hl hW
    simp only [List.mem_cons, List.not_mem_nil, or_false, forall_eq] at hl'
    simp only [List.range, List.range.loop, List.map, hl']
    clear hl'
    obtain ⟨z0, z2, z3, z4⟩ := ct_done hst 0 0 0 _ (Lib.hid rfl)
    have fin : Hid (ReadCR w badC (.returned (.tuple #[ctV 0 0 0, .int .i64 502])) _) := Lib.hid ⟨rfl, z0⟩
    generalize w.heap.size = rb at *
    have r0 := hst.cell (b := rb) List.mem_cons_self (i := 0) rfl
    have r1 := hst.cell (b := rb) List.mem_cons_self (i := 1) rfl
    have r2 := hst.cell (b := rb) List.mem_cons_self (i := 2) rfl
    have t0 := St.soft (b := rb) hst List.mem_cons_self 0
    have t1 := St.soft (b := rb) hst List.mem_cons_self 1
    have t2 := St.soft (b := rb) hst List.mem_cons_self 2
    clear hst z0
    go_wp2_with fail
    simp only [jumps]
    refine bodyPost_ret (ret_ct (x := 0) (y := 0) (z := 0) rfl rfl z2 z3 z4) rfl fin.out
  · rintro H0 a' wr ⟨x, y, z, r, hfr, hm, hE, hr⟩
    obtain ⟨f, rfl, hl'⟩ := hfr.lit
    clear hfr hl hW
    simp only [List.mem_cons, List.not_mem_nil, or_false, forall_eq_or_imp, forall_eq] at hl'
    obtain ⟨f0, f2, f4, f5⟩ := hl'
    simp only [List.range, List.range.loop, List.map, f0, f2, f4, f5]
    clear f0 f2 f4 f5
    obtain ⟨hne1, hne2, hne3⟩ := hm.ne
    generalize w.heap.size + 1 = nb at *
    generalize nb + 1 = cb at *
    have n0 := hm.n (j := 0) rfl
    have n1 := hm.n (j := 1) rfl
    have n2 := hm.n (j := 2) rfl
    have k0 := hm.c (j := 0) (by decide)
    have k1 := hm.c (j := 1) (by decide)
    have k2 := hm.c (j := 2) (by decide)
    have f0 := hm.cf 0
    have f1 := hm.cf 1
    have f2 := hm.cf 2
    have hst := Lib.hid (hm.setC x y z)
    clear hm
    by_cases hr0 : r = []
    rotate_left
    · have hte : r.isEmpty = false := by simpa using hr0
      have e : badC = readC l := by rw [← hE, goD, if_neg (fun h => hr0 h.1)]
      have fin := Lib.hid (hst.out.sub (List.singleton_sublist.2 List.mem_cons_self))
      clear hE hst hr0
      go_wp2_with fail
      refine wp_label ?_
      go_step
      go_step
      exact H0 _ _ ⟨⟨rfl, rfl, by simp⟩, fin.out, e.symm⟩
    · subst hr0
      have c1 := Lib.hid (isc_b x y z)
      cases hC : isC x y z with
      | false =>
        have e : badC = readC l := by rw [← hE, goD, if_neg (fun h => by rw [hC] at h; cases h.2)]
        rw [hC] at c1
        clear hE hC
        go_wp2_with fail
        refine (c1.out _).mono ?_
        rintro e1 w1 ⟨rfl, hb1⟩
        have fin := Lib.hid ((hst.out.grow hb1).sub (List.singleton_sublist.2 List.mem_cons_self))
        clear hb1 hst
        go_wp2_with fail
        refine wp_label ?_
        go_step
        go_step
        exact H0 _ _ ⟨⟨rfl, rfl, by simp⟩, fin.out, e.symm⟩
      | true =>
        have e : ((x, y, z), 0) = readC l := by rw [← hE, goD, if_pos ⟨rfl, hC⟩]
        rw [hC] at c1
        clear hE hC H0
        go_wp2_with fail
        refine (c1.out _).mono ?_
        rintro e1 w1 ⟨rfl, hb1⟩
        have hst1 := hst.out.grow hb1
        have u0 := hst1.cell (b := cb) (i := 0) (.tail _ (.head _)) rfl
        have u1 := hst1.cell (b := cb) (i := 1) (.tail _ (.head _)) rfl
        have u2 := hst1.cell (b := cb) (i := 2) (.tail _ (.head _)) rfl
        have hst2 := hst1.sub (List.singleton_sublist.2 (List.mem_cons_self (a := (w.heap.size, ctO 0 0 0))))
        obtain ⟨z0, z2, z3, z4⟩ := ct_done hst2 x y z _ (Lib.hid rfl)
        have fin : Hid (ReadCR w (readC l) (.returned (.tuple #[ctV x y z, .int .i64 0])) _) := Lib.hid (by rw [← e]; exact ⟨rfl, z0⟩)
        have r0 := hst2.cell (b := w.heap.size) List.mem_cons_self (i := 0) rfl
        have r1 := hst2.cell (b := w.heap.size) List.mem_cons_self (i := 1) rfl
        have r2 := hst2.cell (b := w.heap.size) List.mem_cons_self (i := 2) rfl
        have t0 := St.soft (b := w.heap.size) hst2 List.mem_cons_self 0
        have t1 := St.soft (b := w.heap.size) hst2 List.mem_cons_self 1
        have t2 := St.soft (b := w.heap.size) hst2 List.mem_cons_self 2
        clear hb1 hst hst1 hst2 z0 n0 n1 n2 k0 k1 k2 f0 f1 f2 e
        go_wp2_with fail
        simp only [jumps]
        refine bodyPost_ret (ret_ct (x := x) (y := y) (z := z) rfl rfl z2 z3 z4) rfl fin.out
  · rintro g a' wr ⟨j, L, r, hj, hfr, hm, hst, hr⟩
    obtain ⟨f, rfl, hl'⟩ := hfr.lit
    clear hfr hl
    simp only [List.mem_cons, List.not_mem_nil, or_false, forall_eq_or_imp, forall_eq] at hl'
    obtain ⟨f0, f2, f4, f5, f7⟩ := hl'
    simp only [List.range, List.range.loop, List.map, f0, f2, f4, f5, f7]
    clear f0 f2 f4 f5 f7
    by_cases h3 : j = 3
    · subst h3
      have fin : Hid (∀ a', Fr 40 [(0, tx r), (2, .pointer (some ⟨w.heap.size, 0, none⟩)), (4, .pointer (some ⟨w.heap.size + 1, 0, none⟩)), (5, .pointer (some ⟨w.heap.size + 1 + 1, 0, none⟩))] a' → EndC w (readC l) a' wr) := Lib.hid fun a' hf => by
        have hL := hm.len
        match L, hL with
        | [x, y, z], _ => exact ⟨x, y, z, r, hf, hm, hst, hr⟩
      clear hm hst hr hW
      go_wp2_with fail
      refine wp_goto ?_
      exact .inr (.inl ⟨rfl, fin.out _ ⟨rfl, rfl, by simp⟩⟩)
    · have hj3 : j < 3 := by omega
      have hg := (hW.out _ hm.below).2 j hj3
      have hj0 : (0 : Int) ≤ j := by omega
      have hj1 : (j : Int) < 3 := by omega
      rw [goJ_step hj3 hm.len] at hst
      have hle := takeL_le r (widthsL.getD j 0)
      rcases hx : takeL r (widthsL.getD j 0) with ⟨t, r', en⟩
      rw [hx] at hst hle
      simp only at hst hle
      have cT := Lib.hid (take_b hx hr)
      generalize widthsL.getD j 0 = k at *
      by_cases he : en = 0
      · subst he
        rw [if_pos rfl] at hst
        have fin : Hid (∀ w1, Below wr.heap.size wr w1 → ((∃ v, w1.cell? ⟨w.heap.size + 1, j, none⟩ = some v) ∧ w1.frozen? ⟨w.heap.size + 1, j, none⟩ = false) ∧ ∀ a', Fr 40 [(0, tx r'), (2, .pointer (some ⟨w.heap.size, 0, none⟩)), (4, .pointer (some ⟨w.heap.size + 1, 0, none⟩)), (5, .pointer (some ⟨w.heap.size + 1 + 1, 0, none⟩)), (7, .int .i64 ((j + 1 : Nat) : Int))] a' → ∃ m, m < g ∧ TakeC w (readC l) m a' (w1.setCell ⟨w.heap.size + 1, j, none⟩ (.int .i64 t))) :=
          Lib.hid fun w1 hb => ⟨⟨⟨_, (hm.grow hb).n (List.getElem?_eq_getElem (by rw [hm.len]; exact hj3))⟩, (hm.grow hb).nf j⟩, fun a' hf => ⟨g - 1, by omega, j + 1, L.set j t, r', by omega, hf, (hm.grow hb).set j t, hst, by omega⟩⟩
        clear hm hst hr hle hx hW
        go_wp2_with fail
        refine (cT.out _).mono ?_
        rintro e w1 ⟨rfl, hb1⟩
        obtain ⟨⟨⟨v, q1⟩, q2⟩, fin⟩ := fin.out _ hb1
        replace fin := Lib.hid fin
        clear hb1 cT
        go_wp2_with fail
        refine wp_goto ?_
        exact .inr (.inr ⟨rfl, fin.out _ ⟨rfl, rfl, by simp⟩⟩)
      · rw [if_neg he] at hst
        have fin : Hid (∀ w1, Below wr.heap.size wr w1 → ((∃ v, w1.cell? ⟨w.heap.size + 1, j, none⟩ = some v) ∧ w1.frozen? ⟨w.heap.size + 1, j, none⟩ = false) ∧ ∀ a', Fr 40 [(2, .pointer (some ⟨w.heap.size, 0, none⟩))] a' → BadC w (readC l) a' (w1.setCell ⟨w.heap.size + 1, j, none⟩ (.int .i64 t))) :=
          Lib.hid fun w1 hb => ⟨⟨⟨_, (hm.grow hb).n (List.getElem?_eq_getElem (by rw [hm.len]; exact hj3))⟩, (hm.grow hb).nf j⟩, fun a' hf => ⟨hf, ((hm.grow hb).set j t).res, hst.symm⟩⟩
        clear hm hst hr hle hx hW
        go_wp2_with fail
        refine (cT.out _).mono ?_
        rintro e w1 ⟨rfl, hb1⟩
        obtain ⟨⟨⟨v, q1⟩, q2⟩, fin⟩ := fin.out _ hb1
        replace fin := Lib.hid fin
        clear hb1 cT
        go_wp2_with fail
        refine wp_goto ?_
        exact .inl ⟨rfl, fin.out _ ⟨rfl, rfl, by simp⟩⟩
  · intro H
    have hst := Lib.hid (CtMem.start w)
    go_wp2_with fail
    refine wp_label ?_
    go_step
    go_step
    exact H _ _ _ ⟨0, [0, 0, 0], l, Nat.zero_add 3, ⟨rfl, rfl, by simp⟩, hst.out, rfl, hl⟩
end Go.Proofs.YtnnpcjhjmghobaaDoor
