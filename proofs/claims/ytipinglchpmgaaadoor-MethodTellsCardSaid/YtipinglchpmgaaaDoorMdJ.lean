/- Read, by the program. -/
import Derived.Test.YtipinglchpmgaaaDoorMdI
import Derived.Deep.RegionHeld3
namespace Go.Proofs.YtipinglchpmgaaaDoor
open Go.RowKit
set_option linter.unusedVariables false

/-! ### where the reading stands -/
def Stage (k : Int) (S : List (List UInt8)) (N : List Int) (x : Int) (a b : Nat) (c : Bool) (r : List UInt8) (R : Meth × Int) : Prop :=
  (N = [] ∧ x = 0 ∧ goT k S a b c r = R) ∨ (a = 0 ∧ x = 0 ∧ goN k S N b c r = R) ∨ (a = 0 ∧ b = 0 ∧ c = false ∧ goE k S N x r = R)
section
variable {k x : Int} {S : List (List UInt8)} {N : List Int} {a b : Nat} {c : Bool} {r : List UInt8} {R : Meth × Int}
theorem Stage.text (h : Stage k S N x (a + 1) b c r R) : ((takeTextL r 255).2.2 = 0 → Stage k (S ++ [(takeTextL r 255).1]) N x a b c (takeTextL r 255).2.1 R) ∧ ((takeTextL r 255).2.2 ≠ 0 → R = bad) := by
  rcases h with ⟨h1, h2, h3⟩ | ⟨h1, _⟩ | ⟨h1, _⟩
  · rw [goT] at h3
    refine ⟨fun e => ?_, fun e => ?_⟩
    · rw [if_pos e] at h3
      exact .inl ⟨h1, h2, h3⟩
    · rw [if_neg e] at h3
      exact h3.symm
  · omega
  · omega
theorem Stage.nn (h : Stage k S N x 0 (b + 1) c r R) : x = 0 ∧ goN k S N (b + 1) c r = R := by
  rcases h with ⟨h1, h2, h3⟩ | ⟨_, h2, h3⟩ | ⟨_, h2, _⟩
  · rw [h1]
    exact ⟨h2, h3⟩
  · exact ⟨h2, h3⟩
  · omega
theorem Stage.nums (h : Stage k S N x 0 (b + 1) c r R) : ((takeL r 4).2.2 = 0 → Stage k S (N ++ [((takeL r 4).1 : Int)]) x 0 b c (takeL r 4).2.1 R) ∧ ((takeL r 4).2.2 ≠ 0 → R = bad) := by
  obtain ⟨h2, h3⟩ := h.nn
  rw [goN] at h3
  refine ⟨fun e => ?_, fun e => ?_⟩
  · rw [if_pos e] at h3
    exact .inr (.inl ⟨rfl, h2, h3⟩)
  · rw [if_neg e] at h3
    exact h3.symm
theorem Stage.bb (h : Stage k S N x 0 0 c r R) : (c = true ∧ goB k S N c r = R) ∨ (c = false ∧ goE k S N x r = R) := by
  rcases h with ⟨h1, h2, h3⟩ | ⟨_, h2, h3⟩ | ⟨_, _, h2, h3⟩
  · rw [h1]
    cases c
    · rw [h2]; exact .inr ⟨rfl, h3⟩
    · exact .inl ⟨rfl, h3⟩
  · cases c
    · rw [h2]; exact .inr ⟨rfl, h3⟩
    · exact .inl ⟨rfl, h3⟩
  · exact .inr ⟨h2, h3⟩
theorem Stage.bits (h : Stage k S N x 0 0 true r R) : ((takeL r 1).2.2 = 0 → Stage k S N ((takeL r 1).1 : Int) 0 0 false (takeL r 1).2.1 R) ∧ ((takeL r 1).2.2 ≠ 0 → R = bad) := by
  rcases h.bb with ⟨_, h3⟩ | ⟨h, _⟩
  · unfold goB at h3
    rw [if_pos rfl] at h3
    refine ⟨fun e => ?_, fun e => ?_⟩
    · rw [if_pos e] at h3
      exact .inr (.inr ⟨rfl, rfl, rfl, h3⟩)
    · rw [if_neg e] at h3
      exact h3.symm
  · cases h
theorem Stage.fin (h : Stage k S N x 0 0 false r R) : goE k S N x r = R := by
  rcases h.bb with ⟨h, _⟩ | ⟨_, h⟩
  · cases h
  · exact h
theorem takeTextL_le (r : List UInt8) (most : Int) : (takeTextL r most).1.length ≤ r.length ∧ (takeTextL r most).2.1.length ≤ r.length := by
  cases r with
  | nil => simp [takeTextL]
  | cons b r =>
    simp only [takeTextL]
    split
    · simp
    · split
      · simp
      · simp only [List.length_take, List.length_drop, List.length_cons]
        omega
theorem takeL_le (r : List UInt8) (k : Int) : (takeL r k).2.1.length ≤ r.length := by
  unfold takeL
  split
  · simp
  · simp only [List.length_drop]
    omega
end

/-- Behind Read. -/
def ReadR (w : World) (R : Meth × Int) (e : Ending) (w' : World) : Prop := ∃ v, e = .returned (.tuple #[v, .int .i64 R.2]) ∧ RdM w' v R.1 ∧ Below w.heap.size w w'

def ReadAt (w : World) (R : Meth × Int) (g : Nat) (a' : Act) (wr : World) : Prop :=
  ∃ (k : Int) (s n : Value) (x : Int) (S : List (List UInt8)) (N : List Int) (F1 F2 : List (Nat × Obj)) (a b : Nat) (c : Bool) (r : List UInt8),
    Fr 78 [(2, .pointer (some ⟨w.heap.size, 0, none⟩)), (4, .pointer (some ⟨w.heap.size + 1, 0, none⟩)), (5, tx (lay a b c)), (9, tx r)] a' ∧
    MdMem w wr w.heap.size (w.heap.size + 1) k s n x S N F1 F2 ∧ Stage k S N x a b c r R ∧ S.length + a ≤ 3 ∧ N.length + b ≤ 3 ∧ r.length ≤ 100000 ∧ (∀ t ∈ S, t.length ≤ 100000) ∧ a + b + c.toNat = g
def EndAt (w : World) (R : Meth × Int) (a' : Act) (wr : World) : Prop :=
  ∃ (k : Int) (s n : Value) (x : Int) (S : List (List UInt8)) (N : List Int) (F1 F2 : List (Nat × Obj)) (r : List UInt8),
    Fr 78 [(2, .pointer (some ⟨w.heap.size, 0, none⟩)), (4, .pointer (some ⟨w.heap.size + 1, 0, none⟩)), (9, tx r)] a' ∧
    MdMem w wr w.heap.size (w.heap.size + 1) k s n x S N F1 F2 ∧ goE k S N x r = R ∧ (∀ t ∈ S, t.length ≤ 100000)
def BadAt (w : World) (R : Meth × Int) (a' : Act) (wr : World) : Prop :=
  ∃ (k : Int) (s n : Value) (x : Int) (S : List (List UInt8)) (N : List Int) (F1 F2 : List (Nat × Obj)),
    Fr 78 [(2, .pointer (some ⟨w.heap.size, 0, none⟩))] a' ∧ MdMem w wr w.heap.size (w.heap.size + 1) k s n x S N F1 F2 ∧ R = bad

theorem ret_meth {w : World} {rb : Nat} {tmps : Array Value} {k x : Int} {s n y : Value} (h2 : tmps[2]? = some (.pointer (some ⟨rb, 0, none⟩))) (h3 : tmps[3]? = some y) (q0 : w.cell? ⟨rb, 0, none⟩ = some (.int .i64 k)) (q1 : w.cell? ⟨rb, 1, none⟩ = some s) (q2 : w.cell? ⟨rb, 2, none⟩ = some n) (q3 : w.cell? ⟨rb, 3, none⟩ = some (.int .i64 x)) :
    (results Tryd.f10 tmps).run Tryd.prog w = .ok (.tuple #[.agg #[.int .i64 k, s, n, .int .i64 x], y]) w := by
  simp [results, Tryd.results10, go_sem, h2, h3, q0, q1, q2, q3]

set_option maxHeartbeats 4000000 in
theorem readM_any {l : List UInt8} (hl : l.length ≤ 100000) (w : World) (hT : Kinds w.heap.size w) : Calls Tryd.prog 10 #[tx l] w (ReadR w (readM l)) := by
  go_enter Tryd.func10, Tryd.ntmps10
  go_wp2_with fail
  refine wp_scope_three (BadAt w (readM l)) (EndAt w (readM l)) (ReadAt w (readM l)) rfl rfl rfl ?_ ?_ ?_ ?_
  · rintro a' wr ⟨k, s, n, x, S, N, F1, F2, hfr, hm, hr⟩
    rw [hr]
    obtain ⟨f, rfl, hl'⟩ := hfr.lit
    clear hfr hr hl hT
    simp only [List.mem_cons, List.not_mem_nil, or_false, forall_eq] at hl'
    simp only [List.range, List.range.loop, List.map, hl']
    clear hl'
    generalize w.heap.size = rb at *
    obtain ⟨z0, z1, z2, z3, z4, z5⟩ := hm.fail _ (Lib.hid rfl)
    have fin := Lib.hid (And.intro z0 z1)
    have r0 := hm.r0
    have r1 := hm.r1
    have r2 := hm.r2
    have r3 := hm.r3
    have t0 := hm.rf 0
    have t1 := hm.rf 1
    have t2 := hm.rf 2
    have t3 := hm.rf 3
    clear hm z0 z1
    go_wp2_with fail
    simp only [jumps]
    refine bodyPost_ret (ret_meth (k := 0) (x := 0) (s := .slice none 0 0) (n := .slice none 0 0) rfl rfl z2 z3 z4 z5) rfl ⟨_, rfl, fin.out.1, fin.out.2⟩
  · rintro H0 a' wr ⟨k, s, n, x, S, N, F1, F2, r, hfr, hm, hE, hSl⟩
    obtain ⟨f, rfl, hl'⟩ := hfr.lit
    clear hfr hl hT
    simp only [List.mem_cons, List.not_mem_nil, or_false, forall_eq_or_imp, forall_eq] at hl'
    obtain ⟨f2, f4, f9⟩ := hl'
    simp only [List.range, List.range.loop, List.map, f2, f4, f9]
    by_cases hr : r = []
    · subst hr
      rw [goE_nil] at hE
      rw [← hE]
      clear H0 f2 f4 f9 hE
      have hS2 : ∀ t ∈ S, t.length ≤ maxLen := fun t ht => by have := hSl t ht; unfold maxLen; omega
      have hne := hm.ne
      obtain ⟨sa, sc, rfl, -⟩ := hm.ss.form
      obtain ⟨na, nc, rfl, -⟩ := hm.sn.form
      generalize w.heap.size + 1 = mb at *
      generalize w.heap.size = rb at *
      obtain ⟨z0, z1, z2, z3, z4, z5⟩ := hm.done hS2 _ (Lib.hid rfl)
      have fin := Lib.hid (And.intro z0 z1)
      have m0 := hm.m0
      have m1 := hm.m1
      have m2 := hm.m2
      have m3 := hm.m3
      have r0 := hm.r0
      have r1 := hm.r1
      have r2 := hm.r2
      have r3 := hm.r3
      have t0 := hm.rf 0
      have t1 := hm.rf 1
      have t2 := hm.rf 2
      have t3 := hm.rf 3
      clear hm z0 z1 hSl hS2
      go_wp2_with fail
      simp only [jumps]
      refine bodyPost_ret (ret_meth rfl rfl z2 z3 z4 z5) rfl ⟨_, rfl, fin.out.1, fin.out.2⟩
    · rw [goE_more hr] at hE
      have hte : r.isEmpty = false := by simpa using hr
      have fin : Hid (∀ a', Fr 78 [(2, .pointer (some ⟨w.heap.size, 0, none⟩))] a' → BadAt w (readM l) a' wr) := Lib.hid fun a' hf => ⟨k, s, n, x, S, N, F1, F2, hf, hm, hE.symm⟩
      clear hm hE hSl f2 f4 f9
      go_wp2_with fail
      refine wp_label ?_
      go_step
      go_step
      exact H0 _ _ (fin.out _ ⟨rfl, rfl, by simp⟩)
  · rintro g a' wr ⟨k, s, n, x, S, N, F1, F2, a, b, c, r, hfr, hm, hst, hSa, hNb, hr, hSl, hg⟩
    obtain ⟨f, rfl, hl'⟩ := hfr.lit
    clear hfr hl hT
    simp only [List.mem_cons, List.not_mem_nil, or_false, forall_eq_or_imp, forall_eq] at hl'
    obtain ⟨f2, f4, f5, f9⟩ := hl'
    simp only [List.range, List.range.loop, List.map, f2, f4, f5, f9]
    clear f2 f4 f5 f9
    have hrm : r.length ≤ maxLen := by unfold maxLen; omega
    rcases a with _ | a
    · rcases b with _ | b
      · cases c with
        | false =>
          rw [lay_nil]
          have fin : Hid (∀ a', Fr 78 [(2, .pointer (some ⟨w.heap.size, 0, none⟩)), (4, .pointer (some ⟨w.heap.size + 1, 0, none⟩)), (9, tx r)] a' → EndAt w (readM l) a' wr) := Lib.hid fun a' hf => ⟨k, s, n, x, S, N, F1, F2, r, hf, hm, hst.fin, hSl⟩
          clear hm hst hSl hSa hNb hr hg
          go_wp2_with fail
          refine wp_goto ?_
          exact .inr (.inl ⟨rfl, fin.out _ ⟨rfl, rfl, by simp⟩⟩)
        | true =>
          rw [lay_B]
          have hle := takeL_le r 1
          obtain ⟨hok, hno⟩ := hst.bits
          rcases hx : takeL r 1 with ⟨t, r', en⟩
          rw [hx] at hok hno hle
          simp only at hok hno hle
          have cT := Lib.hid (take_b hx hrm)
          by_cases he : en = 0
          · subst he
            have hok' := Lib.hid (hok rfl)
            have fin : Hid (∀ w1, Below wr.heap.size wr w1 → (w1.cell? ⟨w.heap.size + 1, 3, none⟩ = some (.int .i64 x) ∧ w1.frozen? ⟨w.heap.size + 1, 3, none⟩ = false) ∧ ∀ a', Fr 78 [(2, .pointer (some ⟨w.heap.size, 0, none⟩)), (4, .pointer (some ⟨w.heap.size + 1, 0, none⟩)), (5, tx []), (9, tx r')] a' → ∃ m, m < g ∧ ReadAt w (readM l) m a' (w1.setCell ⟨w.heap.size + 1, 3, none⟩ (.int .i64 t))) :=
              Lib.hid fun w1 hb => ⟨⟨(hm.grow hb).m3, (hm.grow hb).mf 3⟩, fun a' hf => ⟨0, by have : true.toNat = 1 := rfl; omega, k, s, n, t, S, N, F1, F2, 0, 0, false, r', hf, (hm.grow hb).setX t, hok'.out, hSa, hNb, by omega, hSl, rfl⟩⟩
            clear hm hst hSl hSa hNb hr hg hok hno hle hx hok'
            go_wp2_with fail
            refine (cT.out _).mono ?_
            rintro e w1 ⟨rfl, hb1⟩
            obtain ⟨⟨q1, q2⟩, fin⟩ := fin.out _ hb1
            replace fin := Lib.hid fin
            clear hb1 cT
            go_wp2_with fail
            refine wp_goto ?_
            exact .inr (.inr ⟨rfl, fin.out _ ⟨rfl, rfl, by simp; rfl⟩⟩)
          · have hbad := hno he
            have fin : Hid (∀ w1, Below wr.heap.size wr w1 → (w1.cell? ⟨w.heap.size + 1, 3, none⟩ = some (.int .i64 x) ∧ w1.frozen? ⟨w.heap.size + 1, 3, none⟩ = false) ∧ ∀ a', Fr 78 [(2, .pointer (some ⟨w.heap.size, 0, none⟩))] a' → BadAt w (readM l) a' (w1.setCell ⟨w.heap.size + 1, 3, none⟩ (.int .i64 t))) :=
              Lib.hid fun w1 hb => ⟨⟨(hm.grow hb).m3, (hm.grow hb).mf 3⟩, fun a' hf => ⟨k, s, n, t, S, N, F1, F2, hf, (hm.grow hb).setX t, hbad⟩⟩
            clear hm hst hSl hSa hNb hr hg hok hno hle hx hbad
            go_wp2_with fail
            refine (cT.out _).mono ?_
            rintro e w1 ⟨rfl, hb1⟩
            obtain ⟨⟨q1, q2⟩, fin⟩ := fin.out _ hb1
            replace fin := Lib.hid fin
            clear hb1 cT
            go_wp2_with fail
            refine wp_goto ?_
            exact .inl ⟨rfl, fin.out _ ⟨rfl, rfl, by simp⟩⟩
      · rw [lay_N]
        have hle := takeL_le r 4
        obtain ⟨hok, hno⟩ := hst.nums
        rcases hx : takeL r 4 with ⟨t, r', en⟩
        rw [hx] at hok hno hle
        simp only at hok hno hle
        have cT := Lib.hid (take_b hx hrm)
        obtain ⟨na, nc, rfl, -⟩ := hm.sn.form
        have ap := fun w1 hb => (hm.grow (w' := w1) hb).addN (by omega) (t : Int)
        have mm := Lib.hid (fun w1 hb => (hm.grow (w' := w1) hb).m2)
        have ex := cut_one 110 (lay 0 b c)
        by_cases he : en = 0
        · subst he
          have hok' := Lib.hid (hok rfl)
          have fin : Hid (∀ w1, Below wr.heap.size wr w1 → ∃ a2 cap2 W2, (Builtin.append_ #[23, 23] 0 #[.slice na N.length nc, .slice (some ⟨w1.heap.size, 0, none⟩) 1 1]).run Tryd.prog (w1.alloc (.cells #[.int .i64 t] 3)) = .ok (.slice a2 (N.length + 1) cap2) W2 ∧
              (W2.cell? ⟨w.heap.size + 1, 2, none⟩ = some (.slice na N.length nc) ∧ W2.frozen? ⟨w.heap.size + 1, 2, none⟩ = false) ∧ ∀ a', Fr 78 [(2, .pointer (some ⟨w.heap.size, 0, none⟩)), (4, .pointer (some ⟨w.heap.size + 1, 0, none⟩)), (5, tx (lay 0 b c)), (9, tx r')] a' → ∃ m, m < g ∧ ReadAt w (readM l) m a' (W2.setCell ⟨w.heap.size + 1, 2, none⟩ (.slice a2 (N.length + 1) cap2))) :=
            Lib.hid fun w1 hb => by
              obtain ⟨a2, cap2, W2, h1, h2, h3, F2', h4⟩ := ap w1 hb
              exact ⟨a2, cap2, W2, h1, ⟨h2, h3⟩, fun a' hf => ⟨0 + b + c.toNat, by omega, k, s, _, x, S, N ++ [(t : Int)], F1, F2', 0, b, c, r', hf, h4, hok'.out, hSa, by rw [List.length_append, List.length_singleton]; omega, by omega, hSl, rfl⟩⟩
          generalize lay 0 b c = L at *
          clear hm hst hSl hSa hNb hr hg hok hno hle hx hok' ap
          go_wp2_with fail
          refine (cT.out _).mono ?_
          rintro e w1 ⟨rfl, hb1⟩
          have q0 := mm.out _ hb1
          obtain ⟨a2, cap2, W2, hrun, ⟨q1, q2⟩, fin⟩ := fin.out _ hb1
          replace fin := Lib.hid fin
          clear hb1 cT mm
          go_wp2_with (at_builtin; refine wpList_append_go rfl (.tmp 56) (.tmp 58) 23 23 rfl _ _ rfl rfl hrun ?_)
          refine wp_goto ?_
          exact .inr (.inr ⟨rfl, fin.out _ ⟨rfl, rfl, by simp⟩⟩)
        · have hbad := hno he
          have fin : Hid (∀ w1, Below wr.heap.size wr w1 → ∃ a2 cap2 W2, (Builtin.append_ #[23, 23] 0 #[.slice na N.length nc, .slice (some ⟨w1.heap.size, 0, none⟩) 1 1]).run Tryd.prog (w1.alloc (.cells #[.int .i64 t] 3)) = .ok (.slice a2 (N.length + 1) cap2) W2 ∧
              (W2.cell? ⟨w.heap.size + 1, 2, none⟩ = some (.slice na N.length nc) ∧ W2.frozen? ⟨w.heap.size + 1, 2, none⟩ = false) ∧ ∀ a', Fr 78 [(2, .pointer (some ⟨w.heap.size, 0, none⟩))] a' → BadAt w (readM l) a' (W2.setCell ⟨w.heap.size + 1, 2, none⟩ (.slice a2 (N.length + 1) cap2))) :=
            Lib.hid fun w1 hb => by
              obtain ⟨a2, cap2, W2, h1, h2, h3, F2', h4⟩ := ap w1 hb
              exact ⟨a2, cap2, W2, h1, ⟨h2, h3⟩, fun a' hf => ⟨k, s, _, x, S, N ++ [(t : Int)], F1, F2', hf, h4, hbad⟩⟩
          generalize lay 0 b c = L at *
          clear hm hst hSl hSa hNb hr hg hok hno hle hx hbad ap
          go_wp2_with fail
          refine (cT.out _).mono ?_
          rintro e w1 ⟨rfl, hb1⟩
          have q0 := mm.out _ hb1
          obtain ⟨a2, cap2, W2, hrun, ⟨q1, q2⟩, fin⟩ := fin.out _ hb1
          replace fin := Lib.hid fin
          clear hb1 cT mm
          go_wp2_with (at_builtin; refine wpList_append_go rfl (.tmp 56) (.tmp 58) 23 23 rfl _ _ rfl rfl hrun ?_)
          refine wp_goto ?_
          exact .inl ⟨rfl, fin.out _ ⟨rfl, rfl, by simp⟩⟩
    · rw [lay_T]
      have hle := takeTextL_le r 255
      obtain ⟨hok, hno⟩ := hst.text
      rcases hx : takeTextL r 255 with ⟨t, r', en⟩
      rw [hx] at hok hno hle
      simp only at hok hno hle
      have cT := Lib.hid (taketext_to hx (by omega))
      obtain ⟨sa, sc, rfl, -⟩ := hm.ss.form
      have ap := fun w1 hb => (hm.grow (w' := w1) hb).addT (by omega) t
      have mm := Lib.hid (fun w1 hb => (hm.grow (w' := w1) hb).m1)
      have ex := cut_one 116 (lay a b c)
      by_cases he : en = 0
      · subst he
        have hok' := Lib.hid (hok rfl)
        have fin : Hid (∀ w1, Below wr.heap.size wr w1 → ∃ a2 cap2 W2, (Builtin.append_ #[22, 22] 0 #[.slice sa S.length sc, .slice (some ⟨w1.heap.size, 0, none⟩) 1 1]).run Tryd.prog (w1.alloc (.cells #[tx t] 9)) = .ok (.slice a2 (S.length + 1) cap2) W2 ∧
            (W2.cell? ⟨w.heap.size + 1, 1, none⟩ = some (.slice sa S.length sc) ∧ W2.frozen? ⟨w.heap.size + 1, 1, none⟩ = false) ∧ ∀ a', Fr 78 [(2, .pointer (some ⟨w.heap.size, 0, none⟩)), (4, .pointer (some ⟨w.heap.size + 1, 0, none⟩)), (5, tx (lay a b c)), (9, tx r')] a' → ∃ m, m < g ∧ ReadAt w (readM l) m a' (W2.setCell ⟨w.heap.size + 1, 1, none⟩ (.slice a2 (S.length + 1) cap2))) :=
          Lib.hid fun w1 hb => by
            obtain ⟨a2, cap2, W2, h1, h2, h3, F1', h4⟩ := ap w1 hb
            exact ⟨a2, cap2, W2, h1, ⟨h2, h3⟩, fun a' hf => ⟨a + b + c.toNat, by omega, k, _, n, x, S ++ [t], N, F1', F2, a, b, c, r', hf, h4, hok'.out, by rw [List.length_append, List.length_singleton]; omega, hNb, by omega, fun u hu => by
              rcases List.mem_append.1 hu with hu | hu
              · exact hSl u hu
              · obtain rfl := List.mem_singleton.1 hu
                omega, rfl⟩⟩
        generalize lay a b c = L at *
        clear hm hst hSl hSa hNb hr hg hok hno hle hx hok' ap
        go_wp2_with fail
        refine (cT.out _).mono ?_
        rintro e w1 ⟨rfl, hb1⟩
        have q0 := mm.out _ hb1
        obtain ⟨a2, cap2, W2, hrun, ⟨q1, q2⟩, fin⟩ := fin.out _ hb1
        replace fin := Lib.hid fin
        clear hb1 cT mm
        go_wp2_with (at_builtin; refine wpList_append_go rfl (.tmp 42) (.tmp 44) 22 22 rfl _ _ rfl rfl hrun ?_)
        refine wp_goto ?_
        exact .inr (.inr ⟨rfl, fin.out _ ⟨rfl, rfl, by simp⟩⟩)
      · have hbad := hno he
        have fin : Hid (∀ w1, Below wr.heap.size wr w1 → ∃ a2 cap2 W2, (Builtin.append_ #[22, 22] 0 #[.slice sa S.length sc, .slice (some ⟨w1.heap.size, 0, none⟩) 1 1]).run Tryd.prog (w1.alloc (.cells #[tx t] 9)) = .ok (.slice a2 (S.length + 1) cap2) W2 ∧
            (W2.cell? ⟨w.heap.size + 1, 1, none⟩ = some (.slice sa S.length sc) ∧ W2.frozen? ⟨w.heap.size + 1, 1, none⟩ = false) ∧ ∀ a', Fr 78 [(2, .pointer (some ⟨w.heap.size, 0, none⟩))] a' → BadAt w (readM l) a' (W2.setCell ⟨w.heap.size + 1, 1, none⟩ (.slice a2 (S.length + 1) cap2))) :=
          Lib.hid fun w1 hb => by
            obtain ⟨a2, cap2, W2, h1, h2, h3, F1', h4⟩ := ap w1 hb
            exact ⟨a2, cap2, W2, h1, ⟨h2, h3⟩, fun a' hf => ⟨k, _, n, x, S ++ [t], N, F1', F2, hf, h4, hbad⟩⟩
        generalize lay a b c = L at *
        clear hm hst hSl hSa hNb hr hg hok hno hle hx hbad ap
        go_wp2_with fail
        refine (cT.out _).mono ?_
        rintro e w1 ⟨rfl, hb1⟩
        have q0 := mm.out _ hb1
        obtain ⟨a2, cap2, W2, hrun, ⟨q1, q2⟩, fin⟩ := fin.out _ hb1
        replace fin := Lib.hid fin
        clear hb1 cT mm
        go_wp2_with (at_builtin; refine wpList_append_go rfl (.tmp 42) (.tmp 44) 22 22 rfl _ _ rfl rfl hrun ?_)
        refine wp_goto ?_
        exact .inl ⟨rfl, fin.out _ ⟨rfl, rfl, by simp⟩⟩
  · intro H
    have hst := MdMem.start w
    have hlm : l.length ≤ maxLen := by unfold maxLen; omega
    by_cases h2 : l.length < 2
    · have hx : takeL l 2 = (0, l, 11) := takeL_short (k := 2) (by decide) h2
      have hr : readM l = bad := by unfold readM; rw [if_pos h2]
      have cT := Lib.hid (take_b hx hlm)
      have fin : Hid (∀ w1, Below _ _ w1 → ∀ a', Fr 78 [(2, .pointer (some ⟨w.heap.size, 0, none⟩))] a' → BadAt w (readM l) a' w1) := Lib.hid fun w1 hb a' hf => ⟨_, _, _, _, _, _, _, _, hf, hst.grow hb, hr⟩
      clear H hst hx hr hT
      go_wp2_with fail
      refine (cT.out _).mono ?_
      rintro e w1 ⟨rfl, hb1⟩
      replace fin := Lib.hid (fin.out _ hb1)
      clear hb1 cT
      go_wp2_with fail
      refine wp_goto ?_
      exact .inl ⟨rfl, fin.out _ ⟨rfl, rfl, by simp⟩⟩
    · have hx : takeL l 2 = (num (l.take 2), l.drop 2, 0) := by
        unfold takeL
        rw [show heldN 2 = 2 from rfl, if_neg h2]
      have hdl : (l.drop 2).length ≤ 100000 := by rw [List.length_drop]; omega
      have cT := Lib.hid (take_b hx hlm)
      have cK := Lib.hid (isKd_any (num (l.take 2)))
      cases hk : isKd (num (l.take 2)) with
      | false =>
        rw [hk] at cK
        have hr : readM l = (zeroM, 540) := by unfold readM; rw [if_neg h2, hk]; rfl
        rw [hr]
        clear H hx hr hT hk h2
        generalize num (l.take 2) = kn at *
        generalize l.drop 2 = r at *
        go_wp2_with fail
        refine (cT.out _).mono ?_
        rintro e w1 ⟨rfl, hb1⟩
        have hm := hst.grow hb1
        clear hb1 cT hst
        go_wp2_with fail
        refine (cK.out _).mono ?_
        rintro e w2 ⟨rfl, rfl⟩
        generalize w.heap.size = rb at *
        obtain ⟨z0, z1, z2, z3, z4, z5⟩ := hm.fail _ (Lib.hid rfl)
        have fin := Lib.hid (And.intro z0 z1)
        have r0 := hm.r0
        have r1 := hm.r1
        have r2 := hm.r2
        have r3 := hm.r3
        have t0 := hm.rf 0
        have t1 := hm.rf 1
        have t2 := hm.rf 2
        have t3 := hm.rf 3
        clear hm z0 z1
        go_wp2_with fail
        simp only [jumps]
        refine bodyPost_ret (ret_meth (k := 0) (x := 0) (s := .slice none 0 0) (n := .slice none 0 0) rfl rfl z2 z3 z4 z5) rfl ⟨_, rfl, fin.out.1, fin.out.2⟩
      | true =>
        rw [hk] at cK
        have hr : goT (num (l.take 2)) [] (shT (num (l.take 2))) (shN (num (l.take 2))) (shB (num (l.take 2))) (l.drop 2) = readM l := by
          unfold readM
          rw [if_neg h2, if_pos hk]
        have hkk := isKd_iff.1 hk
        have hT' : Hid (∀ w1, Below w.heap.size w w1 → w1.cell? ⟨0, num (l.take 2) * 2, none⟩ = some (tx (lay (shT (num (l.take 2))) (shN (num (l.take 2))) (shB (num (l.take 2)))))) := Lib.hid fun w1 hb => by
          have := (hT.below hb).parts (k := num (l.take 2)) (by omega)
          rwa [partsK_lay] at this
        have ht := shT_le (num (l.take 2))
        have hn := shN_le (num (l.take 2))
        have hn0 : (0 : Int) ≤ num (l.take 2) := by omega
        have hn1 : (num (l.take 2) : Int) < 50 := by omega
        have hgb : 0 < w.heap.size := hT.1
        clear hx hk h2 hkk hT
        have hfin : Hid (∀ w1, MdMem w w1 w.heap.size (w.heap.size + 1) (num (l.take 2)) (.slice none 0 0) (.slice none 0 0) 0 [] [] [] [] → ∀ a', Fr 78 [(2, .pointer (some ⟨w.heap.size, 0, none⟩)), (4, .pointer (some ⟨w.heap.size + 1, 0, none⟩)), (5, tx (lay (shT (num (l.take 2))) (shN (num (l.take 2))) (shB (num (l.take 2))))), (9, tx (l.drop 2))] a' → ∃ n, ReadAt w (readM l) n a' w1) :=
          Lib.hid fun w1 hm a' hf => ⟨_, _, _, _, _, _, _, _, _, _, _, _, _, hf, hm, .inl ⟨rfl, rfl, hr⟩, by simpa using ht, by simpa using hn, hdl, by simp, rfl⟩
        clear hr ht hn
        generalize lay (shT (num (l.take 2))) (shN (num (l.take 2))) (shB (num (l.take 2))) = P at *
        generalize num (l.take 2) = kn at *
        generalize l.drop 2 = r at *
        go_wp2_with fail
        refine (cT.out _).mono ?_
        rintro e w1 ⟨rfl, hb1⟩
        have hm := hst.grow hb1
        clear hb1 cT hst
        go_wp2_with fail
        refine (cK.out _).mono ?_
        rintro e w2 ⟨rfl, rfl⟩
        have q3 := hT'.out _ hm.below
        have m0 := hm.m0
        have t0 := hm.mf 0
        replace hm := Lib.hid hm
        go_wp2_with fail
        go_region
        have hm2 := Lib.hid ((hm.out.setK kn).drewN 1)
        clear hm q3 m0 t0 hT' cK hlm
        go_wp2_with fail
        refine wp_label ?_
        go_step
        go_step
        refine Exists.elim (hfin.out _ hm2.out _ ?_) fun n h => H n _ _ h
        exact ⟨rfl, rfl, by simp⟩
end Go.Proofs.YtipinglchpmgaaaDoor
