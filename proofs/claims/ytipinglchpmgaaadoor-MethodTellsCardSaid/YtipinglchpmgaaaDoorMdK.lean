/- Read, by the document's own. -/
import Derived.Test.YtipinglchpmgaaaDoorMdJ
import Derived.Test.YtipinglchpmgaaaDoorOcD
namespace Go.Proofs.YtipinglchpmgaaaDoor
open Go.RowKit
set_option linter.unusedVariables false

theorem rtt_b {l t r : List UInt8} {most en : Int} (hx : takeTextL l most = (t, r, en)) (hl : l.length ≤ 16777216) (w : World) :
    Calls Tryd.prog 26 #[tx l, .int .i64 most] w fun e w' => e = .returned (.tuple #[tx t, tx r, .int .i64 en]) ∧ Below w.heap.size w w' := by
  refine (rtaketext_to hx hl w).mono ?_
  rintro e w' ⟨rfl, n, rfl⟩
  exact ⟨rfl, drewN_below _ _⟩

/-- The result's cells, still empty, beside whatever else. -/
def RbAt (w0 wr : World) (rb : Nat) : Prop := ∃ H, St w0.heap.size w0 wr ((rb, mO 0 (.slice none 0 0) (.slice none 0 0) 0) :: H)
section
variable {w0 wr : World} {rb mb : Nat} {k x : Int} {s n : Value} {S : List (List UInt8)} {N : List Int} {F1 F2 : List (Nat × Obj)}
theorem MdMem.rbAt (h : MdMem w0 wr rb mb k s n x S N F1 F2) : RbAt w0 wr rb := ⟨_, h.st⟩
theorem RbAt.grow {w' : World} (h : RbAt w0 wr rb) (hb : Below wr.heap.size wr w') : RbAt w0 w' rb := by
  obtain ⟨H, h⟩ := h
  exact ⟨H, ⟨h.below.trans (hb.mono h.base), Nat.le_trans h.base hb.size, h.nodup, fun p hm => ⟨(h.at_ p hm).1, (hb.block _ (St.lt (o := p.2) h hm)).trans (h.at_ p hm).2⟩⟩⟩
theorem RbAt.start (w : World) : RbAt w (w.alloc (mO 0 (.slice none 0 0) (.slice none 0 0) 0)) w.heap.size := ⟨[], (St.start w).alloc _⟩
theorem RbAt.mem (h : RbAt w0 wr rb) (k : Int) : MdMem w0 (wr.alloc (mO k (.slice none 0 0) (.slice none 0 0) 0)) rb wr.heap.size k (.slice none 0 0) (.slice none 0 0) 0 [] [] [] [] := by
  obtain ⟨H, h⟩ := h
  refine ⟨?_, SlIs.nil, SlIs.nil⟩
  exact ((h.alloc (mO k (.slice none 0 0) (.slice none 0 0) 0)).perm (List.Perm.swap _ _ _)).sub (by simp)
theorem RbAt.cells (h : RbAt w0 wr rb) : (wr.cell? ⟨rb, 0, none⟩ = some (.int .i64 0) ∧ wr.cell? ⟨rb, 1, none⟩ = some (.slice none 0 0) ∧ wr.cell? ⟨rb, 2, none⟩ = some (.slice none 0 0) ∧ wr.cell? ⟨rb, 3, none⟩ = some (.int .i64 0)) ∧ ∀ i, wr.frozen? ⟨rb, i, none⟩ = false := by
  obtain ⟨H, h⟩ := h
  exact ⟨⟨h.cell (b := rb) List.mem_cons_self rfl, h.cell (b := rb) List.mem_cons_self rfl, h.cell (b := rb) List.mem_cons_self rfl, h.cell (b := rb) List.mem_cons_self rfl⟩, fun i => St.soft (b := rb) h List.mem_cons_self i⟩
theorem RbAt.fail (h : RbAt w0 wr rb) : ∀ w', Hid (w' = (((wr.setCell ⟨rb, 0, none⟩ (.int .i64 0)).setCell ⟨rb, 1, none⟩ (.slice none 0 0)).setCell ⟨rb, 2, none⟩ (.slice none 0 0)).setCell ⟨rb, 3, none⟩ (.int .i64 0)) →
    RdM w' (.agg #[.int .i64 0, .slice none 0 0, .slice none 0 0, .int .i64 0]) zeroM ∧ Below w0.heap.size w0 w' ∧ w'.cell? ⟨rb, 0, none⟩ = some (.int .i64 0) ∧ w'.cell? ⟨rb, 1, none⟩ = some (.slice none 0 0) ∧ w'.cell? ⟨rb, 2, none⟩ = some (.slice none 0 0) ∧ w'.cell? ⟨rb, 3, none⟩ = some (.int .i64 0) := by
  obtain ⟨H, h⟩ := h
  intro w' e
  obtain rfl := e.out
  have h1 := (((h.set0 (C := H) 0 (.int .i64 0)).set0 (C := H) 1 (.slice none 0 0)).set0 (C := H) 2 (.slice none 0 0)).set0 (C := H) 3 (.int .i64 0)
  exact ⟨RdM.zero _, h1.below, h1.cell (b := rb) List.mem_cons_self rfl, h1.cell (b := rb) List.mem_cons_self rfl, h1.cell (b := rb) List.mem_cons_self rfl, h1.cell (b := rb) List.mem_cons_self rfl⟩
end

theorem ret_rmeth {w : World} {rb : Nat} {tmps : Array Value} {k x : Int} {s n y : Value} (h2 : tmps[2]? = some (.pointer (some ⟨rb, 0, none⟩))) (h3 : tmps[3]? = some y) (q0 : w.cell? ⟨rb, 0, none⟩ = some (.int .i64 k)) (q1 : w.cell? ⟨rb, 1, none⟩ = some s) (q2 : w.cell? ⟨rb, 2, none⟩ = some n) (q3 : w.cell? ⟨rb, 3, none⟩ = some (.int .i64 x)) :
    (results Tryd.f11 tmps).run Tryd.prog w = .ok (.tuple #[.agg #[.int .i64 k, s, n, .int .i64 x], y]) w := by
  simp [results, Tryd.results11, go_sem, h2, h3, q0, q1, q2, q3]

set_option maxHeartbeats 4000000 in
theorem rreadM_any {l : List UInt8} (hl : l.length ≤ 100000) (w : World) : Calls Tryd.prog 11 #[tx l] w (ReadR w (readM l)) := by
  have hst := RbAt.start w
  have hlm : l.length ≤ maxLen := by unfold maxLen; omega
  by_cases h2 : l.length < 2
  · have hx : takeL l 2 = (0, l, 11) := takeL_short (k := 2) (by decide) h2
    have hr : readM l = bad := by unfold readM; rw [if_pos h2]
    rw [hr]
    have cT := Lib.hid (rtake_b hx hlm)
    clear hx hr
    go_enter Tryd.func11, Tryd.ntmps11
    go_wp2_with fail
    refine (cT.out _).mono ?_
    rintro e w1 ⟨rfl, hb1⟩
    have hm := hst.grow hb1
    clear hb1 cT hst
    generalize w.heap.size = rb at *
    obtain ⟨⟨r0, r1, r2, r3⟩, tf⟩ := hm.cells
    have t0 := tf 0
    have t1 := tf 1
    have t2 := tf 2
    have t3 := tf 3
    obtain ⟨z0, z1, z2, z3, z4, z5⟩ := hm.fail _ (Lib.hid rfl)
    have fin := Lib.hid (And.intro z0 z1)
    clear hm z0 z1 tf
    go_wp2_with fail
    refine bodyPost_ret (ret_rmeth (k := 0) (x := 0) (s := .slice none 0 0) (n := .slice none 0 0) rfl rfl z2 z3 z4 z5) rfl ⟨_, rfl, fin.out.1, fin.out.2⟩
  have hx : takeL l 2 = (num (l.take 2), l.drop 2, 0) := by
    unfold takeL
    rw [show heldN 2 = 2 from rfl, if_neg h2]
  have hdl : (l.drop 2).length ≤ 100000 := by rw [List.length_drop]; omega
  have cT := Lib.hid (rtake_b hx hlm)
  have cK := Lib.hid (rshape_any (num (l.take 2)))
  cases hk : isKd (num (l.take 2)) with
  | false =>
    rw [hk] at cK
    have hr : readM l = (zeroM, 540) := by unfold readM; rw [if_neg h2, hk]; rfl
    rw [hr]
    clear hx hr hk h2
    generalize num (l.take 2) = kn at *
    generalize l.drop 2 = r at *
    go_enter Tryd.func11, Tryd.ntmps11
    go_wp2_with fail
    refine (cT.out _).mono ?_
    rintro e w1 ⟨rfl, hb1⟩
    have hm := hst.grow hb1
    clear hb1 cT hst
    go_wp2_with fail
    refine (cK.out _).mono ?_
    rintro e w2 ⟨rfl, rfl⟩
    generalize w.heap.size = rb at *
    obtain ⟨⟨r0, r1, r2, r3⟩, tf⟩ := hm.cells
    have t0 := tf 0
    have t1 := tf 1
    have t2 := tf 2
    have t3 := tf 3
    obtain ⟨z0, z1, z2, z3, z4, z5⟩ := hm.fail _ (Lib.hid rfl)
    have fin := Lib.hid (And.intro z0 z1)
    clear hm z0 z1 tf
    go_wp2_with fail
    refine bodyPost_ret (ret_rmeth (k := 0) (x := 0) (s := .slice none 0 0) (n := .slice none 0 0) rfl rfl z2 z3 z4 z5) rfl ⟨_, rfl, fin.out.1, fin.out.2⟩
  | true =>
    rw [hk] at cK
    have hr : Hid (goT (num (l.take 2)) [] (shT (num (l.take 2))) (shN (num (l.take 2))) (shB (num (l.take 2))) (l.drop 2) = readM l) := by
      refine Lib.hid ?_
      unfold readM
      rw [if_neg h2, if_pos hk]
    have ht := shT_le (num (l.take 2))
    have hn := shN_le (num (l.take 2))
    clear hx hk h2 hlm
    generalize readM l = R at *
    generalize shT (num (l.take 2)) = T at *
    generalize shN (num (l.take 2)) = M at *
    generalize shB (num (l.take 2)) = D at *
    generalize num (l.take 2) = kn at *
    generalize l.drop 2 = r at *
    have hT3 : (T : Int) ≤ 3 := by omega
    have hM3 : (M : Int) ≤ 3 := by omega
    go_enter Tryd.func11, Tryd.ntmps11
    go_wp2_with fail
    refine (cT.out _).mono ?_
    rintro e w1 ⟨rfl, hb1⟩
    have hm := hst.grow hb1
    clear hb1 cT hst
    go_wp2_with fail
    refine (cK.out _).mono ?_
    rintro e w2 ⟨rfl, rfl⟩
    replace hm := Lib.hid (hm.mem kn)
    clear cK
    go_wp2_with fail
    go_loopg [5, 12, 13, 14, 15] T (fun g v5 v12 v13 v14 v15 wr => ∃ (r : List UInt8) (S : List (List UInt8)) (s : Value) (F1 : List (Nat × Obj)), v5 = tx r ∧ v12 = .int .i64 S.length ∧ S.length + g = T ∧ r.length ≤ 100000 ∧ Hid (MdMem w wr w.heap.size w1.heap.size kn s (.slice none 0 0) 0 S [] F1 []) ∧ Hid (goT kn S g M D r = R) ∧ Hid (∀ t ∈ S, t.length ≤ 100000))
    case atStart => exact ⟨r, [], .slice none 0 0, [], rfl, rfl, by simp, hdl, hm, hr, Lib.hid (by simp)⟩
    case round =>
      clear hm hr hdl
      obtain ⟨r, S, s, F1, rfl, rfl, hg, hrl, hm, hgo, hSl⟩ := hrel
      obtain ⟨sa, sc, rfl, -⟩ := hm.out.ss.form
      by_cases hlt : S.length < T
      · obtain ⟨g, eg⟩ : ∃ g, gk = g + 1 := ⟨gk - 1, by omega⟩
        have hgo2 := hgo.out
        rw [eg, goT] at hgo2
        have hle := takeTextL_le r 255
        rcases hx : takeTextL r 255 with ⟨t, r', en⟩
        rw [hx] at hgo2 hle
        simp only at hgo2 hle
        have cT := Lib.hid (rtt_b hx (by omega))
        have hp1 : (S.length : Int) < T := by omega
        clear hx hgo
        by_cases he : en = 0
        · subst he
          rw [if_pos rfl] at hgo2
          replace hgo2 := Lib.hid hgo2
          replace hle := Lib.hid hle
          go_wp2_with fail
          refine (cT.out _).mono ?_
          rintro e w3 ⟨rfl, hb1⟩
          have hm2 := hm.out.grow hb1
          have q0 := hm2.m1
          obtain ⟨a2, cap2, W2, hrun, q1, q2, F1', hm3⟩ := hm2.addT (by omega) t
          replace hm3 := Lib.hid hm3
          clear hb1 cT hm2 hm
          go_wp2_with (at_builtin; refine wpList_append_go rfl (.tmp 59) (.tmp 61) 22 22 rfl _ _ rfl rfl hrun ?_)
          go_roundg g
          case measure => omega
          case rel => exact ⟨r', S ++ [t], _, F1', rfl, by rw [List.length_append, List.length_singleton]; go_num, by rw [List.length_append, List.length_singleton]; omega, by have := hle.out; omega, hm3, hgo2, Lib.hid fun u hu => by
            rcases List.mem_append.1 hu with hu | hu
            · exact hSl.out u hu
            · obtain rfl := List.mem_singleton.1 hu
              have := hle.out
              omega⟩
        · rw [if_neg he] at hgo2
          subst hgo2
          clear hle
          go_wp2_with fail
          refine (cT.out _).mono ?_
          rintro e w3 ⟨rfl, hb1⟩
          have hm2 := (hm.out.grow hb1).rbAt
          generalize w1.heap.size = mb at *
          generalize w.heap.size = rb at *
          obtain ⟨⟨r0, r1, r2, r3⟩, tf⟩ := hm2.cells
          have t0 := tf 0
          have t1 := tf 1
          have t2 := tf 2
          have t3 := tf 3
          obtain ⟨z0, z1, z2, z3, z4, z5⟩ := hm2.fail _ (Lib.hid rfl)
          have fin := Lib.hid (And.intro z0 z1)
          clear hm2 z0 z1 tf hb1 cT
          go_wp2_with fail
          refine bodyPost_ret (ret_rmeth (k := 0) (x := 0) (s := .slice none 0 0) (n := .slice none 0 0) rfl rfl z2 z3 z4 z5) rfl ⟨_, rfl, fin.out.1, fin.out.2⟩
      · have eg : gk = 0 := by omega
        have hgo2 : Hid (goN kn S [] M D r = R) := by
          have := hgo.out
          rw [eg] at this
          exact Lib.hid this
        have hST : (S.length : Int) = T := by omega
        have hlt' : ¬ (S.length : Int) < T := by omega
        clear hgo hST
        go_wp2_with fail
        go_loopg [5, 16, 17, 18, 19] M (fun g v5 v16 v17 v18 v19 wr => ∃ (r : List UInt8) (N : List Int) (n : Value) (F2 : List (Nat × Obj)), v5 = tx r ∧ v16 = .int .i64 N.length ∧ N.length + g = M ∧ r.length ≤ 100000 ∧ Hid (MdMem w wr w.heap.size w1.heap.size kn (.slice sa S.length sc) n 0 S N F1 F2) ∧ Hid (goN kn S N g D r = R))
        case atStart => exact ⟨r, [], .slice none 0 0, [], rfl, rfl, by simp, hrl, hm, hgo2⟩
        case round =>
          clear hm hgo2 hrl hg hlt hlt'
          obtain ⟨r, N, n, F2, rfl, rfl, hg, hrl, hm, hgo⟩ := hrel
          obtain ⟨na, nc, rfl, -⟩ := hm.out.sn.form
          by_cases hlt : N.length < M
          · obtain ⟨g, eg2⟩ : ∃ g, gk = g + 1 := ⟨gk - 1, by omega⟩
            have hgo2 := hgo.out
            rw [eg2, goN] at hgo2
            have hle := takeL_le r 4
            rcases hx : takeL r 4 with ⟨t, r', en⟩
            rw [hx] at hgo2 hle
            simp only at hgo2 hle
            have cT := Lib.hid (rtake_b hx (by unfold maxLen; omega))
            have hp1 : (N.length : Int) < M := by omega
            clear hx hgo
            by_cases he : en = 0
            · subst he
              rw [if_pos rfl] at hgo2
              replace hgo2 := Lib.hid hgo2
              replace hle := Lib.hid hle
              go_wp2_with fail
              refine (cT.out _).mono ?_
              rintro e w3 ⟨rfl, hb1⟩
              have hm2 := hm.out.grow hb1
              have q0 := hm2.m2
              obtain ⟨a2, cap2, W2, hrun, q1, q2, F1', hm3⟩ := hm2.addN (by omega) t
              replace hm3 := Lib.hid hm3
              clear hb1 cT hm2 hm
              go_wp2_with (at_builtin; refine wpList_append_go rfl (.tmp 80) (.tmp 82) 23 23 rfl _ _ rfl rfl hrun ?_)
              go_roundg g
              case measure => omega
              case rel => exact ⟨r', N ++ [(t : Int)], _, F1', rfl, by rw [List.length_append, List.length_singleton]; go_num, by rw [List.length_append, List.length_singleton]; omega, by have := hle.out; omega, hm3, hgo2⟩
            · rw [if_neg he] at hgo2
              subst hgo2
              clear hle
              go_wp2_with fail
              refine (cT.out _).mono ?_
              rintro e w3 ⟨rfl, hb1⟩
              have hm2 := (hm.out.grow hb1).rbAt
              generalize w1.heap.size = mb at *
              generalize w.heap.size = rb at *
              obtain ⟨⟨r0, r1, r2, r3⟩, tf⟩ := hm2.cells
              have t0 := tf 0
              have t1 := tf 1
              have t2 := tf 2
              have t3 := tf 3
              obtain ⟨z0, z1, z2, z3, z4, z5⟩ := hm2.fail _ (Lib.hid rfl)
              have fin := Lib.hid (And.intro z0 z1)
              clear hm2 z0 z1 tf hb1 cT
              go_wp2_with fail
              refine bodyPost_ret (ret_rmeth (k := 0) (x := 0) (s := .slice none 0 0) (n := .slice none 0 0) rfl rfl z2 z3 z4 z5) rfl ⟨_, rfl, fin.out.1, fin.out.2⟩
          · have eg2 : gk = 0 := by omega
            have hgo2 : goB kn S N D r = R := by
              have := hgo.out
              rw [eg2] at this
              exact this
            have hlt' : ¬ (N.length : Int) < M := by omega
            clear hgo hlt hg
            cases D with
            | false =>
              replace hgo : Hid (goE kn S N 0 r = R) := Lib.hid hgo2
              clear hgo2
              by_cases hre : r = []
              · subst hre
                have hR := hgo.out
                rw [goE_nil] at hR
                subst hR
                clear hgo
                have hS2 : ∀ t ∈ S, t.length ≤ maxLen := fun t ht => by have := hSl.out t ht; unfold maxLen; omega
                have hm2 := hm.out
                have hne := hm2.ne
                generalize w1.heap.size = mb at *
                generalize w.heap.size = rb at *
                obtain ⟨z0, z1, z2, z3, z4, z5⟩ := hm2.done hS2 _ (Lib.hid rfl)
                have fin := Lib.hid (And.intro z0 z1)
                have m0 := hm2.m0
                have m1 := hm2.m1
                have m2 := hm2.m2
                have m3 := hm2.m3
                obtain ⟨⟨r0, r1, r2, r3⟩, tf⟩ := hm2.rbAt.cells
                have t0 := tf 0
                have t1 := tf 1
                have t2 := tf 2
                have t3 := tf 3
                clear hm hm2 z0 z1 hS2 tf
                go_wp2_with fail
                refine bodyPost_ret (ret_rmeth rfl rfl z2 z3 z4 z5) rfl ⟨_, rfl, fin.out.1, fin.out.2⟩
              · have hpos : (0 : Int) < r.length := by have := List.length_pos_iff.2 hre; omega
                have hR := hgo.out
                rw [goE_more hre] at hR
                subst hR
                clear hgo hre
                have hm2 := hm.out.rbAt
                generalize w1.heap.size = mb at *
                generalize w.heap.size = rb at *
                obtain ⟨⟨r0, r1, r2, r3⟩, tf⟩ := hm2.cells
                have t0 := tf 0
                have t1 := tf 1
                have t2 := tf 2
                have t3 := tf 3
                obtain ⟨z0, z1, z2, z3, z4, z5⟩ := hm2.fail _ (Lib.hid rfl)
                have fin := Lib.hid (And.intro z0 z1)
                clear hm hm2 z0 z1 tf
                go_wp2_with fail
                refine bodyPost_ret (ret_rmeth (k := 0) (x := 0) (s := .slice none 0 0) (n := .slice none 0 0) rfl rfl z2 z3 z4 z5) rfl ⟨_, rfl, fin.out.1, fin.out.2⟩
            | true =>
              unfold goB at hgo2
              rw [if_pos rfl] at hgo2
              have hle := takeL_le r 1
              have hgo3 := hgo2
              clear hgo2
              rcases hx : takeL r 1 with ⟨t, r', en⟩
              rw [hx] at hgo3 hle
              simp only at hgo3 hle
              have cT := Lib.hid (rtake_b hx (by unfold maxLen; omega))
              clear hx
              by_cases he : en = 0
              · subst he
                rw [if_pos rfl] at hgo3
                have hgo := Lib.hid hgo3
                clear hgo3 hle hrl
                go_wp2_with fail
                refine (cT.out _).mono ?_
                rintro e w3 ⟨rfl, hb1⟩
                have hm0 := hm.out.grow hb1
                have u3 := hm0.m3
                have g3 := hm0.mf 3
                replace hm := Lib.hid (hm0.setX t)
                clear hb1 cT hm0
                by_cases hre : r' = []
                · subst hre
                  have hR := hgo.out
                  rw [goE_nil] at hR
                  subst hR
                  clear hgo
                  have hS2 : ∀ t ∈ S, t.length ≤ maxLen := fun t ht => by have := hSl.out t ht; unfold maxLen; omega
                  have hm2 := hm.out
                  have hne := hm2.ne
                  generalize w1.heap.size = mb at *
                  generalize w.heap.size = rb at *
                  obtain ⟨z0, z1, z2, z3, z4, z5⟩ := hm2.done hS2 _ (Lib.hid rfl)
                  have fin := Lib.hid (And.intro z0 z1)
                  have m0 := hm2.m0
                  have m1 := hm2.m1
                  have m2 := hm2.m2
                  have m3 := hm2.m3
                  obtain ⟨⟨r0, r1, r2, r3⟩, tf⟩ := hm2.rbAt.cells
                  have t0 := tf 0
                  have t1 := tf 1
                  have t2 := tf 2
                  have t3 := tf 3
                  clear hm hm2 z0 z1 hS2 tf
                  go_wp2_with fail
                  refine bodyPost_ret (ret_rmeth rfl rfl z2 z3 z4 z5) rfl ⟨_, rfl, fin.out.1, fin.out.2⟩
                · have hpos : (0 : Int) < r'.length := by have := List.length_pos_iff.2 hre; omega
                  have hR := hgo.out
                  rw [goE_more hre] at hR
                  subst hR
                  clear hgo hre
                  have hm2 := hm.out.rbAt
                  generalize w1.heap.size = mb at *
                  generalize w.heap.size = rb at *
                  obtain ⟨⟨r0, r1, r2, r3⟩, tf⟩ := hm2.cells
                  have t0 := tf 0
                  have t1 := tf 1
                  have t2 := tf 2
                  have t3 := tf 3
                  obtain ⟨z0, z1, z2, z3, z4, z5⟩ := hm2.fail _ (Lib.hid rfl)
                  have fin := Lib.hid (And.intro z0 z1)
                  clear hm hm2 z0 z1 tf
                  go_wp2_with fail
                  refine bodyPost_ret (ret_rmeth (k := 0) (x := 0) (s := .slice none 0 0) (n := .slice none 0 0) rfl rfl z2 z3 z4 z5) rfl ⟨_, rfl, fin.out.1, fin.out.2⟩
              · rw [if_neg he] at hgo3
                subst hgo3
                clear hle
                go_wp2_with fail
                refine (cT.out _).mono ?_
                rintro e w3 ⟨rfl, hb1⟩
                have hm2 := (hm.out.grow hb1).rbAt
                generalize w1.heap.size = mb at *
                generalize w.heap.size = rb at *
                obtain ⟨⟨r0, r1, r2, r3⟩, tf⟩ := hm2.cells
                have t0 := tf 0
                have t1 := tf 1
                have t2 := tf 2
                have t3 := tf 3
                obtain ⟨z0, z1, z2, z3, z4, z5⟩ := hm2.fail _ (Lib.hid rfl)
                have fin := Lib.hid (And.intro z0 z1)
                clear hm2 z0 z1 tf hb1 cT
                go_wp2_with fail
                refine bodyPost_ret (ret_rmeth (k := 0) (x := 0) (s := .slice none 0 0) (n := .slice none 0 0) rfl rfl z2 z3 z4 z5) rfl ⟨_, rfl, fin.out.1, fin.out.2⟩
end Go.Proofs.YtipinglchpmgaaaDoor
