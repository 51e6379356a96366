/- Dials: settle. -/
import Derived.Test.YtldocgpnmfmnaaaDlD
import Derived.Test.YtldocgpnmfmnaaaGoto
import Derived.StillTailTactics
namespace Go.Proofs.Ytldocgpnmfmnaaa
open Go.RowKit
set_option linter.unusedVariables false

/-- Behind settle: a heap of the same marks. -/
def SettleR (B : Nat) (w0 : World) (db : Nat) (M : List Mk) (hv : Value) (mv : Option Nat) (R : List (Nat × Obj)) (e : Ending) (w' : World) : Prop :=
  e = .returned (.tuple #[]) ∧ ∃ M' hF', M'.Perm M ∧ Heap M' ∧ DlAt B w0 w' db M' hv hF' mv R

/-- On the way: M' are the marks of M, m lies at p. -/
def OnWay (B : Nat) (w0 : World) (db : Nat) (M : List Mk) (m : Mk) (hv : Value) (mv : Option Nat) (R : List (Nat × Obj)) (M' : List Mk) (p : Nat) (a' : Act) (w' : World) : Prop :=
  Fr 55 [(0, mp db), (1, mp m.b)] a' ∧ M'.Perm M ∧ M'[p]? = some m ∧ ∃ hF', DlAt B w0 w' db M' hv hF' mv R

section
variable {B : Nat} {w0 w : World} {db : Nat} {M : List Mk} {hv : Value} {hF R : List (Nat × Obj)} {mv : Option Nat} {i j p : Nat} {m o : Mk}

theorem swap_at {M : List Mk} {p c : Nat} {m : Mk} (hp : M[p]? = some m) (hc : c < M.length) : (swapL M p c)[c]? = some m := by
  have hpl := (List.getElem?_eq_some_iff.1 hp).1
  rw [V_get (M := swapL M p c) (i := c) (by rw [swapL_len]; exact hc), V_swap hpl hc, if_pos rfl, V_eq hp]

theorem belowV_none (h : below M p = none) : belowV M p = .pointer none := by unfold belowV; rw [h]
theorem belowV_some {c : Nat} (h : below M p = some c) : belowV M p = mp (V M c).b := by unfold belowV; rw [h]

set_option maxHeartbeats 4000000 in
set_option maxRecDepth 100000 in
theorem settle_any (h : DlAt B w0 w db M hv hF mv R) (hi : M[p]? = some m) (hr : Rises M p) :
    Calls Try.prog 22 #[mp db, mp m.b] w (SettleR B w0 db M hv mv R) := by
  have hall := Lib.hid (And.intro h (And.intro hi hr))
  clear h hi hr
  go_enter Try.func22, Try.ntmps22
  go_wp2_with fail
  refine wp_scope_two 0 1 (M.length + 1)
    (fun g a' w' => ∃ M', OnWay B w0 db M m hv mv R M' g a' w' ∧ Rises M' g)
    (fun g a' w' => ∃ M' p, OnWay B w0 db M m hv mv R M' p a' w' ∧ p + g = M.length ∧ Sinks M' p)
    (by decide) rfl rfl ?_ ?_ ?_ ?_
  · rintro n a' w' ⟨M', p, h1, h2, h3⟩
    omega
  · rintro g a' w' ⟨M', p, ⟨hfr, hperm, hp, hF', h⟩, hg, hs⟩
    obtain ⟨f, rfl, hl⟩ := hfr.lit
    clear hfr hall
    simp only [List.mem_cons, List.not_mem_nil, or_false, forall_eq_or_imp, forall_eq] at hl
    obtain ⟨f0, f1⟩ := hl
    simp only [List.range, List.range.loop, List.map, f0, f1]
    clear f0 f1
    have cb := firstBelow_any h hp
    have hpl := (List.getElem?_eq_some_iff.1 hp).1
    have hlen := hperm.length_eq
    cases hb : below M' p with
    | none =>
      have fin : Hid (∀ n, SettleR B w0 db M hv mv R (.returned (.tuple #[])) (w'.drewN n)) := Lib.hid fun n => ⟨rfl, M', _, hperm, hs.heap (fun c hc => by rw [hb] at hc; cases hc), h.drewN n⟩
      rw [belowV_none hb] at cb
      replace cb := Lib.hid cb
      clear h hp hperm hs hb hg hpl hlen
      go_wp2_with fail
      refine cb.out.mono ?_
      rintro e w1 ⟨rfl, n, rfl⟩
      go_wp2_with fail
      simp only [jumps]
      exact bodyPost_end (results_none rfl _ _ _) rfl (fin.out n)
    | some c =>
      obtain ⟨c1, c2, c3, c4⟩ := below_some hb
      have hc := V_get c3
      have ca : Hid (∀ k, Calls Try.prog 26 #[mp (V M' c).b, mp m.b] (w'.drewN k) fun e w'' => e = .returned (.bool (decide (Go.Proofs.Ytldocgpnmfmnaaa.ahead (V M' c) m))) ∧ ∃ n, w'' = (w'.drewN k).drewN n) := Lib.hid fun k => h.ahead hc hp k
      rw [belowV_some hb] at cb
      replace cb := Lib.hid cb
      have hm : V M' p = m := V_eq hp
      by_cases ha : Go.Proofs.Ytldocgpnmfmnaaa.ahead (V M' c) m
      · rw [decide_eq_true ha] at ca
        have hst : Sinks (swapL M' p c) c := hs.step hb (by rw [hm]; exact ha)
        have sw : Hid (∀ k, Calls Try.prog 27 #[mp db, mp m.b, mp (V M' c).b] (w'.drewN k) (HeapR B w0 db (swapL M' p c) hv mv R)) := Lib.hid fun k => swap_any (h.drewN k) hp hc
        have fin : Hid ((swapL M' p c).Perm M ∧ (swapL M' p c)[c]? = some m ∧ c + (M.length - c) = M.length ∧ M.length - c < g ∧ Sinks (swapL M' p c) c) := Lib.hid ⟨(swapL_perm hpl c3).trans hperm, swap_at hp c3, by omega, by omega, hst⟩
        generalize swapL M' p c = M2 at *
        generalize V M' c = o at *
        clear h hp hperm hs hb hg hpl hlen hst hc c1 c2 c3 c4 hm ha
        go_wp2_with fail
        refine cb.out.mono ?_
        rintro e w1 ⟨rfl, n, rfl⟩
        go_wp2_with fail
        refine (ca.out _).mono ?_
        rintro e w1 ⟨rfl, n2, rfl⟩
        go_wp2_with fail
        refine (sw.out _).mono ?_
        rintro e w1 ⟨rfl, F2, hd⟩
        replace hd := Lib.hid hd
        go_wp2_with fail
        refine wp_goto ?_
        exact ⟨rfl, M.length - c, fin.out.2.2.2.1, M2, c, ⟨⟨rfl, rfl, by simp⟩, fin.out.1, fin.out.2.1, F2, hd.out⟩, fin.out.2.2.1, fin.out.2.2.2.2⟩
      · rw [decide_eq_false ha] at ca
        have fin : Hid (∀ n, SettleR B w0 db M hv mv R (.returned (.tuple #[])) (w'.drewN n)) := Lib.hid fun n => ⟨rfl, M', _, hperm, hs.heap (fun d hd => by
          rw [hb] at hd
          cases hd
          rw [hm]
          exact not_ahead.1 ha), h.drewN n⟩
        generalize V M' c = o at *
        clear h hp hperm hs hb hg hpl hlen hc c1 c2 c3 c4 hm ha
        go_wp2_with fail
        refine cb.out.mono ?_
        rintro e w1 ⟨rfl, n, rfl⟩
        go_wp2_with fail
        refine (ca.out _).mono ?_
        rintro e w1 ⟨rfl, n2, rfl⟩
        go_wp2_with fail
        simp only [jumps]
        exact bodyPost_end (results_none rfl _ _ _) rfl (fin.out _)
  · rintro g H1 a' w' ⟨M', ⟨hfr, hperm, hp, hF', h⟩, hs⟩
    replace H1 := Lib.hid H1
    obtain ⟨f, rfl, hl⟩ := hfr.lit
    clear hfr hall
    simp only [List.mem_cons, List.not_mem_nil, or_false, forall_eq_or_imp, forall_eq] at hl
    obtain ⟨f0, f1⟩ := hl
    simp only [List.range, List.range.loop, List.map, f0, f1]
    clear f0 f1
    have hpl := (List.getElem?_eq_some_iff.1 hp).1
    have hlen := hperm.length_eq
    have hm : V M' g = m := V_eq hp
    have ca := h.m2 hp
    have c0 := h.c0
    have hfew := h.few
    obtain ⟨gb, off, cap, rfl, hcell, -⟩ := h.head hp
    have g1 : (g : Int) ≤ 5000 := by omega
    rcases Nat.eq_zero_or_pos g with rfl | hg0
    · have fin : Hid (∀ n, ∃ M'' p, (M''.Perm M ∧ M''[p]? = some m ∧ ∃ hF', DlAt B w0 (w'.drewN n) db M'' (.slice (some ⟨gb, off, none⟩) M'.length cap) hF' mv R) ∧ p + (M.length - 0) = M.length ∧ Sinks M'' p) :=
        Lib.hid fun n => ⟨M', 0, ⟨hperm, hp, hF', h.drewN n⟩, by omega, hs.sinks (.inl rfl)⟩
      clear h hp hperm hs hpl hlen hm hcell
      go_wp2_with fail
      go_quiet (fail)
      go_wp2_with fail
      refine wp_label ?_
      go_step
      go_step
      obtain ⟨M2, p2, ⟨k1, k2, F2, k3⟩, k4, k5⟩ := fin.out nq
      exact H1.out _ _ _ ⟨M2, p2, ⟨⟨rfl, rfl, by simp⟩, k1, k2, F2, k3⟩, k4, k5⟩
    · obtain ⟨q, rfl⟩ : ∃ q, g = q + 1 := ⟨g - 1, by omega⟩
      have ca' : w'.cell? ⟨m.b, 2, none⟩ = some (.int .i64 ((q : Int) + 1)) := by rw [ca]; simp
      have hq2 : q / 2 < M'.length := by omega
      have hc := V_get hq2
      have cq : w'.cell? ⟨gb, off + q / 2, none⟩ = some (mp (V M' (q / 2)).b) := hcell _ _ hc
      have cm : Hid (∀ k, Calls Try.prog 26 #[mp m.b, mp (V M' (q / 2)).b] (w'.drewN k) fun e w'' => e = .returned (.bool (decide (Go.Proofs.Ytldocgpnmfmnaaa.ahead m (V M' (q / 2))))) ∧ ∃ n, w'' = (w'.drewN k).drewN n) := Lib.hid fun k => h.ahead hp hc k
      have q0 : (0 : Int) ≤ q := by omega
      have q1 : (q : Int) ≤ 5000 := by omega
      have q2 : (q : Int) / 2 < M'.length := by omega
      have q3 : (0 : Int) ≤ (q : Int) / 2 := by omega
      by_cases ha : Go.Proofs.Ytldocgpnmfmnaaa.ahead m (V M' (q / 2))
      · rw [decide_eq_true ha] at cm
        have hst : Rises (swapL M' (q + 1) (q / 2)) (q / 2) := hs.step (by omega) hpl (by rw [hm]; exact ha)
        have sw : Hid (∀ k, Calls Try.prog 27 #[mp db, mp m.b, mp (V M' (q / 2)).b] (w'.drewN k) (HeapR B w0 db (swapL M' (q + 1) (q / 2)) (.slice (some ⟨gb, off, none⟩) M'.length cap) mv R)) := Lib.hid fun k => swap_any (h.drewN k) hp hc
        have fin : Hid ((swapL M' (q + 1) (q / 2)).Perm M ∧ (swapL M' (q + 1) (q / 2))[q / 2]? = some m ∧ q / 2 < q + 1 ∧ Rises (swapL M' (q + 1) (q / 2)) (q / 2)) := Lib.hid ⟨(swapL_perm hpl hq2).trans hperm, swap_at hp hq2, by omega, hst⟩
        generalize swapL M' (q + 1) (q / 2) = M2 at *
        generalize V M' (q / 2) = o at *
        clear h hp hperm hs hpl hlen hst hc hm ha hcell ca H1
        go_wp2_with fail
        go_quiet ((go_at_call 26; exact Calls.quiet_of (cm.out _)))
        go_wp2_with fail
        have sw1 : Hid (Calls Try.prog 27 #[mp db, mp m.b, mp o.b] (w'.drewN nq).drew (HeapR B w0 db M2 (.slice (some ⟨gb, off, none⟩) M'.length cap) mv R)) := Lib.hid (sw.out (nq + 1))
        replace c0 : (w'.drewN nq).cell? ⟨db, 0, none⟩ = some (.slice (some ⟨gb, off, none⟩) M'.length cap) := c0
        replace ca' : (w'.drewN nq).cell? ⟨m.b, 2, none⟩ = some (.int .i64 ((q : Int) + 1)) := ca'
        replace cq : (w'.drewN nq).cell? ⟨gb, off + q / 2, none⟩ = some (mp o.b) := cq
        clear sw cm
        generalize w'.drewN nq = w2 at *
        have e1 : IntKind.i64.wrap (q : Int) = q := IntWalk.i64_in _ (by omega)
        obtain ⟨r, hr⟩ : ∃ r, q / 2 = r := ⟨_, rfl⟩
        have e2 : (q : Int).tdiv 2 = (r : Int) := by rw [Int.tdiv_eq_ediv_of_nonneg q0]; omega
        have e3 : IntKind.i64.wrap (r : Int) = r := IntWalk.i64_in _ (by omega)
        have e4 : (r : Int) < M'.length := by omega
        have e5 : (0 : Int) ≤ r := by omega
        rw [hr] at cq fin
        clear hr q2 q3 hq2
        go_still_tail 14, (by kernel_rfl)
        change wpList _ _ _ _ _ w2.drew
        go_wp2_with fail
        refine sw1.out.mono ?_
        rintro e w1 ⟨rfl, F2, hd⟩
        replace hd := Lib.hid hd
        go_wp2_with fail
        refine wp_goto ?_
        exact .inl ⟨rfl, r, fin.out.2.2.1, M2, ⟨⟨rfl, rfl, by simp⟩, fin.out.1, fin.out.2.1, F2, hd.out⟩, fin.out.2.2.2⟩
      · rw [decide_eq_false ha] at cm
        have fin : Hid (∀ n, ∃ M'' p, (M''.Perm M ∧ M''[p]? = some m ∧ ∃ hF', DlAt B w0 (w'.drewN n) db M'' (.slice (some ⟨gb, off, none⟩) M'.length cap) hF' mv R) ∧ p + (M.length - (q + 1)) = M.length ∧ Sinks M'' p) :=
          Lib.hid fun n => ⟨M', q + 1, ⟨hperm, hp, hF', h.drewN n⟩, by omega, hs.sinks (.inr (by rw [hm]; exact not_ahead.1 ha))⟩
        generalize V M' (q / 2) = o at *
        clear h hp hperm hs hpl hlen hc hm ha hcell ca
        go_wp2_with fail
        go_quiet ((go_at_call 26; exact Calls.quiet_of (cm.out _)))
        go_wp2_with fail
        refine wp_label ?_
        go_step
        go_step
        obtain ⟨M2, p2, ⟨k1, k2, F2, k3⟩, k4, k5⟩ := fin.out nq
        exact H1.out _ _ _ ⟨M2, p2, ⟨⟨rfl, rfl, by simp⟩, k1, k2, F2, k3⟩, k4, k5⟩
  · intro H
    go_wp2_with fail
    refine wp_label ?_
    go_step
    go_step
    obtain ⟨h, hi, hr⟩ := hall.out
    exact H p _ _ ⟨M, ⟨⟨rfl, rfl, by simp⟩, .refl _, hi, _, h⟩, hr⟩
end
end Go.Proofs.Ytldocgpnmfmnaaa
