/- Exchanges: DropQueue, Exchanges: Route; all calls, as callers see them, Exchanges: answers written out; the laws' own known, A slice of integers that came in, out of what was read. -/
import Derived.Test.YtoecaonmehbfeaaGreatR13
import Derived.Test.YtoecaonmehbfeaaGreatR04
/- Exchanges: DropQueue. -/
namespace Go.Proofs.YtoecaonmehbfeaaGreat
open Go.RowKit
set_option linter.unusedVariables false
set_option maxRecDepth 100000

section
variable {B : Nat} {w0 w w' : World} {F T R Q S : List (Nat × Obj)} {tb xb c c' pb qb : Nat} {M : Prs} {L X Y : List Pl} {p p' : Pl} {k : Ky} {A A' rows : List Bnd} {P : List Plc} {v tv u : Value} {n x : List UInt8} {keys l : List (List UInt8)} {q : Bnd → Bool} {b : Bnd}

theorem places_step {i : Nat} (hall : ∀ (j : Nat) p, L[j]? = some p → PlOk (if j < i then A' else A) c p) (hok : PlOk A' c p') : ∀ (j : Nat) p2, (L.set i p')[j]? = some p2 → PlOk (if j < i + 1 then A' else A) c p2 := by
  intro j p2 hj
  rw [List.getElem?_set] at hj
  split at hj
  · rename_i e
    subst e
    split at hj
    · cases hj
      rw [if_pos (by omega)]
      exact hok
    · cases hj
  · rename_i e
    have := hall j p2 hj
    by_cases h1 : j < i
    · rw [if_pos h1] at this
      rw [if_pos (by omega)]
      exact this
    · rw [if_neg h1] at this
      rw [if_neg (by omega)]
      exact this
theorem set_split {i : Nat} (hx : L[i]? = some p) : L = L.take i ++ p :: L.drop (i + 1) ∧ L.set i p' = L.take i ++ p' :: L.drop (i + 1) := by
  have hl := (List.getElem?_eq_some_iff.1 hx).1
  refine ⟨?_, ?_⟩
  · have := (List.take_append_drop i L).symm
    rwa [split_at hx] at this
  · rw [List.set_eq_take_append_cons_drop, if_pos hl]

/-- While the keys are cut. -/
def DqA (B : Nat) (w0 : World) (xb qb : Nat) (v : Value) (R : List (Nat × Obj)) (P : List Plc) (A A' : List Bnd) (F : List (Nat × Obj)) (c g : Nat) (a' : Act) (w' : World) : Prop :=
  ∃ (i : Nat) (L : List Pl) (tv : Value) (Q : List (Nat × Obj)), Fr 41 [(0, bpt xb), (3, bpt qb), (4, .int .i64 i)] a' ∧ i + g = L.length ∧ L.map Pl.d = P ∧ SlIs 63 1 v L.length (L.map fun p => bpt p.b) R ∧ TaIn tv A Q ∧
    (∀ (j : Nat) p, L[j]? = some p → PlOk (if j < i then A' else A) c p) ∧ St B w0 w' (exO xb v tv L R Q ++ F)
/-- While exchanges are left. -/
def DqB (B : Nat) (w0 : World) (xb : Nat) (P : List Plc) (A' : List Bnd) (l : List (List UInt8)) (F : List (Nat × Obj)) (c g : Nat) (a' : Act) (w' : World) : Prop :=
  ∃ (i : Nat) (u : Value) (S : List (Nat × Obj)), Fr 41 [(0, bpt xb), (4, .int .i64 i), (5, u)] a' ∧ i + g = l.length ∧ TssIs u l S ∧ ExIs B w0 w' xb (leavesX P A' (l.take i)) A' (F ++ S) c
theorem leaves_step (P : List Plc) (A : List Bnd) {i : Nat} (hx : l[i]? = some n) : leavesX P A (l.take (i + 1)) = leaveX (leavesX P A (l.take i)) A n := by
  unfold leavesX
  rw [List.take_add_one, hx, Option.toList_some, List.foldl_append]
  rfl

set_option maxHeartbeats 8000000 in
theorem xdropq_any (h : ExIs B w0 w xb P A F c) (x : List UInt8) (hc : c ≤ 100000) :
    Calls Tryz.prog 16 #[bpt xb, tx x] w fun e w' => e = .returned (.tuple #[]) ∧ ExIs B w0 w' xb (dropqX P A x).1 (dropqX P A x).2 F c := by
  obtain ⟨L, v, tv, R, Q, rfl, h, hst⟩ := h
  have few := h.fine.few
  have fewA := h.fine.rows.few
  have hst1 : St B w0 (w.alloc (.cells #[tx x] 9)) (exO xb v tv L R Q ++ ((w.heap.size, .cells #[tx x] 9) :: F)) := (hst.alloc _).perm List.perm_middle.symm
  obtain ⟨W1, hW⟩ : ∃ W1, W1 = w.alloc (.cells #[tx x] 9) := ⟨_, rfl⟩
  rw [← hW] at hst1
  obtain ⟨qb, hqb⟩ : ∃ qb, qb = w.heap.size := ⟨_, rfl⟩
  rw [← hqb] at hst1
  have eW : Hid (w.alloc (.cells #[tx x] 9) = W1) := Lib.hid hW.symm
  have eq : Hid (w.heap.size = qb) := Lib.hid hqb.symm
  have hmf : ∀ (fn : Fn) (first cap : Array Value) (w : World), (Instr.makeFunc fn first cap).run Tryz.prog w = .ok (.func fn first cap) w := fun _ _ _ _ => rfl
  obtain ⟨A', hA'⟩ : ∃ A', A' = A.filter fun b => !(b.2.1 == x) := ⟨_, rfl⟩
  obtain ⟨l, hl⟩ : ∃ l, l = onceL [] ((A.filter fun b => b.2.1 == x).map (·.1)) := ⟨_, rfl⟩
  have ed : dropqX (L.map Pl.d) A x = (leavesX (L.map Pl.d) A' l, A') := by rw [dropqX, hA', hl]
  rw [ed]
  have fine' : FineX (L.map Pl.d) A' := by rw [hA']; exact h.fine.sub _
  have hl40 : l.length ≤ 40 := by
    have h1 := onceL_len [] ((A.filter fun b => b.2.1 == x).map (·.1))
    rw [List.length_map, List.length_nil, ← hl] at h1
    have := List.length_filter_le (fun b : Bnd => b.2.1 == x) A
    omega
  have hlm : ∀ y ∈ l, y.length ≤ maxLen := by
    intro y hy
    rw [hl] at hy
    rcases (onceL_mem _ _ _).1 hy with h' | h'
    · simp at h'
    · obtain ⟨b, hb, rfl⟩ := List.mem_map.1 h'
      exact (h.fine.rows.fit b (List.mem_filter.1 hb).1).max.1
  have fine := Lib.hid h.fine
  -- unkey at a place
  have cun : Hid (∀ (i : Nat) (L1 : List Pl) tv1 Q1 w1 p1, L1[i]? = some p1 → TaIn tv1 A Q1 → (∀ (j : Nat) p, L1[j]? = some p → PlOk (if j < i then A' else A) c p) → St B w0 w1 (exO xb v tv1 L1 R Q1 ++ ((qb, .cells #[tx x] 9) :: F)) →
      Calls Tryz.prog 48 #[bpt xb, bpt p1.b, .func (.func 54) #[] #[bpt qb]] w1 fun e w' => e = .returned (.tuple #[]) ∧ ∃ p' tv' Q', p'.b = p1.b ∧ p'.d = p1.d ∧ TaIn tv' A Q' ∧ (∀ (j : Nat) p, (L1.set i p')[j]? = some p → PlOk (if j < i + 1 then A' else A) c p) ∧ St B w0 w' (exO xb v tv' (L1.set i p') R Q' ++ ((qb, .cells #[tx x] 9) :: F))) :=
    Lib.hid fun i L1 tv1 Q1 w1 p1 hx ht hall h1 => by
      obtain ⟨e1, -⟩ := set_split (p' := p1) hx
      have hok := hall i p1 hx
      rw [if_neg (by omega)] at hok
      rw [e1] at h1
      refine (xunkey_any ht fewA fine.out.keys hok hc h1 (tells_dropq (q := qb) (x := x) List.mem_cons_self)).mono ?_
      rintro e w' ⟨rfl, p', tv', Q', g1, g2, g3, g4, g5⟩
      rw [← hA'] at g3
      refine ⟨rfl, p', tv', Q', g1, g2, g4, places_step hall g3, ?_⟩
      rw [(set_split (p' := p') hx).2]
      exact g5
  -- what follows the first loop
  have ctab : Hid (∀ (L1 : List Pl) tv1 Q1 w1, TaIn tv1 A Q1 → St B w0 w1 (exO xb v tv1 L1 R Q1 ++ ((qb, .cells #[tx x] 9) :: F)) → Calls Tryz.prog 39 #[bpt xb] w1 fun e w' => ∃ tb, e = .returned (bpt tb) ∧ TabM B w0 xb v L1 R ((qb, .cells #[tx x] 9) :: F) A tb w' ∧ w'.cell? ⟨qb, 0, none⟩ = some (tx x)) := Lib.hid fun L1 tv1 Q1 w1 ht h1 => by
    refine (xtable_is ht h1).mono ?_
    rintro e w' ⟨tb, rfl, hT⟩
    exact ⟨tb, rfl, hT, hT.cell (g := qb) (i := 0) List.mem_cons_self rfl⟩
  have cdq : Hid (∀ (L1 : List Pl) tb w1, L1.map Pl.d = L.map Pl.d → SlIs 63 1 v L1.length (L1.map fun p => bpt p.b) R → (∀ p ∈ L1, PlOk A' c p) → TabM B w0 xb v L1 R ((qb, .cells #[tx x] 9) :: F) A tb w1 →
      Calls Tryz.prog 55 #[bpt tb, tx x] w1 fun e w' => ∃ a cap, e = .returned (.slice a l.length cap) ∧ w'.cell? ⟨qb, 0, none⟩ = some (tx x) ∧ ∀ a', Fr 41 [(0, bpt xb), (4, .int .i64 ((0 : Nat) : Int)), (5, .slice a l.length cap)] a' → DqB B w0 xb (L.map Pl.d) A' l ((qb, .cells #[tx x] 9) :: F) c l.length a' w') :=
    Lib.hid fun L1 tb w1 en hs hall hT => by
      refine (dropQ_any hT (by omega) fine.out.rows.fit x).mono ?_
      rintro e w' ⟨u, S, rfl, hu, hT2⟩
      rw [← hl] at hu
      rw [← hA'] at hT2
      obtain ⟨a, cap, rfl⟩ := hu.form
      have hT3 : TabM B w0 xb v L1 R (((qb, .cells #[tx x] 9) :: F) ++ S) A' tb w' := by
        unfold TabM
        rw [← List.append_assoc]
        exact hT2
      obtain ⟨Q', ht', h3⟩ := hT3.of
      refine ⟨a, cap, rfl, hT3.cell (g := qb) (i := 0) (List.mem_append_left _ List.mem_cons_self) rfl, fun a' hf => ⟨0, _, S, hf, by omega, hu, L1, v, bpt tb, R, Q', by rw [en]; rfl, ⟨by rw [en]; exact fine', hs, ht', hall⟩, h3⟩⟩
  -- leave
  have clv : Hid (∀ (i : Nat) a cap S w1, TssIs (.slice a l.length cap) l S → ExIs B w0 w1 xb (leavesX (L.map Pl.d) A' (l.take i)) A' (((qb, .cells #[tx x] 9) :: F) ++ S) c → ∀ n, l[i]? = some n → ∃ g off, a = some ⟨g, off, none⟩ ∧ w1.cell? ⟨g, off + i, none⟩ = some (tx n) ∧
      Calls Tryz.prog 51 #[bpt xb, tx n] w1 fun e w' => e = .returned (.tuple #[]) ∧ ExIs B w0 w' xb (leavesX (L.map Pl.d) A' (l.take (i + 1))) A' (((qb, .cells #[tx x] 9) :: F) ++ S) c) := Lib.hid fun i a cap S w1 hu hE n hn => by
    obtain ⟨L1, v1, tv1, R1, Q1, en, hI, h1⟩ := hE
    obtain ⟨a', cap', e', hta⟩ := hu.read (X := exO xb v1 tv1 L1 R1 Q1 ++ ((qb, .cells #[tx x] 9) :: F)) (by rw [List.append_assoc]; exact h1) hlm
    cases e'
    obtain ⟨-, g, off, e1, hc1⟩ := hta.at_ i n hn
    refine ⟨g, off, e1, hc1, ?_⟩
    refine (xleave_any hI h1 n).mono ?_
    rintro e w' ⟨rfl, h2⟩
    rw [en] at h2
    rw [leaves_step _ _ hn]
    exact ⟨rfl, h2⟩
  have start : Hid (∀ a', Fr 41 [(0, bpt xb), (3, bpt qb), (4, .int .i64 ((0 : Nat) : Int))] a' → DqA B w0 xb qb v R (L.map Pl.d) A A' ((qb, .cells #[tx x] 9) :: F) c L.length a' W1) := Lib.hid fun a' hf =>
    ⟨0, L, tv, Q, hf, by omega, rfl, h.sl, h.tab, fun j p hp => by rw [if_neg (by omega)]; exact h.pls p (List.mem_of_getElem? hp), hst1⟩
  have form : Hid (∃ a cap, v = .slice a L.length cap) := Lib.hid (by obtain ⟨a, cap, e, -⟩ := h.sl.form; exact ⟨a, cap, e⟩)
  have facts : Hid (∀ (L1 : List Pl) tv1 Q1 w1 F1, L1.map Pl.d = L.map Pl.d → SlIs 63 1 v L1.length (L1.map fun p => bpt p.b) R → St B w0 w1 (exO xb v tv1 L1 R Q1 ++ F1) → L1.length = L.length ∧ w1.cell? ⟨xb, 0, none⟩ = some v ∧ ∀ a cap, v = .slice a L.length cap → ∀ (i : Nat) p, L1[i]? = some p → ∃ g off, a = some ⟨g, off, none⟩ ∧ w1.cell? ⟨g, off + i, none⟩ = some (bpt p.b)) := Lib.hid fun L1 tv1 Q1 w1 F1 en hs h1 => by
    have el : L1.length = L.length := by have := congrArg List.length en; rwa [List.length_map, List.length_map] at this
    refine ⟨el, h1.ex.1, fun a cap ev i p hp => ?_⟩
    obtain ⟨a', cap', e, hr⟩ := places_form hs h1
    rw [ev, el] at e
    cases e
    exact hr i p hp
  rw [List.length_map] at few
  generalize hP : L.map Pl.d = P at *
  generalize L.length = len at *
  clear hP
  clear h hst hst1 ed fine' hW hqb hA' hl fine
  replace hlm := Lib.hid hlm
  obtain ⟨av, capv, rfl⟩ := form.out
  clear form
  go_enter Tryz.func16, Tryz.ntmps16
  go_wp2_with fail
  refine wp_scope_two 0 1 1000 (DqA B w0 xb qb (.slice av len capv) R P A A' ((qb, .cells #[tx x] 9) :: F) c) (DqB B w0 xb P A' l ((qb, .cells #[tx x] 9) :: F) c) (by decide) rfl rfl ?_ ?_ ?_ ?_
  · rintro n a' w' ⟨i, u, S, -, hi, -⟩
    omega
  · clear cun ctab cdq start facts
    rintro n a' w' ⟨i, u, S, hfr, hi, hu, hE⟩
    obtain ⟨f, rfl, hl'⟩ := hfr.lit
    clear hfr
    simp only [List.mem_cons, List.not_mem_nil, or_false, forall_eq_or_imp, forall_eq] at hl'
    obtain ⟨f0, f4, f5⟩ := hl'
    obtain ⟨a, cap, rfl⟩ := hu.form
    simp only [List.range, List.range.loop, List.map, f0, f4, f5]
    clear f0 f4 f5
    have hi0 : (0 : Int) ≤ i := by omega
    by_cases hlt : i < l.length
    · have hi1 : (i : Int) < l.length := by omega
      have hx : l[i]? = some l[i] := List.getElem?_eq_getElem hlt
      generalize l[i] = nm at hx
      obtain ⟨g, off, rfl, hc1, cl⟩ := clv.out i a cap S w' hu hE nm hx
      replace cl := Lib.hid cl
      have nxt : Hid (∀ w2 a', ExIs B w0 w2 xb (leavesX P A' (l.take (i + 1))) A' (((qb, .cells #[tx x] 9) :: F) ++ S) c → Fr 41 [(0, bpt xb), (4, .int .i64 ((i + 1 : Nat) : Int)), (5, .slice (some ⟨g, off, none⟩) l.length cap)] a' → ∃ m, m < n ∧ DqB B w0 xb P A' l ((qb, .cells #[tx x] 9) :: F) c m a' w2) :=
        Lib.hid fun w2 a' hE2 hf => ⟨n - 1, by omega, i + 1, _, S, hf, by omega, hu, hE2⟩
      clear hu hE hx clv
      go_wp2_with fail
      refine cl.out.mono ?_
      rintro e w2 ⟨rfl, hE2⟩
      replace hE2 := Lib.hid hE2
      clear cl
      go_wp2_with fail
      refine wp_goto ?_
      exact ⟨rfl, nxt.out _ _ hE2.out ⟨rfl, rfl, by simp⟩⟩
    · obtain rfl : i = l.length := by omega
      rw [List.take_of_length_le (Nat.le_refl _)] at hE
      have fin : Hid (ExIs B w0 w' xb (leavesX P A' l) A' F c) := Lib.hid (by
        obtain ⟨L1, v1, tv1, R1, Q1, en, hI, h1⟩ := hE
        refine ⟨L1, v1, tv1, R1, Q1, en, hI, h1.sub (List.Sublist.append (List.Sublist.refl _) ?_)⟩
        rw [List.cons_append]
        exact (List.sublist_append_left F S).trans (List.sublist_cons_self _ _))
      clear hu hE clv
      go_wp2_with fail
      simp only [jumps]
      exact bodyPost_end (results_none rfl _ _ _) rfl ⟨rfl, fin.out⟩
  · clear clv start
    rintro n H1 a' w' ⟨i, L1, tv1, Q1, hfr, hi, en, hs, ht, hall, h1⟩
    obtain ⟨f, rfl, hl'⟩ := hfr.lit
    clear hfr
    simp only [List.mem_cons, List.not_mem_nil, or_false, forall_eq_or_imp, forall_eq] at hl'
    obtain ⟨f0, f3, f4⟩ := hl'
    simp only [List.range, List.range.loop, List.map, f0, f3, f4]
    clear f0 f3 f4
    have hi0 : (0 : Int) ≤ i := by omega
    obtain ⟨el, x0, hrows⟩ := facts.out _ _ _ _ _ en hs h1
    by_cases hlt : i < L1.length
    · have hi1 : (i : Int) < len := by omega
      have hx : L1[i]? = some L1[i] := List.getElem?_eq_getElem hlt
      generalize L1[i] = p1 at hx
      obtain ⟨g, off, e, hc1⟩ := hrows _ _ rfl i p1 hx
      subst e
      have cu := Lib.hid (cun.out i L1 tv1 Q1 w' p1 hx ht hall h1)
      have nxt : Hid (∀ p' tv' Q' w2 a', p'.b = p1.b → p'.d = p1.d → TaIn tv' A Q' → (∀ (j : Nat) p, (L1.set i p')[j]? = some p → PlOk (if j < i + 1 then A' else A) c p) → St B w0 w2 (exO xb (.slice (some ⟨g, off, none⟩) len capv) tv' (L1.set i p') R Q' ++ ((qb, .cells #[tx x] 9) :: F)) →
          Fr 41 [(0, bpt xb), (3, bpt qb), (4, .int .i64 ((i + 1 : Nat) : Int))] a' → ∃ m, m < n ∧ DqA B w0 xb qb (.slice (some ⟨g, off, none⟩) len capv) R P A A' ((qb, .cells #[tx x] 9) :: F) c m a' w2) := Lib.hid fun p' tv' Q' w2 a' e1 e2 ht' hall' h2 hf => by
        obtain ⟨g1, g2⟩ := set_split (p' := p') hx
        refine ⟨n - 1, by omega, i + 1, L1.set i p', tv', Q', hf, by rw [List.length_set]; omega, ?_, ?_, ht', hall', h2⟩
        · rw [g2, same_names e2, ← g1]
          exact en
        · rw [List.length_set, g2, same_blocks e1, ← g1]
          exact hs
      generalize p1.b = pb at *
      generalize p1.d = pd at *
      clear hs ht hall h1 hx hrows facts cun ctab cdq H1
      go_wp2_with fail
      refine cu.out.mono ?_
      rintro e w2 ⟨rfl, p', tv', Q', e1, e2, ht', hall', h2⟩
      replace nxt := Lib.hid (fun a' => nxt.out p' tv' Q' w2 a' e1 e2 ht' hall' h2)
      clear cu ht' hall' h2 e1 e2
      go_wp2_with fail
      refine wp_goto ?_
      exact .inl ⟨rfl, nxt.out _ ⟨rfl, rfl, by simp⟩⟩
    · have hi1 : ¬ (i : Int) < len := by omega
      have hallA : ∀ p ∈ L1, PlOk A' c p := fun p hp => by
        obtain ⟨j, hj⟩ := List.getElem?_of_mem hp
        have := hall j p hj
        rwa [if_pos (by have := (List.getElem?_eq_some_iff.1 hj).1; omega)] at this
      replace ctab := Lib.hid (ctab.out L1 tv1 Q1 w'.drew ht h1.drew)
      replace cdq := Lib.hid (fun tb w1 hT => cdq.out L1 tb w1 en hs hallA hT)
      have hs0 : Hid (w'.drew.cell? ⟨qb, 0, none⟩ = some (tx x)) := Lib.hid (h1.cell (b := qb) (i := 0) (List.mem_append_right _ List.mem_cons_self) rfl)
      clear hs ht hall h1 hrows facts cun hallA en
      go_wp2_with fail
      go_region_held3 (fun y => y.cell? ⟨qb, 0, none⟩ = some (tx x)) (first | exact kS | exact hs0.out) (first
        | (go_at_call 39; refine ctab.out.mono ?_; rintro e w'' ⟨tb, rfl, hT, kS⟩)
        | (go_at_call 55; refine (cdq.out _ _ (by assumption)).mono ?_; rintro e w'' ⟨a2, cap2, rfl, kS, hB⟩))
      replace hB := Lib.hid hB
      clear hT ctab cdq hs0 kS
      go_wp2_with fail
      refine wp_label ?_
      go_step
      go_step
      exact H1 l.length _ _ (hB.out _ ⟨rfl, rfl, by simp⟩)
  · intro H
    clear cun ctab cdq clv facts
    go_upto_region 1 with fail
    rw [eW.out, eq.out]
    go_wp2_with fail
    refine wp_label ?_
    go_step
    go_step
    exact H len _ _ (start.out _ ⟨rfl, rfl, by simp⟩)
end
end Go.Proofs.YtoecaonmehbfeaaGreat

/- Exchanges: Route; all calls, as callers see them. -/
namespace Go.Proofs.YtoecaonmehbfeaaGreat
open Go.RowKit
set_option linter.unusedVariables false
set_option maxRecDepth 100000

section
variable {B : Nat} {w0 w w' : World} {F F' T R Q S : List (Nat × Obj)} {tb xb c c' pb qb : Nat} {M : Prs} {L X Y : List Pl} {p p' : Pl} {k : Ky} {A A' rows : List Bnd} {P : List Plc} {v tv u : Value} {n x : List UInt8} {keys l : List (List UInt8)} {q : Bnd → Bool} {b : Bnd}

theorem ExIs.sub (h : ExIs B w0 w xb P A F c) (hs : F'.Sublist F) : ExIs B w0 w xb P A F' c := by
  obtain ⟨L, v, tv, R, Q, e, h1, h2⟩ := h
  exact ⟨L, v, tv, R, Q, e, h1, h2.sub ((List.Sublist.refl _).append hs)⟩
theorem ExIs.permF (h : ExIs B w0 w xb P A F c) (hs : F.Perm F') : ExIs B w0 w xb P A F' c := by
  obtain ⟨L, v, tv, R, Q, e, h1, h2⟩ := h
  exact ⟨L, v, tv, R, Q, e, h1, h2.perm (hs.append_left _)⟩
theorem ExIs.grow (h : ExIs B w0 w xb P A F c) (hb : Below w.heap.size w w') : ExIs B w0 w' xb P A F c := by
  obtain ⟨L, v, tv, R, Q, e, h1, h2⟩ := h
  exact ⟨L, v, tv, R, Q, e, h1, h2.grow hb⟩
theorem ExIs.mono (h : ExIs B w0 w xb P A F c) (hc : c ≤ c') : ExIs B w0 w xb P A F c' := by
  obtain ⟨L, v, tv, R, Q, e, h1, h2⟩ := h
  exact ⟨L, v, tv, R, Q, e, h1.mono hc, h2⟩
theorem ExIs.below (h : ExIs B w0 w xb P A F c) : Below B w0 w := by
  obtain ⟨L, v, tv, R, Q, e, h1, h2⟩ := h
  exact h2.below
theorem ExIs.fine (h : ExIs B w0 w xb P A F c) : FineX P A := by
  obtain ⟨L, v, tv, R, Q, e, h1, h2⟩ := h
  rw [← e]
  exact h1.fine
theorem ExIs.cell {cs : Array Value} {U : TypeId} {g : Nat} (h : ExIs B w0 w xb P A F c) (hm : (g, .cells cs U) ∈ F) {i : Nat} {u : Value} (hi : cs[i]? = some u) : w.cell? ⟨g, i, none⟩ = some u := by
  obtain ⟨L, v, tv, R, Q, e, h1, h2⟩ := h
  exact h2.cell (b := g) (List.mem_append_right _ hm) hi
theorem ExIs.alloc (h : ExIs B w0 w xb P A F c) (o : Obj) : ExIs B w0 (w.alloc o) xb P A ((w.heap.size, o) :: F) c := by
  obtain ⟨L, v, tv, R, Q, e, h1, h2⟩ := h
  exact ⟨L, v, tv, R, Q, e, h1, (h2.alloc o).perm List.perm_middle.symm⟩
/-- What lies beside, and the way back. -/
theorem ExIs.beside (h : ExIs B w0 w xb P A F c) : ∃ O, St B w0 w (O ++ F) ∧ ∀ w' F', St B w0 w' (O ++ F') → ExIs B w0 w' xb P A F' c := by
  obtain ⟨L, v, tv, R, Q, e, h1, h2⟩ := h
  exact ⟨_, h2, fun w' F' h3 => ⟨L, v, tv, R, Q, e, h1, h3⟩⟩

theorem has_is (h : ExIs B w0 w xb P A F c) (n : List UInt8) : Calls Tryz.prog 23 #[bpt xb, tx n] w fun e w' => e = .returned (.bool (hasX P n)) ∧ w' = w := by
  obtain ⟨L, v, tv, R, Q, rfl, h1, h2⟩ := h
  exact xhas_any h1 h2 n
theorem names_is (h : ExIs B w0 w xb P A F c) : Calls Tryz.prog 21 #[bpt xb] w fun e w' => ∃ u S, e = .returned u ∧ TssIs u (P.map (·.1)) S ∧ ExIs B w0 w' xb P A (S ++ F) c := by
  obtain ⟨L, v, tv, R, Q, rfl, h1, h2⟩ := h
  refine (xnames_any h1 h2).mono ?_
  rintro e w' ⟨u, S, rfl, hu, h3⟩
  rw [List.map_map]
  refine ⟨u, S, rfl, hu, L, v, tv, R, Q, rfl, h1, h3.perm ?_⟩
  rw [List.append_assoc]
  exact List.Perm.append_left _ List.perm_append_comm
theorem exof_is (h : ExIs B w0 w xb P A F c) (n : List UInt8) : Calls Tryz.prog 26 #[bpt xb, tx n] w fun e w' => ∃ u S, e = .returned u ∧ BnsIs u (ofB A n) S ∧ ExIs B w0 w' xb P A (S ++ F) c := by
  obtain ⟨L, v, tv, R, Q, rfl, h1, h2⟩ := h
  refine (xof_any h1.tab h1.fine.rows.few h2 n).mono ?_
  rintro e w' ⟨u, S, tv', Q', rfl, hu, ht, h3⟩
  exact ⟨u, S, rfl, hu, L, v, tv', R, Q', rfl, h1.retab ht, h3⟩

theorem fits1 (key : List UInt8) : fitsK 1 key = fun b => b.2.2 == key := by funext b; simp [fitsK]
theorem fits2 (key : List UInt8) : fitsK 2 key = fun b => true := by funext b; simp [fitsK]
theorem fits3 (key : List UInt8) : fitsK 3 key = fun b => gl (wordsL b.2.2) (wordsL key) := by funext b; simp [fitsK]
theorem route1 (A : List Bnd) (n key : List UInt8) : routeL 1 A n key = onceL [] ((A.filter fun b => b.1 == n && b.2.2 == key).map (·.2.1)) := by
  rw [routeL, fits1, ← filter_and]
  rfl
theorem route2 (A : List Bnd) (n key : List UInt8) : routeL 2 A n key = onceL [] ((ofB A n).map (·.2.1)) := by
  rw [routeL, fits2]
  congr 2
  exact List.filter_eq_self.2 fun _ _ => rfl
theorem route3 (A : List Bnd) (n key : List UInt8) : routeL 3 A n key = onceL [] (((ofB A n).filter fun b => gl (wordsL b.2.2) (wordsL key)).map (·.2.1)) := by rw [routeL, fits3]

/-- Behind Route. -/
def RouR (B : Nat) (w0 : World) (xb : Nat) (P : List Plc) (A : List Bnd) (F : List (Nat × Obj)) (c : Nat) (l : List (List UInt8)) (u : Value) (w' : World) : Prop := ∃ S, TssIs u l S ∧ ExIs B w0 w' xb P A (S ++ F) c
/-- Behind matching, in Route. -/
def MatM (B : Nat) (w0 : World) (xb : Nat) (P : List Plc) (A : List Bnd) (F : List (Nat × Obj)) (c : Nat) (rows : List Bnd) (u : Value) (w' : World) : Prop := ∃ S, BnsIs u rows S ∧ ExIs B w0 w' xb P A (S ++ F) c
theorem MatM.queues (h : MatM B w0 xb P A F c rows u w) (hr : ∀ b ∈ rows, b ∈ A) (hl : rows.length ≤ 40) : Calls Tryz.prog 59 #[u] w fun e w' => ∃ u, e = .returned u ∧ RouR B w0 xb P A F c (onceL [] (rows.map (·.2.1))) u w' ∧ Below w.heap.size w w' := by
  obtain ⟨S, hu, hE⟩ := h
  have hf := hE.fine.rows.fit
  obtain ⟨O, h1, back⟩ := hE.beside
  have hrd := hu.read (A := O ++ F) (h1.perm (by
    refine perm_by fun a => ?_
    simp only [List.count_append]
    omega))
  refine (queues_any hrd (by omega) (fun b hb => (hf b (hr b hb)).max.2.1)).mono ?_
  rintro e w' ⟨u2, S2, rfl, hu2, h2⟩
  refine ⟨u2, rfl, ⟨S2, hu2, back _ _ (((h1.join h2).sub (H' := O ++ F ++ S2) ?_).perm ?_)⟩, h2.below⟩
  · exact List.Sublist.append (List.Sublist.append (List.Sublist.refl _) (List.sublist_append_right _ _)) (List.Sublist.refl _)
  · refine perm_by fun a => ?_
    simp only [List.count_append]
    omega

set_option maxHeartbeats 4000000 in
theorem route_is (h : ExIs B w0 w xb P A F c) (ex key : List UInt8) (hk : key.length ≤ 1000) (hc : c ≤ 100000) :
    Calls Tryz.prog 18 #[bpt xb, tx ex, tx key] w fun e w' => ∃ u, e = .returned (.tuple #[u, .bool (routeX P A ex key).2]) ∧ RouR B w0 xb P A F c (routeX P A ex key).1 u w' := by
  have hall := Lib.hid h
  obtain ⟨L, v, tv, R, Q, rfl, h, hst⟩ := h
  have few := h.fine.few
  rw [List.length_map] at few
  by_cases hn : ex = []
  · have e : routeX (L.map Pl.d) A ex key = ([key], true) := by rw [routeX, if_pos hn]
    rw [e]
    subst hn
    have c1 := Lib.hid (clone_any key w (by omega))
    have fin : Hid (∀ w1, Below w.heap.size w w1 → RouR B w0 xb (L.map Pl.d) A F c [key] (.slice (some ⟨w1.heap.size, 0, none⟩) 1 1) (w1.alloc (.cells #[tx key] 9))) := Lib.hid fun w1 hb =>
      ⟨[(w1.heap.size, .cells #[tx key] 9)], SlIs.made (cs := [tx key]) rfl (by unfold maxLen; omega), (hall.out.grow hb).alloc _⟩
    clear h hst e
    go_enter Tryz.func18, Tryz.ntmps18
    go_wp2_with fail
    refine c1.out.mono ?_
    rintro e w1 ⟨rfl, hb⟩
    replace fin := Lib.hid (fin.out _ hb)
    clear hb
    go_wp2_with fail
    go_ret2
    exact ⟨_, rfl, fin.out⟩
  have h0B : (ex == []) = false := by simpa using hn
  have h0C : ex.isEmpty = false := by simpa using hn
  have c1 := Lib.hid (xfind_any h hst ex)
  unfold ptrF at c1
  cases hp : findL L ex with
  | none =>
    have e : routeX (L.map Pl.d) A ex key = ([], false) := by rw [routeX, if_neg hn, findL_d, hp]; rfl
    rw [e]
    rw [hp] at c1
    simp only [Option.map_none] at c1
    have fin : Hid (RouR B w0 xb (L.map Pl.d) A F c [] (.slice none 0 0) w) := Lib.hid ⟨[], TssIs.nil, hall.out⟩
    clear h hst e hall
    go_enter Tryz.func18, Tryz.ntmps18
    go_wp2_with fail
    refine c1.out.mono ?_
    rintro e w1 ⟨rfl, rfl⟩
    go_wp2_with fail
    go_ret2
    exact ⟨_, rfl, fin.out⟩
  | some p =>
    rw [hp] at c1
    simp only [Option.map_some] at c1
    obtain ⟨hm, hpn⟩ := findL_mem hp
    obtain ⟨-, p1, -, p3⟩ := hst.place hm
    have e : routeX (L.map Pl.d) A ex key = (routeL p.d.2.1 A ex key, true) := by rw [routeX, if_neg hn, findL_d, hp]; rfl
    rw [e]
    have hkd := h.fine.each p.d (List.mem_map_of_mem hm)
    have hof : (ofB A ex).length ≤ 40 := Nat.le_trans (List.length_filter_le _ _) h.fine.rows.few
    have hofm : ∀ b ∈ ofB A ex, b ∈ A := fun b hb => (List.mem_filter.1 hb).1
    obtain ⟨Xl, Yl, rfl⟩ := List.append_of_mem hm
    have hpok := h.pls p hm
    by_cases hk1 : p.d.2.1 = 1
    · rw [hk1] at p1 ⊢
      rw [route1]
      have ctab := Lib.hid (xtable_is h.tab hst)
      have ckey : Hid (∀ tb w1, TabM B w0 xb v (Xl ++ p :: Yl) R F A tb w1 → Calls Tryz.prog 58 #[bpt tb, tx ex, tx key] w1 fun e w' => ∃ u, e = .returned u ∧ RouR B w0 xb ((Xl ++ p :: Yl).map Pl.d) A F c (onceL [] ((A.filter fun b => b.1 == ex && b.2.2 == key).map (·.2.1))) u w') := Lib.hid fun tb w1 hT => by
        refine (keyed_is hT (by have := h.fine.rows.few; omega) h.fine.rows.fit ex key rfl).mono ?_
        rintro e w' ⟨u, S, rfl, hu, h2⟩
        have hT2 : TabM B w0 xb v (Xl ++ p :: Yl) R (F ++ S) A tb w' := by
          unfold TabM
          rw [← List.append_assoc]
          exact h2
        obtain ⟨Q', ht', h3⟩ := hT2.of
        exact ⟨u, rfl, S, hu, ExIs.permF ⟨_, v, bpt tb, R, Q', rfl, h.retab ht', h3⟩ List.perm_append_comm⟩
      generalize onceL [] ((A.filter fun b => b.1 == ex && b.2.2 == key).map (·.2.1)) = l2 at *
      generalize p.b = pb at *
      generalize (Xl ++ p :: Yl).map Pl.d = P at *
      clear h hst e hall hpok hm hp hofm hof hkd
      go_enter Tryz.func18, Tryz.ntmps18
      go_wp2_with fail
      refine c1.out.mono ?_
      rintro e w1 ⟨rfl, rfl⟩
      go_wp2_with fail
      refine ctab.out.mono ?_
      rintro e w2 ⟨tb, rfl, hT⟩
      replace ckey := Lib.hid (ckey.out _ _ hT)
      clear hT ctab c1
      go_wp2_with fail
      refine ckey.out.mono ?_
      rintro e w3 ⟨u, rfl, S, hu, hE⟩
      have fin : Hid (RouR B w0 xb P A F c l2 u w3) := Lib.hid ⟨S, hu, hE⟩
      obtain ⟨au, cu, rfl⟩ := hu.form
      generalize l2.length = q0 at *
      clear hu hE ckey
      go_wp2_with fail
      go_ret2
      exact ⟨_, rfl, fin.out⟩
    · by_cases hk2 : p.d.2.1 = 2
      · rw [hk2] at p1 ⊢
        rw [route2]
        have cof : Hid (Calls Tryz.prog 26 #[bpt xb, tx ex] w fun e w' => ∃ a cap, e = .returned (.slice a (ofB A ex).length cap) ∧ MatM B w0 xb ((Xl ++ p :: Yl).map Pl.d) A F c (ofB A ex) (.slice a (ofB A ex).length cap) w') := Lib.hid (by
          refine (exof_is hall.out ex).mono ?_
          rintro e w' ⟨u, S, rfl, hu, hE⟩
          obtain ⟨a, cap, rfl⟩ := hu.form
          exact ⟨a, cap, rfl, S, hu, hE⟩)
        have cqu := Lib.hid (fun u w1 (hM : MatM B w0 xb ((Xl ++ p :: Yl).map Pl.d) A F c (ofB A ex) u w1) => hM.queues hofm hof)
        generalize onceL [] ((ofB A ex).map (·.2.1)) = l2 at *
        generalize p.b = pb at *
        generalize (Xl ++ p :: Yl).map Pl.d = P at *
        clear h hst e hall hpok hm hp hofm hof hkd
        go_enter Tryz.func18, Tryz.ntmps18
        go_wp2_with fail
        refine c1.out.mono ?_
        rintro e w1 ⟨rfl, rfl⟩
        go_wp2_with fail
        refine cof.out.mono ?_
        rintro e w2 ⟨a, cap, rfl, hM⟩
        replace cqu := Lib.hid (cqu.out _ _ hM)
        clear hM cof c1
        go_wp2_with fail
        refine cqu.out.mono ?_
        rintro e w3 ⟨u, rfl, ⟨S, hu, hE⟩, -⟩
        have fin : Hid (RouR B w0 xb P A F c l2 u w3) := Lib.hid ⟨S, hu, hE⟩
        obtain ⟨au, cu, rfl⟩ := hu.form
        generalize l2.length = q0 at *
        clear hu hE cqu
        go_wp2_with fail
        go_ret2
        exact ⟨_, rfl, fin.out⟩
      · have hk3 : p.d.2.1 = 3 := by omega
        rw [hk3] at p1 ⊢
        rw [route3]
        obtain ⟨k, hkk⟩ : ∃ k, p.k = some k := by
          have := hpok.has
          rw [hk3] at this
          exact Option.isSome_iff_exists.1 this
        have ekp : kpt p.k = bpt k.kb := by rw [hkk]; rfl
        rw [ekp] at p3
        have hcell : ∀ w' tv' Q' F', St B w0 w' (exO xb v tv' (Xl ++ p :: Yl) R Q' ++ F') → w'.cell? ⟨p.b, 3, none⟩ = some (bpt k.kb) := fun w' tv' Q' F' h' => by
          have := (h'.place hm).2.2.2
          rwa [ekp] at this
        have cof : Hid (∀ w1, St B w0 w1 (exO xb v tv (Xl ++ p :: Yl) R Q ++ F) → Calls Tryz.prog 26 #[bpt xb, tx ex] w1 fun e w' => ∃ a cap, e = .returned (.slice a (ofB A ex).length cap) ∧ OfM B w0 xb v (Xl ++ p :: Yl) R F A (ofB A ex) (.slice a (ofB A ex).length cap) w' ∧ w'.cell? ⟨p.b, 3, none⟩ = some (bpt k.kb)) := Lib.hid fun w1 h1 => by
          refine (xof_any h.tab h.fine.rows.few h1 ex).mono ?_
          rintro e w' ⟨u, S, tv', Q', rfl, hu, ht', h2⟩
          obtain ⟨a, cap, rfl⟩ := hu.form
          exact ⟨a, cap, rfl, ⟨S, tv', Q', hu, ht', h2⟩, hcell _ _ _ _ h2⟩
        have cmat : Hid (∀ w1 u, OfM B w0 xb v (Xl ++ p :: Yl) R F A (ofB A ex) u w1 → Calls Tryz.prog 60 #[bpt k.kb, u, tx key] w1 fun e w' => ∃ z, e = .returned z ∧ MatM B w0 xb ((Xl ++ p :: Yl).map Pl.d) A F c ((ofB A ex).filter fun b => gl (wordsL b.2.2) (wordsL key)) z w' ∧ w'.cell? ⟨p.b, 3, none⟩ = some (bpt k.kb)) := Lib.hid fun w1 u hO => by
          obtain ⟨S, tv', Q', hu, ht', h2⟩ := hO
          have hky := hpok.ky k hkk
          unfold keysOf at hky
          rw [hpn] at hky
          have h3 : St B w0 w1 (k.objs ++ (S ++ (((exO xb v tv' (Xl ++ Yl) R Q' ++ [(p.b, .cells #[tx p.d.1, .int .i64 p.d.2.1, .bool p.d.2.2, kpt p.k] 79)])) ++ F))) := h2.perm ((kobjs_split hkk).trans (by
            refine perm_by fun a => ?_
            simp only [List.count_append, List.count_cons, List.append_assoc, List.count_nil]
            omega))
          refine (matching_any hky h3 hu key hk hc (by omega)).mono ?_
          rintro e w' ⟨k', z, Z, rfl, e1, hk', hz, h4⟩
          have hok : PlOk A c ⟨p.b, p.d, some k'⟩ := ⟨by
            have := hpok.has
            rw [hkk] at this
            exact this, fun k2 hk2 => by
              cases hk2
              unfold keysOf
              dsimp only
              rw [hpn]
              exact hk'⟩
          have h5 : St B w0 w' (exO xb v tv' (Xl ++ ⟨p.b, p.d, some k'⟩ :: Yl) R Q' ++ (Z ++ F)) := h4.perm (by
            refine List.Perm.trans ?_ (kobjs_split (p := ⟨p.b, p.d, some k'⟩) rfl).symm
            have e2 : kpt (some k') = kpt p.k := by rw [hkk]; unfold kpt; rw [Option.map_some, Option.map_some, e1]
            refine perm_by fun a => ?_
            simp only [e2, List.count_append, List.count_cons, List.append_assoc, List.count_nil]
            omega)
          obtain ⟨-, -, -, g3⟩ := h5.place (p := ⟨p.b, p.d, some k'⟩) (by simp)
          have e2 : kpt (some k') = bpt k.kb := by unfold kpt; rw [Option.map_some, e1]
          rw [e2] at g3
          refine ⟨z, rfl, ⟨Z, hz, Xl ++ ⟨p.b, p.d, some k'⟩ :: Yl, v, tv', R, Q', same_names (p' := ⟨p.b, p.d, some k'⟩) rfl, ⟨by rw [same_names (p := p) (p' := ⟨p.b, p.d, some k'⟩) rfl]; exact h.fine, by rw [same_blocks (p := p) (p' := ⟨p.b, p.d, some k'⟩) rfl, same_length (p := p) (p' := ⟨p.b, p.d, some k'⟩)]; exact h.sl, ht', fun p2 hp2 => ?_⟩, h5⟩, g3⟩
          rcases List.mem_append.1 hp2 with h' | h'
          · exact h.pls p2 (List.mem_append_left _ h')
          · rcases List.mem_cons.1 h' with rfl | h'
            · exact hok
            · exact h.pls p2 (List.mem_append_right _ (List.mem_cons_of_mem _ h'))
        have cqu := Lib.hid (fun u w1 (hM : MatM B w0 xb ((Xl ++ p :: Yl).map Pl.d) A F c ((ofB A ex).filter fun b => gl (wordsL b.2.2) (wordsL key)) u w1) => hM.queues (fun b hb => hofm b (List.mem_filter.1 hb).1) (Nat.le_trans (List.length_filter_le _ _) hof))
        have cqu2 : Hid (∀ u w1, MatM B w0 xb ((Xl ++ p :: Yl).map Pl.d) A F c ((ofB A ex).filter fun b => gl (wordsL b.2.2) (wordsL key)) u w1 → w1.cell? ⟨p.b, 3, none⟩ = some (bpt k.kb) → Calls Tryz.prog 59 #[u] w1 fun e w' => (∃ a q cap, e = .returned (.slice a q cap) ∧ RouR B w0 xb ((Xl ++ p :: Yl).map Pl.d) A F c (onceL [] (((ofB A ex).filter fun b => gl (wordsL b.2.2) (wordsL key)).map (·.2.1))) (.slice a q cap) w' ∧ w'.cell? ⟨p.b, 3, none⟩ = some (bpt k.kb))) := Lib.hid fun u w1 hM hc1 => by
          refine (cqu.out u w1 hM).mono ?_
          rintro e w' ⟨u2, rfl, ⟨S, hu, hE⟩, hb⟩
          obtain ⟨a, cap, rfl⟩ := hu.form
          exact ⟨a, _, cap, rfl, ⟨S, hu, hE⟩, cellOn (c := (p.b, 3)) hc1 hb⟩
        have hd : St B w0 w.drew (exO xb v tv (Xl ++ p :: Yl) R Q ++ F) := hst.drew
        have hs0 := Lib.hid (hcell _ _ _ _ hd)
        generalize onceL [] (((ofB A ex).filter fun b => gl (wordsL b.2.2) (wordsL key)).map (·.2.1)) = l2 at *
        generalize p.b = pb at *
        generalize (Xl ++ p :: Yl).map Pl.d = P at *
        generalize k.kb = kb at *
        clear h hst e hall hpok hm hp hofm hof hkd hcell cqu
        go_enter Tryz.func18, Tryz.ntmps18
        go_wp2_with fail
        refine c1.out.mono ?_
        rintro e w1 ⟨rfl, rfl⟩
        go_wp2_with fail
        go_region_held3 (fun x => x.cell? ⟨pb, 3, none⟩ = some (bpt kb)) (first | exact kS | exact hs0.out) (first
          | (go_at_call 26; refine (cof.out _ (by assumption)).mono ?_; rintro e w'' ⟨a2, cap2, rfl, hO, kS⟩)
          | (go_at_call 60; refine (cmat.out _ _ (by assumption)).mono ?_; rintro e w'' ⟨z, rfl, hM, kS⟩)
          | (go_at_call 59; refine (cqu2.out _ _ (by assumption) (by assumption)).mono ?_; rintro e w'' ⟨a3, q3, cap3, rfl, hR, kS⟩))
        replace hR := Lib.hid hR
        clear hO hM hd cof cmat cqu2
        go_wp2_with fail
        go_ret2
        exact ⟨_, rfl, hR.out⟩
end
end Go.Proofs.YtoecaonmehbfeaaGreat

/- Exchanges: answers written out; the laws' own known. -/
namespace Go.Proofs.YtoecaonmehbfeaaGreat
open Go.RowKit
set_option linter.unusedVariables false
set_option maxRecDepth 100000

section
variable {B : Nat} {w0 w w' : World} {F F' T R Q S : List (Nat × Obj)} {tb xb c c' pb qb : Nat} {A A' rows : List Bnd} {P P' : List Plc} {v tv u : Value} {n x key : List UInt8} {keys l : List (List UInt8)} {b : Bnd} {z kd bt : Int} {ok : Bool}

theorem decl_is (h : ExIs B w0 w xb P A F c) (hc : 1 ≤ c) (e : declX P n kd (autoB bt) = (P', z)) : Calls Tryz.prog 8 #[bpt xb, tx n, .int .i64 kd, .int .i64 bt] w fun e w' => e = .returned (.int .i64 z) ∧ ExIs B w0 w' xb P' A F c := by
  have := xdeclare_any h hc n kd bt
  rw [e] at this
  exact this
theorem del_is (h : ExIs B w0 w xb P A F c) (e : delX P A n (unuB bt) = (P', A', z)) : Calls Tryz.prog 10 #[bpt xb, tx n, .int .i64 bt] w fun e w' => e = .returned (.int .i64 z) ∧ ExIs B w0 w' xb P' A' F c := by
  have := xdelete_any h n bt
  rw [e] at this
  exact this
theorem bind_is {b1 b2 b3 : List UInt8} (h : ExIs B w0 w xb P A F c) (hb : FitB (b1, b2, b3)) (hc : c ≤ 100000) (e : bindX P A (b1, b2, b3) = (A', z)) : Calls Tryz.prog 12 #[bpt xb, .agg #[tx b1, tx b2, tx b3]] w fun e w' => e = .returned (.int .i64 z) ∧ ExIs B w0 w' xb P A' F (c + 50) := by
  have := xbind_any h hb hc
  rw [e] at this
  exact this
theorem unb_is {b1 b2 b3 : List UInt8} (h : ExIs B w0 w xb P A F c) (hc : c ≤ 100000) (e : unbX P A (b1, b2, b3) = (P', A', z)) : Calls Tryz.prog 14 #[bpt xb, .agg #[tx b1, tx b2, tx b3]] w fun e w' => e = .returned (.int .i64 z) ∧ ExIs B w0 w' xb P' A' F c := by
  have := xunbind_any h (b1, b2, b3) hc
  rw [e] at this
  exact this
theorem dropq_is (h : ExIs B w0 w xb P A F c) (hc : c ≤ 100000) (e : dropqX P A x = (P', A')) : Calls Tryz.prog 16 #[bpt xb, tx x] w fun e w' => e = .returned (.tuple #[]) ∧ ExIs B w0 w' xb P' A' F c := by
  have := xdropq_any h x hc
  rw [e] at this
  exact this
theorem rou_is (h : ExIs B w0 w xb P A F c) (hk : key.length ≤ 1000) (hc : c ≤ 100000) (e : routeX P A n key = (l, ok)) : Calls Tryz.prog 18 #[bpt xb, tx n, tx key] w fun e w' => ∃ a cap S, e = .returned (.tuple #[.slice a l.length cap, .bool ok]) ∧ TssIs (.slice a l.length cap) l S ∧ ExIs B w0 w' xb P A (S ++ F) c := by
  have := route_is h n key hk hc
  rw [e] at this
  refine this.mono ?_
  rintro e w' ⟨u, rfl, S, hu, hE⟩
  obtain ⟨a, cap, rfl⟩ := hu.form
  exact ⟨a, cap, S, rfl, hu, hE⟩
/-- What lies beside, read. -/
theorem ExIs.texts (h : ExIs B w0 w xb P A F c) (hu : TssIs u l S) (hp : F.Perm (F' ++ S)) (hl : ∀ x ∈ l, x.length ≤ maxLen) : ReadTs w u l := by
  obtain ⟨O, h1, -⟩ := h.beside
  refine hu.read (X := O ++ F') ((h1.perm (hp.append_left O)).perm (List.Perm.of_eq ?_)) hl
  rw [List.append_assoc]
theorem ReadTs.one {a : Option Addr} {cap : Nat} (h : ReadTs w (.slice a 1 cap) [n]) : ∃ g off, a = some ⟨g, off, none⟩ ∧ w.cell? ⟨g, off, none⟩ = some (tx n) := by
  obtain ⟨a', cap', e, ht⟩ := h
  cases e
  obtain ⟨-, g, off, rfl, hc⟩ := ht.at_ 0 n rfl
  exact ⟨g, off, rfl, hc⟩

abbrev kp13 : Plc := ([116], 3, true)
abbrev kb13 : Bnd := ([116], [113], [97, 46, 35])
theorem auto2 : autoB 2 = true := by decide
theorem auto0 : autoB 0 = false := by decide
theorem unu0 : unuB 0 = false := by decide
set_option maxHeartbeats 4000000 in
theorem known13_true (w : World) : Calls Tryz.prog 6 #[] w fun e w' => e = .returned (.bool true) ∧ Below w.heap.size w w' := by
  have c1 := Lib.hid (xnew_any (St.start w))
  have k2 := Lib.hid (fun w1 xb (h : ExIs w.heap.size w w1 xb [] [] [] 1) => decl_is (n := [116]) (kd := 3) (bt := 2) (P' := [kp13]) (z := 0) h (by omega) (by rw [auto2]; decide))
  have k3 := Lib.hid (fun w1 xb (h : ExIs w.heap.size w w1 xb [kp13] [] [] 1) => decl_is (n := [116]) (kd := 3) (bt := 0) (P' := [kp13]) (z := 406) h (by omega) (by rw [auto0]; decide))
  have k4 := Lib.hid (fun w1 xb (h : ExIs w.heap.size w w1 xb [kp13] [] [] 1) => bind_is (b1 := [116]) (b2 := [113]) (b3 := [97, 46, 35]) (A' := [kb13]) (z := 0) h (by unfold FitB; decide) (by omega) (by decide))
  have k5 := Lib.hid (fun w1 xb (h : ExIs w.heap.size w w1 xb [kp13] [kb13] [] 51) => rou_is (n := [116]) (key := [97, 46, 98]) (l := [[113]]) (ok := true) h (by decide) (by omega) (by decide))
  have k6 := Lib.hid (fun w1 xb F (h : ExIs w.heap.size w w1 xb [kp13] [kb13] F 51) => rou_is (n := []) (key := [113]) (l := [[113]]) (ok := true) h (by decide) (by omega) (by decide))
  have k7 := Lib.hid (fun w1 xb F (h : ExIs w.heap.size w w1 xb [kp13] [kb13] F 51) => rou_is (n := [110, 111, 110, 101]) (key := [113]) (l := []) (ok := false) h (by decide) (by omega) (by decide))
  have k8 := Lib.hid (fun w1 xb F (h : ExIs w.heap.size w w1 xb [kp13] [kb13] F 51) => unb_is (b1 := [116]) (b2 := [113]) (b3 := [97, 46, 35]) (P' := []) (A' := []) (z := 0) h (by omega) (by decide))
  have k9 := Lib.hid (fun w1 xb F (h : ExIs w.heap.size w w1 xb [] [] F 51) => (⟨has_is h [116], has_is h []⟩ : _ ∧ _))
  have k10 := Lib.hid (fun w1 xb F (h : ExIs w.heap.size w w1 xb [] [] F 51) => decl_is (n := []) (kd := 1) (bt := 0) (P' := []) (z := 403) h (by omega) (by rw [auto0]; decide))
  have k11 := Lib.hid (fun w1 xb F (h : ExIs w.heap.size w w1 xb [] [] F 51) => del_is (n := [116]) (bt := 0) (P' := []) (A' := []) (z := 404) h (by rw [unu0]; decide))
  have ck := Lib.hid (fun w => kind_any [102, 97, 110, 111, 117, 116] w)
  go_enter Tryz.func6, Tryz.ntmps6
  go_wp2_with fail
  refine c1.out.mono ?_
  rintro e w1 ⟨rfl, h⟩
  replace k2 := Lib.hid (k2.out _ _ h)
  clear h c1
  go_wp2_with fail
  refine k2.out.mono ?_
  rintro e w2 ⟨rfl, h⟩
  replace k3 := Lib.hid (k3.out _ _ h)
  clear h k2
  go_wp2_with fail
  refine k3.out.mono ?_
  rintro e w3 ⟨rfl, h⟩
  replace k4 := Lib.hid (k4.out _ _ h)
  clear h k3
  go_wp2_with fail
  refine k4.out.mono ?_
  rintro e w4 ⟨rfl, h⟩
  replace k5 := Lib.hid (k5.out _ _ h)
  clear h k4
  go_wp2_with fail
  refine k5.out.mono ?_
  rintro e w5 ⟨a5, cap5, S5, rfl, hu5, h⟩
  replace k6 := Lib.hid (k6.out _ _ _ h)
  replace hu5 := Lib.hid hu5
  clear h k5
  go_wp2_with fail
  refine k6.out.mono ?_
  rintro e w6 ⟨a6, cap6, S6, rfl, hu6, h⟩
  replace k7 := Lib.hid (k7.out _ _ _ h)
  replace hu6 := Lib.hid hu6
  clear h k6
  go_wp2_with fail
  refine k7.out.mono ?_
  rintro e w7 ⟨a7, cap7, S7, rfl, -, h⟩
  replace k8 := Lib.hid (k8.out _ _ _ h)
  clear h k7
  go_wp2_with fail
  refine k8.out.mono ?_
  rintro e w8 ⟨rfl, h⟩
  have hsm : ∀ x ∈ [[(113 : UInt8)]], x.length ≤ maxLen := by unfold maxLen; decide
  obtain ⟨g5, o5, rfl, r5⟩ := (h.texts (F' := S7 ++ S6) hu5.out (by
    refine perm_by fun a => ?_
    simp only [List.count_append, List.count_nil]
    omega) hsm).one
  obtain ⟨g6, o6, rfl, r6⟩ := (h.texts (F' := S7 ++ S5) hu6.out (by
    refine perm_by fun a => ?_
    simp only [List.count_append, List.count_nil]
    omega) hsm).one
  obtain ⟨k9a, k9b⟩ := k9.out _ _ _ h
  replace k9a := Lib.hid k9a
  replace k9b := Lib.hid k9b
  replace k10 := Lib.hid (k10.out _ _ _ h)
  clear h k8 k9 hsm hu5 hu6
  go_wp2_with fail
  refine k9a.out.mono ?_
  rintro e w9 ⟨rfl, rfl⟩
  clear k9a
  go_wp2_with fail
  refine k9b.out.mono ?_
  rintro e w9 ⟨rfl, rfl⟩
  clear k9b
  go_wp2_with fail
  refine (ck.out _).mono ?_
  rintro e w9 ⟨rfl, rfl⟩
  clear ck
  go_wp2_with fail
  refine k10.out.mono ?_
  rintro e w10 ⟨rfl, h⟩
  replace k11 := Lib.hid (k11.out _ _ _ h)
  clear h k10
  go_wp2_with fail
  refine k11.out.mono ?_
  rintro e w11 ⟨rfl, h⟩
  have fin := Lib.hid h.below
  clear h k11
  go_wp2_with fail
  go_ret
  exact ⟨rfl, fin.out⟩
end
end Go.Proofs.YtoecaonmehbfeaaGreat

/- A slice of integers that came in, out of what was read. -/
namespace Go.Proofs.YtoecaonmehbfeaaGreat
open Go.RowKit
set_option maxRecDepth 100000

theorem IntsAt.rows {P : Program} {k : IntKind} {w : World} {e : TypeId} {a : Option Addr} {len : Nat} {rd : Nat → List Value} (he : P.underlying e = some (.int k)) (hco : P.cellsOf e = 1) (h : RowsAt P w e a len rd) : ∃ zs, IntsAt k w a len zs := by
  have key : ∀ i, ∃ z : Int, i < len → rd i = [.int k z] ∧ (Lit.int k z).wf = true := by
    intro i
    by_cases hi : i < len
    · obtain ⟨z, h1, h2⟩ := (h.at_ i hi).1.int he
      exact ⟨z, fun _ => ⟨h1, h2⟩⟩
    · exact ⟨0, fun h => absurd h hi⟩
  refine ⟨(List.range len).map fun i => (key i).choose, by simp, h.top, fun z hz => ?_, fun i z hz => ?_⟩
  · obtain ⟨i, hi, rfl⟩ := List.mem_map.1 hz
    exact ((key i).choose_spec (List.mem_range.1 hi)).2
  · have hi : i < len := by
      have := (List.getElem?_eq_some_iff.1 hz).1
      simpa using this
    rw [List.getElem?_map, List.getElem?_range hi, Option.map_some, Option.some.injEq] at hz
    obtain ⟨h1, -⟩ := (key i).choose_spec hi
    rw [hz] at h1
    obtain ⟨_, _, b, off, ha, hc⟩ := h.at_ i hi
    refine ⟨b, off, ha, ?_⟩
    have := hc 0 (.int k z) (by rw [h1]; rfl)
    rwa [hco, Nat.mul_one] at this
end Go.Proofs.YtoecaonmehbfeaaGreat
