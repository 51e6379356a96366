/- Exchanges: DropQueue, Exchanges: Route; all calls, as callers see them, 'append' of whatever elements: copies, pieces put together, The document's exchanges in memory: at, Has, Names, gone, The document's exchanges: gone. -/
import Derived.Test.YtoecaonmehbfeaaGreatY14
import Derived.Test.YtoecaonmehbfeaaGreatY02
import Derived.Test.YtoecaonmehbfeaaGreatY03
import Derived.Test.YtoecaonmehbfeaaGreatY04
/- Exchanges: DropQueue. -/
namespace Go.Proofs.YtoecaonmehbfeaaGreat
open Go.RowKit
set_option linter.unusedVariables false
set_option maxRecDepth 100000

section
variable {B : Nat} {w0 w w' : World} {F T R Q S : List (Nat × Obj)} {tb xb c c' pb qb : Nat} {M : Prs} {L X Y : List Pl} {p p' : Pl} {k : Ky} {A A' rows : List Bnd} {P : List Plc} {v tv u : Value} {n x : List UInt8} {keys l : List (List UInt8)} {q : Bnd → Bool} {b : Bnd}

theorem places_step {i : Nat} (hall : ∀ (j : Nat) p, L[j]? = some p → PlOk (if j < i then A' else A) c p) (hok : PlOk A' c p') : ∀ (j : Nat) p2, (L.set i p')[j]? = some p2 → PlOk (if j < i + 1 then A' else A) c p2 := by
  intro j p2 hj
  rw [List.getElem?_set] at hj
  split at hj
  · rename_i e
    subst e
    split at hj
    · cases hj
      rw [if_pos (by omega)]
      exact hok
    · cases hj
  · rename_i e
    have := hall j p2 hj
    by_cases h1 : j < i
    · rw [if_pos h1] at this
      rw [if_pos (by omega)]
      exact this
    · rw [if_neg h1] at this
      rw [if_neg (by omega)]
      exact this
theorem set_split {i : Nat} (hx : L[i]? = some p) : L = L.take i ++ p :: L.drop (i + 1) ∧ L.set i p' = L.take i ++ p' :: L.drop (i + 1) := by
  have hl := (List.getElem?_eq_some_iff.1 hx).1
  refine ⟨?_, ?_⟩
  · have := (List.take_append_drop i L).symm
    rwa [split_at hx] at this
  · rw [List.set_eq_take_append_cons_drop, if_pos hl]

/-- While the keys are cut. -/
def DqA (B : Nat) (w0 : World) (xb qb : Nat) (v : Value) (R : List (Nat × Obj)) (P : List Plc) (A A' : List Bnd) (F : List (Nat × Obj)) (c g : Nat) (a' : Act) (w' : World) : Prop :=
  ∃ (i : Nat) (L : List Pl) (tv : Value) (Q : List (Nat × Obj)), Fr 41 [(0, bpt xb), (3, bpt qb), (4, .int .i64 i)] a' ∧ i + g = L.length ∧ L.map Pl.d = P ∧ SlIs 63 1 v L.length (L.map fun p => bpt p.b) R ∧ TaIn tv A Q ∧
    (∀ (j : Nat) p, L[j]? = some p → PlOk (if j < i then A' else A) c p) ∧ St B w0 w' (exO xb v tv L R Q ++ F)
/-- While exchanges are left. -/
def DqB (B : Nat) (w0 : World) (xb : Nat) (P : List Plc) (A' : List Bnd) (l : List (List UInt8)) (F : List (Nat × Obj)) (c g : Nat) (a' : Act) (w' : World) : Prop :=
  ∃ (i : Nat) (u : Value) (S : List (Nat × Obj)), Fr 41 [(0, bpt xb), (4, .int .i64 i), (5, u)] a' ∧ i + g = l.length ∧ TssIs u l S ∧ ExIs B w0 w' xb (leavesX P A' (l.take i)) A' (F ++ S) c
theorem leaves_step (P : List Plc) (A : List Bnd) {i : Nat} (hx : l[i]? = some n) : leavesX P A (l.take (i + 1)) = leaveX (leavesX P A (l.take i)) A n := by
  unfold leavesX
  rw [List.take_add_one, hx, Option.toList_some, List.foldl_append]
  rfl

set_option maxHeartbeats 8000000 in
theorem xdropq_any (h : ExIs B w0 w xb P A F c) (x : List UInt8) (hc : c ≤ 100000) :
    Calls Tryz.prog 16 #[bpt xb, tx x] w fun e w' => e = .returned (.tuple #[]) ∧ ExIs B w0 w' xb (dropqX P A x).1 (dropqX P A x).2 F c := by
  obtain ⟨L, v, tv, R, Q, rfl, h, hst⟩ := h
  have few := h.fine.few
  have fewA := h.fine.rows.few
  have hst1 : St B w0 (w.alloc (.cells #[tx x] 9)) (exO xb v tv L R Q ++ ((w.heap.size, .cells #[tx x] 9) :: F)) := (hst.alloc _).perm List.perm_middle.symm
  obtain ⟨W1, hW⟩ : ∃ W1, W1 = w.alloc (.cells #[tx x] 9) := ⟨_, rfl⟩
  rw [← hW] at hst1
  obtain ⟨qb, hqb⟩ : ∃ qb, qb = w.heap.size := ⟨_, rfl⟩
  rw [← hqb] at hst1
  have eW : Hid (w.alloc (.cells #[tx x] 9) = W1) := Lib.hid hW.symm
  have eq : Hid (w.heap.size = qb) := Lib.hid hqb.symm
  have hmf : ∀ (fn : Fn) (first cap : Array Value) (w : World), (Instr.makeFunc fn first cap).run Tryz.prog w = .ok (.func fn first cap) w := fun _ _ _ _ => rfl
  obtain ⟨A', hA'⟩ : ∃ A', A' = A.filter fun b => !(b.2.1 == x) := ⟨_, rfl⟩
  obtain ⟨l, hl⟩ : ∃ l, l = onceL [] ((A.filter fun b => b.2.1 == x).map (·.1)) := ⟨_, rfl⟩
  have ed : dropqX (L.map Pl.d) A x = (leavesX (L.map Pl.d) A' l, A') := by rw [dropqX, hA', hl]
  rw [ed]
  have fine' : FineX (L.map Pl.d) A' := by rw [hA']; exact h.fine.sub _
  have hl40 : l.length ≤ 40 := by
    have h1 := onceL_len [] ((A.filter fun b => b.2.1 == x).map (·.1))
    rw [List.length_map, List.length_nil, ← hl] at h1
    have := List.length_filter_le (fun b : Bnd => b.2.1 == x) A
    omega
  have hlm : ∀ y ∈ l, y.length ≤ maxLen := by
    intro y hy
    rw [hl] at hy
    rcases (onceL_mem _ _ _).1 hy with h' | h'
    · simp at h'
    · obtain ⟨b, hb, rfl⟩ := List.mem_map.1 h'
      exact (h.fine.rows.fit b (List.mem_filter.1 hb).1).max.1
  have fine := Lib.hid h.fine
  -- unkey at a place
  have cun : Hid (∀ (i : Nat) (L1 : List Pl) tv1 Q1 w1 p1, L1[i]? = some p1 → TaIn tv1 A Q1 → (∀ (j : Nat) p, L1[j]? = some p → PlOk (if j < i then A' else A) c p) → St B w0 w1 (exO xb v tv1 L1 R Q1 ++ ((qb, .cells #[tx x] 9) :: F)) →
      Calls Tryz.prog 48 #[bpt xb, bpt p1.b, .func (.func 54) #[] #[bpt qb]] w1 fun e w' => e = .returned (.tuple #[]) ∧ ∃ p' tv' Q', p'.b = p1.b ∧ p'.d = p1.d ∧ TaIn tv' A Q' ∧ (∀ (j : Nat) p, (L1.set i p')[j]? = some p → PlOk (if j < i + 1 then A' else A) c p) ∧ St B w0 w' (exO xb v tv' (L1.set i p') R Q' ++ ((qb, .cells #[tx x] 9) :: F))) :=
    Lib.hid fun i L1 tv1 Q1 w1 p1 hx ht hall h1 => by
      obtain ⟨e1, -⟩ := set_split (p' := p1) hx
      have hok := hall i p1 hx
      rw [if_neg (by omega)] at hok
      rw [e1] at h1
      refine (xunkey_any ht fewA fine.out.keys hok hc h1 (tells_dropq (q := qb) (x := x) List.mem_cons_self)).mono ?_
      rintro e w' ⟨rfl, p', tv', Q', g1, g2, g3, g4, g5⟩
      rw [← hA'] at g3
      refine ⟨rfl, p', tv', Q', g1, g2, g4, places_step hall g3, ?_⟩
      rw [(set_split (p' := p') hx).2]
      exact g5
  -- what follows the first loop
  have ctab : Hid (∀ (L1 : List Pl) tv1 Q1 w1, TaIn tv1 A Q1 → St B w0 w1 (exO xb v tv1 L1 R Q1 ++ ((qb, .cells #[tx x] 9) :: F)) → Calls Tryz.prog 39 #[bpt xb] w1 fun e w' => ∃ tb, e = .returned (bpt tb) ∧ TabM B w0 xb v L1 R ((qb, .cells #[tx x] 9) :: F) A tb w' ∧ w'.cell? ⟨qb, 0, none⟩ = some (tx x)) := Lib.hid fun L1 tv1 Q1 w1 ht h1 => by
    refine (xtable_is ht h1).mono ?_
    rintro e w' ⟨tb, rfl, hT⟩
    exact ⟨tb, rfl, hT, hT.cell (g := qb) (i := 0) List.mem_cons_self rfl⟩
  have cdq : Hid (∀ (L1 : List Pl) tb w1, L1.map Pl.d = L.map Pl.d → SlIs 63 1 v L1.length (L1.map fun p => bpt p.b) R → (∀ p ∈ L1, PlOk A' c p) → TabM B w0 xb v L1 R ((qb, .cells #[tx x] 9) :: F) A tb w1 →
      Calls Tryz.prog 55 #[bpt tb, tx x] w1 fun e w' => ∃ a cap, e = .returned (.slice a l.length cap) ∧ w'.cell? ⟨qb, 0, none⟩ = some (tx x) ∧ ∀ a', Fr 41 [(0, bpt xb), (4, .int .i64 ((0 : Nat) : Int)), (5, .slice a l.length cap)] a' → DqB B w0 xb (L.map Pl.d) A' l ((qb, .cells #[tx x] 9) :: F) c l.length a' w') :=
    Lib.hid fun L1 tb w1 en hs hall hT => by
      refine (dropQ_any hT (by omega) fine.out.rows.fit x).mono ?_
      rintro e w' ⟨u, S, rfl, hu, hT2⟩
      rw [← hl] at hu
      rw [← hA'] at hT2
      obtain ⟨a, cap, rfl⟩ := hu.form
      have hT3 : TabM B w0 xb v L1 R (((qb, .cells #[tx x] 9) :: F) ++ S) A' tb w' := by
        unfold TabM
        rw [← List.append_assoc]
        exact hT2
      obtain ⟨Q', ht', h3⟩ := hT3.of
      refine ⟨a, cap, rfl, hT3.cell (g := qb) (i := 0) (List.mem_append_left _ List.mem_cons_self) rfl, fun a' hf => ⟨0, _, S, hf, by omega, hu, L1, v, bpt tb, R, Q', by rw [en]; rfl, ⟨by rw [en]; exact fine', hs, ht', hall⟩, h3⟩⟩
  -- leave
  have clv : Hid (∀ (i : Nat) a cap S w1, TssIs (.slice a l.length cap) l S → ExIs B w0 w1 xb (leavesX (L.map Pl.d) A' (l.take i)) A' (((qb, .cells #[tx x] 9) :: F) ++ S) c → ∀ n, l[i]? = some n → ∃ g off, a = some ⟨g, off, none⟩ ∧ w1.cell? ⟨g, off + i, none⟩ = some (tx n) ∧
      Calls Tryz.prog 51 #[bpt xb, tx n] w1 fun e w' => e = .returned (.tuple #[]) ∧ ExIs B w0 w' xb (leavesX (L.map Pl.d) A' (l.take (i + 1))) A' (((qb, .cells #[tx x] 9) :: F) ++ S) c) := Lib.hid fun i a cap S w1 hu hE n hn => by
    obtain ⟨L1, v1, tv1, R1, Q1, en, hI, h1⟩ := hE
    obtain ⟨a', cap', e', hta⟩ := hu.read (X := exO xb v1 tv1 L1 R1 Q1 ++ ((qb, .cells #[tx x] 9) :: F)) (by rw [List.append_assoc]; exact h1) hlm
    cases e'
    obtain ⟨-, g, off, e1, hc1⟩ := hta.at_ i n hn
    refine ⟨g, off, e1, hc1, ?_⟩
    refine (xleave_any hI h1 n).mono ?_
    rintro e w' ⟨rfl, h2⟩
    rw [en] at h2
    rw [leaves_step _ _ hn]
    exact ⟨rfl, h2⟩
  have start : Hid (∀ a', Fr 41 [(0, bpt xb), (3, bpt qb), (4, .int .i64 ((0 : Nat) : Int))] a' → DqA B w0 xb qb v R (L.map Pl.d) A A' ((qb, .cells #[tx x] 9) :: F) c L.length a' W1) := Lib.hid fun a' hf =>
    ⟨0, L, tv, Q, hf, by omega, rfl, h.sl, h.tab, fun j p hp => by rw [if_neg (by omega)]; exact h.pls p (List.mem_of_getElem? hp), hst1⟩
  have form : Hid (∃ a cap, v = .slice a L.length cap) := Lib.hid (by obtain ⟨a, cap, e, -⟩ := h.sl.form; exact ⟨a, cap, e⟩)
  have facts : Hid (∀ (L1 : List Pl) tv1 Q1 w1 F1, L1.map Pl.d = L.map Pl.d → SlIs 63 1 v L1.length (L1.map fun p => bpt p.b) R → St B w0 w1 (exO xb v tv1 L1 R Q1 ++ F1) → L1.length = L.length ∧ w1.cell? ⟨xb, 0, none⟩ = some v ∧ ∀ a cap, v = .slice a L.length cap → ∀ (i : Nat) p, L1[i]? = some p → ∃ g off, a = some ⟨g, off, none⟩ ∧ w1.cell? ⟨g, off + i, none⟩ = some (bpt p.b)) := Lib.hid fun L1 tv1 Q1 w1 F1 en hs h1 => by
    have el : L1.length = L.length := by have := congrArg List.length en; rwa [List.length_map, List.length_map] at this
    refine ⟨el, h1.ex.1, fun a cap ev i p hp => ?_⟩
    obtain ⟨a', cap', e, hr⟩ := places_form hs h1
    rw [ev, el] at e
    cases e
    exact hr i p hp
  rw [List.length_map] at few
  generalize hP : L.map Pl.d = P at *
  generalize L.length = len at *
  clear hP
  clear h hst hst1 ed fine' hW hqb hA' hl fine
  replace hlm := Lib.hid hlm
  obtain ⟨av, capv, rfl⟩ := form.out
  clear form
  go_enter Tryz.func16, Tryz.ntmps16
  go_wp2_with fail
  refine wp_scope_two 0 1 1000 (DqA B w0 xb qb (.slice av len capv) R P A A' ((qb, .cells #[tx x] 9) :: F) c) (DqB B w0 xb P A' l ((qb, .cells #[tx x] 9) :: F) c) (by decide) rfl rfl ?_ ?_ ?_ ?_
  · rintro n a' w' ⟨i, u, S, -, hi, -⟩
    omega
  · clear cun ctab cdq start facts
    rintro n a' w' ⟨i, u, S, hfr, hi, hu, hE⟩
    obtain ⟨f, rfl, hl'⟩ := hfr.lit
    clear hfr
    simp only [List.mem_cons, List.not_mem_nil, or_false, forall_eq_or_imp, forall_eq] at hl'
    obtain ⟨f0, f4, f5⟩ := hl'
    obtain ⟨a, cap, rfl⟩ := hu.form
    simp only [List.range, List.range.loop, List.map, f0, f4, f5]
    clear f0 f4 f5
    have hi0 : (0 : Int) ≤ i := by omega
    by_cases hlt : i < l.length
    · have hi1 : (i : Int) < l.length := by omega
      have hx : l[i]? = some l[i] := List.getElem?_eq_getElem hlt
      generalize l[i] = nm at hx
      obtain ⟨g, off, rfl, hc1, cl⟩ := clv.out i a cap S w' hu hE nm hx
      replace cl := Lib.hid cl
      have nxt : Hid (∀ w2 a', ExIs B w0 w2 xb (leavesX P A' (l.take (i + 1))) A' (((qb, .cells #[tx x] 9) :: F) ++ S) c → Fr 41 [(0, bpt xb), (4, .int .i64 ((i + 1 : Nat) : Int)), (5, .slice (some ⟨g, off, none⟩) l.length cap)] a' → ∃ m, m < n ∧ DqB B w0 xb P A' l ((qb, .cells #[tx x] 9) :: F) c m a' w2) :=
        Lib.hid fun w2 a' hE2 hf => ⟨n - 1, by omega, i + 1, _, S, hf, by omega, hu, hE2⟩
      clear hu hE hx clv
      go_wp2_with fail
      refine cl.out.mono ?_
      rintro e w2 ⟨rfl, hE2⟩
      replace hE2 := Lib.hid hE2
      clear cl
      go_wp2_with fail
      refine wp_goto ?_
      exact ⟨rfl, nxt.out _ _ hE2.out ⟨rfl, rfl, by simp⟩⟩
    · obtain rfl : i = l.length := by omega
      rw [List.take_of_length_le (Nat.le_refl _)] at hE
      have fin : Hid (ExIs B w0 w' xb (leavesX P A' l) A' F c) := Lib.hid (by
        obtain ⟨L1, v1, tv1, R1, Q1, en, hI, h1⟩ := hE
        refine ⟨L1, v1, tv1, R1, Q1, en, hI, h1.sub (List.Sublist.append (List.Sublist.refl _) ?_)⟩
        rw [List.cons_append]
        exact (List.sublist_append_left F S).trans (List.sublist_cons_self _ _))
      clear hu hE clv
      go_wp2_with fail
      simp only [jumps]
      exact bodyPost_end (results_none rfl _ _ _) rfl ⟨rfl, fin.out⟩
  · clear clv start
    rintro n H1 a' w' ⟨i, L1, tv1, Q1, hfr, hi, en, hs, ht, hall, h1⟩
    obtain ⟨f, rfl, hl'⟩ := hfr.lit
    clear hfr
    simp only [List.mem_cons, List.not_mem_nil, or_false, forall_eq_or_imp, forall_eq] at hl'
    obtain ⟨f0, f3, f4⟩ := hl'
    simp only [List.range, List.range.loop, List.map, f0, f3, f4]
    clear f0 f3 f4
    have hi0 : (0 : Int) ≤ i := by omega
    obtain ⟨el, x0, hrows⟩ := facts.out _ _ _ _ _ en hs h1
    by_cases hlt : i < L1.length
    · have hi1 : (i : Int) < len := by omega
      have hx : L1[i]? = some L1[i] := List.getElem?_eq_getElem hlt
      generalize L1[i] = p1 at hx
      obtain ⟨g, off, e, hc1⟩ := hrows _ _ rfl i p1 hx
      subst e
      have cu := Lib.hid (cun.out i L1 tv1 Q1 w' p1 hx ht hall h1)
      have nxt : Hid (∀ p' tv' Q' w2 a', p'.b = p1.b → p'.d = p1.d → TaIn tv' A Q' → (∀ (j : Nat) p, (L1.set i p')[j]? = some p → PlOk (if j < i + 1 then A' else A) c p) → St B w0 w2 (exO xb (.slice (some ⟨g, off, none⟩) len capv) tv' (L1.set i p') R Q' ++ ((qb, .cells #[tx x] 9) :: F)) →
          Fr 41 [(0, bpt xb), (3, bpt qb), (4, .int .i64 ((i + 1 : Nat) : Int))] a' → ∃ m, m < n ∧ DqA B w0 xb qb (.slice (some ⟨g, off, none⟩) len capv) R P A A' ((qb, .cells #[tx x] 9) :: F) c m a' w2) := Lib.hid fun p' tv' Q' w2 a' e1 e2 ht' hall' h2 hf => by
        obtain ⟨g1, g2⟩ := set_split (p' := p') hx
        refine ⟨n - 1, by omega, i + 1, L1.set i p', tv', Q', hf, by rw [List.length_set]; omega, ?_, ?_, ht', hall', h2⟩
        · rw [g2, same_names e2, ← g1]
          exact en
        · rw [List.length_set, g2, same_blocks e1, ← g1]
          exact hs
      generalize p1.b = pb at *
      generalize p1.d = pd at *
      clear hs ht hall h1 hx hrows facts cun ctab cdq H1
      go_wp2_with fail
      refine cu.out.mono ?_
      rintro e w2 ⟨rfl, p', tv', Q', e1, e2, ht', hall', h2⟩
      replace nxt := Lib.hid (fun a' => nxt.out p' tv' Q' w2 a' e1 e2 ht' hall' h2)
      clear cu ht' hall' h2 e1 e2
      go_wp2_with fail
      refine wp_goto ?_
      exact .inl ⟨rfl, nxt.out _ ⟨rfl, rfl, by simp⟩⟩
    · have hi1 : ¬ (i : Int) < len := by omega
      have hallA : ∀ p ∈ L1, PlOk A' c p := fun p hp => by
        obtain ⟨j, hj⟩ := List.getElem?_of_mem hp
        have := hall j p hj
        rwa [if_pos (by have := (List.getElem?_eq_some_iff.1 hj).1; omega)] at this
      replace ctab := Lib.hid (ctab.out L1 tv1 Q1 w'.drew ht h1.drew)
      replace cdq := Lib.hid (fun tb w1 hT => cdq.out L1 tb w1 en hs hallA hT)
      have hs0 : Hid (w'.drew.cell? ⟨qb, 0, none⟩ = some (tx x)) := Lib.hid (h1.cell (b := qb) (i := 0) (List.mem_append_right _ List.mem_cons_self) rfl)
      clear hs ht hall h1 hrows facts cun hallA en
      go_wp2_with fail
      go_region_held3 (fun y => y.cell? ⟨qb, 0, none⟩ = some (tx x)) (first | exact kS | exact hs0.out) (first
        | (go_at_call 39; refine ctab.out.mono ?_; rintro e w'' ⟨tb, rfl, hT, kS⟩)
        | (go_at_call 55; refine (cdq.out _ _ (by assumption)).mono ?_; rintro e w'' ⟨a2, cap2, rfl, kS, hB⟩))
      replace hB := Lib.hid hB
      clear hT ctab cdq hs0 kS
      go_wp2_with fail
      refine wp_label ?_
      go_step
      go_step
      exact H1 l.length _ _ (hB.out _ ⟨rfl, rfl, by simp⟩)
  · intro H
    clear cun ctab cdq clv facts
    go_upto_region 1 with fail
    rw [eW.out, eq.out]
    go_wp2_with fail
    refine wp_label ?_
    go_step
    go_step
    exact H len _ _ (start.out _ ⟨rfl, rfl, by simp⟩)
end
end Go.Proofs.YtoecaonmehbfeaaGreat

/- Exchanges: Route; all calls, as callers see them. -/
namespace Go.Proofs.YtoecaonmehbfeaaGreat
open Go.RowKit
set_option linter.unusedVariables false
set_option maxRecDepth 100000

section
variable {B : Nat} {w0 w w' : World} {F F' T R Q S : List (Nat × Obj)} {tb xb c c' pb qb : Nat} {M : Prs} {L X Y : List Pl} {p p' : Pl} {k : Ky} {A A' rows : List Bnd} {P : List Plc} {v tv u : Value} {n x : List UInt8} {keys l : List (List UInt8)} {q : Bnd → Bool} {b : Bnd}

theorem ExIs.sub (h : ExIs B w0 w xb P A F c) (hs : F'.Sublist F) : ExIs B w0 w xb P A F' c := by
  obtain ⟨L, v, tv, R, Q, e, h1, h2⟩ := h
  exact ⟨L, v, tv, R, Q, e, h1, h2.sub ((List.Sublist.refl _).append hs)⟩
theorem ExIs.permF (h : ExIs B w0 w xb P A F c) (hs : F.Perm F') : ExIs B w0 w xb P A F' c := by
  obtain ⟨L, v, tv, R, Q, e, h1, h2⟩ := h
  exact ⟨L, v, tv, R, Q, e, h1, h2.perm (hs.append_left _)⟩
theorem ExIs.grow (h : ExIs B w0 w xb P A F c) (hb : Below w.heap.size w w') : ExIs B w0 w' xb P A F c := by
  obtain ⟨L, v, tv, R, Q, e, h1, h2⟩ := h
  exact ⟨L, v, tv, R, Q, e, h1, h2.grow hb⟩
theorem ExIs.mono (h : ExIs B w0 w xb P A F c) (hc : c ≤ c') : ExIs B w0 w xb P A F c' := by
  obtain ⟨L, v, tv, R, Q, e, h1, h2⟩ := h
  exact ⟨L, v, tv, R, Q, e, h1.mono hc, h2⟩
theorem ExIs.below (h : ExIs B w0 w xb P A F c) : Below B w0 w := by
  obtain ⟨L, v, tv, R, Q, e, h1, h2⟩ := h
  exact h2.below
theorem ExIs.fine (h : ExIs B w0 w xb P A F c) : FineX P A := by
  obtain ⟨L, v, tv, R, Q, e, h1, h2⟩ := h
  rw [← e]
  exact h1.fine
theorem ExIs.cell {cs : Array Value} {U : TypeId} {g : Nat} (h : ExIs B w0 w xb P A F c) (hm : (g, .cells cs U) ∈ F) {i : Nat} {u : Value} (hi : cs[i]? = some u) : w.cell? ⟨g, i, none⟩ = some u := by
  obtain ⟨L, v, tv, R, Q, e, h1, h2⟩ := h
  exact h2.cell (b := g) (List.mem_append_right _ hm) hi
theorem ExIs.alloc (h : ExIs B w0 w xb P A F c) (o : Obj) : ExIs B w0 (w.alloc o) xb P A ((w.heap.size, o) :: F) c := by
  obtain ⟨L, v, tv, R, Q, e, h1, h2⟩ := h
  exact ⟨L, v, tv, R, Q, e, h1, (h2.alloc o).perm List.perm_middle.symm⟩
/-- What lies beside, and the way back. -/
theorem ExIs.beside (h : ExIs B w0 w xb P A F c) : ∃ O, St B w0 w (O ++ F) ∧ ∀ w' F', St B w0 w' (O ++ F') → ExIs B w0 w' xb P A F' c := by
  obtain ⟨L, v, tv, R, Q, e, h1, h2⟩ := h
  exact ⟨_, h2, fun w' F' h3 => ⟨L, v, tv, R, Q, e, h1, h3⟩⟩

theorem has_is (h : ExIs B w0 w xb P A F c) (n : List UInt8) : Calls Tryz.prog 23 #[bpt xb, tx n] w fun e w' => e = .returned (.bool (hasX P n)) ∧ w' = w := by
  obtain ⟨L, v, tv, R, Q, rfl, h1, h2⟩ := h
  exact xhas_any h1 h2 n
theorem names_is (h : ExIs B w0 w xb P A F c) : Calls Tryz.prog 21 #[bpt xb] w fun e w' => ∃ u S, e = .returned u ∧ TssIs u (P.map (·.1)) S ∧ ExIs B w0 w' xb P A (S ++ F) c := by
  obtain ⟨L, v, tv, R, Q, rfl, h1, h2⟩ := h
  refine (xnames_any h1 h2).mono ?_
  rintro e w' ⟨u, S, rfl, hu, h3⟩
  rw [List.map_map]
  refine ⟨u, S, rfl, hu, L, v, tv, R, Q, rfl, h1, h3.perm ?_⟩
  rw [List.append_assoc]
  exact List.Perm.append_left _ List.perm_append_comm
theorem exof_is (h : ExIs B w0 w xb P A F c) (n : List UInt8) : Calls Tryz.prog 26 #[bpt xb, tx n] w fun e w' => ∃ u S, e = .returned u ∧ BnsIs u (ofB A n) S ∧ ExIs B w0 w' xb P A (S ++ F) c := by
  obtain ⟨L, v, tv, R, Q, rfl, h1, h2⟩ := h
  refine (xof_any h1.tab h1.fine.rows.few h2 n).mono ?_
  rintro e w' ⟨u, S, tv', Q', rfl, hu, ht, h3⟩
  exact ⟨u, S, rfl, hu, L, v, tv', R, Q', rfl, h1.retab ht, h3⟩

theorem fits1 (key : List UInt8) : fitsK 1 key = fun b => b.2.2 == key := by funext b; simp [fitsK]
theorem fits2 (key : List UInt8) : fitsK 2 key = fun b => true := by funext b; simp [fitsK]
theorem fits3 (key : List UInt8) : fitsK 3 key = fun b => gl (wordsL b.2.2) (wordsL key) := by funext b; simp [fitsK]
theorem route1 (A : List Bnd) (n key : List UInt8) : routeL 1 A n key = onceL [] ((A.filter fun b => b.1 == n && b.2.2 == key).map (·.2.1)) := by
  rw [routeL, fits1, ← filter_and]
  rfl
theorem route2 (A : List Bnd) (n key : List UInt8) : routeL 2 A n key = onceL [] ((ofB A n).map (·.2.1)) := by
  rw [routeL, fits2]
  congr 2
  exact List.filter_eq_self.2 fun _ _ => rfl
theorem route3 (A : List Bnd) (n key : List UInt8) : routeL 3 A n key = onceL [] (((ofB A n).filter fun b => gl (wordsL b.2.2) (wordsL key)).map (·.2.1)) := by rw [routeL, fits3]

/-- Behind Route. -/
def RouR (B : Nat) (w0 : World) (xb : Nat) (P : List Plc) (A : List Bnd) (F : List (Nat × Obj)) (c : Nat) (l : List (List UInt8)) (u : Value) (w' : World) : Prop := ∃ S, TssIs u l S ∧ ExIs B w0 w' xb P A (S ++ F) c
/-- Behind matching, in Route. -/
def MatM (B : Nat) (w0 : World) (xb : Nat) (P : List Plc) (A : List Bnd) (F : List (Nat × Obj)) (c : Nat) (rows : List Bnd) (u : Value) (w' : World) : Prop := ∃ S, BnsIs u rows S ∧ ExIs B w0 w' xb P A (S ++ F) c
theorem MatM.queues (h : MatM B w0 xb P A F c rows u w) (hr : ∀ b ∈ rows, b ∈ A) (hl : rows.length ≤ 40) : Calls Tryz.prog 59 #[u] w fun e w' => ∃ u, e = .returned u ∧ RouR B w0 xb P A F c (onceL [] (rows.map (·.2.1))) u w' ∧ Below w.heap.size w w' := by
  obtain ⟨S, hu, hE⟩ := h
  have hf := hE.fine.rows.fit
  obtain ⟨O, h1, back⟩ := hE.beside
  have hrd := hu.read (A := O ++ F) (h1.perm (by
    refine perm_by fun a => ?_
    simp only [List.count_append]
    omega))
  refine (queues_any hrd (by omega) (fun b hb => (hf b (hr b hb)).max.2.1)).mono ?_
  rintro e w' ⟨u2, S2, rfl, hu2, h2⟩
  refine ⟨u2, rfl, ⟨S2, hu2, back _ _ (((h1.join h2).sub (H' := O ++ F ++ S2) ?_).perm ?_)⟩, h2.below⟩
  · exact List.Sublist.append (List.Sublist.append (List.Sublist.refl _) (List.sublist_append_right _ _)) (List.Sublist.refl _)
  · refine perm_by fun a => ?_
    simp only [List.count_append]
    omega

set_option maxHeartbeats 4000000 in
theorem route_is (h : ExIs B w0 w xb P A F c) (ex key : List UInt8) (hk : key.length ≤ 1000) (hc : c ≤ 100000) :
    Calls Tryz.prog 18 #[bpt xb, tx ex, tx key] w fun e w' => ∃ u, e = .returned (.tuple #[u, .bool (routeX P A ex key).2]) ∧ RouR B w0 xb P A F c (routeX P A ex key).1 u w' := by
  have hall := Lib.hid h
  obtain ⟨L, v, tv, R, Q, rfl, h, hst⟩ := h
  have few := h.fine.few
  rw [List.length_map] at few
  by_cases hn : ex = []
  · have e : routeX (L.map Pl.d) A ex key = ([key], true) := by rw [routeX, if_pos hn]
    rw [e]
    subst hn
    have c1 := Lib.hid (clone_any key w (by omega))
    have fin : Hid (∀ w1, Below w.heap.size w w1 → RouR B w0 xb (L.map Pl.d) A F c [key] (.slice (some ⟨w1.heap.size, 0, none⟩) 1 1) (w1.alloc (.cells #[tx key] 9))) := Lib.hid fun w1 hb =>
      ⟨[(w1.heap.size, .cells #[tx key] 9)], SlIs.made (cs := [tx key]) rfl (by unfold maxLen; omega), (hall.out.grow hb).alloc _⟩
    clear h hst e
    go_enter Tryz.func18, Tryz.ntmps18
    go_wp2_with fail
    refine c1.out.mono ?_
    rintro e w1 ⟨rfl, hb⟩
    replace fin := Lib.hid (fin.out _ hb)
    clear hb
    go_wp2_with fail
    go_ret2
    exact ⟨_, rfl, fin.out⟩
  have h0B : (ex == []) = false := by simpa using hn
  have h0C : ex.isEmpty = false := by simpa using hn
  have c1 := Lib.hid (xfind_any h hst ex)
  unfold ptrF at c1
  cases hp : findL L ex with
  | none =>
    have e : routeX (L.map Pl.d) A ex key = ([], false) := by rw [routeX, if_neg hn, findL_d, hp]; rfl
    rw [e]
    rw [hp] at c1
    simp only [Option.map_none] at c1
    have fin : Hid (RouR B w0 xb (L.map Pl.d) A F c [] (.slice none 0 0) w) := Lib.hid ⟨[], TssIs.nil, hall.out⟩
    clear h hst e hall
    go_enter Tryz.func18, Tryz.ntmps18
    go_wp2_with fail
    refine c1.out.mono ?_
    rintro e w1 ⟨rfl, rfl⟩
    go_wp2_with fail
    go_ret2
    exact ⟨_, rfl, fin.out⟩
  | some p =>
    rw [hp] at c1
    simp only [Option.map_some] at c1
    obtain ⟨hm, hpn⟩ := findL_mem hp
    obtain ⟨-, p1, -, p3⟩ := hst.place hm
    have e : routeX (L.map Pl.d) A ex key = (routeL p.d.2.1 A ex key, true) := by rw [routeX, if_neg hn, findL_d, hp]; rfl
    rw [e]
    have hkd := h.fine.each p.d (List.mem_map_of_mem hm)
    have hof : (ofB A ex).length ≤ 40 := Nat.le_trans (List.length_filter_le _ _) h.fine.rows.few
    have hofm : ∀ b ∈ ofB A ex, b ∈ A := fun b hb => (List.mem_filter.1 hb).1
    obtain ⟨Xl, Yl, rfl⟩ := List.append_of_mem hm
    have hpok := h.pls p hm
    by_cases hk1 : p.d.2.1 = 1
    · rw [hk1] at p1 ⊢
      rw [route1]
      have ctab := Lib.hid (xtable_is h.tab hst)
      have ckey : Hid (∀ tb w1, TabM B w0 xb v (Xl ++ p :: Yl) R F A tb w1 → Calls Tryz.prog 58 #[bpt tb, tx ex, tx key] w1 fun e w' => ∃ u, e = .returned u ∧ RouR B w0 xb ((Xl ++ p :: Yl).map Pl.d) A F c (onceL [] ((A.filter fun b => b.1 == ex && b.2.2 == key).map (·.2.1))) u w') := Lib.hid fun tb w1 hT => by
        refine (keyed_is hT (by have := h.fine.rows.few; omega) h.fine.rows.fit ex key rfl).mono ?_
        rintro e w' ⟨u, S, rfl, hu, h2⟩
        have hT2 : TabM B w0 xb v (Xl ++ p :: Yl) R (F ++ S) A tb w' := by
          unfold TabM
          rw [← List.append_assoc]
          exact h2
        obtain ⟨Q', ht', h3⟩ := hT2.of
        exact ⟨u, rfl, S, hu, ExIs.permF ⟨_, v, bpt tb, R, Q', rfl, h.retab ht', h3⟩ List.perm_append_comm⟩
      generalize onceL [] ((A.filter fun b => b.1 == ex && b.2.2 == key).map (·.2.1)) = l2 at *
      generalize p.b = pb at *
      generalize (Xl ++ p :: Yl).map Pl.d = P at *
      clear h hst e hall hpok hm hp hofm hof hkd
      go_enter Tryz.func18, Tryz.ntmps18
      go_wp2_with fail
      refine c1.out.mono ?_
      rintro e w1 ⟨rfl, rfl⟩
      go_wp2_with fail
      refine ctab.out.mono ?_
      rintro e w2 ⟨tb, rfl, hT⟩
      replace ckey := Lib.hid (ckey.out _ _ hT)
      clear hT ctab c1
      go_wp2_with fail
      refine ckey.out.mono ?_
      rintro e w3 ⟨u, rfl, S, hu, hE⟩
      have fin : Hid (RouR B w0 xb P A F c l2 u w3) := Lib.hid ⟨S, hu, hE⟩
      obtain ⟨au, cu, rfl⟩ := hu.form
      generalize l2.length = q0 at *
      clear hu hE ckey
      go_wp2_with fail
      go_ret2
      exact ⟨_, rfl, fin.out⟩
    · by_cases hk2 : p.d.2.1 = 2
      · rw [hk2] at p1 ⊢
        rw [route2]
        have cof : Hid (Calls Tryz.prog 26 #[bpt xb, tx ex] w fun e w' => ∃ a cap, e = .returned (.slice a (ofB A ex).length cap) ∧ MatM B w0 xb ((Xl ++ p :: Yl).map Pl.d) A F c (ofB A ex) (.slice a (ofB A ex).length cap) w') := Lib.hid (by
          refine (exof_is hall.out ex).mono ?_
          rintro e w' ⟨u, S, rfl, hu, hE⟩
          obtain ⟨a, cap, rfl⟩ := hu.form
          exact ⟨a, cap, rfl, S, hu, hE⟩)
        have cqu := Lib.hid (fun u w1 (hM : MatM B w0 xb ((Xl ++ p :: Yl).map Pl.d) A F c (ofB A ex) u w1) => hM.queues hofm hof)
        generalize onceL [] ((ofB A ex).map (·.2.1)) = l2 at *
        generalize p.b = pb at *
        generalize (Xl ++ p :: Yl).map Pl.d = P at *
        clear h hst e hall hpok hm hp hofm hof hkd
        go_enter Tryz.func18, Tryz.ntmps18
        go_wp2_with fail
        refine c1.out.mono ?_
        rintro e w1 ⟨rfl, rfl⟩
        go_wp2_with fail
        refine cof.out.mono ?_
        rintro e w2 ⟨a, cap, rfl, hM⟩
        replace cqu := Lib.hid (cqu.out _ _ hM)
        clear hM cof c1
        go_wp2_with fail
        refine cqu.out.mono ?_
        rintro e w3 ⟨u, rfl, ⟨S, hu, hE⟩, -⟩
        have fin : Hid (RouR B w0 xb P A F c l2 u w3) := Lib.hid ⟨S, hu, hE⟩
        obtain ⟨au, cu, rfl⟩ := hu.form
        generalize l2.length = q0 at *
        clear hu hE cqu
        go_wp2_with fail
        go_ret2
        exact ⟨_, rfl, fin.out⟩
      · have hk3 : p.d.2.1 = 3 := by omega
        rw [hk3] at p1 ⊢
        rw [route3]
        obtain ⟨k, hkk⟩ : ∃ k, p.k = some k := by
          have := hpok.has
          rw [hk3] at this
          exact Option.isSome_iff_exists.1 this
        have ekp : kpt p.k = bpt k.kb := by rw [hkk]; rfl
        rw [ekp] at p3
        have hcell : ∀ w' tv' Q' F', St B w0 w' (exO xb v tv' (Xl ++ p :: Yl) R Q' ++ F') → w'.cell? ⟨p.b, 3, none⟩ = some (bpt k.kb) := fun w' tv' Q' F' h' => by
          have := (h'.place hm).2.2.2
          rwa [ekp] at this
        have cof : Hid (∀ w1, St B w0 w1 (exO xb v tv (Xl ++ p :: Yl) R Q ++ F) → Calls Tryz.prog 26 #[bpt xb, tx ex] w1 fun e w' => ∃ a cap, e = .returned (.slice a (ofB A ex).length cap) ∧ OfM B w0 xb v (Xl ++ p :: Yl) R F A (ofB A ex) (.slice a (ofB A ex).length cap) w' ∧ w'.cell? ⟨p.b, 3, none⟩ = some (bpt k.kb)) := Lib.hid fun w1 h1 => by
          refine (xof_any h.tab h.fine.rows.few h1 ex).mono ?_
          rintro e w' ⟨u, S, tv', Q', rfl, hu, ht', h2⟩
          obtain ⟨a, cap, rfl⟩ := hu.form
          exact ⟨a, cap, rfl, ⟨S, tv', Q', hu, ht', h2⟩, hcell _ _ _ _ h2⟩
        have cmat : Hid (∀ w1 u, OfM B w0 xb v (Xl ++ p :: Yl) R F A (ofB A ex) u w1 → Calls Tryz.prog 60 #[bpt k.kb, u, tx key] w1 fun e w' => ∃ z, e = .returned z ∧ MatM B w0 xb ((Xl ++ p :: Yl).map Pl.d) A F c ((ofB A ex).filter fun b => gl (wordsL b.2.2) (wordsL key)) z w' ∧ w'.cell? ⟨p.b, 3, none⟩ = some (bpt k.kb)) := Lib.hid fun w1 u hO => by
          obtain ⟨S, tv', Q', hu, ht', h2⟩ := hO
          have hky := hpok.ky k hkk
          unfold keysOf at hky
          rw [hpn] at hky
          have h3 : St B w0 w1 (k.objs ++ (S ++ (((exO xb v tv' (Xl ++ Yl) R Q' ++ [(p.b, .cells #[tx p.d.1, .int .i64 p.d.2.1, .bool p.d.2.2, kpt p.k] 79)])) ++ F))) := h2.perm ((kobjs_split hkk).trans (by
            refine perm_by fun a => ?_
            simp only [List.count_append, List.count_cons, List.append_assoc, List.count_nil]
            omega))
          refine (matching_any hky h3 hu key hk hc (by omega)).mono ?_
          rintro e w' ⟨k', z, Z, rfl, e1, hk', hz, h4⟩
          have hok : PlOk A c ⟨p.b, p.d, some k'⟩ := ⟨by
            have := hpok.has
            rw [hkk] at this
            exact this, fun k2 hk2 => by
              cases hk2
              unfold keysOf
              dsimp only
              rw [hpn]
              exact hk'⟩
          have h5 : St B w0 w' (exO xb v tv' (Xl ++ ⟨p.b, p.d, some k'⟩ :: Yl) R Q' ++ (Z ++ F)) := h4.perm (by
            refine List.Perm.trans ?_ (kobjs_split (p := ⟨p.b, p.d, some k'⟩) rfl).symm
            have e2 : kpt (some k') = kpt p.k := by rw [hkk]; unfold kpt; rw [Option.map_some, Option.map_some, e1]
            refine perm_by fun a => ?_
            simp only [e2, List.count_append, List.count_cons, List.append_assoc, List.count_nil]
            omega)
          obtain ⟨-, -, -, g3⟩ := h5.place (p := ⟨p.b, p.d, some k'⟩) (by simp)
          have e2 : kpt (some k') = bpt k.kb := by unfold kpt; rw [Option.map_some, e1]
          rw [e2] at g3
          refine ⟨z, rfl, ⟨Z, hz, Xl ++ ⟨p.b, p.d, some k'⟩ :: Yl, v, tv', R, Q', same_names (p' := ⟨p.b, p.d, some k'⟩) rfl, ⟨by rw [same_names (p := p) (p' := ⟨p.b, p.d, some k'⟩) rfl]; exact h.fine, by rw [same_blocks (p := p) (p' := ⟨p.b, p.d, some k'⟩) rfl, same_length (p := p) (p' := ⟨p.b, p.d, some k'⟩)]; exact h.sl, ht', fun p2 hp2 => ?_⟩, h5⟩, g3⟩
          rcases List.mem_append.1 hp2 with h' | h'
          · exact h.pls p2 (List.mem_append_left _ h')
          · rcases List.mem_cons.1 h' with rfl | h'
            · exact hok
            · exact h.pls p2 (List.mem_append_right _ (List.mem_cons_of_mem _ h'))
        have cqu := Lib.hid (fun u w1 (hM : MatM B w0 xb ((Xl ++ p :: Yl).map Pl.d) A F c ((ofB A ex).filter fun b => gl (wordsL b.2.2) (wordsL key)) u w1) => hM.queues (fun b hb => hofm b (List.mem_filter.1 hb).1) (Nat.le_trans (List.length_filter_le _ _) hof))
        have cqu2 : Hid (∀ u w1, MatM B w0 xb ((Xl ++ p :: Yl).map Pl.d) A F c ((ofB A ex).filter fun b => gl (wordsL b.2.2) (wordsL key)) u w1 → w1.cell? ⟨p.b, 3, none⟩ = some (bpt k.kb) → Calls Tryz.prog 59 #[u] w1 fun e w' => (∃ a q cap, e = .returned (.slice a q cap) ∧ RouR B w0 xb ((Xl ++ p :: Yl).map Pl.d) A F c (onceL [] (((ofB A ex).filter fun b => gl (wordsL b.2.2) (wordsL key)).map (·.2.1))) (.slice a q cap) w' ∧ w'.cell? ⟨p.b, 3, none⟩ = some (bpt k.kb))) := Lib.hid fun u w1 hM hc1 => by
          refine (cqu.out u w1 hM).mono ?_
          rintro e w' ⟨u2, rfl, ⟨S, hu, hE⟩, hb⟩
          obtain ⟨a, cap, rfl⟩ := hu.form
          exact ⟨a, _, cap, rfl, ⟨S, hu, hE⟩, cellOn (c := (p.b, 3)) hc1 hb⟩
        have hd : St B w0 w.drew (exO xb v tv (Xl ++ p :: Yl) R Q ++ F) := hst.drew
        have hs0 := Lib.hid (hcell _ _ _ _ hd)
        generalize onceL [] (((ofB A ex).filter fun b => gl (wordsL b.2.2) (wordsL key)).map (·.2.1)) = l2 at *
        generalize p.b = pb at *
        generalize (Xl ++ p :: Yl).map Pl.d = P at *
        generalize k.kb = kb at *
        clear h hst e hall hpok hm hp hofm hof hkd hcell cqu
        go_enter Tryz.func18, Tryz.ntmps18
        go_wp2_with fail
        refine c1.out.mono ?_
        rintro e w1 ⟨rfl, rfl⟩
        go_wp2_with fail
        go_region_held3 (fun x => x.cell? ⟨pb, 3, none⟩ = some (bpt kb)) (first | exact kS | exact hs0.out) (first
          | (go_at_call 26; refine (cof.out _ (by assumption)).mono ?_; rintro e w'' ⟨a2, cap2, rfl, hO, kS⟩)
          | (go_at_call 60; refine (cmat.out _ _ (by assumption)).mono ?_; rintro e w'' ⟨z, rfl, hM, kS⟩)
          | (go_at_call 59; refine (cqu2.out _ _ (by assumption) (by assumption)).mono ?_; rintro e w'' ⟨a3, q3, cap3, rfl, hR, kS⟩))
        replace hR := Lib.hid hR
        clear hO hM hd cof cmat cqu2
        go_wp2_with fail
        go_ret2
        exact ⟨_, rfl, hR.out⟩
end
end Go.Proofs.YtoecaonmehbfeaaGreat

/- 'append' of whatever elements: copies, pieces put together. -/
namespace Go.Proofs.YtoecaonmehbfeaaGreat
open Go.RowKit
set_option linter.unusedVariables false

/-- What 'append' asks of a slice's type. -/
structure Ap (P : Program) (ts e : TypeId) (size bytes : Nat) : Prop where
  ty : P.underlying ts = some (.slice e)
  info : ∃ i z, P.info? e = some i ∧ i.zero = some z ∧ i.size = size ∧ i.bytes = bytes ∧ z.cells.size = size
/-- A run of 'append', told as one fact (its worlds are compared, not its text). -/
structure AppRun (P : Program) (T : TypeId) (x y : Value) (w : World) (v : Value) (w' : World) : Prop where
  run : (Builtin.append_ #[T, T] 0 #[x, y]).run P w = .ok v w'
theorem step_app {P : Program} {w w' : World} {ops : Array Oper} {o : Oper} {a : Act} {K : Act → World → Prop} {Q : Exit → Act → World → Prop} {E : Prop} {x y v' : Value} (d s : Operand) (T : TypeId)
    (hr : AppRun P T x y w v' w') (hgd : o.guard = none) (ho : o.op = .call { callee := .builtin .append, args := #[d, s], argTypes := #[T, T] }) (hed : a.eval d = x) (hes : a.eval s = y)
    (h : K (a.put o.dst v') w') : if Region.wanted o (yielded ops a.tmps) = true then Oper.wp P o a w K Q else E :=
  step_append_go hgd d s T T ho x y hed hes hr.run h
section
variable {P : Program} {B : Nat} {w0 w : World} {A F : List (Nat × Obj)} {ts e : TypeId} {size bytes n m : Nat} {v x : Value} {xs news : List Value}
theorem Ap.append (hA : Ap P ts e size bytes) (hs : SlIs e size v n xs F) (hst : St B w0 w (A ++ F)) (hx : Reads w x m size news) (h1 : ∀ u ∈ news, u.oneCell' = true) (h63 : n + m ≤ maxLen) (hb : (n + m) * bytes ≤ 140737488355328) :
    ∃ a c W F', (Builtin.append_ #[ts, ts] 0 #[v, x]).run P w = .ok (.slice a (n + m) c) W ∧ SlIs e size (.slice a (n + m) c) (n + m) (xs ++ news) F' ∧ St B w0 W (A ++ F') := by
  obtain ⟨i, z, hi, hz, hs1, hs2, hs3⟩ := hA.info
  obtain ⟨v', W, F', h2, h3, h4⟩ := run_append_sl ts 0 e i z size bytes hA.ty hi hz hs1 hs2 hs3 hs hst hx h1 h63 hb
  obtain ⟨a, c, rfl, -⟩ := h3.form
  exact ⟨a, c, W, F', h2, h3, h4⟩
theorem Ap.copy (hA : Ap P ts e size bytes) (hst : St B w0 w A) (hx : Reads w x m size news) (h1 : ∀ u ∈ news, u.oneCell' = true) (h63 : m ≤ maxLen) (hb : m * bytes ≤ 140737488355328) :
    ∃ a c W F', (Builtin.append_ #[ts, ts] 0 #[.slice none 0 0, x]).run P w = .ok (.slice a m c) W ∧ SlIs e size (.slice a m c) m news F' ∧ St B w0 W (A ++ F') := by
  obtain ⟨a, c, W, F', h2, h3, h4⟩ := hA.append (SlIs.nil (T := e) (size := size)) (A := A) (by rw [List.append_nil]; exact hst) hx h1 (by omega) (by rw [Nat.zero_add]; exact hb)
  rw [Nat.zero_add] at h2 h3
  rw [List.nil_append] at h3
  exact ⟨a, c, W, F', h2, h3, h4⟩
/-- A piece of a slice that is owned. -/
theorem Ap.piece (hA : Ap P ts e size bytes) (h : SlIs e size v n xs F) (k : Nat) (hk : k ≤ n) :
    ∃ a1 c1 a2 c2, SlIs e size (.slice a1 k c1) k (xs.take (k * size)) F ∧ SlIs e size (.slice a2 (n - k) c2) (n - k) (xs.drop (k * size)) F ∧
      (∀ w, (Instr.slice ts v none (some (.int .i64 k)) none).run P w = .ok (.slice a1 k c1) w) ∧ (∀ w, (Instr.slice ts v (some (.int .i64 k)) none none).run P w = .ok (.slice a2 (n - k) c2) w) := by
  obtain ⟨i, z, hi, hz, hs1, hs2, hs3⟩ := hA.info
  obtain ⟨v1, h1, -, -, r1⟩ := run_piece hA.ty hi hs1 h 0 k (by omega) hk
  obtain ⟨v2, h2, -, r2, -⟩ := run_piece hA.ty hi hs1 h k n hk (by omega)
  obtain ⟨a1, c1, rfl, -⟩ := h1.form
  obtain ⟨a2, c2, rfl, -⟩ := h2.form
  rw [Nat.zero_mul, List.drop_zero, Nat.sub_zero] at h1
  rw [List.take_of_length_le (by
    rw [List.length_drop, h.len]
    have : (n - k) * size = n * size - k * size := Nat.sub_mul _ _ _
    omega)] at h2
  rw [Nat.sub_zero] at r1
  exact ⟨a1, c1, a2, c2, h1, h2, fun w => r1 rfl w, fun w => r2 rfl w⟩
end
end Go.Proofs.YtoecaonmehbfeaaGreat

/- The document's exchanges in memory: at, Has, Names, gone. -/
namespace Go.Proofs.YtoecaonmehbfeaaGreat
open Go.RowKit
set_option linter.unusedVariables false
set_option maxRecDepth 100000

def exC (p : Plc) : List Value := [tx p.1, .int .i64 p.2.1, .int .i64 (if p.2.2 = true then 2 else 0)]
def exsV (P : List Plc) : List Value := P.flatMap exC
theorem exsV_cons (p : Plc) (P : List Plc) : exsV (p :: P) = tx p.1 :: .int .i64 p.2.1 :: .int .i64 (if p.2.2 = true then 2 else 0) :: exsV P := rfl
theorem exsV_append (P Q : List Plc) : exsV (P ++ Q) = exsV P ++ exsV Q := by simp [exsV]
theorem exsV_len : ∀ (P : List Plc), (exsV P).length = P.length * 3
  | [] => rfl
  | p :: P => by rw [exsV_cons, List.length_cons, List.length_cons, List.length_cons, exsV_len P, List.length_cons]; omega
theorem exsV_at : ∀ {P : List Plc} {i : Nat} {p : Plc}, P[i]? = some p → (exsV P)[i * 3]? = some (tx p.1) ∧ (exsV P)[i * 3 + 1]? = some (.int .i64 p.2.1) ∧ (exsV P)[i * 3 + 2]? = some (.int .i64 (if p.2.2 = true then 2 else 0))
  | [], _, _, h => by simp at h
  | f :: P, 0, g, h => by simp at h; subst h; simp [exsV_cons]
  | f :: P, i + 1, g, h => by
    have := exsV_at (P := P) (i := i) (p := g) (by simpa using h)
    rw [exsV_cons, show (i + 1) * 3 = i * 3 + 1 + 1 + 1 by omega, show i * 3 + 1 + 1 + 1 + 1 = (i * 3 + 1) + 1 + 1 + 1 by omega, show i * 3 + 1 + 1 + 1 + 2 = (i * 3 + 2) + 1 + 1 + 1 by omega]
    simpa using this
theorem exsV_one (P : List Plc) : ∀ u ∈ exsV P, u.oneCell' = true := by
  intro u hu
  obtain ⟨f, _, hf⟩ := List.mem_flatMap.1 hu
  simp only [exC, List.mem_cons, List.not_mem_nil, or_false] at hf
  rcases hf with rfl | rfl | rfl <;> rfl
theorem exsV_take (P : List Plc) (k : Nat) : (exsV P).take (k * 3) = exsV (P.take k) := by
  induction P generalizing k with
  | nil => simp [exsV]
  | cons p P ih =>
    cases k with
    | zero => simp [exsV]
    | succ k =>
      rw [exsV_cons, show (k + 1) * 3 = k * 3 + 1 + 1 + 1 by omega, List.take_succ_cons, List.take_succ_cons, List.take_succ_cons, ih, List.take_succ_cons, exsV_cons]
theorem exsV_drop (P : List Plc) (k : Nat) : (exsV P).drop (k * 3) = exsV (P.drop k) := by
  induction P generalizing k with
  | nil => simp [exsV]
  | cons p P ih =>
    cases k with
    | zero => simp
    | succ k =>
      rw [exsV_cons, show (k + 1) * 3 = k * 3 + 1 + 1 + 1 by omega, List.drop_succ_cons, List.drop_succ_cons, List.drop_succ_cons, ih, List.drop_succ_cons]
theorem apEx : Ap Tryz.prog 27 69 3 32 := by
  have h : (Tryz.prog.info? 69).map (fun i => (i.zero, i.size, i.bytes)) = some (some (.agg #[tx [], .int .i64 0, .int .i64 0]), 3, 32) := by kernel_rfl
  obtain ⟨i0, hi0, hz0, hz1, hz2⟩ := info_parts h
  exact ⟨by kernel_rfl, i0, _, hi0, hz0, hz1, hz2, rfl⟩

def ExsIs (v : Value) (P : List Plc) (R : List (Nat × Obj)) : Prop := SlIs 69 3 v P.length (exsV P) R
/-- At rb there lie the document's exchanges; beside them is owned what F lists. -/
def RxIs (B : Nat) (w0 w : World) (rb : Nat) (P : List Plc) (A : List Bnd) (F : List (Nat × Obj)) : Prop :=
  ∃ lv R, ExsIs lv P R ∧ TcIs 32 lv B w0 w rb A (R ++ F)

/-- Where a name stands. -/
def ixP (P : List Plc) (n : List UInt8) : Option Nat := P.findIdx? fun p => p.1 == n
def ixV (P : List Plc) (n : List UInt8) : Int := match ixP P n with | some i => i | none => -1
theorem ix_cases (P : List Plc) (n : List UInt8) : (findP P n = none ∧ ixV P n = -1) ∨ ∃ (i : Nat) (p : Plc), findP P n = some p ∧ ixV P n = i ∧ P[i]? = some p ∧ p.1 = n := by
  cases h : ixP P n with
  | none =>
    refine .inl ⟨?_, by rw [ixV, h]⟩
    unfold ixP at h
    rw [List.findIdx?_eq_none_iff] at h
    unfold findP
    rw [List.find?_eq_none]
    intro p hp
    simpa using h p hp
  | some i =>
    have h2 := h
    unfold ixP at h2
    rw [List.findIdx?_eq_some_iff_getElem] at h2
    obtain ⟨hl, h3, h4⟩ := h2
    refine .inr ⟨i, P[i], ?_, by rw [ixV, h], List.getElem?_eq_getElem hl, by simpa using h3⟩
    unfold findP
    have e : P = P.take i ++ P[i] :: P.drop (i + 1) := by
      have := (List.take_append_drop i P).symm
      rwa [List.drop_eq_getElem_cons hl] at this
    have h5 : (P.take i).find? (fun p => p.1 == n) = none := by
      rw [List.find?_eq_none]
      intro p hp
      obtain ⟨j, hj, rfl⟩ := List.getElem_of_mem hp
      rw [List.length_take] at hj
      have := h4 j (by omega)
      simpa using this
    conv => lhs; rw [e]
    rw [List.find?_append, h5, Option.none_or, List.find?_cons_of_pos (p := fun p : Plc => p.1 == n) h3]

section
variable {B : Nat} {w0 w w' : World} {F F' T R Q S : List (Nat × Obj)} {rb : Nat} {A A' : List Bnd} {P P' : List Plc} {v tv u lv : Value} {n x : List UInt8} {l : List (List UInt8)} {b : Bnd} {p : Plc}

theorem RxIs.sub (h : RxIs B w0 w rb P A F) (hs : F'.Sublist F) : RxIs B w0 w rb P A F' := by
  obtain ⟨lv, R, h1, h2⟩ := h
  exact ⟨lv, R, h1, h2.sub ((List.Sublist.refl _).append hs)⟩
theorem RxIs.grow (h : RxIs B w0 w rb P A F) (hb : Below w.heap.size w w') : RxIs B w0 w' rb P A F := by
  obtain ⟨lv, R, h1, h2⟩ := h
  exact ⟨lv, R, h1, h2.grow hb⟩
/-- Seen as blocks: the head, the exchanges' row, what is beside. -/
theorem RxIs.open (h : RxIs B w0 w rb P A F) : ∃ lv tv R Q, ExsIs lv P R ∧ BnsIs tv A Q ∧ St B w0 w ((rb, .cells #[lv, tv] 32) :: (Q ++ F) ++ R) := by
  obtain ⟨lv, R, h1, tv, Q, h2, h3⟩ := h
  refine ⟨lv, tv, R, Q, h1, h2, h3.perm ?_⟩
  refine perm_by fun a => ?_
  simp only [List.count_append, List.count_cons, List.append_assoc, List.cons_append]
  omega
theorem RxIs.shut (h1 : ExsIs lv P R) (h2 : BnsIs tv A Q) (h3 : St B w0 w ((rb, .cells #[lv, tv] 32) :: (Q ++ F) ++ R)) : RxIs B w0 w rb P A F := by
  refine ⟨lv, R, h1, tv, Q, h2, h3.perm ?_⟩
  refine perm_by fun a => ?_
  simp only [List.count_append, List.count_cons, List.append_assoc, List.cons_append]
  omega
/-- The head's first cell, the exchanges' cells. -/
theorem RxIs.form (h : RxIs B w0 w rb P A F) : ∃ a cap, w.cell? ⟨rb, 0, none⟩ = some (.slice a P.length cap) ∧ w.frozen? ⟨rb, 0, none⟩ = false ∧ ∀ (i : Nat) p, P[i]? = some p → ∃ g off, a = some ⟨g, off, none⟩ ∧ w.cell? ⟨g, off + i * 3, none⟩ = some (tx p.1) ∧ w.cell? ⟨g, off + i * 3 + 1, none⟩ = some (.int .i64 p.2.1) ∧
    w.cell? ⟨g, off + i * 3 + 2, none⟩ = some (.int .i64 (if p.2.2 = true then 2 else 0)) := by
  obtain ⟨lv, tv, R, Q, h1, -, h3⟩ := h.open
  have h1' : SlIs _ _ _ _ _ _ := h1
  obtain ⟨a, cap, rfl, -, -, ha⟩ := h1'.form
  refine ⟨a, cap, h3.cell (b := rb) (i := 0) (List.mem_append_left _ List.mem_cons_self) rfl, h3.soft (b := rb) (List.mem_append_left _ List.mem_cons_self) 0, fun i p hp => ?_⟩
  obtain ⟨g, off, rfl⟩ := ha i (List.getElem?_eq_some_iff.1 hp).1
  obtain ⟨e1, e2, e3⟩ := exsV_at hp
  exact ⟨g, off, rfl, h1'.cellAt h3 e1, h1'.cellAt h3 e2, h1'.cellAt h3 e3⟩

set_option maxHeartbeats 1000000 in
theorem rat_any (h : RxIs B w0 w rb P A F) (few : P.length ≤ 8) (n : List UInt8) : Calls Tryz.prog 36 #[bpt rb, tx n] w fun e w' => e = .returned (.int .i64 (ixV P n)) ∧ w' = w := by
  obtain ⟨a, cap, c0, -, hrows⟩ := h.form
  replace hrows := Lib.hid hrows
  have here : Hid (∀ (i : Nat) p, (∀ q ∈ P.take i, q.1 ≠ n) → P[i]? = some p → p.1 = n → ixV P n = i) := Lib.hid fun i p hno hp hn => by
    have hl := (List.getElem?_eq_some_iff.1 hp).1
    have e : ixP P n = some i := by
      unfold ixP
      rw [List.findIdx?_eq_some_iff_getElem]
      refine ⟨hl, ?_, fun j hj => ?_⟩
      · have := (List.getElem?_eq_some_iff.1 hp).2
        rw [this]
        simpa using hn
      · have hm : P[j] ∈ P.take i := by
          rw [List.mem_take_iff_getElem]
          exact ⟨j, by omega, rfl⟩
        simpa using hno _ hm
    rw [ixV, e]
  have none_ : Hid ((∀ q ∈ P, q.1 ≠ n) → ixV P n = -1) := Lib.hid fun hno => by
    have e : ixP P n = none := by
      unfold ixP
      rw [List.findIdx?_eq_none_iff]
      intro q hq
      simpa using hno q hq
    rw [ixV, e]
  obtain ⟨ans, ha⟩ : ∃ ans, ans = ixV P n := ⟨_, rfl⟩
  rw [← ha] at here none_ ⊢
  clear h ha
  go_enter Tryz.func36, Tryz.ntmps36
  go_wp2_with fail
  go_loopg [5] P.length (fun g v5 wr => ∃ i : Nat, v5 = .int .i64 i ∧ i + g = P.length ∧ Hid (∀ q ∈ P.take i, q.1 ≠ n) ∧ wr = w)
  case atStart => exact ⟨0, rfl, by omega, Lib.hid (by simp), rfl⟩
  case round =>
    obtain ⟨i, rfl, hi, hno, rfl⟩ := hrel
    have hi0 : (0 : Int) ≤ i := by omega
    by_cases hlt : i < P.length
    · have hi1 : (i : Int) < P.length := by omega
      have hx : P[i]? = some P[i] := List.getElem?_eq_getElem hlt
      generalize P[i] = p at hx
      obtain ⟨g1, o1, rfl, k1, -⟩ := hrows.out i p hx
      by_cases hp : p.1 = n
      · obtain rfl : ans = i := here.out i p hno.out hx hp
        rw [hp] at k1
        clear hx hno hp hrows here none_
        go_wp2_with fail
        go_ret
        exact ⟨rfl, rfl⟩
      · have hpb : (p.1 == n) = false := by simpa using hp
        have nxt : Hid (∀ q ∈ P.take (i + 1), q.1 ≠ n) := Lib.hid (by
          rw [List.take_add_one, hx]
          intro q hq
          rcases List.mem_append.1 hq with hq | hq
          · exact hno.out q hq
          · simp at hq
            subst hq
            exact hp)
        generalize p.1 = m at *
        clear hx hno hp hrows here none_
        go_wp2_with fail
        go_roundg (P.length - (i + 1))
        case measure => omega
        case rel => exact ⟨i + 1, by go_num, by omega, nxt, rfl⟩
    · have hno' := hno.out
      rw [List.take_of_length_le (by omega)] at hno'
      obtain rfl : ans = -1 := none_.out hno'
      clear hno hno' hrows here none_
      go_wp2_with fail
      go_ret
      exact ⟨rfl, rfl⟩
theorem rhas_is (h : RxIs B w0 w rb P A F) (few : P.length ≤ 8) (n : List UInt8) : Calls Tryz.prog 24 #[bpt rb, tx n] w fun e w' => e = .returned (.bool (hasX P n)) ∧ w' = w := by
  have c1 := Lib.hid (rat_any h few n)
  clear h
  unfold hasX
  by_cases hn : n = []
  · subst hn
    clear c1
    go_enter Tryz.func24, Tryz.ntmps24
    go_wp2_with fail
    go_ret
    exact ⟨rfl, rfl⟩
  have h0B : (n == []) = false := by simpa using hn
  have h0C : n.isEmpty = false := by simpa using hn
  rw [h0B, Bool.false_or]
  rcases ix_cases P n with ⟨e1, e2⟩ | ⟨i, p, e1, e2, -, -⟩
  · rw [e2] at c1
    rw [e1]
    clear e1 e2
    go_enter Tryz.func24, Tryz.ntmps24
    go_wp2_with fail
    refine c1.out.mono ?_
    rintro e w1 ⟨rfl, rfl⟩
    go_wp2_with fail
    go_ret
    exact ⟨rfl, rfl⟩
  · rw [e2] at c1
    rw [e1]
    have hi0 : (0 : Int) ≤ i := by omega
    clear e1 e2
    go_enter Tryz.func24, Tryz.ntmps24
    go_wp2_with fail
    refine c1.out.mono ?_
    rintro e w1 ⟨rfl, rfl⟩
    go_wp2_with fail
    go_ret
    exact ⟨by simp, rfl⟩

set_option maxHeartbeats 1000000 in
theorem rnames_is (h : RxIs B w0 w rb P A F) (few : P.length ≤ 8) : Calls Tryz.prog 22 #[bpt rb] w (OnceR w (P.map (·.1))) := by
  have facts : Hid (∀ w', Below w.heap.size w w' → ∃ a cap, w'.cell? ⟨rb, 0, none⟩ = some (.slice a P.length cap) ∧ ∀ (i : Nat) p, P[i]? = some p → ∃ g off, a = some ⟨g, off, none⟩ ∧ w'.cell? ⟨g, off + i * 3, none⟩ = some (tx p.1)) := Lib.hid fun w' hb => by
    obtain ⟨a, cap, c0, -, hr⟩ := (h.grow hb).form
    refine ⟨a, cap, c0, fun i p hp => ?_⟩
    obtain ⟨g, off, e, k1, -⟩ := hr i p hp
    exact ⟨g, off, e, k1⟩
  clear h
  go_enter Tryz.func22, Tryz.ntmps22
  go_wp2_with fail
  go_loopg [3, 4] P.length (fun g v3 v4 wr => ∃ i : Nat, v4 = .int .i64 i ∧ i + g = P.length ∧ Hid (∃ S, TssIs v3 ((P.take i).map (·.1)) S ∧ St w.heap.size w wr S))
  case atStart => exact ⟨0, rfl, by omega, Lib.hid ⟨[], TssIs.nil, St.start w⟩⟩
  case round =>
    obtain ⟨i, rfl, hi, hR⟩ := hrel
    have hi0 : (0 : Int) ≤ i := by omega
    obtain ⟨S, hs, hst⟩ := hR.out
    obtain ⟨a, cap, c0, hrows⟩ := facts.out wr hst.below
    by_cases hlt : i < P.length
    · have hi1 : (i : Int) < P.length := by omega
      have hx : P[i]? = some P[i] := List.getElem?_eq_getElem hlt
      generalize P[i] = p at hx
      obtain ⟨g1, o1, rfl, k1⟩ := hrows i p hx
      obtain ⟨a2, cap2, W2, F2, hrun, hs2, hst2⟩ := TssIs.append (X := []) hs hst p.1 (by rw [List.length_map, List.length_take]; omega)
      have ft : ((P.take i).map (·.1)) ++ [p.1] = (P.take (i + 1)).map (·.1) := by
        rw [List.take_add_one, hx, List.map_append]
        rfl
      rw [ft] at hs2
      have nxt : Hid (∃ S, TssIs (.slice a2 (((P.take i).map (·.1)).length + 1) cap2) ((P.take (i + 1)).map (·.1)) S ∧ St w.heap.size w W2 S) := Lib.hid ⟨F2, hs2, hst2⟩
      obtain ⟨au, cu, rfl⟩ := hs.form
      generalize ((P.take i).map (·.1)).length = q0 at *
      generalize p.1 = m at *
      clear hR hs hst hs2 hst2 ft hx hrows facts
      go_wp2_with (at_builtin; refine wpList_append_go rfl (.tmp 14) (.tmp 23) 45 45 rfl _ _ rfl rfl hrun ?_)
      go_roundg (P.length - (i + 1))
      case measure => omega
      case rel => exact ⟨i + 1, by go_num, by omega, nxt⟩
    · rw [List.take_of_length_le (by omega)] at hs
      obtain ⟨au, cu, e⟩ := hs.form
      rw [List.length_map] at e
      subst e
      have fin : Hid (OnceR w (P.map (·.1)) (.returned (.slice au P.length cu)) wr) := Lib.hid ⟨_, S, rfl, hs, hst⟩
      clear hR hs hst hrows facts
      go_wp2_with fail
      go_ret
      exact fin.out
end
end Go.Proofs.YtoecaonmehbfeaaGreat

/- The document's exchanges: gone. -/
namespace Go.Proofs.YtoecaonmehbfeaaGreat
open Go.RowKit
set_option linter.unusedVariables false
set_option maxRecDepth 100000

section
variable {B : Nat} {w0 w w' : World} {F F' T R Q S : List (Nat × Obj)} {rb i : Nat} {A A' : List Bnd} {P P' : List Plc} {v tv u lv : Value} {n x : List UInt8} {l : List (List UInt8)} {b : Bnd} {p : Plc}

/-- The row of exchanges without one, laid anew: the runs. -/
def GoneR (B : Nat) (w0 : World) (rb : Nat) (P : List Plc) (A : List Bnd) (F : List (Nat × Obj)) (i m : Nat) (lv : Value) (a1 : Option Addr) (c1 : Nat) (a2 : Option Addr) (c2 : Nat) (W : World) : Prop :=
  ∃ a3 c3 W2, AppRun Tryz.prog 27 (.slice none 0 0) (.slice a1 i c1) W (.slice a3 i c3) W2 ∧ W2.cell? ⟨rb, 0, none⟩ = some lv ∧
    ∃ a4 c4 W3, AppRun Tryz.prog 27 (.slice a3 i c3) (.slice a2 m c2) W2 (.slice a4 (i + m) c4) W3 ∧ W3.cell? ⟨rb, 0, none⟩ = some lv ∧ W3.frozen? ⟨rb, 0, none⟩ = false ∧ RxIs B w0 (W3.setCell ⟨rb, 0, none⟩ (.slice a4 (i + m) c4)) rb (P.eraseIdx i) A F
theorem gone_runs (h1 : ExsIs lv P R) (h2 : BnsIs tv A Q) (few : P.length ≤ 8) (hi : i < P.length) :
    ∃ a1 c1 a2 c2, (∀ w, (Instr.slice 27 lv none (some (.int .i64 i)) none).run Tryz.prog w = .ok (.slice a1 i c1) w) ∧ (∀ w, (Instr.slice 27 lv (some (.int .i64 ((i : Int) + 1))) none none).run Tryz.prog w = .ok (.slice a2 (P.length - (i + 1)) c2) w) ∧
      ∀ W, St B w0 W ((rb, .cells #[lv, tv] 32) :: (Q ++ F) ++ R) → GoneR B w0 rb P A F i (P.length - (i + 1)) lv a1 c1 a2 c2 W := by
  have h1' : SlIs _ _ _ _ _ _ := h1
  obtain ⟨a1, c1, -, -, s1, -, r1, -⟩ := apEx.piece h1' i (by omega)
  obtain ⟨-, -, a2, c2, -, s2, -, r2⟩ := apEx.piece h1' (i + 1) (by omega)
  rw [exsV_take] at s1
  rw [exsV_drop] at s2
  refine ⟨a1, c1, a2, c2, r1, fun w => ?_, fun W hst => ?_⟩
  · have := r2 w
    rw [show ((i + 1 : Nat) : Int) = (i : Int) + 1 by omega] at this
    exact this
  · obtain ⟨a3, c3, W2, F2, hr3, hs3, hst3⟩ := apEx.copy hst (s1.reads hst) (exsV_one _) (by unfold maxLen; omega) (by omega)
    have hrd2 : Reads W2 (.slice a2 (P.length - (i + 1)) c2) (P.length - (i + 1)) 3 (exsV (P.drop (i + 1))) := s2.reads (A := (rb, .cells #[lv, tv] 32) :: (Q ++ F) ++ F2) (hst3.perm (by
      refine perm_by fun a => ?_
      simp only [List.count_append, List.count_cons]
      omega))
    obtain ⟨a4, c4, W3, F4, hr4, hs4, hst4⟩ := apEx.append hs3 hst3 hrd2 (exsV_one _) (by unfold maxLen; omega) (by omega)
    have e : exsV (P.take i) ++ exsV (P.drop (i + 1)) = exsV (P.eraseIdx i) := by rw [← exsV_append, List.eraseIdx_eq_take_drop_succ]
    have el : (P.eraseIdx i).length = i + (P.length - (i + 1)) := by rw [List.length_eraseIdx, if_pos hi]; omega
    rw [e] at hs4
    have hst5 : St B w0 W3 ((rb, .cells #[lv, tv] 32) :: (Q ++ F) ++ F4) := hst4.sub (by
      refine List.Sublist.append ?_ (List.Sublist.refl _)
      exact List.sublist_append_left _ _)
    have hm3 : (rb, .cells #[lv, tv] 32) ∈ (rb, .cells #[lv, tv] 32) :: (Q ++ F) ++ R ++ F2 := by simp
    have hm5 : (rb, .cells #[lv, tv] 32) ∈ (rb, .cells #[lv, tv] 32) :: (Q ++ F) ++ F4 := by simp
    refine ⟨a3, c3, W2, ⟨hr3⟩, hst3.cell (b := rb) (i := 0) hm3 rfl, a4, c4, W3, ⟨hr4⟩, hst5.cell (b := rb) (i := 0) hm5 rfl, hst5.soft (b := rb) hm5 0, ?_⟩
    have hst6 : St B w0 (W3.setCell ⟨rb, 0, none⟩ (.slice a4 (i + (P.length - (i + 1))) c4)) ((rb, .cells #[.slice a4 (i + (P.length - (i + 1))) c4, tv] 32) :: (Q ++ F) ++ F4) := by
      have := hst5.set0 0 (.slice a4 (i + (P.length - (i + 1))) c4)
      exact this
    refine RxIs.shut ?_ h2 hst6
    show SlIs _ _ _ (P.eraseIdx i).length _ _
    rw [el]
    exact hs4
theorem RxIs.tab (h : RxIs B w0 w rb P A F) : ∃ lv R, ExsIs lv P R ∧ TcIs 32 lv B w0 w rb A (R ++ F) := h
set_option maxHeartbeats 4000000 in
theorem rgone_any (h : RxIs B w0 w rb P A F) (few : P.length ≤ 8) (fewA : A.length ≤ 40) (hx : P[i]? = some p) :
    Calls Tryz.prog 42 #[bpt rb, .int .i64 i] w fun e w' => e = .returned (.tuple #[]) ∧ RxIs B w0 w' rb (P.eraseIdx i) (A.filter fun b => !(b.1 == p.1)) F := by
  have hi := (List.getElem?_eq_some_iff.1 hx).1
  obtain ⟨a, cap, c0, -, hrows⟩ := h.form
  obtain ⟨g1, o1, rfl, k1, -⟩ := hrows i p hx
  clear hrows
  obtain ⟨lv, R, h1, hT⟩ := h.tab
  have hT' : TcIs 32 lv B w0 w.drew rb A (R ++ F) := by
    obtain ⟨tv, Q, h2, h3⟩ := hT
    exact ⟨tv, Q, h2, h3.drew⟩
  have elv : lv = .slice (some ⟨g1, o1, none⟩) P.length cap := by
    obtain ⟨tv, Q, h2, h3⟩ := hT
    have := h3.cell (b := rb) (i := 0) (List.mem_append_right _ List.mem_cons_self) rfl
    rw [this] at c0
    exact Option.some.inj c0
  subst elv
  have cdr := Lib.hid (xrdropE_any hT' (by omega) p.1)
  have runs : Hid (∀ w1, TcIs 32 (.slice (some ⟨g1, o1, none⟩) P.length cap) B w0 w1 rb (A.filter fun b => !(b.1 == p.1)) (R ++ F) → w1.cell? ⟨rb, 0, none⟩ = some (.slice (some ⟨g1, o1, none⟩) P.length cap) ∧ ∃ a1 c1 a2 c2 m, m = P.length - (i + 1) ∧
      (∀ w, (Instr.slice 27 (.slice (some ⟨g1, o1, none⟩) P.length cap) none (some (.int .i64 i)) none).run Tryz.prog w = .ok (.slice a1 i c1) w) ∧ (∀ w, (Instr.slice 27 (.slice (some ⟨g1, o1, none⟩) P.length cap) (some (.int .i64 ((i : Int) + 1))) none none).run Tryz.prog w = .ok (.slice a2 m c2) w) ∧
      GoneR B w0 rb P (A.filter fun b => !(b.1 == p.1)) F i m (.slice (some ⟨g1, o1, none⟩) P.length cap) a1 c1 a2 c2 w1.drew) := Lib.hid fun w1 hT1 => by
    obtain ⟨tv, Q, h2, h3⟩ := hT1
    obtain ⟨a1, c1, a2, c2, r1, r2, hg⟩ := gone_runs (B := B) (w0 := w0) (rb := rb) (F := F) h1 h2 few hi
    have h4 : St B w0 w1 ((rb, .cells #[.slice (some ⟨g1, o1, none⟩) P.length cap, tv] 32) :: (Q ++ F) ++ R) := h3.perm (by
      refine perm_by fun a => ?_
      simp only [List.count_append, List.count_cons, List.append_assoc, List.cons_append]
      omega)
    exact ⟨h4.cell (b := rb) (i := 0) (List.mem_append_left _ List.mem_cons_self) rfl, a1, c1, a2, c2, _, rfl, r1, r2, hg _ h4.drew⟩
  generalize (A.filter fun b => !(b.1 == p.1)) = A2 at *
  generalize p.1 = pn at *
  have hi0 : (0 : Int) ≤ i := by omega
  have hi1 : (i : Int) < P.length := by omega
  have hi8 : (i : Int) ≤ 8 := by omega
  have hwr : IntKind.i64.wrap ((i : Int) + 1) = (i : Int) + 1 := IntWalk.i64_in _ (by omega)
  clear h1 hT hT' hx h hi
  go_enter Tryz.func42, Tryz.ntmps42
  go_wp2_with fail
  go_still_tail 11, (by kernel_rfl)
  change wpList _ _ _ _ _ w.drew
  go_wp2_with fail
  refine cdr.out.mono ?_
  rintro e w1 ⟨rfl, hT1⟩
  obtain ⟨d0, a1, c1, a2, c2, m, -, r1, r2, a3, c3, W2, run1, x2, a4, c4, W3, run2, x3, f3, fin⟩ := runs.out _ hT1
  replace fin := Lib.hid fin
  clear hT1 runs cdr c0 k1
  go_wp2_with fail
  go_region_law (first
    | (refine step_app (.const (.slice none 0 0)) (.tmp 22) 27 run1 rfl rfl (by simp [Act.eval]) (by simp [Act.eval, Act.put]) ?_)
    | (refine step_app (.tmp 23) (.tmp 30) 27 run2 rfl rfl (by simp [Act.eval, Act.put]) (by simp [Act.eval, Act.put]) ?_))
  all_goals
    go_wp2_with fail
    exact bodyPost_end (results_none rfl _ _ _) rfl ⟨rfl, fin.out⟩
end
end Go.Proofs.YtoecaonmehbfeaaGreat
