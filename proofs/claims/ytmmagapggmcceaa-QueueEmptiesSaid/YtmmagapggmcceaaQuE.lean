/- A queue: one put. -/
import Derived.Test.YtmmagapggmcceaaQuD
import Derived.Test.YtmmagapggmcceaaEnC
namespace Go.Proofs.Ytmmagapggmcceaa
open Go.RowKit
open Go.ChangeMaps (setBlock)
set_option linter.unusedVariables false
set_option linter.unusedSectionVars false
set_option linter.unusedSimpArgs false
set_option maxRecDepth 100000

/-- What a put of this entry (as it is in the queue) answers, and leaves. -/
def PutP (o : Opt) (M : List Ent) (e : Ent) (ok : Bool) (W N : List Ent) : Prop :=
  (putOk M e = false ∧ ok = false ∧ W = [] ∧ N = M) ∨
  (putOk M e = true ∧ (M.length : Int) < limitO o ∧ ok = true ∧ W = [] ∧ N = insM e M) ∨
  (putOk M e = true ∧ limitO o ≤ M.length ∧ rejO o = true ∧ ok = false ∧ W = [] ∧ N = M) ∨
  (putOk M e = true ∧ limitO o ≤ M.length ∧ rejO o = false ∧ ok = true ∧ ∃ N1, Sheds M W N1 ∧ (N1.length : Int) + 1 = limitO o ∧ N = insM e N1)
theorem limit_nat (o : Opt) : ∃ l : Nat, limitO o = l ∧ 1 ≤ l ∧ l ≤ 60 := by
  refine ⟨(limitO o).toNat, ?_, ?_, ?_⟩ <;>
  · unfold limitO
    split <;> omega
section
variable {B : Nat} {w0 w w' : World} {qb rk b k l : Nat} {o : Opt} {M L : List Ent} {F F' S Y : List (Nat × Obj)} {e e0 : Ent}
def PutR (B : Nat) (w0 : World) (qb : Nat) (o : Opt) (M : List Ent) (F : List (Nat × Obj)) (e : Ent) (r : Ending) (w' : World) : Prop :=
  ∃ ok W N a c S, r = .returned (.tuple #[.bool ok, .slice a W.length c]) ∧ PutP o M e ok W N ∧ EnsIs (.slice a W.length c) W S ∧ QuIs B w0 w' qb o N (S ++ F)
theorem PutR.none_ (hp : PutP o M e false [] M) (h : QuIs B w0 w qb o M F) : PutR B w0 qb o M F e (.returned (.tuple #[.bool false, .slice none 0 0])) w := ⟨false, [], M, none, 0, [], rfl, hp, EnsIs.nil, h⟩

theorem ready_op {G : List (Nat × Obj)} (h : QuIs B w0 w qb o M ((k, enO e) :: G)) : Calls Try.prog 19 #[rptr qb] w fun r w' => ∃ rk, r = .returned (rptr rk) ∧ QuAt B w0 w' qb rk o M ((k, enO e) :: G) ∧ EnAt w' k e := by
  refine (ready_any h).mono ?_
  rintro r w' ⟨rk, rfl, h'⟩
  exact ⟨rk, rfl, h', (h'.is.at_block (k := k) (e := e) List.mem_cons_self).1⟩
theorem put_op {G : List (Nat × Obj)} (h1 : e.exch.length ≤ 140737488351232) (h2 : e.key.length ≤ 140737488351232) (hlen : M.length < 100000) {ok : Bool} (hok : putOk M e = ok) {N : List Ent} (hN : putM M e = N) (h : QuAt B w0 w qb rk o M ((k, enO e) :: G)) : Calls Try.prog 20 #[rptr rk, enV e] w fun r w' => r = .returned (.bool ok) ∧ QuIs B w0 w' qb o N ((k, enO e) :: G) ∧ EnAt w' k e := by
  subst hok hN
  refine (rk_put (e := e) h h1 h2 hlen).mono ?_
  rintro r w' ⟨rfl, h'⟩
  have h3 : QuIs B w0 w' qb o (putM M e) ((k, enO e) :: G) := .inr ⟨_, h'⟩
  exact ⟨rfl, h3, (h3.at_block (k := k) (e := e) List.mem_cons_self).1⟩
theorem drop_op {G : List (Nat × Obj)} (he : e ∈ M) {N : List Ent} (hN : delM M e.id = N) (h : QuAt B w0 w qb rk o M ((k, enO e) :: G)) : Calls Try.prog 22 #[rptr rk, .int .i64 e.id] w fun r w' => (∃ y, r = .returned (.tuple #[y, .bool true])) ∧ QuIs B w0 w' qb o N ((k, enO e) :: G) ∧ EnAt w' k e := by
  subst hN
  refine (rk_drop_hit (e := e) h he).mono ?_
  rintro r w' ⟨rfl, h'⟩
  have h3 : QuIs B w0 w' qb o (delM M e.id) ((k, enO e) :: G) := .inr ⟨_, h'⟩
  exact ⟨⟨_, rfl⟩, h3, (h3.at_block (k := k) (e := e) List.mem_cons_self).1⟩
theorem for_op {G : List (Nat × Obj)} {e' : Ent} {now : Int} (he : forE e o now = e') (h : QuIs B w0 w qb o M ((k, enO e) :: G)) : Calls Try.prog 18 #[enV e, opV o, .int .i64 now] w fun r w' => r = .returned (enV e') ∧ EnAt w' k e ∧ (∀ i, w'.frozen? ⟨k, i, none⟩ = false) ∧ QuIs B w0 (enPut w' k e') qb o M ((k, enO e') :: G) := by
  subst he
  refine (for_any e o now w).mono ?_
  rintro r w' ⟨rfl, hb⟩
  have h1 := h.grow hb
  exact ⟨rfl, (h1.at_block (k := k) (e := e) List.mem_cons_self).1, (h1.at_block (k := k) (e := e) List.mem_cons_self).2, h1.enPut⟩

set_option maxHeartbeats 4000000 in
theorem qu_put (h : QuIs B w0 w qb o M F) (h1 : e.exch.length ≤ 140737488351232) (h2 : e.key.length ≤ 140737488351232) (hlen : M.length < 90000) (now : Int) : Calls Try.prog 9 #[rptr qb, enV e, .int .i64 now] w (PutR B w0 qb o M F (forE e o now)) := by
  obtain ⟨e', he⟩ : ∃ e', forE e o now = e' := ⟨_, rfl⟩
  rw [he]
  have g1 : Hid (e'.exch.length ≤ 140737488351232) := Lib.hid (by rw [← he]; exact h1)
  have g2 : Hid (e'.key.length ≤ 140737488351232) := Lib.hid (by rw [← he]; exact h2)
  have hok := Lib.hid h.ok
  have ha : QuIs B w0 (w.alloc (enO e)).drew qb o M ((w.heap.size, enO e) :: F) := (h.alloc (enO e)).grow (drew_b _)
  obtain ⟨k0, k1, k2, k3, k4, k5, k6, k7, k8, k9⟩ := (ha.at_block (k := w.heap.size) (e := e) List.mem_cons_self).1
  obtain ⟨o0, o1, o2, o3, o4, o5⟩ := ha.ops.1
  have cf := Lib.hid (for_op he ha)
  replace hlen := Lib.hid hlen
  clear h h1 h2 ha he
  go_enter Try.func9, Try.ntmps9
  go_upto_region 1 with fail
  generalize w.heap.size = eb at *
  go_cut [] (fun wy => QuIs B w0 wy qb o M ((eb, enO e') :: F))
  case first =>
    go_region_law (go_simp; go_at_call 18; refine cf.out.mono ?_; rintro r w3 ⟨rfl, ⟨z0, z1, z2, z3, z4, z5, z6, z7, z8, z9⟩, zs, fin⟩)
    all_goals
      go_wp2_with fail
      go_meet
      case rel => exact fin
  case rest =>
    clear cf k0 k1 k2 k3 k4 k5 k6 k7 k8 k9 o0 o1 o2 o3 o4 o5
    have hR : QuIs B w0 wc.drew qb o M ((eb, enO e') :: F) := hcut.grow (drew_b _)
    have hs0 := Lib.hid (hR.at_block (k := eb) (e := e') List.mem_cons_self).1
    obtain ⟨q0, q1, q2, q3, q4, q5, q6, q7, q8, q9⟩ := (hcut.at_block (k := eb) (e := e') List.mem_cons_self).1
    clear hcut
    cases hpo : putOk M e' with
    | false =>
      have hN : putM M e' = M := by
        unfold putM
        rw [hpo]
        rfl
      have cp := Lib.hid (fun W rk (h : QuAt B w0 W qb rk o M ((eb, enO e') :: F)) => put_op g1.out g2.out (by have := hlen.out; omega) hpo hN h)
      have hfin : Hid (∀ w', QuIs B w0 w' qb o M ((eb, enO e') :: F) → PutR B w0 qb o M F e' (.returned (.tuple #[.bool false, .slice none 0 0])) w') := Lib.hid fun w' h => .none_ (.inl ⟨hpo, rfl, rfl, rfl⟩) (h.sub (List.sublist_cons_self _ _))
      clear hN hpo
      go_wp2_with fail
      go_region_held3 (fun x => x.cell? ⟨eb, 0, none⟩ = some (.int .i64 e'.id) ∧ x.cell? ⟨eb, 1, none⟩ = some (.int .i64 e'.body) ∧ x.cell? ⟨eb, 2, none⟩ = some (.int .i64 e'.size) ∧ x.cell? ⟨eb, 3, none⟩ = some (tx e'.exch) ∧ x.cell? ⟨eb, 4, none⟩ = some (tx e'.key) ∧ x.cell? ⟨eb, 5, none⟩ = some (.int .i64 e'.prio) ∧ x.cell? ⟨eb, 6, none⟩ = some (.int .i64 e'.ttl) ∧ x.cell? ⟨eb, 7, none⟩ = some (.int .i64 e'.til) ∧ x.cell? ⟨eb, 8, none⟩ = some (.bool e'.again) ∧ x.cell? ⟨eb, 9, none⟩ = some (.int .i64 e'.hops)) (first | exact kS | exact hs0.out) (first
        | (go_at_call 19; refine (ready_op (by assumption)).mono ?_; rintro r w4 ⟨rk, rfl, hA, kS⟩)
        | (go_at_call 20; refine (cp.out _ _ (by assumption)).mono ?_; rintro r w4 ⟨rfl, hQ, kS⟩))
      have fin := Lib.hid (hfin.out _ hQ)
      clear hQ kS hA hR cp hs0 hfin
      go_wp2_with fail
      go_ret2
      exact fin.out
    | true =>
      have hN : putM M e' = insM e' M := by
        unfold putM
        rw [hpo]
        rfl
      have hpo2 := hpo
      simp only [putOk, decide_eq_true_eq] at hpo2
      have hnin : ∀ x ∈ M, x.id ≠ e'.id := fun x hx e1 => hpo2.1 (e1 ▸ List.mem_map_of_mem hx)
      have cp := Lib.hid (fun W rk (h : QuAt B w0 W qb rk o M ((eb, enO e') :: F)) => put_op g1.out g2.out (by have := hlen.out; omega) hpo hN h)
      have cd := Lib.hid (fun W rk (h : QuAt B w0 W qb rk o (insM e' M) ((eb, enO e') :: F)) => drop_op (e := e') (mem_ins.2 (.inl rfl)) (del_ins hnin) h)
      obtain ⟨l, hl, hl1, hl2⟩ := limit_nat o
      have cl := Lib.hid (fun W (h : QuIs B w0 W qb o (insM e' M) ((eb, enO e') :: F)) => len_op h (ins_len e' M))
      have ci := Lib.hid (fun W (h : QuIs B w0 W qb o (insM e' M) ((eb, enO e') :: F)) => limit_op h hl)
      have cj := Lib.hid (fun W (h : QuIs B w0 W qb o M ((eb, enO e') :: F)) (hle : l ≤ M.length) => make_room h hl hl1 hle (by have := hlen.out; omega))
      have hP1 : Hid (M.length < l → ∀ w', QuIs B w0 w' qb o (insM e' M) ((eb, enO e') :: F) → PutR B w0 qb o M F e' (.returned (.tuple #[.bool true, .slice none 0 0])) w') := Lib.hid fun hlt w' h =>
        ⟨true, [], insM e' M, none, 0, [], rfl, .inr (.inl ⟨hpo, by rw [hl]; omega, rfl, rfl, rfl⟩), EnsIs.nil, h.sub (List.sublist_cons_self _ _)⟩
      have hP2 : Hid (l ≤ M.length → rejO o = true → ∀ w', QuIs B w0 w' qb o M ((eb, enO e') :: F) → PutR B w0 qb o M F e' (.returned (.tuple #[.bool false, .slice none 0 0])) w') := Lib.hid fun hle hr w' h =>
        .none_ (.inr (.inr (.inl ⟨hpo, by rw [hl]; omega, hr, rfl, rfl, rfl⟩))) (h.sub (List.sublist_cons_self _ _))
      have hP3 : Hid (l ≤ M.length → rejO o = false → ∀ W N a c S, Sheds M W N → N.length + 1 = l → EnsIs (.slice a W.length c) W S → (putOk N e' = true ∧ N.length < 100000) ∧ ∀ w', QuIs B w0 w' qb o (insM e' N) ((eb, enO e') :: (S ++ F)) → PutR B w0 qb o M F e' (.returned (.tuple #[.bool true, .slice a W.length c])) w') := Lib.hid fun hle hr W N a c S h1 h2 h3 => by
        refine ⟨⟨?_, by omega⟩, fun w' h => ⟨true, W, insM e' N, a, c, S, rfl, .inr (.inr (.inr ⟨hpo, by rw [hl]; omega, hr, rfl, N, h1, by rw [hl]; omega, rfl⟩)), h3, h.sub (List.sublist_cons_self _ _)⟩⟩
        simp only [putOk, decide_eq_true_eq]
        exact ⟨fun hm => hpo2.1 ((h1.sub.map _).subset hm), hpo2.2⟩
      replace hnin := Lib.hid hnin
      replace hpo := Lib.hid hpo
      clear hN hpo2 hl
      go_wp2_with fail
      go_region_held3 (fun x => x.cell? ⟨eb, 0, none⟩ = some (.int .i64 e'.id) ∧ x.cell? ⟨eb, 1, none⟩ = some (.int .i64 e'.body) ∧ x.cell? ⟨eb, 2, none⟩ = some (.int .i64 e'.size) ∧ x.cell? ⟨eb, 3, none⟩ = some (tx e'.exch) ∧ x.cell? ⟨eb, 4, none⟩ = some (tx e'.key) ∧ x.cell? ⟨eb, 5, none⟩ = some (.int .i64 e'.prio) ∧ x.cell? ⟨eb, 6, none⟩ = some (.int .i64 e'.ttl) ∧ x.cell? ⟨eb, 7, none⟩ = some (.int .i64 e'.til) ∧ x.cell? ⟨eb, 8, none⟩ = some (.bool e'.again) ∧ x.cell? ⟨eb, 9, none⟩ = some (.int .i64 e'.hops)) (first | exact kS | exact hs0.out) (first
        | (go_at_call 19; refine (ready_op (by assumption)).mono ?_; rintro r w4 ⟨rk, rfl, hA, kS⟩)
        | (go_at_call 20; refine (cp.out _ _ (by assumption)).mono ?_; rintro r w4 ⟨rfl, hQ, kS⟩))
      have hQ3 : QuIs B w0 w4.drew qb o (insM e' M) ((eb, enO e') :: F) := hQ.grow (drew_b _)
      clear hs0
      have hs0 := Lib.hid hQ3.ops.1
      clear hA hR kS cp hQ q0 q1 q2 q3 q4 q5 q6 q7 q8 q9
      by_cases hlt : M.length < l
      · have hlt1 : ((M.length + 1 : Nat) : Int) ≤ l := by omega
        have hfin := Lib.hid (hP1.out hlt)
        clear hP1 hP2 hP3 cd cj hlt
        generalize M.length + 1 = n at *
        go_wp2_with fail
        go_region_held3 (fun x => x.cell? ⟨qb, 0, none⟩ = some (tx o.dead) ∧ x.cell? ⟨qb, 1, none⟩ = some (tx o.deadKey) ∧ x.cell? ⟨qb, 2, none⟩ = some (.int .i64 o.maxLen) ∧ x.cell? ⟨qb, 3, none⟩ = some (.int .i64 o.ttl) ∧ x.cell? ⟨qb, 4, none⟩ = some (.int .i64 o.prio) ∧ x.cell? ⟨qb, 5, none⟩ = some (.int .i64 o.bits)) (first | exact hS | exact hs0.out) (first
        | (go_at_call 10; refine (cl.out _ (by assumption)).mono ?_; rintro r w4 ⟨rfl, hQ, hS⟩)
        | (go_at_call 21; refine (ci.out _ (by assumption)).mono ?_; rintro r w4 ⟨rfl, hQ, hS⟩))
        have fin := Lib.hid (hfin.out _ hQ)
        clear hQ hS cl ci hs0 hfin hQ3
        go_wp2_with fail
        go_ret2
        exact fin.out
      · have hlt1 : ¬ ((M.length + 1 : Nat) : Int) ≤ l := by omega
        have hle : l ≤ M.length := by omega
        replace hP2 := Lib.hid (hP2.out hle)
        replace hP3 := Lib.hid (hP3.out hle)
        replace cj := Lib.hid (fun W h => cj.out W h hle)
        clear hP1 hlt hle
        generalize M.length + 1 = n at *
        go_wp2_with fail
        go_region_held3 (fun x => x.cell? ⟨qb, 0, none⟩ = some (tx o.dead) ∧ x.cell? ⟨qb, 1, none⟩ = some (tx o.deadKey) ∧ x.cell? ⟨qb, 2, none⟩ = some (.int .i64 o.maxLen) ∧ x.cell? ⟨qb, 3, none⟩ = some (.int .i64 o.ttl) ∧ x.cell? ⟨qb, 4, none⟩ = some (.int .i64 o.prio) ∧ x.cell? ⟨qb, 5, none⟩ = some (.int .i64 o.bits)) (first | exact hS | exact hs0.out) (first
        | (go_at_call 10; refine (cl.out _ (by assumption)).mono ?_; rintro r w4 ⟨rfl, hQ, hS⟩)
        | (go_at_call 21; refine (ci.out _ (by assumption)).mono ?_; rintro r w4 ⟨rfl, hQ, hS⟩))
        have hQ5 : QuIs B w0 w4.drew qb o (insM e' M) ((eb, enO e') :: F) := hQ.grow (drew_b _)
        clear hs0 hS cl ci hQ hQ3
        have hs0 := Lib.hid (hQ5.at_block (k := eb) (e := e') List.mem_cons_self).1.1
        go_wp2_with fail
        go_region_held3 (fun x => x.cell? ⟨eb, 0, none⟩ = some (.int .i64 e'.id)) (first | exact kS.1 | exact hs0.out) (first
        | (go_at_call 19; refine (ready_op (by assumption)).mono ?_; rintro r w4 ⟨rk, rfl, hA, kS⟩)
        | (go_at_call 22; refine (cd.out _ _ (by assumption)).mono ?_; rintro r w4 ⟨⟨y, rfl⟩, hQ, kS⟩))
        have cr := Lib.hid (qu_rejects hQ)
        clear hs0 hA hQ5 kS cd
        cases hrj : rejO o with
        | true =>
          rw [hrj] at cr
          have fin := Lib.hid (hP2.out hrj _ hQ)
          clear hP2 hP3 cj hQ
          go_wp2_with fail
          refine cr.out.mono ?_
          rintro r w5 ⟨rfl, rfl⟩
          clear cr
          go_wp2_with fail
          go_ret2
          exact fin.out
        | false =>
          rw [hrj] at cr
          replace hP3 := Lib.hid (hP3.out hrj)
          have cm := Lib.hid (cj.out _ hQ)
          clear hP2 cj hQ
          go_wp2_with fail
          refine cr.out.mono ?_
          rintro r w5 ⟨rfl, rfl⟩
          clear cr
          go_wp2_with fail
          refine cm.out.mono ?_
          rintro r w6 ⟨W, N, a, c, S, rfl, t1, t2, t3, hQ6⟩
          obtain ⟨⟨hpN, hNl⟩, hfin⟩ := hP3.out W N a c S t1 t2 t3
          have hN : putM N e' = insM e' N := by
            unfold putM
            rw [hpN]
            rfl
          replace hfin := Lib.hid hfin
          have hQ7 : QuIs B w0 w6.drew qb o N ((eb, enO e') :: (S ++ F)) := (hQ6.permF List.perm_middle).grow (drew_b _)
          have cp := Lib.hid (fun W rk (h : QuAt B w0 W qb rk o N ((eb, enO e') :: (S ++ F))) => put_op g1.out g2.out hNl hpN hN h)
          have hs0 := Lib.hid (hQ7.at_block (k := eb) (e := e') List.mem_cons_self).1
          obtain ⟨q0, q1, q2, q3, q4, q5, q6, q7, q8, q9⟩ := ((hQ6.permF (F' := (eb, enO e') :: (S ++ F)) List.perm_middle).at_block (k := eb) (e := e') List.mem_cons_self).1
          clear cm hP3 t1 t2 t3 hN hpN hNl hQ6
          generalize W.length = n2 at *
          go_wp2_with fail
          go_region_held3 (fun x => x.cell? ⟨eb, 0, none⟩ = some (.int .i64 e'.id) ∧ x.cell? ⟨eb, 1, none⟩ = some (.int .i64 e'.body) ∧ x.cell? ⟨eb, 2, none⟩ = some (.int .i64 e'.size) ∧ x.cell? ⟨eb, 3, none⟩ = some (tx e'.exch) ∧ x.cell? ⟨eb, 4, none⟩ = some (tx e'.key) ∧ x.cell? ⟨eb, 5, none⟩ = some (.int .i64 e'.prio) ∧ x.cell? ⟨eb, 6, none⟩ = some (.int .i64 e'.ttl) ∧ x.cell? ⟨eb, 7, none⟩ = some (.int .i64 e'.til) ∧ x.cell? ⟨eb, 8, none⟩ = some (.bool e'.again) ∧ x.cell? ⟨eb, 9, none⟩ = some (.int .i64 e'.hops)) (first | exact kS | exact hs0.out) (first
        | (go_at_call 19; refine (ready_op (by assumption)).mono ?_; rintro r w4 ⟨rk, rfl, hA, kS⟩)
        | (go_at_call 20; refine (cp.out _ _ (by assumption)).mono ?_; rintro r w4 ⟨rfl, hQ, kS⟩))
          have fin := Lib.hid (hfin.out _ hQ)
          clear hQ hA hQ7 kS cp hs0 hfin q0 q1 q2 q3 q4 q5 q6 q7 q8 q9
          go_wp2_with fail
          go_ret2
          exact fin.out
end
end Go.Proofs.Ytmmagapggmcceaa
