/- A queue: one comes back, one is taken, all go. -/
import Derived.Test.YtmmagapggmcceaaQuE
namespace Go.Proofs.Ytmmagapggmcceaa
open Go.RowKit
open Go.ChangeMaps (setBlock)
set_option linter.unusedVariables false
set_option linter.unusedSectionVars false
set_option linter.unusedSimpArgs false
set_option maxRecDepth 100000

abbrev againE (e : Ent) : Ent := { e with again := true }
section
variable {B : Nat} {w0 w w' : World} {qb rk b k l : Nat} {o : Opt} {M L : List Ent} {F F' S Y : List (Nat × Obj)} {e e0 : Ent}
set_option maxHeartbeats 1000000 in
theorem qu_back (h : QuIs B w0 w qb o M F) (h1 : e.exch.length ≤ 140737488351232) (h2 : e.key.length ≤ 140737488351232) (hlen : M.length < 90000) :
    Calls Try.prog 12 #[rptr qb, enV e] w fun r w' => r = .returned (.bool (putOk M (againE e))) ∧ QuIs B w0 w' qb o (putM M (againE e)) F := by
  have ha : QuIs B w0 (w.alloc (.cells #[.int .i64 e.id, .int .i64 e.body, .int .i64 e.size, tx e.exch, tx e.key, .int .i64 e.prio, .int .i64 e.ttl, .int .i64 e.til, .bool true, .int .i64 e.hops] 32)) qb o M ((w.heap.size, enO (againE e)) :: F) := h.alloc (enO (againE e))
  have hR : QuIs B w0 (w.alloc (.cells #[.int .i64 e.id, .int .i64 e.body, .int .i64 e.size, tx e.exch, tx e.key, .int .i64 e.prio, .int .i64 e.ttl, .int .i64 e.til, .bool true, .int .i64 e.hops] 32)).drew qb o M ((w.heap.size, enO (againE e)) :: F) := ha.grow (drew_b _)
  have hs0 : Hid ((w.alloc (.cells #[.int .i64 e.id, .int .i64 e.body, .int .i64 e.size, tx e.exch, tx e.key, .int .i64 e.prio, .int .i64 e.ttl, .int .i64 e.til, .bool true, .int .i64 e.hops] 32)).drew.cell? ⟨w.heap.size, 0, none⟩ = some (.int .i64 e.id) ∧ (w.alloc (.cells #[.int .i64 e.id, .int .i64 e.body, .int .i64 e.size, tx e.exch, tx e.key, .int .i64 e.prio, .int .i64 e.ttl, .int .i64 e.til, .bool true, .int .i64 e.hops] 32)).drew.cell? ⟨w.heap.size, 1, none⟩ = some (.int .i64 e.body) ∧ (w.alloc (.cells #[.int .i64 e.id, .int .i64 e.body, .int .i64 e.size, tx e.exch, tx e.key, .int .i64 e.prio, .int .i64 e.ttl, .int .i64 e.til, .bool true, .int .i64 e.hops] 32)).drew.cell? ⟨w.heap.size, 2, none⟩ = some (.int .i64 e.size) ∧ (w.alloc (.cells #[.int .i64 e.id, .int .i64 e.body, .int .i64 e.size, tx e.exch, tx e.key, .int .i64 e.prio, .int .i64 e.ttl, .int .i64 e.til, .bool true, .int .i64 e.hops] 32)).drew.cell? ⟨w.heap.size, 3, none⟩ = some (tx e.exch) ∧ (w.alloc (.cells #[.int .i64 e.id, .int .i64 e.body, .int .i64 e.size, tx e.exch, tx e.key, .int .i64 e.prio, .int .i64 e.ttl, .int .i64 e.til, .bool true, .int .i64 e.hops] 32)).drew.cell? ⟨w.heap.size, 4, none⟩ = some (tx e.key) ∧ (w.alloc (.cells #[.int .i64 e.id, .int .i64 e.body, .int .i64 e.size, tx e.exch, tx e.key, .int .i64 e.prio, .int .i64 e.ttl, .int .i64 e.til, .bool true, .int .i64 e.hops] 32)).drew.cell? ⟨w.heap.size, 5, none⟩ = some (.int .i64 e.prio) ∧ (w.alloc (.cells #[.int .i64 e.id, .int .i64 e.body, .int .i64 e.size, tx e.exch, tx e.key, .int .i64 e.prio, .int .i64 e.ttl, .int .i64 e.til, .bool true, .int .i64 e.hops] 32)).drew.cell? ⟨w.heap.size, 6, none⟩ = some (.int .i64 e.ttl) ∧ (w.alloc (.cells #[.int .i64 e.id, .int .i64 e.body, .int .i64 e.size, tx e.exch, tx e.key, .int .i64 e.prio, .int .i64 e.ttl, .int .i64 e.til, .bool true, .int .i64 e.hops] 32)).drew.cell? ⟨w.heap.size, 7, none⟩ = some (.int .i64 e.til) ∧ (w.alloc (.cells #[.int .i64 e.id, .int .i64 e.body, .int .i64 e.size, tx e.exch, tx e.key, .int .i64 e.prio, .int .i64 e.ttl, .int .i64 e.til, .bool true, .int .i64 e.hops] 32)).drew.cell? ⟨w.heap.size, 8, none⟩ = some (.bool true) ∧ (w.alloc (.cells #[.int .i64 e.id, .int .i64 e.body, .int .i64 e.size, tx e.exch, tx e.key, .int .i64 e.prio, .int .i64 e.ttl, .int .i64 e.til, .bool true, .int .i64 e.hops] 32)).drew.cell? ⟨w.heap.size, 9, none⟩ = some (.int .i64 e.hops)) := Lib.hid (hR.at_block (k := w.heap.size) (e := againE e) List.mem_cons_self).1
  have hl2 : M.length < 100000 := by omega
  obtain ⟨ok, hok⟩ : ∃ ok, putOk M (againE e) = ok := ⟨_, rfl⟩
  obtain ⟨N, hN⟩ : ∃ N, putM M (againE e) = N := ⟨_, rfl⟩
  have cp : Hid (∀ W rk, QuAt B w0 W qb rk o M ((w.heap.size, enO (againE e)) :: F) → Calls Try.prog 20 #[rptr rk, .agg #[.int .i64 e.id, .int .i64 e.body, .int .i64 e.size, tx e.exch, tx e.key, .int .i64 e.prio, .int .i64 e.ttl, .int .i64 e.til, .bool true, .int .i64 e.hops]] W fun r w' => r = .returned (.bool ok) ∧ QuIs B w0 w' qb o N ((w.heap.size, enO (againE e)) :: F) ∧ w'.cell? ⟨w.heap.size, 0, none⟩ = some (.int .i64 e.id) ∧ w'.cell? ⟨w.heap.size, 1, none⟩ = some (.int .i64 e.body) ∧ w'.cell? ⟨w.heap.size, 2, none⟩ = some (.int .i64 e.size) ∧ w'.cell? ⟨w.heap.size, 3, none⟩ = some (tx e.exch) ∧ w'.cell? ⟨w.heap.size, 4, none⟩ = some (tx e.key) ∧ w'.cell? ⟨w.heap.size, 5, none⟩ = some (.int .i64 e.prio) ∧ w'.cell? ⟨w.heap.size, 6, none⟩ = some (.int .i64 e.ttl) ∧ w'.cell? ⟨w.heap.size, 7, none⟩ = some (.int .i64 e.til) ∧ w'.cell? ⟨w.heap.size, 8, none⟩ = some (.bool true) ∧ w'.cell? ⟨w.heap.size, 9, none⟩ = some (.int .i64 e.hops)) := Lib.hid (fun W rk h => put_op (e := againE e) h1 h2 hl2 hok hN h)
  have cr : Hid (∀ W, QuIs B w0 W qb o M ((w.heap.size, enO (againE e)) :: F) → Calls Try.prog 19 #[rptr qb] W fun r w' => ∃ rk, r = .returned (rptr rk) ∧ QuAt B w0 w' qb rk o M ((w.heap.size, enO (againE e)) :: F) ∧ w'.cell? ⟨w.heap.size, 0, none⟩ = some (.int .i64 e.id) ∧ w'.cell? ⟨w.heap.size, 1, none⟩ = some (.int .i64 e.body) ∧ w'.cell? ⟨w.heap.size, 2, none⟩ = some (.int .i64 e.size) ∧ w'.cell? ⟨w.heap.size, 3, none⟩ = some (tx e.exch) ∧ w'.cell? ⟨w.heap.size, 4, none⟩ = some (tx e.key) ∧ w'.cell? ⟨w.heap.size, 5, none⟩ = some (.int .i64 e.prio) ∧ w'.cell? ⟨w.heap.size, 6, none⟩ = some (.int .i64 e.ttl) ∧ w'.cell? ⟨w.heap.size, 7, none⟩ = some (.int .i64 e.til) ∧ w'.cell? ⟨w.heap.size, 8, none⟩ = some (.bool true) ∧ w'.cell? ⟨w.heap.size, 9, none⟩ = some (.int .i64 e.hops)) := Lib.hid fun W h => ready_op h
  rw [hok, hN]
  clear h h1 h2 hlen hl2 ha hok hN
  go_enter Try.func12, Try.ntmps12
  go_wp2_with fail
  go_region_held3 (fun x => x.cell? ⟨w.heap.size, 0, none⟩ = some (.int .i64 e.id) ∧ x.cell? ⟨w.heap.size, 1, none⟩ = some (.int .i64 e.body) ∧ x.cell? ⟨w.heap.size, 2, none⟩ = some (.int .i64 e.size) ∧ x.cell? ⟨w.heap.size, 3, none⟩ = some (tx e.exch) ∧ x.cell? ⟨w.heap.size, 4, none⟩ = some (tx e.key) ∧ x.cell? ⟨w.heap.size, 5, none⟩ = some (.int .i64 e.prio) ∧ x.cell? ⟨w.heap.size, 6, none⟩ = some (.int .i64 e.ttl) ∧ x.cell? ⟨w.heap.size, 7, none⟩ = some (.int .i64 e.til) ∧ x.cell? ⟨w.heap.size, 8, none⟩ = some (.bool true) ∧ x.cell? ⟨w.heap.size, 9, none⟩ = some (.int .i64 e.hops)) (first | exact kS | exact hs0.out) (first
    | (go_at_call 19; refine (cr.out _ (by assumption)).mono ?_; rintro r w4 ⟨rk, rfl, hA, kS⟩)
    | (go_at_call 20; refine (cp.out _ _ (by assumption)).mono ?_; rintro r w4 ⟨rfl, hQ, kS⟩))
  have fin := Lib.hid (hQ.sub (List.sublist_cons_self _ _))
  clear hQ hA hR kS cp hs0 cr
  go_wp2_with fail
  go_ret
  exact ⟨rfl, fin.out⟩

theorem take_ret (h : QuIs B w0 w qb o M ((k, enO z0E) :: F)) (x : Ent) : EnAt w k z0E ∧ (∀ i, w.frozen? ⟨k, i, none⟩ = false) ∧ EnAt (enPut w k x) k x ∧ QuIs B w0 (enPut w k x) qb o M F := by
  have h1 := h.enPut (e := x)
  exact ⟨(h.at_block (k := k) (e := z0E) List.mem_cons_self).1, (h.at_block (k := k) (e := z0E) List.mem_cons_self).2, (h1.at_block (k := k) (e := x) List.mem_cons_self).1, h1.sub (List.sublist_cons_self _ _)⟩
theorem first_form (M : List Ent) : ∃ x b, firstV M = .tuple #[enV x, .bool b] := by
  cases M with
  | nil => exact ⟨_, _, rfl⟩
  | cons e M => exact ⟨_, _, rfl⟩
set_option maxHeartbeats 1000000 in
theorem qu_take (h : QuIs B w0 w qb o M F) : Calls Try.prog 11 #[rptr qb] w fun r w' => r = .returned (firstV M) ∧ QuIs B w0 w' qb o M.tail F := by
  have cr := Lib.hid (ready_any (h.alloc (enO z0E)))
  obtain ⟨x, b, hx⟩ := first_form M
  have ct : Hid (∀ W rk, QuAt B w0 W qb rk o M ((w.heap.size, enO z0E) :: F) → Calls Try.prog 26 #[rptr rk] W fun r w' => r = .returned (.tuple #[enV x, .bool b]) ∧ QuIs B w0 w' qb o M.tail ((w.heap.size, enO z0E) :: F)) := Lib.hid fun W rk h => by
    refine (rk_take h).mono ?_
    rintro r w' ⟨rfl, h'⟩
    exact ⟨by rw [hx], .inr ⟨_, h'⟩⟩
  rw [hx]
  clear h hx
  go_enter Try.func11, Try.ntmps11
  go_wp2_with fail
  refine cr.out.mono ?_
  rintro r w1 ⟨rk, rfl, h1⟩
  have ct1 := Lib.hid (ct.out _ _ h1)
  clear cr ct h1
  go_wp2_with fail
  refine ct1.out.mono ?_
  rintro r w2 ⟨rfl, h2⟩
  obtain ⟨⟨z0, z1, z2, z3, z4, z5, z6, z7, z8, z9⟩, zs, finE, fin⟩ := take_ret h2 x
  replace finE := Lib.hid finE
  replace fin := Lib.hid fin
  clear ct1 h2
  go_wp2_with fail
  exact bodyPost_ret (ret_entry2 rfl rfl rfl finE.out rfl) rfl ⟨rfl, fin.out⟩

def PurgeJ (B : Nat) (w0 : World) (qb : Nat) (o : Opt) (M : List Ent) (F : List (Nat × Obj)) (g : Nat) (a' : Act) (w' : World) : Prop :=
  ∃ W N a c S, N.length = g ∧ Fr 18 [(0, rptr qb), (3, .slice a W.length c)] a' ∧ W ++ N = M ∧ EnsIs (.slice a W.length c) W S ∧ QuIs B w0 w' qb o N (S ++ F)
set_option maxHeartbeats 2000000 in
theorem qu_purge (h : QuIs B w0 w qb o M F) (hM : M.length ≤ 100000) : Calls Try.prog 15 #[rptr qb] w (QAllR B w0 qb o M F M []) := by
  have hM2 := Lib.hid hM
  replace h := Lib.hid h
  clear hM
  go_enter Try.func15, Try.ntmps15
  go_wp2_with fail
  refine wp_scope_ghost 0 (PurgeJ B w0 qb o M F) rfl ?_ ?_
  · clear h
    rintro g a' wr ⟨W, N, a, c, S, hg, hfr, hWN, hs, hR⟩
    obtain ⟨fr, rfl, hl'⟩ := hfr.lit
    clear hfr
    simp only [List.mem_cons, List.not_mem_nil, or_false, forall_eq_or_imp, forall_eq] at hl'
    obtain ⟨f0, f3⟩ := hl'
    simp only [List.range, List.range.loop, List.map, f0, f3]
    clear f0 f3
    have ct := Lib.hid (qu_take hR)
    cases N with
    | nil =>
      have hfin : Hid (∀ w', QuIs B w0 w' qb o [] (S ++ F) → QAllR B w0 qb o M F M [] (.returned (.slice a W.length c)) w') := Lib.hid fun w' h => by
        rw [List.append_nil] at hWN
        subst hWN
        exact ⟨a, c, S, rfl, hs, h⟩
      clear hR hs hWN
      generalize W.length = n at *
      go_wp2_with fail
      refine ct.out.mono ?_
      rintro r w2 ⟨rfl, h2⟩
      have hfv : firstV [] = .tuple #[enV z0E, .bool false] := rfl
      rw [hfv]
      have fin := Lib.hid (hfin.out _ (h2.alloc (enO z0E) |>.sub (List.sublist_cons_self _ _)))
      clear hfin ct h2 hfv
      go_wp2_with fail
      simp only [Exit.jump]
      go_ret
      exact fin.out
    | cons x N =>
      have hWx : (W ++ [x]) ++ N = M := by rw [← hWN]; simp
      have hWl : W.length ≤ 100000 := by
        have := congrArg List.length hWN
        have := hM2.out
        rw [List.length_append] at *
        omega
      have hp : Hid (∀ w', QuIs B w0 w' qb o N (S ++ F) → EnAt (w'.alloc (enO x)) w'.heap.size x ∧ ∃ a' c' W9, (Builtin.append_ #[28, 28] 0 #[.slice a W.length c, .slice (some ⟨w'.heap.size + 1, 0, none⟩) 1 1]).run Try.prog ((w'.alloc (enO x)).alloc (enO x)) = .ok (.slice a' (W ++ [x]).length c') W9 ∧ ∀ a9, Fr 18 [(0, rptr qb), (3, .slice a' (W ++ [x]).length c')] a9 → ∃ m, m < g ∧ PurgeJ B w0 qb o M F m a9 W9) := Lib.hid fun w' h => by
        have h1 := h.alloc (enO x)
        have h2 := h1.at_block (k := w'.heap.size) (e := x) List.mem_cons_self
        obtain ⟨a', c', W9, S', q1, q2, q3⟩ := (h1.permF (F' := S ++ ((w'.heap.size, enO x) :: F)) List.perm_middle.symm).ensPush hs x hWl
        rw [World.size_alloc] at q1
        exact ⟨h2.1, a', c', W9, q1, fun a9 hf => ⟨g - 1, by rw [List.length_cons] at hg; omega, W ++ [x], N, a', c', S', by rw [List.length_cons] at hg; omega, hf, hWx, q2, q3.sub ((List.Sublist.refl _).append (List.sublist_cons_self _ _))⟩⟩
      clear hR hs hWN hWx hWl
      go_wp2_with fail
      refine ct.out.mono ?_
      rintro r w2 ⟨rfl, h2⟩
      have hfv : firstV (x :: N) = .tuple #[enV x, .bool true] := rfl
      rw [hfv]
      obtain ⟨⟨z0, z1, z2, z3, z4, z5, z6, z7, z8, z9⟩, a', c', W9, hrun, fin⟩ := hp.out _ h2
      replace fin := Lib.hid fin
      clear hp ct h2 hfv
      generalize (W ++ [x]).length = m at *
      generalize W.length = n at *
      go_wp2_with (at_builtin; refine wpList_append_go rfl (.tmp 14) (.tmp 16) 28 28 rfl _ _ rfl rfl hrun ?_)
      refine wp_goto ?_
      exact ⟨rfl, fin.out _ ⟨rfl, rfl, by simp⟩⟩
  · intro HJ
    go_wp2_with fail
    refine wp_label ?_
    go_step
    go_step
    exact HJ M.length _ _ ⟨[], M, none, 0, [], rfl, ⟨rfl, rfl, by simp⟩, rfl, EnsIs.nil, h.out⟩
end
end Go.Proofs.Ytmmagapggmcceaa
