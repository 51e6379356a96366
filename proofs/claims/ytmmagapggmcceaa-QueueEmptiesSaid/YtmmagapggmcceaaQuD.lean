/- A queue: room made for one. -/
import Derived.Test.YtmmagapggmcceaaQuC
namespace Go.Proofs.Ytmmagapggmcceaa
open Go.RowKit
open Go.ChangeMaps (setBlock)
set_option linter.unusedVariables false
set_option linter.unusedSectionVars false
set_option linter.unusedSimpArgs false
set_option maxRecDepth 100000

section
variable {B : Nat} {w0 w w' : World} {qb rk b k l : Nat} {o : Opt} {M L : List Ent} {F F' S Y : List (Nat × Obj)} {e e0 : Ent}
def MakeJ (B : Nat) (w0 : World) (qb : Nat) (o : Opt) (M : List Ent) (F : List (Nat × Obj)) (l : Nat) (g : Nat) (a' : Act) (w' : World) : Prop :=
  ∃ W N a c S, N.length = g ∧ Fr 30 [(0, rptr qb), (3, .slice a W.length c)] a' ∧ Sheds M W N ∧ l ≤ N.length + 1 ∧ EnsIs (.slice a W.length c) W S ∧ QuIs B w0 w' qb o N (S ++ F)
def MakeR (B : Nat) (w0 : World) (qb : Nat) (o : Opt) (M : List Ent) (F : List (Nat × Obj)) (l : Nat) (r : Ending) (w' : World) : Prop :=
  ∃ W N a c S, r = .returned (.slice a W.length c) ∧ Sheds M W N ∧ N.length + 1 = l ∧ EnsIs (.slice a W.length c) W S ∧ QuIs B w0 w' qb o N (S ++ F)
theorem len_op (h : QuIs B w0 w qb o M F) {n : Nat} (hn : M.length = n) : Calls Try.prog 10 #[rptr qb] w fun r w' => r = .returned (.int .i64 n) ∧ QuIs B w0 w' qb o M F ∧ OpC w' qb o := by
  subst hn
  refine (qu_len h).mono ?_
  rintro r w' ⟨rfl, h'⟩
  exact ⟨rfl, h', h'.ops.1⟩
theorem limit_op (h : QuIs B w0 w qb o M F) {n : Nat} (hn : limitO o = n) : Calls Try.prog 21 #[opV o] w fun r w' => r = .returned (.int .i64 n) ∧ QuIs B w0 w' qb o M F ∧ OpC w' qb o := by
  rw [← hn]
  refine (limit_any o w).mono ?_
  rintro r w' ⟨rfl, hb⟩
  exact ⟨rfl, h.grow hb, (h.grow hb).ops.1⟩

set_option maxHeartbeats 2000000 in
theorem make_room (h : QuIs B w0 w qb o M F) (hl : limitO o = l) (hl1 : 1 ≤ l) (hl2 : l ≤ M.length) (hM : M.length ≤ 100000) : Calls Try.prog 24 #[rptr qb] w (MakeR B w0 qb o M F l) := by
  have hok := Lib.hid h.ok
  have hM2 := Lib.hid hM
  replace h := Lib.hid h
  replace hl2 := Lib.hid hl2
  replace hl := Lib.hid hl
  clear hM
  go_enter Try.func24, Try.ntmps24
  go_wp2_with fail
  refine wp_scope_ghost 0 (MakeJ B w0 qb o M F l) rfl ?_ ?_
  · clear h
    rintro g a' wr ⟨W, N, a, c, S, hg, hfr, hsh, hln, hs, hR⟩
    obtain ⟨fr, rfl, hl'⟩ := hfr.lit
    clear hfr
    simp only [List.mem_cons, List.not_mem_nil, or_false, forall_eq_or_imp, forall_eq] at hl'
    obtain ⟨f0, f3⟩ := hl'
    simp only [List.range, List.range.loop, List.map, f0, f3]
    clear f0 f3
    have hWN := hsh.len hok.out
    have hR0 : QuIs B w0 wr.drew qb o N (S ++ F) := hR.grow (drew_b _)
    have cl := Lib.hid (fun W (h : QuIs B w0 W qb o N (S ++ F)) => len_op h hg)
    have ci := Lib.hid (fun W (h : QuIs B w0 W qb o N (S ++ F)) => limit_op h hl.out)
    have hs0 := Lib.hid hR0.ops.1
    have hsh0 := Lib.hid hsh
    replace hs := Lib.hid hs
    by_cases hlt : g < l
    · have hlt1 : (g : Int) < l := by omega
      have hnl : N.length + 1 = l := by omega
      have hfin : Hid (∀ w', QuIs B w0 w' qb o N (S ++ F) → MakeR B w0 qb o M F l (.returned (.slice a W.length c)) w') := Lib.hid fun w' h => ⟨W, N, a, c, S, rfl, hsh, hnl, hs.out, h⟩
      clear hR hg hln hWN hsh hsh0 hnl hs
      generalize W.length = n at *
      go_wp2_with fail
      go_region_held3 (fun x => x.cell? ⟨qb, 0, none⟩ = some (tx o.dead) ∧ x.cell? ⟨qb, 1, none⟩ = some (tx o.deadKey) ∧ x.cell? ⟨qb, 2, none⟩ = some (.int .i64 o.maxLen) ∧ x.cell? ⟨qb, 3, none⟩ = some (.int .i64 o.ttl) ∧ x.cell? ⟨qb, 4, none⟩ = some (.int .i64 o.prio) ∧ x.cell? ⟨qb, 5, none⟩ = some (.int .i64 o.bits)) (first | exact hS | exact hs0.out) (first
        | (go_at_call 10; refine (cl.out _ (by assumption)).mono ?_; rintro r w'' ⟨rfl, hQ, hS⟩)
        | (go_at_call 21; refine (ci.out _ (by assumption)).mono ?_; rintro r w'' ⟨rfl, hQ, hS⟩))
      have fin := Lib.hid (hfin.out _ hQ)
      clear hQ hS cl ci hs0 hfin hR0
      go_wp2_with fail
      simp only [Exit.jump]
      go_ret
      exact fin.out
    · have hlt1 : ¬ (g : Int) < l := by omega
      have hN0 : N ≠ [] := by
        rintro rfl
        simp at hg
        omega
      have hgo : Hid (∀ x, IsWorst N x → ∀ a9 W9 a' c' S', EnsIs (.slice a' (W ++ [x]).length c') (W ++ [x]) S' → QuIs B w0 W9 qb o (delM N x.id) (S' ++ F) → Fr 30 [(0, rptr qb), (3, .slice a' (W ++ [x]).length c')] a9 → ∃ m, m < g ∧ MakeJ B w0 qb o M F l m a9 W9) := Lib.hid fun x hx a9 W9 a' c' S' h1 h2 h3 => by
        have := del_len (hok.out.sub hsh.sub) hx.mem
        exact ⟨(delM N x.id).length, by omega, W ++ [x], delM N x.id, a', c', S', rfl, h3, .snoc hsh hx, by omega, h1, h2⟩
      have hWl : Hid (W.length ≤ 100000) := Lib.hid (by have := hM2.out; omega)
      have hWx : ∀ x, (W ++ [x]).length = W.length + 1 := fun x => by simp
      replace hWx := Lib.hid hWx
      clear hR hg hln hWN hsh hsh0
      obtain ⟨n, hn⟩ : ∃ n, n = W.length := ⟨_, rfl⟩
      rw [← hn] at hs ⊢
      replace hn := Lib.hid hn
      go_wp2_with fail
      go_region_held3 (fun x => x.cell? ⟨qb, 0, none⟩ = some (tx o.dead) ∧ x.cell? ⟨qb, 1, none⟩ = some (tx o.deadKey) ∧ x.cell? ⟨qb, 2, none⟩ = some (.int .i64 o.maxLen) ∧ x.cell? ⟨qb, 3, none⟩ = some (.int .i64 o.ttl) ∧ x.cell? ⟨qb, 4, none⟩ = some (.int .i64 o.prio) ∧ x.cell? ⟨qb, 5, none⟩ = some (.int .i64 o.bits)) (first | exact hS | exact hs0.out) (first
        | (go_at_call 10; refine (cl.out _ (by assumption)).mono ?_; rintro r w'' ⟨rfl, hQ, hS⟩)
        | (go_at_call 21; refine (ci.out _ (by assumption)).mono ?_; rintro r w'' ⟨rfl, hQ, hS⟩))
      have cr := Lib.hid (ready_any hQ)
      clear hS cl ci hs0 hR0 hQ
      go_wp2_with fail
      refine cr.out.mono ?_
      rintro r w3 ⟨rk, rfl, h3⟩
      have cw := Lib.hid (rk_worst h3)
      replace h3 := Lib.hid h3
      clear cr
      go_wp2_with fail
      refine cw.out.mono ?_
      rintro r w4 ⟨⟨x, b, rfl, hx0⟩, hb⟩
      obtain ⟨hx, rfl⟩ : IsWorst N x ∧ b = true := by
        rcases hx0 with ⟨h, -⟩ | h
        · exact absurd h hN0
        · exact h
      have h4 : QuIs B w0 (w4.alloc (enO x)) qb o N ((w4.heap.size, enO x) :: (S ++ F)) := (QuAt.is (RackIs.grow h3.out hb)).alloc _
      have h5 : QuIs B w0 (w4.alloc (enO x)).drew qb o N ((w4.heap.size, enO x) :: (S ++ F)) := h4.grow (drew_b _)
      clear cw h3 h4 hb
      go_wp2_with fail
      generalize w4.heap.size = eb at *
      have hs0 := Lib.hid (h5.at_block (k := eb) (e := x) List.mem_cons_self).1
      have crr : Hid (∀ W, QuIs B w0 W qb o N ((eb, enO x) :: (S ++ F)) → Calls Try.prog 19 #[rptr qb] W fun r w' => ∃ rk, r = .returned (rptr rk) ∧ QuAt B w0 w' qb rk o N ((eb, enO x) :: (S ++ F)) ∧ w'.cell? ⟨eb, 0, none⟩ = some (.int .i64 x.id)) := Lib.hid fun W h => by
        refine (ready_any h).mono ?_
        rintro r w' ⟨rk, rfl, h'⟩
        exact ⟨rk, rfl, h', (h'.is.at_block (k := eb) (e := x) List.mem_cons_self).1.1⟩
      have cd : Hid (∀ W rk, QuAt B w0 W qb rk o N ((eb, enO x) :: (S ++ F)) → Calls Try.prog 22 #[rptr rk, .int .i64 x.id] W fun r w' => (∃ y, r = .returned (.tuple #[y, .bool true])) ∧ QuIs B w0 w' qb o (delM N x.id) ((eb, enO x) :: (S ++ F)) ∧ w'.cell? ⟨eb, 0, none⟩ = some (.int .i64 x.id)) := Lib.hid fun W rk h => by
        refine (rk_drop_hit (e := x) h hx.mem).mono ?_
        rintro r w' ⟨rfl, h'⟩
        have h2 : QuIs B w0 w' qb o (delM N x.id) ((eb, enO x) :: (S ++ F)) := .inr ⟨_, h'⟩
        exact ⟨⟨_, rfl⟩, h2, (h2.at_block (k := eb) (e := x) List.mem_cons_self).1.1⟩
      have hgo2 := Lib.hid (hgo.out x hx)
      clear hgo hx hx0
      go_region_held3 (fun x9 => x9.cell? ⟨eb, 0, none⟩ = some (.int .i64 x.id)) (first | exact kS | exact hs0.out.1) (first
        | (go_at_call 19; refine (crr.out _ (by assumption)).mono ?_; rintro r w9 ⟨rk2, rfl, hA, kS⟩)
        | (go_at_call 22; refine (cd.out _ _ (by assumption)).mono ?_; rintro r w9 ⟨⟨y, rfl⟩, hD, kS⟩))
      obtain ⟨x0, x1, x2, x3, x4, x5, x6, x7, x8, x9⟩ := (hD.at_block (k := eb) (e := x) List.mem_cons_self).1
      have hsn := hs.out
      rw [hn.out] at hsn
      obtain ⟨a', c', W9, S', q1, q2, q3⟩ := (hD.permF (F' := S ++ ((eb, enO x) :: F)) List.perm_middle.symm).ensPush hsn x hWl.out
      have fin := Lib.hid (fun a9 => hgo2.out a9 W9 a' c' S' q2 (q3.sub ((List.Sublist.refl _).append (List.sublist_cons_self _ _))))
      rw [← hn.out] at q1
      clear hgo2 q2 q3 hD hA kS crr cd hs0 hsn
      generalize (W ++ [x]).length = m at *
      go_wp2_with (at_builtin; refine wpList_append_go rfl (.tmp 26) (.tmp 28) 28 28 rfl _ _ rfl rfl q1 ?_)
      refine wp_goto ?_
      exact ⟨rfl, fin.out _ ⟨rfl, rfl, by simp⟩⟩
  · intro HJ
    go_wp2_with fail
    refine wp_label ?_
    go_step
    go_step
    exact HJ M.length _ _ ⟨[], M, none, 0, [], rfl, ⟨rfl, rfl, by simp⟩, .nil, by have := hl2.out; omega, EnsIs.nil, h.out⟩
end
end Go.Proofs.Ytmmagapggmcceaa
