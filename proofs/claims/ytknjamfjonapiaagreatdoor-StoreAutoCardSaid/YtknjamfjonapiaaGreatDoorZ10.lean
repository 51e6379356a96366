import Derived.Test.YtknjamfjonapiaaGreatDoorZ09
import Derived.Test.YtknjamfjonapiaaGreatDoorZ01
import Derived.Lib.TrailingZeros
import Derived.Laws.BitsAllLaws
import Derived.Test.YtknjamfjonapiaaGreatDoorZ02
namespace Go.Proofs.YtknjamfjonapiaaGreatDoor
open Go.RowKit
set_option linter.unusedVariables false
set_option linter.unusedSectionVars false
set_option linter.unusedSimpArgs false
set_option maxRecDepth 100000
section
open Go.ChangeMaps (setBlock)
def rejO (o : Opt) : Bool := !(bits .and .i64 o.bits 4 == 0)
section
variable {B : Nat} {w0 w w' : World} {qb rk b k : Nat} {o : Opt} {M L : List Ent} {F F' S Y : List (Nat × Obj)} {e e0 : Ent}
theorem qu_len (h : QuIs B w0 w qb o M F) : Calls Tryz.prog 73 #[rptr qb] w fun r w' => r = .returned (.int .i64 M.length) ∧ QuIs B w0 w' qb o M F := by
 have cr := Lib.hid (ready_any h)
 clear h
 go_enter Tryz.func73, Tryz.ntmps73
 go_wp2_with fail
 refine cr.out.mono ?_
 rintro r w1 ⟨rk, rfl, h1⟩
 have cl := Lib.hid (rk_len h1)
 replace h1 := Lib.hid h1
 clear cr
 go_wp2_with fail
 refine cl.out.mono ?_
 rintro r w2 ⟨rfl, rfl⟩
 clear cl
 go_wp2_with fail
 go_ret
 exact ⟨rfl, h1.out.is⟩
def QAllR (B : Nat) (w0 : World) (qb : Nat) (o : Opt) (M : List Ent) (F : List (Nat × Obj)) (L N : List Ent) (r : Ending) (w' : World) : Prop :=
 ∃ a c S, r = .returned (.slice a L.length c) ∧ EnsIs (.slice a L.length c) L S ∧ QuIs B w0 w' qb o N (S ++ F)
theorem qu_all (h : QuIs B w0 w qb o M F) : Calls Tryz.prog 69 #[rptr qb] w (QAllR B w0 qb o M F M M) := by
 have cr := Lib.hid (ready_any h)
 clear h
 go_enter Tryz.func69, Tryz.ntmps69
 go_wp2_with fail
 refine cr.out.mono ?_
 rintro r w1 ⟨rk, rfl, h1⟩
 have cl := Lib.hid (rk_all h1)
 clear cr h1
 go_wp2_with fail
 refine cl.out.mono ?_
 rintro r w2 ⟨a, c, S, rfl, hs, h2⟩
 have fin : Hid (QAllR B w0 qb o M F M M (.returned (.slice a M.length c)) w2) := Lib.hid ⟨a, c, S, rfl, hs, .inr ⟨rk, h2.permF List.perm_middle⟩⟩
 clear cl hs h2
 go_wp2_with fail
 go_ret
 exact fin.out
theorem qu_rejects (h : QuIs B w0 w qb o M F) : Calls Tryz.prog 362 #[rptr qb] w fun r w' => r = .returned (.bool (rejO o)) ∧ w' = w := by
 obtain ⟨-, -, -, -, -, c5⟩ := h.ops.1
 clear h
 go_enter Tryz.func362, Tryz.ntmps362
 go_wp2_with fail
 go_ret
 exact ⟨rfl, rfl⟩
end
abbrev z0O : Opt := ⟨[], [], 0, 0, 0, 0⟩
abbrev opPut (w : World) (b : Nat) (o : Opt) : World := (((((w.setCell ⟨b, 0, none⟩ (tx o.dead)).setCell ⟨b, 1, none⟩ (tx o.deadKey)).setCell ⟨b, 2, none⟩ (.int .i64 o.maxLen)).setCell ⟨b, 3, none⟩ (.int .i64 o.ttl)).setCell ⟨b, 4, none⟩ (.int .i64 o.prio)).setCell ⟨b, 5, none⟩ (.int .i64 o.bits)
theorem St.opPut {B : Nat} {w0 w : World} {b : Nat} {o o1 : Opt} {C : List (Nat × Obj)} (h : St B w0 w ((b, opO o1) :: C)) : St B w0 (opPut w b o) ((b, opO o) :: C) := by
 have h10 := (((((h.set0 0 (tx o.dead)).set0 1 (tx o.deadKey)).set0 2 (.int .i64 o.maxLen)).set0 3 (.int .i64 o.ttl)).set0 4 (.int .i64 o.prio)).set0 5 (.int .i64 o.bits)
 simp only [List.setIfInBounds_toArray, List.set_cons_zero, List.set_cons_succ] at h10
 exact h10
theorem St.opC {B : Nat} {w0 w : World} {b : Nat} {o : Opt} {H : List (Nat × Obj)} (h : St B w0 w H) (m : (b, opO o) ∈ H) : OpC w b o :=
 ⟨h.cell m rfl, h.cell m rfl, h.cell m rfl, h.cell m rfl, h.cell m rfl, h.cell m rfl⟩
theorem ret_opts {P : Program} {fn : Func} {d : Nat} {tmps : Array Value} {w : World} {o : Opt} (hr : fn.results = #[.cell 2 34]) (h2 : tmps[2]? = some (.pointer (some ⟨d, 0, none⟩))) (q : OpC w d o) (hP : P = Tryz.prog) :
  (results fn tmps).run P w = .ok (opV o) w := by
 subst hP
 obtain ⟨q0, q1, q2, q3, q4, q5⟩ := q
 simp [results, hr, go_sem, h2, q0, q1, q2, q3, q4, q5]
section
variable {B : Nat} {w0 w w' : World} {qb rk b k : Nat} {o : Opt} {M L : List Ent} {F F' S Y : List (Nat × Obj)} {e e0 : Ent}
set_option maxHeartbeats 400000 in
theorem qu_opts (h : QuIs B w0 w qb o M F) : Calls Tryz.prog 138 #[rptr qb] w fun r w' => r = .returned (opV o) ∧ QuIs B w0 w' qb o M F := by
 have h1 := h.alloc (opO z0O)
 obtain ⟨c0, c1, c2, c3, c4, c5⟩ := h1.ops.1
 obtain ⟨S, s1, -, s2⟩ := h1.beside
 obtain ⟨z0, z1, z2, z3, z4, z5⟩ := (s1.perm List.perm_middle).opC List.mem_cons_self
 have zs := fun i => (s1.perm List.perm_middle).soft (b := w.heap.size) List.mem_cons_self i
 have h2 := h.alloc (opO o)
 obtain ⟨S2, s3, -, -⟩ := h2.beside
 have finE := Lib.hid ((s3.perm List.perm_middle).opC List.mem_cons_self)
 have fin := Lib.hid (h2.sub (List.sublist_cons_self _ _))
 clear h h1 s1 s2 h2 s3
 go_enter Tryz.func138, Tryz.ntmps138
 go_wp2_with fail
 exact bodyPost_ret (ret_opts rfl rfl finE.out rfl) rfl ⟨rfl, fin.out⟩
end
end
section
open Go.ChangeMaps (setBlock)
section
variable {w w' : World} {o : Opt}
def OOwnS (w : World) (o : Opt) (w' : World) : Prop := St w.heap.size w w' [(w.heap.size, opO o), (w.heap.size + 1, opO z0O)]
theorem OOwnS.start (w : World) (o : Opt) : OOwnS w o ((w.alloc (opO o)).alloc (opO z0O)) := by
 have h := ((St.start w).alloc (opO o)).alloc (opO z0O)
 rw [World.size_alloc] at h
 exact h.perm (List.Perm.swap _ _ _)
theorem OOwnS.from (h : OOwnS w o w') : w'.cell? ⟨w.heap.size, 0, none⟩ = some (tx o.dead) ∧ w'.cell? ⟨w.heap.size, 1, none⟩ = some (tx o.deadKey) :=
 ⟨St.cell h List.mem_cons_self rfl, St.cell h List.mem_cons_self rfl⟩
theorem OOwnS.st0 (h : OOwnS w o w') : OOwnS w o (w'.setCell ⟨w.heap.size, 0, none⟩ (tx o.dead)) := St.set0 h 0 (tx o.dead)
theorem OOwnS.st1 (h : OOwnS w o w') : OOwnS w o (w'.setCell ⟨w.heap.size, 1, none⟩ (tx o.deadKey)) := St.set0 h 1 (tx o.deadKey)
theorem oclone_own (h : OOwnS w o w') {l : List UInt8} (hl : l.length ≤ 140737488351232) : Calls Tryz.prog 154 #[tx l] w' fun r w2 => r = .returned (tx l) ∧ OOwnS w o w2 ∧
  (w2.cell? ⟨w.heap.size, 0, none⟩ = some (tx o.dead) ∧ w2.cell? ⟨w.heap.size, 1, none⟩ = some (tx o.deadKey)) ∧
  (w2.frozen? ⟨w.heap.size, 0, none⟩ = false ∧ w2.frozen? ⟨w.heap.size, 1, none⟩ = false) := by
 refine (clone_any l w' hl).mono ?_
 rintro r w2 ⟨rfl, hb⟩
 have h2 : OOwnS w o w2 := St.grow h hb
 exact ⟨rfl, h2, h2.from, St.soft h2 List.mem_cons_self 0, St.soft h2 List.mem_cons_self 1⟩
structure OOwnC (w : World) (o : Opt) (w' : World) : Prop where
 src : OpC w' w.heap.size o
 dst : OpC w' (w.heap.size + 1) z0O
 soft : ∀ i, w'.frozen? ⟨w.heap.size + 1, i, none⟩ = false
theorem OOwnS.cells (h : OOwnS w o w') : OOwnC w o w' :=
 have m0 : (w.heap.size, opO o) ∈ [(w.heap.size, opO o), (w.heap.size + 1, opO z0O)] := List.mem_cons_self
 have m1 : (w.heap.size + 1, opO z0O) ∈ [(w.heap.size, opO o), (w.heap.size + 1, opO z0O)] := List.mem_cons_of_mem _ List.mem_cons_self
 ⟨St.opC h m0, St.opC h m1, fun i => St.soft h m1 i⟩
set_option maxHeartbeats 2000000 in
theorem oown_any (o : Opt) (h1 : o.dead.length ≤ 140737488351232) (h2 : o.deadKey.length ≤ 140737488351232) (w : World) : Calls Tryz.prog 240 #[opV o] w fun r w' => r = .returned (opV o) ∧ Below w.heap.size w w' := by
 have hs0 : OOwnS w o ((w.alloc (opO o)).alloc (opO z0O)).drew := St.drew (OOwnS.start w o)
 have hs1 := Lib.hid hs0.from
 have cc := Lib.hid (fun (w' : World) (h : OOwnS w o w') (l : List UInt8) (hl : l.length ≤ 140737488351232) => oclone_own h hl)
 go_enter Tryz.func240, Tryz.ntmps240
 go_wp2_with fail
 go_region_held3 (fun wr => wr.cell? ⟨w.heap.size, 0, none⟩ = some (tx o.dead) ∧ wr.cell? ⟨w.heap.size, 1, none⟩ = some (tx o.deadKey)) (first | exact hS | exact hs1.out | exact (OOwnS.st0 hO).from | exact (OOwnS.st1 (OOwnS.st0 hO)).from | go_keep) ((go_at_call 154; refine (cc.out _ (by assumption) _ (by assumption)).mono ?_; rintro r w'' ⟨rfl, hO, hS, f3, f4⟩))
 have hO2 := OOwnS.st1 (OOwnS.st0 hO)
 clear cc hs1 hs0 f3 f4 hS hO h1 h2
 obtain ⟨W, hW⟩ : ∃ W, W = (w''.setCell ⟨w.heap.size, 0, none⟩ (tx o.dead)).setCell ⟨w.heap.size, 1, none⟩ (tx o.deadKey) := ⟨_, rfl⟩
 rw [← hW] at hO2 ⊢
 clear hW
 obtain ⟨⟨k0, k1, k2, k3, k4, k5⟩, ⟨d0, d1, d2, d3, d4, d5⟩, sf⟩ := hO2.cells
 have hO3 : St w.heap.size w (opPut W (w.heap.size + 1) o) [(w.heap.size + 1, opO o), (w.heap.size, opO o)] := St.opPut (St.perm hO2 (List.Perm.swap _ _ _))
 have hE := Lib.hid (St.opC hO3 List.mem_cons_self)
 have hB := Lib.hid hO3.below
 clear hO2 hO3
 go_wp2_with fail
 exact bodyPost_ret (ret_opts rfl rfl hE.out rfl) rfl ⟨rfl, hB.out⟩
end
section
variable {B : Nat} {w0 w w' : World} {qb rk b k : Nat} {o : Opt} {M L : List Ent} {F F' S Y : List (Nat × Obj)} {e e0 : Ent}
theorem qu_new (h : St B w0 w F) (h1 : o.dead.length ≤ 140737488351232) (h2 : o.deadKey.length ≤ 140737488351232) : Calls Tryz.prog 199 #[opV o] w fun r w' => ∃ qb, r = .returned (rptr qb) ∧ QuIs B w0 w' qb o [] F := by
 have co := Lib.hid (oown_any o h1 h2 (w.alloc (opO o)))
 have hn : Hid (∀ w', Below (w.alloc (opO o)).heap.size (w.alloc (opO o)) w' → QuIs B w0 (w'.alloc (quO o none)) w'.heap.size o [] F) := Lib.hid fun w' hb =>
  .inl ⟨rfl, (((h.alloc (opO o)).grow hb).sub (List.sublist_cons_self _ _)).alloc _⟩
 clear h h1 h2
 go_enter Tryz.func199, Tryz.ntmps199
 go_wp2_with fail
 refine co.out.mono ?_
 rintro r w1 ⟨rfl, hb⟩
 have fin := Lib.hid (hn.out _ hb)
 clear co hn hb
 go_wp2_with fail
 go_ret
 exact ⟨_, rfl, fin.out⟩
end
end
section
open Go.ChangeMaps (setBlock)
section
variable {B : Nat} {w0 w w' : World} {qb rk b k l : Nat} {o : Opt} {M L : List Ent} {F F' S Y : List (Nat × Obj)} {e e0 : Ent}
def MakeJ (B : Nat) (w0 : World) (qb : Nat) (o : Opt) (M : List Ent) (F : List (Nat × Obj)) (l : Nat) (g : Nat) (a' : Act) (w' : World) : Prop :=
 ∃ W N a c S, N.length = g ∧ Fr 30 [(0, rptr qb), (3, .slice a W.length c)] a' ∧ Sheds M W N ∧ l ≤ N.length + 1 ∧ EnsIs (.slice a W.length c) W S ∧ QuIs B w0 w' qb o N (S ++ F)
def MakeR (B : Nat) (w0 : World) (qb : Nat) (o : Opt) (M : List Ent) (F : List (Nat × Obj)) (l : Nat) (r : Ending) (w' : World) : Prop :=
 ∃ W N a c S, r = .returned (.slice a W.length c) ∧ Sheds M W N ∧ N.length + 1 = l ∧ EnsIs (.slice a W.length c) W S ∧ QuIs B w0 w' qb o N (S ++ F)
theorem len_op (h : QuIs B w0 w qb o M F) {n : Nat} (hn : M.length = n) : Calls Tryz.prog 73 #[rptr qb] w fun r w' => r = .returned (.int .i64 n) ∧ QuIs B w0 w' qb o M F ∧ OpC w' qb o := by
 subst hn
 refine (qu_len h).mono ?_
 rintro r w' ⟨rfl, h'⟩
 exact ⟨rfl, h', h'.ops.1⟩
theorem limit_op (h : QuIs B w0 w qb o M F) {n : Nat} (hn : limitO o = n) : Calls Tryz.prog 361 #[opV o] w fun r w' => r = .returned (.int .i64 n) ∧ QuIs B w0 w' qb o M F ∧ OpC w' qb o := by
 rw [← hn]
 refine (limit_any o w).mono ?_
 rintro r w' ⟨rfl, hb⟩
 exact ⟨rfl, h.grow hb, (h.grow hb).ops.1⟩
set_option maxHeartbeats 2000000 in
theorem make_room (h : QuIs B w0 w qb o M F) (hl : limitO o = l) (hl1 : 1 ≤ l) (hl2 : l ≤ M.length) (hM : M.length ≤ 100000) : Calls Tryz.prog 363 #[rptr qb] w (MakeR B w0 qb o M F l) := by
 have hok := Lib.hid h.ok
 have hM2 := Lib.hid hM
 replace h := Lib.hid h
 replace hl2 := Lib.hid hl2
 replace hl := Lib.hid hl
 clear hM
 go_enter Tryz.func363, Tryz.ntmps363
 go_wp2_with fail
 refine wp_scope_ghost 0 (MakeJ B w0 qb o M F l) rfl ?_ ?_
 ·clear h
  rintro g a' wr ⟨W, N, a, c, S, hg, hfr, hsh, hln, hs, hR⟩
  obtain ⟨fr, rfl, hl'⟩ := hfr.lit
  clear hfr
  simp only [List.mem_cons, List.not_mem_nil, or_false, forall_eq_or_imp, forall_eq] at hl'
  obtain ⟨f0, f3⟩ := hl'
  simp only [List.range, List.range.loop, List.map, f0, f3]
  clear f0 f3
  have hWN := hsh.len hok.out
  have hR0 : QuIs B w0 wr.drew qb o N (S ++ F) := hR.grow (drew_b _)
  have cl := Lib.hid (fun W (h : QuIs B w0 W qb o N (S ++ F)) => len_op h hg)
  have ci := Lib.hid (fun W (h : QuIs B w0 W qb o N (S ++ F)) => limit_op h hl.out)
  have hs0 := Lib.hid hR0.ops.1
  have hsh0 := Lib.hid hsh
  replace hs := Lib.hid hs
  by_cases hlt : g < l
  ·have hlt1 : (g : Int) < l := by omega
   have hnl : N.length + 1 = l := by omega
   have hfin : Hid (∀ w', QuIs B w0 w' qb o N (S ++ F) → MakeR B w0 qb o M F l (.returned (.slice a W.length c)) w') := Lib.hid fun w' h => ⟨W, N, a, c, S, rfl, hsh, hnl, hs.out, h⟩
   clear hR hg hln hWN hsh hsh0 hnl hs
   generalize W.length = n at *
   go_wp2_with fail
   go_region_held3 (fun x => x.cell? ⟨qb, 0, none⟩ = some (tx o.dead) ∧ x.cell? ⟨qb, 1, none⟩ = some (tx o.deadKey) ∧ x.cell? ⟨qb, 2, none⟩ = some (.int .i64 o.maxLen) ∧ x.cell? ⟨qb, 3, none⟩ = some (.int .i64 o.ttl) ∧ x.cell? ⟨qb, 4, none⟩ = some (.int .i64 o.prio) ∧ x.cell? ⟨qb, 5, none⟩ = some (.int .i64 o.bits)) (first | exact hS | exact hs0.out) (first
    | (go_at_call 73; refine (cl.out _ (by assumption)).mono ?_; rintro r w'' ⟨rfl, hQ, hS⟩)
    | (go_at_call 361; refine (ci.out _ (by assumption)).mono ?_; rintro r w'' ⟨rfl, hQ, hS⟩))
   have fin := Lib.hid (hfin.out _ hQ)
   clear hQ hS cl ci hs0 hfin hR0
   go_wp2_with fail
   simp only [Exit.jump]
   go_ret
   exact fin.out
  ·have hlt1 : ¬ (g : Int) < l := by omega
   have hN0 : N ≠ [] := by
    rintro rfl
    simp at hg
    omega
   have hgo : Hid (∀ x, IsWorst N x → ∀ a9 W9 a' c' S', EnsIs (.slice a' (W ++ [x]).length c') (W ++ [x]) S' → QuIs B w0 W9 qb o (delM N x.id) (S' ++ F) → Fr 30 [(0, rptr qb), (3, .slice a' (W ++ [x]).length c')] a9 → ∃ m, m < g ∧ MakeJ B w0 qb o M F l m a9 W9) := Lib.hid fun x hx a9 W9 a' c' S' h1 h2 h3 => by
    have := del_len (hok.out.sub hsh.sub) hx.mem
    exact ⟨(delM N x.id).length, by omega, W ++ [x], delM N x.id, a', c', S', rfl, h3, .snoc hsh hx, by omega, h1, h2⟩
   have hWl : Hid (W.length ≤ 100000) := Lib.hid (by have := hM2.out; omega)
   have hWx : ∀ x, (W ++ [x]).length = W.length + 1 := fun x => by simp
   replace hWx := Lib.hid hWx
   clear hR hg hln hWN hsh hsh0
   obtain ⟨n, hn⟩ : ∃ n, n = W.length := ⟨_, rfl⟩
   rw [← hn] at hs ⊢
   replace hn := Lib.hid hn
   go_wp2_with fail
   go_region_held3 (fun x => x.cell? ⟨qb, 0, none⟩ = some (tx o.dead) ∧ x.cell? ⟨qb, 1, none⟩ = some (tx o.deadKey) ∧ x.cell? ⟨qb, 2, none⟩ = some (.int .i64 o.maxLen) ∧ x.cell? ⟨qb, 3, none⟩ = some (.int .i64 o.ttl) ∧ x.cell? ⟨qb, 4, none⟩ = some (.int .i64 o.prio) ∧ x.cell? ⟨qb, 5, none⟩ = some (.int .i64 o.bits)) (first | exact hS | exact hs0.out) (first
    | (go_at_call 73; refine (cl.out _ (by assumption)).mono ?_; rintro r w'' ⟨rfl, hQ, hS⟩)
    | (go_at_call 361; refine (ci.out _ (by assumption)).mono ?_; rintro r w'' ⟨rfl, hQ, hS⟩))
   have cr := Lib.hid (ready_any hQ)
   clear hS cl ci hs0 hR0 hQ
   go_wp2_with fail
   refine cr.out.mono ?_
   rintro r w3 ⟨rk, rfl, h3⟩
   have cw := Lib.hid (rk_worst h3)
   replace h3 := Lib.hid h3
   clear cr
   go_wp2_with fail
   refine cw.out.mono ?_
   rintro r w4 ⟨⟨x, b, rfl, hx0⟩, hb⟩
   obtain ⟨hx, rfl⟩ : IsWorst N x ∧ b = true := by
    rcases hx0 with ⟨h, -⟩ | h
    ·exact absurd h hN0
    ·exact h
   have h4 : QuIs B w0 (w4.alloc (enO x)) qb o N ((w4.heap.size, enO x) :: (S ++ F)) := (QuAt.is (RackIs.grow h3.out hb)).alloc _
   have h5 : QuIs B w0 (w4.alloc (enO x)).drew qb o N ((w4.heap.size, enO x) :: (S ++ F)) := h4.grow (drew_b _)
   clear cw h3 h4 hb
   go_wp2_with fail
   generalize w4.heap.size = eb at *
   have hs0 := Lib.hid (h5.at_block (k := eb) (e := x) List.mem_cons_self).1
   have crr : Hid (∀ W, QuIs B w0 W qb o N ((eb, enO x) :: (S ++ F)) → Calls Tryz.prog 128 #[rptr qb] W fun r w' => ∃ rk, r = .returned (rptr rk) ∧ QuAt B w0 w' qb rk o N ((eb, enO x) :: (S ++ F)) ∧ w'.cell? ⟨eb, 0, none⟩ = some (.int .i64 x.id)) := Lib.hid fun W h => by
    refine (ready_any h).mono ?_
    rintro r w' ⟨rk, rfl, h'⟩
    exact ⟨rk, rfl, h', (h'.is.at_block (k := eb) (e := x) List.mem_cons_self).1.1⟩
   have cd : Hid (∀ W rk, QuAt B w0 W qb rk o N ((eb, enO x) :: (S ++ F)) → Calls Tryz.prog 213 #[rptr rk, .int .i64 x.id] W fun r w' => (∃ y, r = .returned (.tuple #[y, .bool true])) ∧ QuIs B w0 w' qb o (delM N x.id) ((eb, enO x) :: (S ++ F)) ∧ w'.cell? ⟨eb, 0, none⟩ = some (.int .i64 x.id)) := Lib.hid fun W rk h => by
    refine (rk_drop_hit (e := x) h hx.mem).mono ?_
    rintro r w' ⟨rfl, h'⟩
    have h2 : QuIs B w0 w' qb o (delM N x.id) ((eb, enO x) :: (S ++ F)) := .inr ⟨_, h'⟩
    exact ⟨⟨_, rfl⟩, h2, (h2.at_block (k := eb) (e := x) List.mem_cons_self).1.1⟩
   have hgo2 := Lib.hid (hgo.out x hx)
   clear hgo hx hx0
   go_region_held3 (fun x9 => x9.cell? ⟨eb, 0, none⟩ = some (.int .i64 x.id)) (first | exact kS | exact hs0.out.1) (first
    | (go_at_call 128; refine (crr.out _ (by assumption)).mono ?_; rintro r w9 ⟨rk2, rfl, hA, kS⟩)
    | (go_at_call 213; refine (cd.out _ _ (by assumption)).mono ?_; rintro r w9 ⟨⟨y, rfl⟩, hD, kS⟩))
   obtain ⟨x0, x1, x2, x3, x4, x5, x6, x7, x8, x9⟩ := (hD.at_block (k := eb) (e := x) List.mem_cons_self).1
   have hsn := hs.out
   rw [hn.out] at hsn
   obtain ⟨a', c', W9, S', q1, q2, q3⟩ := (hD.permF (F' := S ++ ((eb, enO x) :: F)) List.perm_middle.symm).ensPush hsn x hWl.out
   have fin := Lib.hid (fun a9 => hgo2.out a9 W9 a' c' S' q2 (q3.sub ((List.Sublist.refl _).append (List.sublist_cons_self _ _))))
   rw [← hn.out] at q1
   clear hgo2 q2 q3 hD hA kS crr cd hs0 hsn
   generalize (W ++ [x]).length = m at *
   go_wp2_with (at_builtin; refine wpList_append_go rfl (.tmp 26) (.tmp 28) 46 46 rfl _ _ rfl rfl q1 ?_)
   refine wp_goto ?_
   exact ⟨rfl, fin.out _ ⟨rfl, rfl, by simp⟩⟩
 ·intro HJ
  go_wp2_with fail
  refine wp_label ?_
  go_step
  go_step
  exact HJ M.length _ _ ⟨[], M, none, 0, [], rfl, ⟨rfl, rfl, by simp⟩, .nil, by have := hl2.out; omega, EnsIs.nil, h.out⟩
end
end
def leastAt (t u : Int) : Nat → Int
 | 0 => 0
 | 1 => if 0 < t then t else 0
 | _ => shorter t u
def ShortJ (t u : Int) (a : Value) (w0 : World) (g : Nat) (a' : Act) (wr : World) : Prop :=
 ∃ (j : Nat) (l : Int), j + g = 2 ∧ Fr 33 [(0, a), (3, .int .i64 l), (4, .int .i64 j)] a' ∧ l = leastAt t u j ∧ wr = w0
set_option maxHeartbeats 1000000 in
theorem shortest_any {b : Nat} {t u : Int} {w : World} (h0 : w.cell? ⟨b, 0, none⟩ = some (.int .i64 t)) (h1 : w.cell? ⟨b, 1, none⟩ = some (.int .i64 u)) :
  Calls Tryz.prog 364 #[.slice (some ⟨b, 0, none⟩) 2 2] w fun r w' => r = .returned (.int .i64 (shorter t u)) ∧ w' = w := by
 go_enter Tryz.func364, Tryz.ntmps364
 go_wp2_with fail
 refine wp_scope_ghost 0 (ShortJ t u (.slice (some ⟨b, 0, none⟩) 2 2) w) rfl ?_ ?_
 ·rintro g a' wr ⟨j, l, hj, hfr, hl, rfl⟩
  obtain ⟨f, rfl, hl'⟩ := hfr.lit
  clear hfr
  simp only [List.mem_cons, List.not_mem_nil, or_false, forall_eq_or_imp, forall_eq] at hl'
  obtain ⟨f3, f4, f5⟩ := hl'
  simp only [List.range, List.range.loop, List.map, f3, f4, f5]
  clear f3 f4 f5
  obtain rfl | rfl | rfl : j = 0 ∨ j = 1 ∨ j = 2 := by omega
  all_goals simp only [Int.cast_ofNat_Int]
  ·have hl0 : l = 0 := hl
   subst hl0
   by_cases ht : 0 < t
   ·have e : Hid (t = leastAt t u 1) := Lib.hid (by simp [leastAt, ht])
    clear hl
    go_wp2_with fail
    refine wp_goto ?_
    exact ⟨rfl, g - 1, by omega, 1, t, by omega, ⟨rfl, rfl, by simp⟩, e.out, rfl⟩
   ·have e : Hid (0 = leastAt t u 1) := Lib.hid (by simp [leastAt, ht])
    clear hl
    go_wp2_with fail
    refine wp_goto ?_
    exact ⟨rfl, g - 1, by omega, 1, 0, by omega, ⟨rfl, rfl, by simp⟩, e.out, rfl⟩
  ·have e2 : (if 0 < t then t else 0) = l := hl.symm
   have hls : Hid (leastAt t u 2 = if 0 < l then (if 0 < u ∧ u < l then u else l) else if 0 < u then u else 0) := Lib.hid (by
    show shorter t u = _
    unfold shorter
    by_cases h : 0 < t
    ·rw [if_pos h] at e2
     subst e2
     rw [if_pos h]
    ·rw [if_neg h] at e2
     subst e2
     rw [if_neg h, if_neg (show ¬ (0 : Int) < 0 by decide)])
   have hlp : 0 ≤ l := by split at e2 <;> omega
   replace e2 := Lib.hid e2
   clear hl
   by_cases hu : 0 < u
   ·by_cases h2 : l = 0
    ·subst h2
     have e : Hid (u = leastAt t u 2) := Lib.hid (by rw [hls.out]; simp [hu])
     clear hls e2
     go_wp2_with fail
     refine wp_goto ?_
     exact ⟨rfl, g - 1, by omega, 2, u, by omega, ⟨rfl, rfl, by simp⟩, e.out, rfl⟩
    ·have h2' : (l == 0) = false := by simpa using h2
     by_cases h3 : u < l
     ·have e : Hid (u = leastAt t u 2) := Lib.hid (by rw [hls.out, if_pos (by omega), if_pos ⟨hu, h3⟩])
      clear hls e2 h2
      go_wp2_with fail
      refine wp_goto ?_
      exact ⟨rfl, g - 1, by omega, 2, u, by omega, ⟨rfl, rfl, by simp⟩, e.out, rfl⟩
     ·have e : Hid (l = leastAt t u 2) := Lib.hid (by rw [hls.out, if_pos (by omega), if_neg (by omega)])
      clear hls e2 h2
      go_wp2_with fail
      refine wp_goto ?_
      exact ⟨rfl, g - 1, by omega, 2, l, by omega, ⟨rfl, rfl, by simp⟩, e.out, rfl⟩
   ·have e : Hid (l = leastAt t u 2) := Lib.hid (by
     rw [hls.out]
     by_cases h : 0 < l
     ·rw [if_pos h, if_neg (by omega)]
     ·rw [if_neg h, if_neg hu]; omega)
    clear hls e2
    go_wp2_with fail
    refine wp_goto ?_
    exact ⟨rfl, g - 1, by omega, 2, l, by omega, ⟨rfl, rfl, by simp⟩, e.out, rfl⟩
  ·have e : Hid (l = shorter t u) := Lib.hid hl
   clear hl
   go_wp2_with fail
   simp only [Exit.jump]
   go_ret
   exact ⟨congrArg (fun x => Ending.returned (.int .i64 x)) e.out, rfl⟩
 ·intro H
  go_wp2_with fail
  refine wp_label ?_
  go_step
  go_step
  exact H _ _ _ ⟨0, 0, Nat.zero_add 2, ⟨rfl, rfl, by simp⟩, rfl, rfl⟩
set_option maxHeartbeats 1000000 in
theorem for_any (e : Ent) (o : Opt) (now : Int) (w : World) : Calls Tryz.prog 360 #[enV e, opV o, .int .i64 now] w fun r w' => r = .returned (enV (forE e o now)) ∧ Below w.heap.size w w' := by
 go_enter Tryz.func360, Tryz.ntmps360
 go_wp2_with fail
 all_goals
  have hpr : Hid (max (min e.prio o.prio) 0 = max (min e.prio o.prio) 0) := Lib.hid rfl
  refine (shortest_any (t := e.ttl) (u := o.ttl) ?_ ?_).mono ?_
  ·go_simp
  ·go_simp
  rintro r w1 ⟨rfl, rfl⟩
  by_cases hs : 0 < shorter e.ttl o.ttl
  ·have hf : Hid (forE e o now = { e with prio := max (min e.prio o.prio) 0, til := IntKind.i64.wrap (now + shorter e.ttl o.ttl) }) := Lib.hid (by unfold forE; rw [if_pos hs])
   obtain ⟨T, hT⟩ : ∃ T, IntKind.i64.wrap (now + shorter e.ttl o.ttl) = T := ⟨_, rfl⟩
   rw [hT] at hf
   generalize shorter e.ttl o.ttl = s at *
   go_wp2_with fail
   refine bodyPost_ret (v := enV (forE e o now)) ?_ rfl ⟨rfl, by repeat (first | exact Below.refl _ _ | refine bel ?_ (new_below _ _))⟩
   rw [hf.out]
   simp [results, Tryz.results360, go_sem]
   first | omega | (rename_i h1; split at h1 <;> omega) | trace_state
  ·have hf : Hid (forE e o now = { e with prio := max (min e.prio o.prio) 0, til := 0 }) := Lib.hid (by unfold forE; rw [if_neg hs])
   generalize shorter e.ttl o.ttl = s at *
   go_wp2_with fail
   refine bodyPost_ret (v := enV (forE e o now)) ?_ rfl ⟨rfl, by repeat (first | exact Below.refl _ _ | refine bel ?_ (new_below _ _))⟩
   rw [hf.out]
   simp [results, Tryz.results360, go_sem]
   first | omega | (rename_i h1; split at h1 <;> omega) | trace_state
section
open Go.ChangeMaps (setBlock)
def PutP (o : Opt) (M : List Ent) (e : Ent) (ok : Bool) (W N : List Ent) : Prop :=
 (putOk M e = false ∧ ok = false ∧ W = [] ∧ N = M) ∨
 (putOk M e = true ∧ (M.length : Int) < limitO o ∧ ok = true ∧ W = [] ∧ N = insM e M) ∨
 (putOk M e = true ∧ limitO o ≤ M.length ∧ rejO o = true ∧ ok = false ∧ W = [] ∧ N = M) ∨
 (putOk M e = true ∧ limitO o ≤ M.length ∧ rejO o = false ∧ ok = true ∧ ∃ N1, Sheds M W N1 ∧ (N1.length : Int) + 1 = limitO o ∧ N = insM e N1)
theorem limit_nat (o : Opt) : ∃ l : Nat, limitO o = l ∧ 1 ≤ l ∧ l ≤ 60 := by
 refine ⟨(limitO o).toNat, ?_, ?_, ?_⟩ <;>
 ·unfold limitO
  split <;> omega
section
variable {B : Nat} {w0 w w' : World} {qb rk b k l : Nat} {o : Opt} {M L : List Ent} {F F' S Y : List (Nat × Obj)} {e e0 : Ent}
def PutR (B : Nat) (w0 : World) (qb : Nat) (o : Opt) (M : List Ent) (F : List (Nat × Obj)) (e : Ent) (r : Ending) (w' : World) : Prop :=
 ∃ ok W N a c S, r = .returned (.tuple #[.bool ok, .slice a W.length c]) ∧ PutP o M e ok W N ∧ EnsIs (.slice a W.length c) W S ∧ QuIs B w0 w' qb o N (S ++ F)
theorem PutR.none_ (hp : PutP o M e false [] M) (h : QuIs B w0 w qb o M F) : PutR B w0 qb o M F e (.returned (.tuple #[.bool false, .slice none 0 0])) w := ⟨false, [], M, none, 0, [], rfl, hp, EnsIs.nil, h⟩
theorem ready_op {G : List (Nat × Obj)} (h : QuIs B w0 w qb o M ((k, enO e) :: G)) : Calls Tryz.prog 128 #[rptr qb] w fun r w' => ∃ rk, r = .returned (rptr rk) ∧ QuAt B w0 w' qb rk o M ((k, enO e) :: G) ∧ EnAt w' k e := by
 refine (ready_any h).mono ?_
 rintro r w' ⟨rk, rfl, h'⟩
 exact ⟨rk, rfl, h', (h'.is.at_block (k := k) (e := e) List.mem_cons_self).1⟩
theorem put_op {G : List (Nat × Obj)} (h1 : e.exch.length ≤ 140737488351232) (h2 : e.key.length ≤ 140737488351232) (hlen : M.length < 100000) {ok : Bool} (hok : putOk M e = ok) {N : List Ent} (hN : putM M e = N) (h : QuAt B w0 w qb rk o M ((k, enO e) :: G)) : Calls Tryz.prog 227 #[rptr rk, enV e] w fun r w' => r = .returned (.bool ok) ∧ QuIs B w0 w' qb o N ((k, enO e) :: G) ∧ EnAt w' k e := by
 subst hok hN
 refine (rk_put (e := e) h h1 h2 hlen).mono ?_
 rintro r w' ⟨rfl, h'⟩
 have h3 : QuIs B w0 w' qb o (putM M e) ((k, enO e) :: G) := .inr ⟨_, h'⟩
 exact ⟨rfl, h3, (h3.at_block (k := k) (e := e) List.mem_cons_self).1⟩
theorem drop_op {G : List (Nat × Obj)} (he : e ∈ M) {N : List Ent} (hN : delM M e.id = N) (h : QuAt B w0 w qb rk o M ((k, enO e) :: G)) : Calls Tryz.prog 213 #[rptr rk, .int .i64 e.id] w fun r w' => (∃ y, r = .returned (.tuple #[y, .bool true])) ∧ QuIs B w0 w' qb o N ((k, enO e) :: G) ∧ EnAt w' k e := by
 subst hN
 refine (rk_drop_hit (e := e) h he).mono ?_
 rintro r w' ⟨rfl, h'⟩
 have h3 : QuIs B w0 w' qb o (delM M e.id) ((k, enO e) :: G) := .inr ⟨_, h'⟩
 exact ⟨⟨_, rfl⟩, h3, (h3.at_block (k := k) (e := e) List.mem_cons_self).1⟩
theorem for_op {G : List (Nat × Obj)} {e' : Ent} {now : Int} (he : forE e o now = e') (h : QuIs B w0 w qb o M ((k, enO e) :: G)) : Calls Tryz.prog 360 #[enV e, opV o, .int .i64 now] w fun r w' => r = .returned (enV e') ∧ EnAt w' k e ∧ (∀ i, w'.frozen? ⟨k, i, none⟩ = false) ∧ QuIs B w0 (enPut w' k e') qb o M ((k, enO e') :: G) := by
 subst he
 refine (for_any e o now w).mono ?_
 rintro r w' ⟨rfl, hb⟩
 have h1 := h.grow hb
 exact ⟨rfl, (h1.at_block (k := k) (e := e) List.mem_cons_self).1, (h1.at_block (k := k) (e := e) List.mem_cons_self).2, h1.enPut⟩
set_option maxHeartbeats 4000000 in
theorem qu_put (h : QuIs B w0 w qb o M F) (h1 : e.exch.length ≤ 140737488351232) (h2 : e.key.length ≤ 140737488351232) (hlen : M.length < 90000) (now : Int) : Calls Tryz.prog 358 #[rptr qb, enV e, .int .i64 now] w (PutR B w0 qb o M F (forE e o now)) := by
 obtain ⟨e', he⟩ : ∃ e', forE e o now = e' := ⟨_, rfl⟩
 rw [he]
 have g1 : Hid (e'.exch.length ≤ 140737488351232) := Lib.hid (by rw [← he]; exact h1)
 have g2 : Hid (e'.key.length ≤ 140737488351232) := Lib.hid (by rw [← he]; exact h2)
 have hok := Lib.hid h.ok
 have ha : QuIs B w0 (w.alloc (enO e)).drew qb o M ((w.heap.size, enO e) :: F) := (h.alloc (enO e)).grow (drew_b _)
 obtain ⟨k0, k1, k2, k3, k4, k5, k6, k7, k8, k9⟩ := (ha.at_block (k := w.heap.size) (e := e) List.mem_cons_self).1
 obtain ⟨o0, o1, o2, o3, o4, o5⟩ := ha.ops.1
 have cf := Lib.hid (for_op he ha)
 replace hlen := Lib.hid hlen
 clear h h1 h2 ha he
 go_enter Tryz.func358, Tryz.ntmps358
 go_upto_region 1 with fail
 generalize w.heap.size = eb at *
 go_cut [] (fun wy => QuIs B w0 wy qb o M ((eb, enO e') :: F))
 case first =>
  go_region_law (go_simp; go_at_call 360; refine cf.out.mono ?_; rintro r w3 ⟨rfl, ⟨z0, z1, z2, z3, z4, z5, z6, z7, z8, z9⟩, zs, fin⟩)
  all_goals
   go_wp2_with fail
   go_meet
   case rel => exact fin
 case rest =>
  clear cf k0 k1 k2 k3 k4 k5 k6 k7 k8 k9 o0 o1 o2 o3 o4 o5
  have hR : QuIs B w0 wc.drew qb o M ((eb, enO e') :: F) := hcut.grow (drew_b _)
  have hs0 := Lib.hid (hR.at_block (k := eb) (e := e') List.mem_cons_self).1
  obtain ⟨q0, q1, q2, q3, q4, q5, q6, q7, q8, q9⟩ := (hcut.at_block (k := eb) (e := e') List.mem_cons_self).1
  clear hcut
  cases hpo : putOk M e' with
  | false =>
   have hN : putM M e' = M := by
    unfold putM
    rw [hpo]
    rfl
   have cp := Lib.hid (fun W rk (h : QuAt B w0 W qb rk o M ((eb, enO e') :: F)) => put_op g1.out g2.out (by have := hlen.out; omega) hpo hN h)
   have hfin : Hid (∀ w', QuIs B w0 w' qb o M ((eb, enO e') :: F) → PutR B w0 qb o M F e' (.returned (.tuple #[.bool false, .slice none 0 0])) w') := Lib.hid fun w' h => .none_ (.inl ⟨hpo, rfl, rfl, rfl⟩) (h.sub (List.sublist_cons_self _ _))
   clear hN hpo
   go_wp2_with fail
   go_region_held3 (fun x => x.cell? ⟨eb, 0, none⟩ = some (.int .i64 e'.id) ∧ x.cell? ⟨eb, 1, none⟩ = some (.int .i64 e'.body) ∧ x.cell? ⟨eb, 2, none⟩ = some (.int .i64 e'.size) ∧ x.cell? ⟨eb, 3, none⟩ = some (tx e'.exch) ∧ x.cell? ⟨eb, 4, none⟩ = some (tx e'.key) ∧ x.cell? ⟨eb, 5, none⟩ = some (.int .i64 e'.prio) ∧ x.cell? ⟨eb, 6, none⟩ = some (.int .i64 e'.ttl) ∧ x.cell? ⟨eb, 7, none⟩ = some (.int .i64 e'.til) ∧ x.cell? ⟨eb, 8, none⟩ = some (.bool e'.again) ∧ x.cell? ⟨eb, 9, none⟩ = some (.int .i64 e'.hops)) (first | exact kS | exact hs0.out) (first
    | (go_at_call 128; refine (ready_op (by assumption)).mono ?_; rintro r w4 ⟨rk, rfl, hA, kS⟩)
    | (go_at_call 227; refine (cp.out _ _ (by assumption)).mono ?_; rintro r w4 ⟨rfl, hQ, kS⟩))
   have fin := Lib.hid (hfin.out _ hQ)
   clear hQ kS hA hR cp hs0 hfin
   go_wp2_with fail
   go_ret2
   exact fin.out
  | true =>
   have hN : putM M e' = insM e' M := by
    unfold putM
    rw [hpo]
    rfl
   have hpo2 := hpo
   simp only [putOk, decide_eq_true_eq] at hpo2
   have hnin : ∀ x ∈ M, x.id ≠ e'.id := fun x hx e1 => hpo2.1 (e1 ▸ List.mem_map_of_mem hx)
   have cp := Lib.hid (fun W rk (h : QuAt B w0 W qb rk o M ((eb, enO e') :: F)) => put_op g1.out g2.out (by have := hlen.out; omega) hpo hN h)
   have cd := Lib.hid (fun W rk (h : QuAt B w0 W qb rk o (insM e' M) ((eb, enO e') :: F)) => drop_op (e := e') (mem_ins.2 (.inl rfl)) (del_ins hnin) h)
   obtain ⟨l, hl, hl1, hl2⟩ := limit_nat o
   have cl := Lib.hid (fun W (h : QuIs B w0 W qb o (insM e' M) ((eb, enO e') :: F)) => len_op h (ins_len e' M))
   have ci := Lib.hid (fun W (h : QuIs B w0 W qb o (insM e' M) ((eb, enO e') :: F)) => limit_op h hl)
   have cj := Lib.hid (fun W (h : QuIs B w0 W qb o M ((eb, enO e') :: F)) (hle : l ≤ M.length) => make_room h hl hl1 hle (by have := hlen.out; omega))
   have hP1 : Hid (M.length < l → ∀ w', QuIs B w0 w' qb o (insM e' M) ((eb, enO e') :: F) → PutR B w0 qb o M F e' (.returned (.tuple #[.bool true, .slice none 0 0])) w') := Lib.hid fun hlt w' h =>
    ⟨true, [], insM e' M, none, 0, [], rfl, .inr (.inl ⟨hpo, by rw [hl]; omega, rfl, rfl, rfl⟩), EnsIs.nil, h.sub (List.sublist_cons_self _ _)⟩
   have hP2 : Hid (l ≤ M.length → rejO o = true → ∀ w', QuIs B w0 w' qb o M ((eb, enO e') :: F) → PutR B w0 qb o M F e' (.returned (.tuple #[.bool false, .slice none 0 0])) w') := Lib.hid fun hle hr w' h =>
    .none_ (.inr (.inr (.inl ⟨hpo, by rw [hl]; omega, hr, rfl, rfl, rfl⟩))) (h.sub (List.sublist_cons_self _ _))
   have hP3 : Hid (l ≤ M.length → rejO o = false → ∀ W N a c S, Sheds M W N → N.length + 1 = l → EnsIs (.slice a W.length c) W S → (putOk N e' = true ∧ N.length < 100000) ∧ ∀ w', QuIs B w0 w' qb o (insM e' N) ((eb, enO e') :: (S ++ F)) → PutR B w0 qb o M F e' (.returned (.tuple #[.bool true, .slice a W.length c])) w') := Lib.hid fun hle hr W N a c S h1 h2 h3 => by
    refine ⟨⟨?_, by omega⟩, fun w' h => ⟨true, W, insM e' N, a, c, S, rfl, .inr (.inr (.inr ⟨hpo, by rw [hl]; omega, hr, rfl, N, h1, by rw [hl]; omega, rfl⟩)), h3, h.sub (List.sublist_cons_self _ _)⟩⟩
    simp only [putOk, decide_eq_true_eq]
    exact ⟨fun hm => hpo2.1 ((h1.sub.map _).subset hm), hpo2.2⟩
   replace hnin := Lib.hid hnin
   replace hpo := Lib.hid hpo
   clear hN hpo2 hl
   go_wp2_with fail
   go_region_held3 (fun x => x.cell? ⟨eb, 0, none⟩ = some (.int .i64 e'.id) ∧ x.cell? ⟨eb, 1, none⟩ = some (.int .i64 e'.body) ∧ x.cell? ⟨eb, 2, none⟩ = some (.int .i64 e'.size) ∧ x.cell? ⟨eb, 3, none⟩ = some (tx e'.exch) ∧ x.cell? ⟨eb, 4, none⟩ = some (tx e'.key) ∧ x.cell? ⟨eb, 5, none⟩ = some (.int .i64 e'.prio) ∧ x.cell? ⟨eb, 6, none⟩ = some (.int .i64 e'.ttl) ∧ x.cell? ⟨eb, 7, none⟩ = some (.int .i64 e'.til) ∧ x.cell? ⟨eb, 8, none⟩ = some (.bool e'.again) ∧ x.cell? ⟨eb, 9, none⟩ = some (.int .i64 e'.hops)) (first | exact kS | exact hs0.out) (first
    | (go_at_call 128; refine (ready_op (by assumption)).mono ?_; rintro r w4 ⟨rk, rfl, hA, kS⟩)
    | (go_at_call 227; refine (cp.out _ _ (by assumption)).mono ?_; rintro r w4 ⟨rfl, hQ, kS⟩))
   have hQ3 : QuIs B w0 w4.drew qb o (insM e' M) ((eb, enO e') :: F) := hQ.grow (drew_b _)
   clear hs0
   have hs0 := Lib.hid hQ3.ops.1
   clear hA hR kS cp hQ q0 q1 q2 q3 q4 q5 q6 q7 q8 q9
   by_cases hlt : M.length < l
   ·have hlt1 : ((M.length + 1 : Nat) : Int) ≤ l := by omega
    have hfin := Lib.hid (hP1.out hlt)
    clear hP1 hP2 hP3 cd cj hlt
    generalize M.length + 1 = n at *
    go_wp2_with fail
    go_region_held3 (fun x => x.cell? ⟨qb, 0, none⟩ = some (tx o.dead) ∧ x.cell? ⟨qb, 1, none⟩ = some (tx o.deadKey) ∧ x.cell? ⟨qb, 2, none⟩ = some (.int .i64 o.maxLen) ∧ x.cell? ⟨qb, 3, none⟩ = some (.int .i64 o.ttl) ∧ x.cell? ⟨qb, 4, none⟩ = some (.int .i64 o.prio) ∧ x.cell? ⟨qb, 5, none⟩ = some (.int .i64 o.bits)) (first | exact hS | exact hs0.out) (first
    | (go_at_call 73; refine (cl.out _ (by assumption)).mono ?_; rintro r w4 ⟨rfl, hQ, hS⟩)
    | (go_at_call 361; refine (ci.out _ (by assumption)).mono ?_; rintro r w4 ⟨rfl, hQ, hS⟩))
    have fin := Lib.hid (hfin.out _ hQ)
    clear hQ hS cl ci hs0 hfin hQ3
    go_wp2_with fail
    go_ret2
    exact fin.out
   ·have hlt1 : ¬ ((M.length + 1 : Nat) : Int) ≤ l := by omega
    have hle : l ≤ M.length := by omega
    replace hP2 := Lib.hid (hP2.out hle)
    replace hP3 := Lib.hid (hP3.out hle)
    replace cj := Lib.hid (fun W h => cj.out W h hle)
    clear hP1 hlt hle
    generalize M.length + 1 = n at *
    go_wp2_with fail
    go_region_held3 (fun x => x.cell? ⟨qb, 0, none⟩ = some (tx o.dead) ∧ x.cell? ⟨qb, 1, none⟩ = some (tx o.deadKey) ∧ x.cell? ⟨qb, 2, none⟩ = some (.int .i64 o.maxLen) ∧ x.cell? ⟨qb, 3, none⟩ = some (.int .i64 o.ttl) ∧ x.cell? ⟨qb, 4, none⟩ = some (.int .i64 o.prio) ∧ x.cell? ⟨qb, 5, none⟩ = some (.int .i64 o.bits)) (first | exact hS | exact hs0.out) (first
    | (go_at_call 73; refine (cl.out _ (by assumption)).mono ?_; rintro r w4 ⟨rfl, hQ, hS⟩)
    | (go_at_call 361; refine (ci.out _ (by assumption)).mono ?_; rintro r w4 ⟨rfl, hQ, hS⟩))
    have hQ5 : QuIs B w0 w4.drew qb o (insM e' M) ((eb, enO e') :: F) := hQ.grow (drew_b _)
    clear hs0 hS cl ci hQ hQ3
    have hs0 := Lib.hid (hQ5.at_block (k := eb) (e := e') List.mem_cons_self).1.1
    go_wp2_with fail
    go_region_held3 (fun x => x.cell? ⟨eb, 0, none⟩ = some (.int .i64 e'.id)) (first | exact kS.1 | exact hs0.out) (first
    | (go_at_call 128; refine (ready_op (by assumption)).mono ?_; rintro r w4 ⟨rk, rfl, hA, kS⟩)
    | (go_at_call 213; refine (cd.out _ _ (by assumption)).mono ?_; rintro r w4 ⟨⟨y, rfl⟩, hQ, kS⟩))
    have cr := Lib.hid (qu_rejects hQ)
    clear hs0 hA hQ5 kS cd
    cases hrj : rejO o with
    | true =>
     rw [hrj] at cr
     have fin := Lib.hid (hP2.out hrj _ hQ)
     clear hP2 hP3 cj hQ
     go_wp2_with fail
     refine cr.out.mono ?_
     rintro r w5 ⟨rfl, rfl⟩
     clear cr
     go_wp2_with fail
     go_ret2
     exact fin.out
    | false =>
     rw [hrj] at cr
     replace hP3 := Lib.hid (hP3.out hrj)
     have cm := Lib.hid (cj.out _ hQ)
     clear hP2 cj hQ
     go_wp2_with fail
     refine cr.out.mono ?_
     rintro r w5 ⟨rfl, rfl⟩
     clear cr
     go_wp2_with fail
     refine cm.out.mono ?_
     rintro r w6 ⟨W, N, a, c, S, rfl, t1, t2, t3, hQ6⟩
     obtain ⟨⟨hpN, hNl⟩, hfin⟩ := hP3.out W N a c S t1 t2 t3
     have hN : putM N e' = insM e' N := by
      unfold putM
      rw [hpN]
      rfl
     replace hfin := Lib.hid hfin
     have hQ7 : QuIs B w0 w6.drew qb o N ((eb, enO e') :: (S ++ F)) := (hQ6.permF List.perm_middle).grow (drew_b _)
     have cp := Lib.hid (fun W rk (h : QuAt B w0 W qb rk o N ((eb, enO e') :: (S ++ F))) => put_op g1.out g2.out hNl hpN hN h)
     have hs0 := Lib.hid (hQ7.at_block (k := eb) (e := e') List.mem_cons_self).1
     obtain ⟨q0, q1, q2, q3, q4, q5, q6, q7, q8, q9⟩ := ((hQ6.permF (F' := (eb, enO e') :: (S ++ F)) List.perm_middle).at_block (k := eb) (e := e') List.mem_cons_self).1
     clear cm hP3 t1 t2 t3 hN hpN hNl hQ6
     generalize W.length = n2 at *
     go_wp2_with fail
     go_region_held3 (fun x => x.cell? ⟨eb, 0, none⟩ = some (.int .i64 e'.id) ∧ x.cell? ⟨eb, 1, none⟩ = some (.int .i64 e'.body) ∧ x.cell? ⟨eb, 2, none⟩ = some (.int .i64 e'.size) ∧ x.cell? ⟨eb, 3, none⟩ = some (tx e'.exch) ∧ x.cell? ⟨eb, 4, none⟩ = some (tx e'.key) ∧ x.cell? ⟨eb, 5, none⟩ = some (.int .i64 e'.prio) ∧ x.cell? ⟨eb, 6, none⟩ = some (.int .i64 e'.ttl) ∧ x.cell? ⟨eb, 7, none⟩ = some (.int .i64 e'.til) ∧ x.cell? ⟨eb, 8, none⟩ = some (.bool e'.again) ∧ x.cell? ⟨eb, 9, none⟩ = some (.int .i64 e'.hops)) (first | exact kS | exact hs0.out) (first
    | (go_at_call 128; refine (ready_op (by assumption)).mono ?_; rintro r w4 ⟨rk, rfl, hA, kS⟩)
    | (go_at_call 227; refine (cp.out _ _ (by assumption)).mono ?_; rintro r w4 ⟨rfl, hQ, kS⟩))
     have fin := Lib.hid (hfin.out _ hQ)
     clear hQ hA hQ7 kS cp hs0 hfin q0 q1 q2 q3 q4 q5 q6 q7 q8 q9
     go_wp2_with fail
     go_ret2
     exact fin.out
end
end
def Up (s : Nat → Bool) (l i : Nat) : Prop := ∃ p, p / 64 ^ l = i ∧ s p = true
def ins (s : Nat → Bool) (i : Nat) : Nat → Bool := fun p => p == i || s p
def del (s : Nat → Bool) (i : Nat) : Nat → Bool := fun p => p != i && s p
theorem up_zero {s : Nat → Bool} {i : Nat} : Up s 0 i ↔ s i = true := by
 constructor
 ·rintro ⟨p, h, hs⟩
  rw [Nat.pow_zero, Nat.div_one] at h
  exact h ▸ hs
 ·intro h
  exact ⟨i, by rw [Nat.pow_zero, Nat.div_one], h⟩
theorem up_del {s : Nat → Bool} {l i p : Nat} (h : Up (del s p) l i) : Up s l i := by
 obtain ⟨q, h, hs⟩ := h
 simp only [del, Bool.and_eq_true] at hs
 exact ⟨q, h, hs.2⟩
theorem up_del_other {s : Nat → Bool} {l i p : Nat} (hi : i ≠ p / 64 ^ l) (h : Up s l i) : Up (del s p) l i := by
 obtain ⟨q, h, hs⟩ := h
 refine ⟨q, h, ?_⟩
 simp only [del, Bool.and_eq_true, bne_iff_ne, ne_eq]
 refine ⟨?_, hs⟩
 rintro rfl
 exact hi h.symm
def Bits (s : Nat → Bool) (l : Nat) (ws : List Nat) : Prop := ∀ j u, ws[j]? = some u → u < 2 ^ 64 ∧ ∀ b, b < 64 → (u.testBit b = true ↔ Up s l (64 * j + b))
section
variable {s t : Nat → Bool} {l j u : Nat} {ws : List Nat}
theorem pow_lt_64 (k : Nat) (h : k < 64) : 2 ^ k < 2 ^ 64 := Nat.pow_lt_pow_right (by decide) h
theorem mul_pow_up (a l : Nat) : a * 64 ^ (l + 1) = a * 64 * 64 ^ l := by rw [Nat.pow_succ, Nat.mul_comm (64 ^ l), Nat.mul_assoc]
def firstAt (s : Nat → Bool) (k a : Nat) : Option Nat := (List.range k).find? fun p => decide (a ≤ p) && s p
def nextAt (s : Nat → Bool) (k a : Nat) : Option Nat := (firstAt s k a).or (firstAt s k 0)
def cntB (s : Nat → Bool) (k : Nat) : Nat := (List.range k).countP s
end
structure Gst where
 conn : Int
 chan : Int
 tag : List UInt8
 most : Int
 noack : Bool
 sole : Bool
abbrev gsV (x : Gst) : Value := .agg #[.int .i64 x.conn, .int .i64 x.chan, tx x.tag, .int .i64 x.most, .bool x.noack, .bool x.sole]
abbrev gsO (x : Gst) : Obj := .cells #[.int .i64 x.conn, .int .i64 x.chan, tx x.tag, .int .i64 x.most, .bool x.noack, .bool x.sole] 77
abbrev z0G : Gst := ⟨0, 0, [], 0, false, false⟩
def keyG (c h : Int) (t : List UInt8) (x : Gst) : Bool := x.conn == c && (x.chan == h && x.tag == t)
def idxG (M : List Gst) (c h : Int) (t : List UInt8) : Option Nat := M.findIdx? (keyG c h t)
theorem idx_some {M : List Gst} {c h : Int} {t : List UInt8} {i : Nat} {x : Gst} (hx : M[i]? = some x) (hk : keyG c h t x = true) (hn : ∀ (j : Nat) y, j < i → M[j]? = some y → keyG c h t y = false) : idxG M c h t = some i := by
 obtain ⟨h1, h2⟩ := List.getElem?_eq_some_iff.1 hx
 rw [idxG, List.findIdx?_eq_some_iff_getElem]
 refine ⟨h1, by rw [h2]; exact hk, fun j hj => ?_⟩
 rw [hn j M[j] hj (List.getElem?_eq_getElem (by omega))]
 simp
theorem idx_none {M : List Gst} {c h : Int} {t : List UInt8} (hn : ∀ (j : Nat) y, j < M.length → M[j]? = some y → keyG c h t y = false) : idxG M c h t = none := by
 rw [idxG, List.findIdx?_eq_none_iff]
 intro x hx
 obtain ⟨j, hj⟩ := List.getElem?_of_mem hx
 exact hn j x (List.getElem?_eq_some_iff.1 hj).1 hj
theorem idx_is {M : List Gst} {c h : Int} {t : List UInt8} {i : Nat} (he : idxG M c h t = some i) : i < M.length ∧ ∃ x, M[i]? = some x ∧ keyG c h t x = true := by
 rw [idxG, List.findIdx?_eq_some_iff_getElem] at he
 obtain ⟨h1, h2, -⟩ := he
 exact ⟨h1, M[i], List.getElem?_eq_getElem h1, h2⟩
theorem key_ways {c h : Int} {t : List UInt8} {x : Gst} (hk : keyG c h t x = false) : (x.conn == c) = false ∨ (x.conn == c) = true ∧ (x.chan == h) = false ∨ (x.conn == c) = true ∧ (x.chan == h) = true ∧ (x.tag == t) = false := by
 unfold keyG at hk
 cases h1 : (x.conn == c) with
 | false => exact .inl rfl
 | true =>
  cases h2 : (x.chan == h) with
  | false => exact .inr (.inl ⟨rfl, rfl⟩)
  | true =>
   rw [h1, h2, Bool.true_and, Bool.true_and] at hk
   exact .inr (.inr ⟨rfl, rfl, hk⟩)
theorem key_yes {c h : Int} {t : List UInt8} {x : Gst} (hk : keyG c h t x = true) : (x.conn == c) = true ∧ (x.chan == h) = true ∧ (x.tag == t) = true := by
 unfold keyG at hk
 simpa [Bool.and_eq_true] using hk
def addOkG (M : List Gst) (x : Gst) : Bool := (idxG M x.conn x.chan x.tag).isNone
def addG (M : List Gst) (x : Gst) : List Gst := if addOkG M x = true then M ++ [x] else M
def turnG (n k : Nat) : Nat := if n ≤ k then 0 else k
def dropM (M : List Gst) (c h : Int) (t : List UInt8) : List Gst := match idxG M c h t with | none => M | some i => M.eraseIdx i
def dropT (M : List Gst) (T : Nat) (c h : Int) (t : List UInt8) : Nat := match idxG M c h t with | none => T | some i => turnG (M.length - 1) (if i < T then T - 1 else T)
def sparG (n sl : Nat) (s : Nat → Bool) : Nat → Bool := fun p => decide (p < n) && (decide (p < sl) && s p)
def pickG (n T : Nat) (f : Nat → Bool) : Option Nat := nextAt f n T
def soleG (M : List Gst) : Bool := M.any Gst.sole
def OkT (n T : Nat) : Prop := T < n ∨ T = 0
theorem turn_ok (n k : Nat) : OkT n (turnG n k) := by
 unfold OkT turnG
 split
 ·exact .inr rfl
 ·exact .inl (by omega)
def worseE (a b : Ent) : Bool := decide (a.prio < b.prio ∨ a.prio = b.prio ∧ a.id ≤ b.id)
def worstE : List Ent → Option Ent
 | [] => none
 | x :: l => match worstE l with
  | none => some x
  | some y => if worseE x y = true then some x else some y
theorem worse_iff {a b : Ent} : worseE a b = true ↔ (a.prio < b.prio ∨ a.prio = b.prio ∧ a.id ≤ b.id) := by simp [worseE]
theorem worst_none : ∀ {M : List Ent}, worstE M = none → M = []
 | [], _ => rfl
 | x :: l, h => by
  unfold worstE at h
  split at h
  ·cases h
  ·split at h <;> cases h
theorem worst_is : ∀ {M : List Ent} {x : Ent}, worstE M = some x → IsWorst M x
 | [], x, h => by cases h
 | y :: l, x, h => by
  unfold worstE at h
  cases hl : worstE l with
  | none =>
   rw [hl] at h
   obtain rfl := Option.some.inj h
   obtain rfl := worst_none hl
   exact ⟨List.mem_cons_self, fun z hz => by
    rw [List.mem_singleton] at hz
    subst hz
    exact .inr ⟨rfl, Int.le_refl _⟩⟩
  | some z =>
   have ih := worst_is hl
   rw [hl] at h
   simp only at h
   by_cases hw : worseE y z = true
   ·rw [if_pos hw] at h
    obtain rfl := Option.some.inj h
    have hw' := worse_iff.1 hw
    refine ⟨List.mem_cons_self, fun u hu => ?_⟩
    rcases List.mem_cons.1 hu with rfl | hu
    ·exact .inr ⟨rfl, Int.le_refl _⟩
    ·have := ih.le u hu
     omega
   ·rw [if_neg hw] at h
    obtain rfl := Option.some.inj h
    refine ⟨List.mem_cons_of_mem _ ih.mem, fun u hu => ?_⟩
    rcases List.mem_cons.1 hu with rfl | hu
    ·have hw' : ¬ (u.prio < z.prio ∨ u.prio = z.prio ∧ u.id ≤ z.id) := fun h => hw (worse_iff.2 h)
     omega
    ·exact ih.le u hu
theorem worst_of {M : List Ent} {x : Ent} (h : RkOk M) (hx : IsWorst M x) : worstE M = some x := by
 cases hw : worstE M with
 | none =>
  have := worst_none hw
  subst this
  exact absurd hx.mem (List.not_mem_nil)
 | some y => rw [(worst_is hw).eq h hx]
def shedF : Nat → List Ent → List Ent × List Ent
 | 0, M => ([], M)
 | n + 1, M => match worstE M with
  | none => ([], M)
  | some x => (x :: (shedF n (delM M x.id)).1, (shedF n (delM M x.id)).2)
theorem Sheds.front {M W N : List Ent} (h : Sheds M W N) : (W = [] ∧ N = M) ∨ ∃ x W', W = x :: W' ∧ IsWorst M x ∧ Sheds (delM M x.id) W' N := by
 induction h with
 | nil => exact .inl ⟨rfl, rfl⟩
 | snoc h1 hx ih =>
  rcases ih with ⟨rfl, rfl⟩ | ⟨y, W', rfl, hy, hs⟩
  ·exact .inr ⟨_, [], rfl, hx, .nil⟩
  ·exact .inr ⟨y, W' ++ [_], rfl, hy, .snoc hs hx⟩
theorem shed_eq : ∀ {W M N : List Ent}, RkOk M → Sheds M W N → shedF W.length M = (W, N)
 | [], M, N, hM, h => by
  rcases h.front with ⟨-, rfl⟩ | ⟨x, W', e, -, -⟩
  ·rfl
  ·cases e
 | x :: W, M, N, hM, h => by
  rcases h.front with ⟨e, -⟩ | ⟨y, W', e, hy, hs⟩
  ·cases e
  ·obtain ⟨rfl, rfl⟩ := List.cons.inj e
   rw [List.length_cons, shedF, worst_of hM hy]
   simp only
   rw [shed_eq (hM.del _) hs]
def putF (o : Opt) (M : List Ent) (e : Ent) : Bool × List Ent × List Ent :=
 if putOk M e = false then (false, [], M)
 else if (M.length : Int) < limitO o then (true, [], insM e M)
 else if rejO o = true then (false, [], M)
 else (true, (shedF (M.length + 1 - (limitO o).toNat) M).1, insM e (shedF (M.length + 1 - (limitO o).toNat) M).2)
theorem PutP.put {o : Opt} {M W N : List Ent} {e : Ent} {ok : Bool} (hM : RkOk M) (h : PutP o M e ok W N) : putF o M e = (ok, W, N) := by
 unfold putF
 rcases h with ⟨h1, rfl, rfl, rfl⟩ | ⟨h1, h2, rfl, rfl, rfl⟩ | ⟨h1, h2, h3, rfl, rfl, rfl⟩ | ⟨h1, h2, h3, rfl, N1, hs, hl, rfl⟩
 ·rw [if_pos h1]
 ·rw [if_neg (by rw [h1]; decide), if_pos h2]
 ·rw [if_neg (by rw [h1]; decide), if_neg (by omega), if_pos h3]
 ·have hlen := hs.len hM
  have e1 : M.length + 1 - (limitO o).toNat = W.length := by omega
  rw [if_neg (by rw [h1]; decide), if_neg (by omega), if_neg (by rw [h3]; decide), e1, shed_eq hM hs]
def sumE (f : Ent → Nat) (l : List Ent) : Nat := (l.map f).sum
theorem sumE_nil (f : Ent → Nat) : sumE f [] = 0 := rfl
theorem sumE_cons (f : Ent → Nat) (x : Ent) (l : List Ent) : sumE f (x :: l) = f x + sumE f l := by simp [sumE]
theorem sumE_ins (f : Ent → Nat) (e : Ent) (M : List Ent) : sumE f (insM e M) = f e + sumE f M := by
 have := ((ins_perm e M).map f).sum_nat
 unfold sumE
 rw [this]
 simp
theorem sumE_sub (f : Ent → Nat) {l m : List Ent} (h : l.Sublist m) : sumE f l ≤ sumE f m := by
 induction h with
 | slnil => exact Nat.le_refl _
 | cons a _ ih => rw [sumE_cons]; omega
 | cons_cons a _ ih => rw [sumE_cons, sumE_cons]; omega
theorem sumE_del (f : Ent → Nat) {M : List Ent} {x : Ent} (h : x ∈ M) : f x + sumE f (delM M x.id) ≤ sumE f M := by
 induction M with
 | nil => exact absurd h (List.not_mem_nil)
 | cons y l ih =>
  unfold delM
  rw [List.filter_cons, sumE_cons]
  by_cases hy : y = x
  ·subst hy
   rw [if_neg (by simp)]
   have := sumE_sub f (List.filter_sublist (p := fun z : Ent => decide (z.id ≠ y.id)) (l := l))
   omega
  ·have ih := ih ((List.mem_cons.1 h).resolve_left fun e => hy e.symm)
   unfold delM at ih
   split
   ·rw [sumE_cons]; omega
   ·omega
theorem shed_sum (f : Ent → Nat) : ∀ (n : Nat) (M : List Ent), sumE f (shedF n M).1 + sumE f (shedF n M).2 ≤ sumE f M
 | 0, M => by simp [shedF, sumE_nil]
 | n + 1, M => by
  unfold shedF
  cases hw : worstE M with
  | none => simp [sumE_nil]
  | some x =>
   have h1 := sumE_del f (worst_is hw).mem
   have h2 := shed_sum f n (delM M x.id)
   simp only [sumE_cons]
   omega
theorem put_sum (f : Ent → Nat) (o : Opt) (M : List Ent) (e : Ent) : sumE f (putF o M e).2.1 + sumE f (putF o M e).2.2 ≤ sumE f M + f e := by
 have h := shed_sum f (M.length + 1 - (limitO o).toNat) M
 unfold putF
 repeat' split
 all_goals simp only [sumE_nil, sumE_ins]; omega
theorem shed_len : ∀ (n : Nat) (M : List Ent), (shedF n M).2.length ≤ M.length ∧ (n ≤ M.length → 0 < n → (shedF n M).2.length + 1 ≤ M.length)
 | 0, M => ⟨Nat.le_refl _, fun _ h => absurd h (by omega)⟩
 | n + 1, M => by
  unfold shedF
  cases hw : worstE M with
  | none =>
   have := worst_none hw
   subst this
   exact ⟨Nat.le_refl _, fun h => by simp at h⟩
  | some x =>
   have h1 := (shed_len n (delM M x.id)).1
   have h2 : (delM M x.id).length + 1 ≤ M.length := by
    have := sumE_del (fun _ => 1) (worst_is hw).mem
    have e : ∀ l : List Ent, sumE (fun _ => 1) l = l.length := fun l => by induction l with | nil => rfl | cons a l ih => rw [sumE_cons, ih, List.length_cons]; omega
    rw [e, e] at this
    omega
   exact ⟨by simp only; omega, fun _ _ => by simp only; omega⟩
theorem put_len (o : Opt) (M : List Ent) (e : Ent) {k : Nat} (hk : 60 ≤ k) (h : M.length ≤ k) : (putF o M e).2.2.length ≤ k := by
 obtain ⟨l, h1, h2, h3⟩ := limit_nat o
 unfold putF
 rw [h1]
 have hs := shed_len (M.length + 1 - l) M
 repeat' split
 ·exact h
 ·simp only [ins_len]; omega
 ·exact h
 ·simp only [ins_len, Int.toNat_natCast]
  have := hs.2
  omega
theorem mem_shed : ∀ (n : Nat) (M : List Ent) {x : Ent}, x ∈ (shedF n M).1 ∨ x ∈ (shedF n M).2 → x ∈ M
 | 0, M, x, h => by simpa [shedF] using h
 | n + 1, M, x, h => by
  unfold shedF at h
  cases hw : worstE M with
  | none => rw [hw] at h; simpa using h
  | some y =>
   rw [hw] at h
   simp only [List.mem_cons] at h
   have ih := mem_shed n (delM M y.id) (x := x)
   have hd : ∀ {z : Ent}, z ∈ delM M y.id → z ∈ M := fun hz => (List.mem_filter.1 hz).1
   rcases h with (rfl | h) | h
   ·exact (worst_is hw).mem
   ·exact hd (ih (.inl h))
   ·exact hd (ih (.inr h))
theorem mem_put {o : Opt} {M : List Ent} {e x : Ent} (h : x ∈ (putF o M e).2.1 ∨ x ∈ (putF o M e).2.2) : x = e ∨ x ∈ M := by
 have hs := mem_shed (M.length + 1 - (limitO o).toNat) M (x := x)
 unfold putF at h
 split at h
 ·exact .inr (by simpa using h)
 ·split at h
  ·simpa [mem_ins] using h
  ·split at h
   ·exact .inr (by simpa using h)
   ·simp only [mem_ins] at h
    rcases h with h | rfl | h
    ·exact .inr (hs (.inl h))
    ·exact .inl rfl
    ·exact .inr (hs (.inr h))
end Go.Proofs.YtknjamfjonapiaaGreatDoor
