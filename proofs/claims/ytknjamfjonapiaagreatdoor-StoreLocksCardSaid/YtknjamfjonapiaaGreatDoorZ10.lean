import Derived.Test.YtknjamfjonapiaaGreatDoorZ09
import Derived.Test.YtknjamfjonapiaaGreatDoorZ01
import Derived.Lib.TrailingZeros
import Derived.Laws.BitsAllLaws
import Derived.Test.YtknjamfjonapiaaGreatDoorZ02
namespace Go.Proofs.YtknjamfjonapiaaGreatDoor
open Go.RowKit
set_option linter.unusedVariables false
set_option linter.unusedSectionVars false
set_option linter.unusedSimpArgs false
set_option maxRecDepth 100000
section
open Go.ChangeMaps (setBlock)
inductive Sheds (M : List Ent) : List Ent → List Ent → Prop
 | nil : Sheds M [] M
 | snoc {W N : List Ent} {x : Ent} : Sheds M W N → IsWorst N x → Sheds M (W ++ [x]) (delM N x.id)
theorem Sheds.sub {M W N : List Ent} (h : Sheds M W N) : N.Sublist M := by
 induction h with
 | nil => exact List.Sublist.refl _
 | snoc _ _ ih => exact List.filter_sublist.trans ih
theorem Sheds.len {M W N : List Ent} (hM : RkOk M) (h : Sheds M W N) : W.length + N.length = M.length := by
 induction h with
 | nil => simp
 | snoc h1 hx ih =>
  have := del_len (hM.sub h1.sub) hx.mem
  rw [List.length_append, List.length_singleton]
  omega
theorem Sheds.one {M W N : List Ent} (h : Sheds M W N) (h1 : W.length = 1) : ∃ x, W = [x] ∧ IsWorst M x ∧ N = delM M x.id := by
 cases h with
 | nil => simp at h1
 | snoc h2 hx =>
  rw [List.length_append, List.length_singleton] at h1
  cases h2 with
  | nil => exact ⟨_, rfl, hx, rfl⟩
  | snoc _ _ => rw [List.length_append, List.length_singleton] at h1; omega
theorem del_ins {M : List Ent} {e : Ent} (hn : ∀ x ∈ M, x.id ≠ e.id) : delM (insM e M) e.id = M := by
 have h0 : delM M e.id = M := by
  unfold delM
  rw [List.filter_eq_self]
  intro x hx
  simpa using hn x hx
 have h1 : ∀ (L : List Ent), delM (insM e L) e.id = delM L e.id := fun L => by
  induction L with
  | nil => simp [insM, delM]
  | cons y L ih =>
   unfold insM
   split
   ·simp [delM]
   ·unfold delM at *
    rw [List.filter_cons, List.filter_cons, ih]
 rw [h1, h0]
abbrev quO (o : Opt) (p : Option Addr) : Obj := .cells #[tx o.dead, tx o.deadKey, .int .i64 o.maxLen, .int .i64 o.ttl, .int .i64 o.prio, .int .i64 o.bits, .pointer p] 253
abbrev OpC (w : World) (b : Nat) (o : Opt) : Prop := w.cell? ⟨b, 0, none⟩ = some (tx o.dead) ∧ w.cell? ⟨b, 1, none⟩ = some (tx o.deadKey) ∧ w.cell? ⟨b, 2, none⟩ = some (.int .i64 o.maxLen) ∧ w.cell? ⟨b, 3, none⟩ = some (.int .i64 o.ttl) ∧ w.cell? ⟨b, 4, none⟩ = some (.int .i64 o.prio) ∧ w.cell? ⟨b, 5, none⟩ = some (.int .i64 o.bits)
def QuAt (B : Nat) (w0 w : World) (qb rk : Nat) (o : Opt) (M : List Ent) (F : List (Nat × Obj)) : Prop := RackIs B w0 w rk M ((qb, quO o (some ⟨rk, 0, none⟩)) :: F)
def QuIs (B : Nat) (w0 w : World) (qb : Nat) (o : Opt) (M : List Ent) (F : List (Nat × Obj)) : Prop := (M = [] ∧ St B w0 w ((qb, quO o none) :: F)) ∨ ∃ rk, QuAt B w0 w qb rk o M F
section
variable {B : Nat} {w0 w w' : World} {qb rk b k : Nat} {o : Opt} {M L : List Ent} {F F' S Y : List (Nat × Obj)} {e e0 : Ent}
theorem RackIs.setF {c : Array Value} {T : TypeId} {fr : Nat × Nat} (h : RackIs B w0 w rk M ((b, .cells c T fr) :: F)) (i : Nat) (v : Value) : RackIs B w0 (w.setCell ⟨b, i, none⟩ v) rk M ((b, .cells (c.setIfInBounds i v) T fr) :: F) := by
 obtain ⟨S, h1, h2⟩ := h.beside
 exact h2 _ _ (h1.set i v)
theorem QuAt.is (h : QuAt B w0 w qb rk o M F) : QuIs B w0 w qb o M F := .inr ⟨rk, h⟩
theorem QuIs.ok (h : QuIs B w0 w qb o M F) : RkOk M := by
 obtain ⟨rfl, -⟩ | ⟨rk, h⟩ := h
 ·exact RkOk.nil
 ·exact RackIs.ok h
theorem QuIs.beside (h : QuIs B w0 w qb o M F) : ∃ S, St B w0 w (S ++ F) ∧ (∃ p, (qb, quO o p) ∈ S) ∧ ∀ w' F', St B w0 w' (S ++ F') → QuIs B w0 w' qb o M F' := by
 obtain ⟨rfl, h⟩ | ⟨rk, h⟩ := h
 ·exact ⟨[(qb, quO o none)], h, ⟨_, List.mem_cons_self⟩, fun w' F' h' => .inl ⟨rfl, h'⟩⟩
 ·obtain ⟨S, h1, h2⟩ := RackIs.beside h
  exact ⟨S ++ [(qb, quO o (some ⟨rk, 0, none⟩))], by rw [List.append_assoc]; exact h1, ⟨_, List.mem_append_right _ List.mem_cons_self⟩, fun w' F' h' => .inr ⟨rk, h2 _ _ (by rw [List.append_assoc] at h'; exact h')⟩⟩
theorem QuIs.ops (h : QuIs B w0 w qb o M F) : OpC w qb o ∧ ∀ i, w.frozen? ⟨qb, i, none⟩ = false := by
 obtain ⟨S, h1, ⟨p, hm⟩, -⟩ := h.beside
 have m := List.mem_append_left F hm
 exact ⟨⟨h1.cell m rfl, h1.cell m rfl, h1.cell m rfl, h1.cell m rfl, h1.cell m rfl, h1.cell m rfl⟩, fun i => h1.soft m i⟩
theorem QuIs.grow (h : QuIs B w0 w qb o M F) (hb : Below w.heap.size w w') : QuIs B w0 w' qb o M F := by
 obtain ⟨S, h1, -, h2⟩ := h.beside
 exact h2 _ _ (h1.grow hb)
theorem QuIs.sub (h : QuIs B w0 w qb o M F) (hs : F'.Sublist F) : QuIs B w0 w qb o M F' := by
 obtain ⟨S, h1, -, h2⟩ := h.beside
 exact h2 _ _ (h1.sub ((List.Sublist.refl S).append hs))
theorem QuIs.permF (h : QuIs B w0 w qb o M F) (hp : F.Perm F') : QuIs B w0 w qb o M F' := by
 obtain ⟨S, h1, -, h2⟩ := h.beside
 exact h2 _ _ (h1.perm (hp.append_left S))
theorem QuIs.alloc (h : QuIs B w0 w qb o M F) (x : Obj) : QuIs B w0 (w.alloc x) qb o M ((w.heap.size, x) :: F) := by
 obtain ⟨S, h1, -, h2⟩ := h.beside
 exact h2 _ _ ((h1.alloc x).perm List.perm_middle.symm)
theorem QuIs.below (h : QuIs B w0 w qb o M F) : Below B w0 w := by
 obtain ⟨S, h1, -⟩ := h.beside
 exact h1.below
theorem QuIs.setF {c : Array Value} {T : TypeId} {fr : Nat × Nat} (h : QuIs B w0 w qb o M ((b, .cells c T fr) :: F)) (i : Nat) (v : Value) : QuIs B w0 (w.setCell ⟨b, i, none⟩ v) qb o M ((b, .cells (c.setIfInBounds i v) T fr) :: F) := by
 obtain ⟨S, h1, -, h2⟩ := h.beside
 exact h2 _ _ (h1.set i v)
theorem QuIs.at_block (h : QuIs B w0 w qb o M F) (hm : (k, enO e) ∈ F) : EnAt w k e ∧ ∀ i, w.frozen? ⟨k, i, none⟩ = false := by
 obtain ⟨S, hs, -⟩ := h.beside
 exact ⟨hs.enAt (List.mem_append_right _ hm), fun i => hs.soft (List.mem_append_right _ hm) i⟩
theorem QuIs.enPut (h : QuIs B w0 w qb o M ((k, enO e0) :: F)) : QuIs B w0 (enPut w k e) qb o M ((k, enO e) :: F) := by
 obtain ⟨S, h1, -, h2⟩ := h.beside
 exact h2 _ _ (((h1.perm List.perm_middle).enPut (e := e)).perm List.perm_middle.symm)
theorem QuIs.ensPush {a : Option Addr} {c : Nat} (h : QuIs B w0 w qb o M (S ++ Y)) (hs : EnsIs (.slice a L.length c) L S) (e : Ent) (hl : L.length ≤ 100000) :
  ∃ a' c' W S', (Builtin.append_ #[46, 46] 0 #[.slice a L.length c, .slice (some ⟨w.heap.size, 0, none⟩) 1 1]).run Tryz.prog (w.alloc (enO e)) = .ok (.slice a' (L ++ [e]).length c') W ∧ EnsIs (.slice a' (L ++ [e]).length c') (L ++ [e]) S' ∧ QuIs B w0 W qb o M (S' ++ Y) := by
 obtain ⟨Z, z1, -, z2⟩ := h.beside
 have p1 : ∀ S : List (Nat × Obj), (Z ++ (S ++ Y)).Perm ((Z ++ Y) ++ S) := fun S => by
  classical
  exact List.perm_iff_count.2 fun a => by simp only [List.count_append]; omega
 obtain ⟨a', c', W, S', q1, q2, q3⟩ := ens_push hs (z1.perm (p1 _)) e hl
 exact ⟨a', c', W, S', q1, q2, z2 _ _ (q3.perm (p1 _).symm)⟩
theorem QuIs.reads {a : Option Addr} {c : Nat} {X : List (Nat × Obj)} (h : QuIs B w0 w qb o M F) (hs : EnsIs (.slice a L.length c) L S) (hp : F.Perm (X ++ S)) : ReadEs w a L := by
 obtain ⟨Z, z1, -⟩ := h.beside
 refine hs.read (X := Z ++ X) (z1.perm ?_)
 rw [List.append_assoc]
 exact hp.append_left Z
set_option maxHeartbeats 400000 in
theorem ready_any (h : QuIs B w0 w qb o M F) : Calls Tryz.prog 128 #[rptr qb] w fun r w' => ∃ rk, r = .returned (rptr rk) ∧ QuAt B w0 w' qb rk o M F := by
 obtain ⟨rfl, h⟩ | ⟨rk, h⟩ := h
 ·have c6 : w.cell? ⟨qb, 6, none⟩ = some (.pointer none) := h.cell (b := qb) List.mem_cons_self rfl
  have cn := Lib.hid (rk_new h)
  have hf : Hid (∀ w' rk, RackIs B w0 w' rk [] ((qb, quO o none) :: F) → w'.frozen? ⟨qb, 6, none⟩ = false ∧ w'.cell? ⟨qb, 6, none⟩ = some (.pointer none) ∧ (w'.setCell ⟨qb, 6, none⟩ (rptr rk)).cell? ⟨qb, 6, none⟩ = some (rptr rk) ∧ QuAt B w0 (w'.setCell ⟨qb, 6, none⟩ (rptr rk)) qb rk o [] F) := Lib.hid fun w' rk h1 => by
   obtain ⟨S, hs⟩ := h1.st
   have h2 := h1.setF 6 (rptr rk)
   obtain ⟨S2, hs2⟩ := h2.st
   exact ⟨hs.soft (List.mem_append_right _ List.mem_cons_self) 6, hs.cell (b := qb) (List.mem_append_right _ List.mem_cons_self) rfl, hs2.cell (b := qb) (List.mem_append_right _ List.mem_cons_self) rfl, h2⟩
  clear h
  go_enter Tryz.func128, Tryz.ntmps128
  go_wp2_with fail
  refine cn.out.mono ?_
  rintro r w1 ⟨rfl, h1⟩
  obtain ⟨f6, c6', d6, fin⟩ := hf.out _ _ h1
  replace fin := Lib.hid fin
  clear cn hf h1
  generalize w.heap.size = rk at *
  go_wp2_with fail
  go_ret
  exact ⟨_, rfl, fin.out⟩
 ·obtain ⟨S, hs⟩ := RackIs.st h
  have c6 : w.cell? ⟨qb, 6, none⟩ = some (rptr rk) := hs.cell (b := qb) (List.mem_append_right _ List.mem_cons_self) rfl
  replace h := Lib.hid h
  clear hs
  go_enter Tryz.func128, Tryz.ntmps128
  go_wp2_with fail
  go_ret
  exact ⟨_, rfl, h.out⟩
end
end
section
open Go.ChangeMaps (setBlock)
def rejO (o : Opt) : Bool := !(bits .and .i64 o.bits 4 == 0)
section
variable {B : Nat} {w0 w w' : World} {qb rk b k : Nat} {o : Opt} {M L : List Ent} {F F' S Y : List (Nat × Obj)} {e e0 : Ent}
theorem qu_len (h : QuIs B w0 w qb o M F) : Calls Tryz.prog 73 #[rptr qb] w fun r w' => r = .returned (.int .i64 M.length) ∧ QuIs B w0 w' qb o M F := by
 have cr := Lib.hid (ready_any h)
 clear h
 go_enter Tryz.func73, Tryz.ntmps73
 go_wp2_with fail
 refine cr.out.mono ?_
 rintro r w1 ⟨rk, rfl, h1⟩
 have cl := Lib.hid (rk_len h1)
 replace h1 := Lib.hid h1
 clear cr
 go_wp2_with fail
 refine cl.out.mono ?_
 rintro r w2 ⟨rfl, rfl⟩
 clear cl
 go_wp2_with fail
 go_ret
 exact ⟨rfl, h1.out.is⟩
def QAllR (B : Nat) (w0 : World) (qb : Nat) (o : Opt) (M : List Ent) (F : List (Nat × Obj)) (L N : List Ent) (r : Ending) (w' : World) : Prop :=
 ∃ a c S, r = .returned (.slice a L.length c) ∧ EnsIs (.slice a L.length c) L S ∧ QuIs B w0 w' qb o N (S ++ F)
theorem qu_all (h : QuIs B w0 w qb o M F) : Calls Tryz.prog 69 #[rptr qb] w (QAllR B w0 qb o M F M M) := by
 have cr := Lib.hid (ready_any h)
 clear h
 go_enter Tryz.func69, Tryz.ntmps69
 go_wp2_with fail
 refine cr.out.mono ?_
 rintro r w1 ⟨rk, rfl, h1⟩
 have cl := Lib.hid (rk_all h1)
 clear cr h1
 go_wp2_with fail
 refine cl.out.mono ?_
 rintro r w2 ⟨a, c, S, rfl, hs, h2⟩
 have fin : Hid (QAllR B w0 qb o M F M M (.returned (.slice a M.length c)) w2) := Lib.hid ⟨a, c, S, rfl, hs, .inr ⟨rk, h2.permF List.perm_middle⟩⟩
 clear cl hs h2
 go_wp2_with fail
 go_ret
 exact fin.out
theorem qu_rejects (h : QuIs B w0 w qb o M F) : Calls Tryz.prog 362 #[rptr qb] w fun r w' => r = .returned (.bool (rejO o)) ∧ w' = w := by
 obtain ⟨-, -, -, -, -, c5⟩ := h.ops.1
 clear h
 go_enter Tryz.func362, Tryz.ntmps362
 go_wp2_with fail
 go_ret
 exact ⟨rfl, rfl⟩
end
abbrev z0O : Opt := ⟨[], [], 0, 0, 0, 0⟩
abbrev opPut (w : World) (b : Nat) (o : Opt) : World := (((((w.setCell ⟨b, 0, none⟩ (tx o.dead)).setCell ⟨b, 1, none⟩ (tx o.deadKey)).setCell ⟨b, 2, none⟩ (.int .i64 o.maxLen)).setCell ⟨b, 3, none⟩ (.int .i64 o.ttl)).setCell ⟨b, 4, none⟩ (.int .i64 o.prio)).setCell ⟨b, 5, none⟩ (.int .i64 o.bits)
theorem St.opPut {B : Nat} {w0 w : World} {b : Nat} {o o1 : Opt} {C : List (Nat × Obj)} (h : St B w0 w ((b, opO o1) :: C)) : St B w0 (opPut w b o) ((b, opO o) :: C) := by
 have h10 := (((((h.set0 0 (tx o.dead)).set0 1 (tx o.deadKey)).set0 2 (.int .i64 o.maxLen)).set0 3 (.int .i64 o.ttl)).set0 4 (.int .i64 o.prio)).set0 5 (.int .i64 o.bits)
 simp only [List.setIfInBounds_toArray, List.set_cons_zero, List.set_cons_succ] at h10
 exact h10
theorem St.opC {B : Nat} {w0 w : World} {b : Nat} {o : Opt} {H : List (Nat × Obj)} (h : St B w0 w H) (m : (b, opO o) ∈ H) : OpC w b o :=
 ⟨h.cell m rfl, h.cell m rfl, h.cell m rfl, h.cell m rfl, h.cell m rfl, h.cell m rfl⟩
theorem ret_opts {P : Program} {fn : Func} {d : Nat} {tmps : Array Value} {w : World} {o : Opt} (hr : fn.results = #[.cell 2 34]) (h2 : tmps[2]? = some (.pointer (some ⟨d, 0, none⟩))) (q : OpC w d o) (hP : P = Tryz.prog) :
  (results fn tmps).run P w = .ok (opV o) w := by
 subst hP
 obtain ⟨q0, q1, q2, q3, q4, q5⟩ := q
 simp [results, hr, go_sem, h2, q0, q1, q2, q3, q4, q5]
section
variable {B : Nat} {w0 w w' : World} {qb rk b k : Nat} {o : Opt} {M L : List Ent} {F F' S Y : List (Nat × Obj)} {e e0 : Ent}
set_option maxHeartbeats 400000 in
theorem qu_opts (h : QuIs B w0 w qb o M F) : Calls Tryz.prog 138 #[rptr qb] w fun r w' => r = .returned (opV o) ∧ QuIs B w0 w' qb o M F := by
 have h1 := h.alloc (opO z0O)
 obtain ⟨c0, c1, c2, c3, c4, c5⟩ := h1.ops.1
 obtain ⟨S, s1, -, s2⟩ := h1.beside
 obtain ⟨z0, z1, z2, z3, z4, z5⟩ := (s1.perm List.perm_middle).opC List.mem_cons_self
 have zs := fun i => (s1.perm List.perm_middle).soft (b := w.heap.size) List.mem_cons_self i
 have h2 := h.alloc (opO o)
 obtain ⟨S2, s3, -, -⟩ := h2.beside
 have finE := Lib.hid ((s3.perm List.perm_middle).opC List.mem_cons_self)
 have fin := Lib.hid (h2.sub (List.sublist_cons_self _ _))
 clear h h1 s1 s2 h2 s3
 go_enter Tryz.func138, Tryz.ntmps138
 go_wp2_with fail
 exact bodyPost_ret (ret_opts rfl rfl finE.out rfl) rfl ⟨rfl, fin.out⟩
end
end
section
open Go.ChangeMaps (setBlock)
section
variable {w w' : World} {o : Opt}
def OOwnS (w : World) (o : Opt) (w' : World) : Prop := St w.heap.size w w' [(w.heap.size, opO o), (w.heap.size + 1, opO z0O)]
theorem OOwnS.start (w : World) (o : Opt) : OOwnS w o ((w.alloc (opO o)).alloc (opO z0O)) := by
 have h := ((St.start w).alloc (opO o)).alloc (opO z0O)
 rw [World.size_alloc] at h
 exact h.perm (List.Perm.swap _ _ _)
theorem OOwnS.from (h : OOwnS w o w') : w'.cell? ⟨w.heap.size, 0, none⟩ = some (tx o.dead) ∧ w'.cell? ⟨w.heap.size, 1, none⟩ = some (tx o.deadKey) :=
 ⟨St.cell h List.mem_cons_self rfl, St.cell h List.mem_cons_self rfl⟩
theorem OOwnS.st0 (h : OOwnS w o w') : OOwnS w o (w'.setCell ⟨w.heap.size, 0, none⟩ (tx o.dead)) := St.set0 h 0 (tx o.dead)
theorem OOwnS.st1 (h : OOwnS w o w') : OOwnS w o (w'.setCell ⟨w.heap.size, 1, none⟩ (tx o.deadKey)) := St.set0 h 1 (tx o.deadKey)
theorem oclone_own (h : OOwnS w o w') {l : List UInt8} (hl : l.length ≤ 140737488351232) : Calls Tryz.prog 154 #[tx l] w' fun r w2 => r = .returned (tx l) ∧ OOwnS w o w2 ∧
  (w2.cell? ⟨w.heap.size, 0, none⟩ = some (tx o.dead) ∧ w2.cell? ⟨w.heap.size, 1, none⟩ = some (tx o.deadKey)) ∧
  (w2.frozen? ⟨w.heap.size, 0, none⟩ = false ∧ w2.frozen? ⟨w.heap.size, 1, none⟩ = false) := by
 refine (clone_any l w' hl).mono ?_
 rintro r w2 ⟨rfl, hb⟩
 have h2 : OOwnS w o w2 := St.grow h hb
 exact ⟨rfl, h2, h2.from, St.soft h2 List.mem_cons_self 0, St.soft h2 List.mem_cons_self 1⟩
structure OOwnC (w : World) (o : Opt) (w' : World) : Prop where
 src : OpC w' w.heap.size o
 dst : OpC w' (w.heap.size + 1) z0O
 soft : ∀ i, w'.frozen? ⟨w.heap.size + 1, i, none⟩ = false
theorem OOwnS.cells (h : OOwnS w o w') : OOwnC w o w' :=
 have m0 : (w.heap.size, opO o) ∈ [(w.heap.size, opO o), (w.heap.size + 1, opO z0O)] := List.mem_cons_self
 have m1 : (w.heap.size + 1, opO z0O) ∈ [(w.heap.size, opO o), (w.heap.size + 1, opO z0O)] := List.mem_cons_of_mem _ List.mem_cons_self
 ⟨St.opC h m0, St.opC h m1, fun i => St.soft h m1 i⟩
set_option maxHeartbeats 2000000 in
theorem oown_any (o : Opt) (h1 : o.dead.length ≤ 140737488351232) (h2 : o.deadKey.length ≤ 140737488351232) (w : World) : Calls Tryz.prog 240 #[opV o] w fun r w' => r = .returned (opV o) ∧ Below w.heap.size w w' := by
 have hs0 : OOwnS w o ((w.alloc (opO o)).alloc (opO z0O)).drew := St.drew (OOwnS.start w o)
 have hs1 := Lib.hid hs0.from
 have cc := Lib.hid (fun (w' : World) (h : OOwnS w o w') (l : List UInt8) (hl : l.length ≤ 140737488351232) => oclone_own h hl)
 go_enter Tryz.func240, Tryz.ntmps240
 go_wp2_with fail
 go_region_held3 (fun wr => wr.cell? ⟨w.heap.size, 0, none⟩ = some (tx o.dead) ∧ wr.cell? ⟨w.heap.size, 1, none⟩ = some (tx o.deadKey)) (first | exact hS | exact hs1.out | exact (OOwnS.st0 hO).from | exact (OOwnS.st1 (OOwnS.st0 hO)).from | go_keep) ((go_at_call 154; refine (cc.out _ (by assumption) _ (by assumption)).mono ?_; rintro r w'' ⟨rfl, hO, hS, f3, f4⟩))
 have hO2 := OOwnS.st1 (OOwnS.st0 hO)
 clear cc hs1 hs0 f3 f4 hS hO h1 h2
 obtain ⟨W, hW⟩ : ∃ W, W = (w''.setCell ⟨w.heap.size, 0, none⟩ (tx o.dead)).setCell ⟨w.heap.size, 1, none⟩ (tx o.deadKey) := ⟨_, rfl⟩
 rw [← hW] at hO2 ⊢
 clear hW
 obtain ⟨⟨k0, k1, k2, k3, k4, k5⟩, ⟨d0, d1, d2, d3, d4, d5⟩, sf⟩ := hO2.cells
 have hO3 : St w.heap.size w (opPut W (w.heap.size + 1) o) [(w.heap.size + 1, opO o), (w.heap.size, opO o)] := St.opPut (St.perm hO2 (List.Perm.swap _ _ _))
 have hE := Lib.hid (St.opC hO3 List.mem_cons_self)
 have hB := Lib.hid hO3.below
 clear hO2 hO3
 go_wp2_with fail
 exact bodyPost_ret (ret_opts rfl rfl hE.out rfl) rfl ⟨rfl, hB.out⟩
end
section
variable {B : Nat} {w0 w w' : World} {qb rk b k : Nat} {o : Opt} {M L : List Ent} {F F' S Y : List (Nat × Obj)} {e e0 : Ent}
theorem qu_new (h : St B w0 w F) (h1 : o.dead.length ≤ 140737488351232) (h2 : o.deadKey.length ≤ 140737488351232) : Calls Tryz.prog 199 #[opV o] w fun r w' => ∃ qb, r = .returned (rptr qb) ∧ QuIs B w0 w' qb o [] F := by
 have co := Lib.hid (oown_any o h1 h2 (w.alloc (opO o)))
 have hn : Hid (∀ w', Below (w.alloc (opO o)).heap.size (w.alloc (opO o)) w' → QuIs B w0 (w'.alloc (quO o none)) w'.heap.size o [] F) := Lib.hid fun w' hb =>
  .inl ⟨rfl, (((h.alloc (opO o)).grow hb).sub (List.sublist_cons_self _ _)).alloc _⟩
 clear h h1 h2
 go_enter Tryz.func199, Tryz.ntmps199
 go_wp2_with fail
 refine co.out.mono ?_
 rintro r w1 ⟨rfl, hb⟩
 have fin := Lib.hid (hn.out _ hb)
 clear co hn hb
 go_wp2_with fail
 go_ret
 exact ⟨_, rfl, fin.out⟩
end
end
section
open Go.ChangeMaps (setBlock)
section
variable {B : Nat} {w0 w w' : World} {qb rk b k l : Nat} {o : Opt} {M L : List Ent} {F F' S Y : List (Nat × Obj)} {e e0 : Ent}
def MakeJ (B : Nat) (w0 : World) (qb : Nat) (o : Opt) (M : List Ent) (F : List (Nat × Obj)) (l : Nat) (g : Nat) (a' : Act) (w' : World) : Prop :=
 ∃ W N a c S, N.length = g ∧ Fr 30 [(0, rptr qb), (3, .slice a W.length c)] a' ∧ Sheds M W N ∧ l ≤ N.length + 1 ∧ EnsIs (.slice a W.length c) W S ∧ QuIs B w0 w' qb o N (S ++ F)
def MakeR (B : Nat) (w0 : World) (qb : Nat) (o : Opt) (M : List Ent) (F : List (Nat × Obj)) (l : Nat) (r : Ending) (w' : World) : Prop :=
 ∃ W N a c S, r = .returned (.slice a W.length c) ∧ Sheds M W N ∧ N.length + 1 = l ∧ EnsIs (.slice a W.length c) W S ∧ QuIs B w0 w' qb o N (S ++ F)
theorem len_op (h : QuIs B w0 w qb o M F) {n : Nat} (hn : M.length = n) : Calls Tryz.prog 73 #[rptr qb] w fun r w' => r = .returned (.int .i64 n) ∧ QuIs B w0 w' qb o M F ∧ OpC w' qb o := by
 subst hn
 refine (qu_len h).mono ?_
 rintro r w' ⟨rfl, h'⟩
 exact ⟨rfl, h', h'.ops.1⟩
theorem limit_op (h : QuIs B w0 w qb o M F) {n : Nat} (hn : limitO o = n) : Calls Tryz.prog 361 #[opV o] w fun r w' => r = .returned (.int .i64 n) ∧ QuIs B w0 w' qb o M F ∧ OpC w' qb o := by
 rw [← hn]
 refine (limit_any o w).mono ?_
 rintro r w' ⟨rfl, hb⟩
 exact ⟨rfl, h.grow hb, (h.grow hb).ops.1⟩
set_option maxHeartbeats 2000000 in
theorem make_room (h : QuIs B w0 w qb o M F) (hl : limitO o = l) (hl1 : 1 ≤ l) (hl2 : l ≤ M.length) (hM : M.length ≤ 100000) : Calls Tryz.prog 363 #[rptr qb] w (MakeR B w0 qb o M F l) := by
 have hok := Lib.hid h.ok
 have hM2 := Lib.hid hM
 replace h := Lib.hid h
 replace hl2 := Lib.hid hl2
 replace hl := Lib.hid hl
 clear hM
 go_enter Tryz.func363, Tryz.ntmps363
 go_wp2_with fail
 refine wp_scope_ghost 0 (MakeJ B w0 qb o M F l) rfl ?_ ?_
 ·clear h
  rintro g a' wr ⟨W, N, a, c, S, hg, hfr, hsh, hln, hs, hR⟩
  obtain ⟨fr, rfl, hl'⟩ := hfr.lit
  clear hfr
  simp only [List.mem_cons, List.not_mem_nil, or_false, forall_eq_or_imp, forall_eq] at hl'
  obtain ⟨f0, f3⟩ := hl'
  simp only [List.range, List.range.loop, List.map, f0, f3]
  clear f0 f3
  have hWN := hsh.len hok.out
  have hR0 : QuIs B w0 wr.drew qb o N (S ++ F) := hR.grow (drew_b _)
  have cl := Lib.hid (fun W (h : QuIs B w0 W qb o N (S ++ F)) => len_op h hg)
  have ci := Lib.hid (fun W (h : QuIs B w0 W qb o N (S ++ F)) => limit_op h hl.out)
  have hs0 := Lib.hid hR0.ops.1
  have hsh0 := Lib.hid hsh
  replace hs := Lib.hid hs
  by_cases hlt : g < l
  ·have hlt1 : (g : Int) < l := by omega
   have hnl : N.length + 1 = l := by omega
   have hfin : Hid (∀ w', QuIs B w0 w' qb o N (S ++ F) → MakeR B w0 qb o M F l (.returned (.slice a W.length c)) w') := Lib.hid fun w' h => ⟨W, N, a, c, S, rfl, hsh, hnl, hs.out, h⟩
   clear hR hg hln hWN hsh hsh0 hnl hs
   generalize W.length = n at *
   go_wp2_with fail
   go_region_held3 (fun x => x.cell? ⟨qb, 0, none⟩ = some (tx o.dead) ∧ x.cell? ⟨qb, 1, none⟩ = some (tx o.deadKey) ∧ x.cell? ⟨qb, 2, none⟩ = some (.int .i64 o.maxLen) ∧ x.cell? ⟨qb, 3, none⟩ = some (.int .i64 o.ttl) ∧ x.cell? ⟨qb, 4, none⟩ = some (.int .i64 o.prio) ∧ x.cell? ⟨qb, 5, none⟩ = some (.int .i64 o.bits)) (first | exact hS | exact hs0.out) (first
    | (go_at_call 73; refine (cl.out _ (by assumption)).mono ?_; rintro r w'' ⟨rfl, hQ, hS⟩)
    | (go_at_call 361; refine (ci.out _ (by assumption)).mono ?_; rintro r w'' ⟨rfl, hQ, hS⟩))
   have fin := Lib.hid (hfin.out _ hQ)
   clear hQ hS cl ci hs0 hfin hR0
   go_wp2_with fail
   simp only [Exit.jump]
   go_ret
   exact fin.out
  ·have hlt1 : ¬ (g : Int) < l := by omega
   have hN0 : N ≠ [] := by
    rintro rfl
    simp at hg
    omega
   have hgo : Hid (∀ x, IsWorst N x → ∀ a9 W9 a' c' S', EnsIs (.slice a' (W ++ [x]).length c') (W ++ [x]) S' → QuIs B w0 W9 qb o (delM N x.id) (S' ++ F) → Fr 30 [(0, rptr qb), (3, .slice a' (W ++ [x]).length c')] a9 → ∃ m, m < g ∧ MakeJ B w0 qb o M F l m a9 W9) := Lib.hid fun x hx a9 W9 a' c' S' h1 h2 h3 => by
    have := del_len (hok.out.sub hsh.sub) hx.mem
    exact ⟨(delM N x.id).length, by omega, W ++ [x], delM N x.id, a', c', S', rfl, h3, .snoc hsh hx, by omega, h1, h2⟩
   have hWl : Hid (W.length ≤ 100000) := Lib.hid (by have := hM2.out; omega)
   have hWx : ∀ x, (W ++ [x]).length = W.length + 1 := fun x => by simp
   replace hWx := Lib.hid hWx
   clear hR hg hln hWN hsh hsh0
   obtain ⟨n, hn⟩ : ∃ n, n = W.length := ⟨_, rfl⟩
   rw [← hn] at hs ⊢
   replace hn := Lib.hid hn
   go_wp2_with fail
   go_region_held3 (fun x => x.cell? ⟨qb, 0, none⟩ = some (tx o.dead) ∧ x.cell? ⟨qb, 1, none⟩ = some (tx o.deadKey) ∧ x.cell? ⟨qb, 2, none⟩ = some (.int .i64 o.maxLen) ∧ x.cell? ⟨qb, 3, none⟩ = some (.int .i64 o.ttl) ∧ x.cell? ⟨qb, 4, none⟩ = some (.int .i64 o.prio) ∧ x.cell? ⟨qb, 5, none⟩ = some (.int .i64 o.bits)) (first | exact hS | exact hs0.out) (first
    | (go_at_call 73; refine (cl.out _ (by assumption)).mono ?_; rintro r w'' ⟨rfl, hQ, hS⟩)
    | (go_at_call 361; refine (ci.out _ (by assumption)).mono ?_; rintro r w'' ⟨rfl, hQ, hS⟩))
   have cr := Lib.hid (ready_any hQ)
   clear hS cl ci hs0 hR0 hQ
   go_wp2_with fail
   refine cr.out.mono ?_
   rintro r w3 ⟨rk, rfl, h3⟩
   have cw := Lib.hid (rk_worst h3)
   replace h3 := Lib.hid h3
   clear cr
   go_wp2_with fail
   refine cw.out.mono ?_
   rintro r w4 ⟨⟨x, b, rfl, hx0⟩, hb⟩
   obtain ⟨hx, rfl⟩ : IsWorst N x ∧ b = true := by
    rcases hx0 with ⟨h, -⟩ | h
    ·exact absurd h hN0
    ·exact h
   have h4 : QuIs B w0 (w4.alloc (enO x)) qb o N ((w4.heap.size, enO x) :: (S ++ F)) := (QuAt.is (RackIs.grow h3.out hb)).alloc _
   have h5 : QuIs B w0 (w4.alloc (enO x)).drew qb o N ((w4.heap.size, enO x) :: (S ++ F)) := h4.grow (drew_b _)
   clear cw h3 h4 hb
   go_wp2_with fail
   generalize w4.heap.size = eb at *
   have hs0 := Lib.hid (h5.at_block (k := eb) (e := x) List.mem_cons_self).1
   have crr : Hid (∀ W, QuIs B w0 W qb o N ((eb, enO x) :: (S ++ F)) → Calls Tryz.prog 128 #[rptr qb] W fun r w' => ∃ rk, r = .returned (rptr rk) ∧ QuAt B w0 w' qb rk o N ((eb, enO x) :: (S ++ F)) ∧ w'.cell? ⟨eb, 0, none⟩ = some (.int .i64 x.id)) := Lib.hid fun W h => by
    refine (ready_any h).mono ?_
    rintro r w' ⟨rk, rfl, h'⟩
    exact ⟨rk, rfl, h', (h'.is.at_block (k := eb) (e := x) List.mem_cons_self).1.1⟩
   have cd : Hid (∀ W rk, QuAt B w0 W qb rk o N ((eb, enO x) :: (S ++ F)) → Calls Tryz.prog 213 #[rptr rk, .int .i64 x.id] W fun r w' => (∃ y, r = .returned (.tuple #[y, .bool true])) ∧ QuIs B w0 w' qb o (delM N x.id) ((eb, enO x) :: (S ++ F)) ∧ w'.cell? ⟨eb, 0, none⟩ = some (.int .i64 x.id)) := Lib.hid fun W rk h => by
    refine (rk_drop_hit (e := x) h hx.mem).mono ?_
    rintro r w' ⟨rfl, h'⟩
    have h2 : QuIs B w0 w' qb o (delM N x.id) ((eb, enO x) :: (S ++ F)) := .inr ⟨_, h'⟩
    exact ⟨⟨_, rfl⟩, h2, (h2.at_block (k := eb) (e := x) List.mem_cons_self).1.1⟩
   have hgo2 := Lib.hid (hgo.out x hx)
   clear hgo hx hx0
   go_region_held3 (fun x9 => x9.cell? ⟨eb, 0, none⟩ = some (.int .i64 x.id)) (first | exact kS | exact hs0.out.1) (first
    | (go_at_call 128; refine (crr.out _ (by assumption)).mono ?_; rintro r w9 ⟨rk2, rfl, hA, kS⟩)
    | (go_at_call 213; refine (cd.out _ _ (by assumption)).mono ?_; rintro r w9 ⟨⟨y, rfl⟩, hD, kS⟩))
   obtain ⟨x0, x1, x2, x3, x4, x5, x6, x7, x8, x9⟩ := (hD.at_block (k := eb) (e := x) List.mem_cons_self).1
   have hsn := hs.out
   rw [hn.out] at hsn
   obtain ⟨a', c', W9, S', q1, q2, q3⟩ := (hD.permF (F' := S ++ ((eb, enO x) :: F)) List.perm_middle.symm).ensPush hsn x hWl.out
   have fin := Lib.hid (fun a9 => hgo2.out a9 W9 a' c' S' q2 (q3.sub ((List.Sublist.refl _).append (List.sublist_cons_self _ _))))
   rw [← hn.out] at q1
   clear hgo2 q2 q3 hD hA kS crr cd hs0 hsn
   generalize (W ++ [x]).length = m at *
   go_wp2_with (at_builtin; refine wpList_append_go rfl (.tmp 26) (.tmp 28) 46 46 rfl _ _ rfl rfl q1 ?_)
   refine wp_goto ?_
   exact ⟨rfl, fin.out _ ⟨rfl, rfl, by simp⟩⟩
 ·intro HJ
  go_wp2_with fail
  refine wp_label ?_
  go_step
  go_step
  exact HJ M.length _ _ ⟨[], M, none, 0, [], rfl, ⟨rfl, rfl, by simp⟩, .nil, by have := hl2.out; omega, EnsIs.nil, h.out⟩
end
end
def leastAt (t u : Int) : Nat → Int
 | 0 => 0
 | 1 => if 0 < t then t else 0
 | _ => shorter t u
def ShortJ (t u : Int) (a : Value) (w0 : World) (g : Nat) (a' : Act) (wr : World) : Prop :=
 ∃ (j : Nat) (l : Int), j + g = 2 ∧ Fr 33 [(0, a), (3, .int .i64 l), (4, .int .i64 j)] a' ∧ l = leastAt t u j ∧ wr = w0
set_option maxHeartbeats 1000000 in
theorem shortest_any {b : Nat} {t u : Int} {w : World} (h0 : w.cell? ⟨b, 0, none⟩ = some (.int .i64 t)) (h1 : w.cell? ⟨b, 1, none⟩ = some (.int .i64 u)) :
  Calls Tryz.prog 364 #[.slice (some ⟨b, 0, none⟩) 2 2] w fun r w' => r = .returned (.int .i64 (shorter t u)) ∧ w' = w := by
 go_enter Tryz.func364, Tryz.ntmps364
 go_wp2_with fail
 refine wp_scope_ghost 0 (ShortJ t u (.slice (some ⟨b, 0, none⟩) 2 2) w) rfl ?_ ?_
 ·rintro g a' wr ⟨j, l, hj, hfr, hl, rfl⟩
  obtain ⟨f, rfl, hl'⟩ := hfr.lit
  clear hfr
  simp only [List.mem_cons, List.not_mem_nil, or_false, forall_eq_or_imp, forall_eq] at hl'
  obtain ⟨f3, f4, f5⟩ := hl'
  simp only [List.range, List.range.loop, List.map, f3, f4, f5]
  clear f3 f4 f5
  obtain rfl | rfl | rfl : j = 0 ∨ j = 1 ∨ j = 2 := by omega
  all_goals simp only [Int.cast_ofNat_Int]
  ·have hl0 : l = 0 := hl
   subst hl0
   by_cases ht : 0 < t
   ·have e : Hid (t = leastAt t u 1) := Lib.hid (by simp [leastAt, ht])
    clear hl
    go_wp2_with fail
    refine wp_goto ?_
    exact ⟨rfl, g - 1, by omega, 1, t, by omega, ⟨rfl, rfl, by simp⟩, e.out, rfl⟩
   ·have e : Hid (0 = leastAt t u 1) := Lib.hid (by simp [leastAt, ht])
    clear hl
    go_wp2_with fail
    refine wp_goto ?_
    exact ⟨rfl, g - 1, by omega, 1, 0, by omega, ⟨rfl, rfl, by simp⟩, e.out, rfl⟩
  ·have e2 : (if 0 < t then t else 0) = l := hl.symm
   have hls : Hid (leastAt t u 2 = if 0 < l then (if 0 < u ∧ u < l then u else l) else if 0 < u then u else 0) := Lib.hid (by
    show shorter t u = _
    unfold shorter
    by_cases h : 0 < t
    ·rw [if_pos h] at e2
     subst e2
     rw [if_pos h]
    ·rw [if_neg h] at e2
     subst e2
     rw [if_neg h, if_neg (show ¬ (0 : Int) < 0 by decide)])
   have hlp : 0 ≤ l := by split at e2 <;> omega
   replace e2 := Lib.hid e2
   clear hl
   by_cases hu : 0 < u
   ·by_cases h2 : l = 0
    ·subst h2
     have e : Hid (u = leastAt t u 2) := Lib.hid (by rw [hls.out]; simp [hu])
     clear hls e2
     go_wp2_with fail
     refine wp_goto ?_
     exact ⟨rfl, g - 1, by omega, 2, u, by omega, ⟨rfl, rfl, by simp⟩, e.out, rfl⟩
    ·have h2' : (l == 0) = false := by simpa using h2
     by_cases h3 : u < l
     ·have e : Hid (u = leastAt t u 2) := Lib.hid (by rw [hls.out, if_pos (by omega), if_pos ⟨hu, h3⟩])
      clear hls e2 h2
      go_wp2_with fail
      refine wp_goto ?_
      exact ⟨rfl, g - 1, by omega, 2, u, by omega, ⟨rfl, rfl, by simp⟩, e.out, rfl⟩
     ·have e : Hid (l = leastAt t u 2) := Lib.hid (by rw [hls.out, if_pos (by omega), if_neg (by omega)])
      clear hls e2 h2
      go_wp2_with fail
      refine wp_goto ?_
      exact ⟨rfl, g - 1, by omega, 2, l, by omega, ⟨rfl, rfl, by simp⟩, e.out, rfl⟩
   ·have e : Hid (l = leastAt t u 2) := Lib.hid (by
     rw [hls.out]
     by_cases h : 0 < l
     ·rw [if_pos h, if_neg (by omega)]
     ·rw [if_neg h, if_neg hu]; omega)
    clear hls e2
    go_wp2_with fail
    refine wp_goto ?_
    exact ⟨rfl, g - 1, by omega, 2, l, by omega, ⟨rfl, rfl, by simp⟩, e.out, rfl⟩
  ·have e : Hid (l = shorter t u) := Lib.hid hl
   clear hl
   go_wp2_with fail
   simp only [Exit.jump]
   go_ret
   exact ⟨congrArg (fun x => Ending.returned (.int .i64 x)) e.out, rfl⟩
 ·intro H
  go_wp2_with fail
  refine wp_label ?_
  go_step
  go_step
  exact H _ _ _ ⟨0, 0, Nat.zero_add 2, ⟨rfl, rfl, by simp⟩, rfl, rfl⟩
set_option maxHeartbeats 1000000 in
theorem for_any (e : Ent) (o : Opt) (now : Int) (w : World) : Calls Tryz.prog 360 #[enV e, opV o, .int .i64 now] w fun r w' => r = .returned (enV (forE e o now)) ∧ Below w.heap.size w w' := by
 go_enter Tryz.func360, Tryz.ntmps360
 go_wp2_with fail
 all_goals
  have hpr : Hid (max (min e.prio o.prio) 0 = max (min e.prio o.prio) 0) := Lib.hid rfl
  refine (shortest_any (t := e.ttl) (u := o.ttl) ?_ ?_).mono ?_
  ·go_simp
  ·go_simp
  rintro r w1 ⟨rfl, rfl⟩
  by_cases hs : 0 < shorter e.ttl o.ttl
  ·have hf : Hid (forE e o now = { e with prio := max (min e.prio o.prio) 0, til := IntKind.i64.wrap (now + shorter e.ttl o.ttl) }) := Lib.hid (by unfold forE; rw [if_pos hs])
   obtain ⟨T, hT⟩ : ∃ T, IntKind.i64.wrap (now + shorter e.ttl o.ttl) = T := ⟨_, rfl⟩
   rw [hT] at hf
   generalize shorter e.ttl o.ttl = s at *
   go_wp2_with fail
   refine bodyPost_ret (v := enV (forE e o now)) ?_ rfl ⟨rfl, by repeat (first | exact Below.refl _ _ | refine bel ?_ (new_below _ _))⟩
   rw [hf.out]
   simp [results, Tryz.results360, go_sem]
   first | omega | (rename_i h1; split at h1 <;> omega) | trace_state
  ·have hf : Hid (forE e o now = { e with prio := max (min e.prio o.prio) 0, til := 0 }) := Lib.hid (by unfold forE; rw [if_neg hs])
   generalize shorter e.ttl o.ttl = s at *
   go_wp2_with fail
   refine bodyPost_ret (v := enV (forE e o now)) ?_ rfl ⟨rfl, by repeat (first | exact Below.refl _ _ | refine bel ?_ (new_below _ _))⟩
   rw [hf.out]
   simp [results, Tryz.results360, go_sem]
   first | omega | (rename_i h1; split at h1 <;> omega) | trace_state
section
open Go.ChangeMaps (setBlock)
def PutP (o : Opt) (M : List Ent) (e : Ent) (ok : Bool) (W N : List Ent) : Prop :=
 (putOk M e = false ∧ ok = false ∧ W = [] ∧ N = M) ∨
 (putOk M e = true ∧ (M.length : Int) < limitO o ∧ ok = true ∧ W = [] ∧ N = insM e M) ∨
 (putOk M e = true ∧ limitO o ≤ M.length ∧ rejO o = true ∧ ok = false ∧ W = [] ∧ N = M) ∨
 (putOk M e = true ∧ limitO o ≤ M.length ∧ rejO o = false ∧ ok = true ∧ ∃ N1, Sheds M W N1 ∧ (N1.length : Int) + 1 = limitO o ∧ N = insM e N1)
theorem limit_nat (o : Opt) : ∃ l : Nat, limitO o = l ∧ 1 ≤ l ∧ l ≤ 60 := by
 refine ⟨(limitO o).toNat, ?_, ?_, ?_⟩ <;>
 ·unfold limitO
  split <;> omega
section
variable {B : Nat} {w0 w w' : World} {qb rk b k l : Nat} {o : Opt} {M L : List Ent} {F F' S Y : List (Nat × Obj)} {e e0 : Ent}
def PutR (B : Nat) (w0 : World) (qb : Nat) (o : Opt) (M : List Ent) (F : List (Nat × Obj)) (e : Ent) (r : Ending) (w' : World) : Prop :=
 ∃ ok W N a c S, r = .returned (.tuple #[.bool ok, .slice a W.length c]) ∧ PutP o M e ok W N ∧ EnsIs (.slice a W.length c) W S ∧ QuIs B w0 w' qb o N (S ++ F)
theorem PutR.none_ (hp : PutP o M e false [] M) (h : QuIs B w0 w qb o M F) : PutR B w0 qb o M F e (.returned (.tuple #[.bool false, .slice none 0 0])) w := ⟨false, [], M, none, 0, [], rfl, hp, EnsIs.nil, h⟩
theorem ready_op {G : List (Nat × Obj)} (h : QuIs B w0 w qb o M ((k, enO e) :: G)) : Calls Tryz.prog 128 #[rptr qb] w fun r w' => ∃ rk, r = .returned (rptr rk) ∧ QuAt B w0 w' qb rk o M ((k, enO e) :: G) ∧ EnAt w' k e := by
 refine (ready_any h).mono ?_
 rintro r w' ⟨rk, rfl, h'⟩
 exact ⟨rk, rfl, h', (h'.is.at_block (k := k) (e := e) List.mem_cons_self).1⟩
theorem put_op {G : List (Nat × Obj)} (h1 : e.exch.length ≤ 140737488351232) (h2 : e.key.length ≤ 140737488351232) (hlen : M.length < 100000) {ok : Bool} (hok : putOk M e = ok) {N : List Ent} (hN : putM M e = N) (h : QuAt B w0 w qb rk o M ((k, enO e) :: G)) : Calls Tryz.prog 227 #[rptr rk, enV e] w fun r w' => r = .returned (.bool ok) ∧ QuIs B w0 w' qb o N ((k, enO e) :: G) ∧ EnAt w' k e := by
 subst hok hN
 refine (rk_put (e := e) h h1 h2 hlen).mono ?_
 rintro r w' ⟨rfl, h'⟩
 have h3 : QuIs B w0 w' qb o (putM M e) ((k, enO e) :: G) := .inr ⟨_, h'⟩
 exact ⟨rfl, h3, (h3.at_block (k := k) (e := e) List.mem_cons_self).1⟩
theorem drop_op {G : List (Nat × Obj)} (he : e ∈ M) {N : List Ent} (hN : delM M e.id = N) (h : QuAt B w0 w qb rk o M ((k, enO e) :: G)) : Calls Tryz.prog 213 #[rptr rk, .int .i64 e.id] w fun r w' => (∃ y, r = .returned (.tuple #[y, .bool true])) ∧ QuIs B w0 w' qb o N ((k, enO e) :: G) ∧ EnAt w' k e := by
 subst hN
 refine (rk_drop_hit (e := e) h he).mono ?_
 rintro r w' ⟨rfl, h'⟩
 have h3 : QuIs B w0 w' qb o (delM M e.id) ((k, enO e) :: G) := .inr ⟨_, h'⟩
 exact ⟨⟨_, rfl⟩, h3, (h3.at_block (k := k) (e := e) List.mem_cons_self).1⟩
theorem for_op {G : List (Nat × Obj)} {e' : Ent} {now : Int} (he : forE e o now = e') (h : QuIs B w0 w qb o M ((k, enO e) :: G)) : Calls Tryz.prog 360 #[enV e, opV o, .int .i64 now] w fun r w' => r = .returned (enV e') ∧ EnAt w' k e ∧ (∀ i, w'.frozen? ⟨k, i, none⟩ = false) ∧ QuIs B w0 (enPut w' k e') qb o M ((k, enO e') :: G) := by
 subst he
 refine (for_any e o now w).mono ?_
 rintro r w' ⟨rfl, hb⟩
 have h1 := h.grow hb
 exact ⟨rfl, (h1.at_block (k := k) (e := e) List.mem_cons_self).1, (h1.at_block (k := k) (e := e) List.mem_cons_self).2, h1.enPut⟩
set_option maxHeartbeats 4000000 in
theorem qu_put (h : QuIs B w0 w qb o M F) (h1 : e.exch.length ≤ 140737488351232) (h2 : e.key.length ≤ 140737488351232) (hlen : M.length < 90000) (now : Int) : Calls Tryz.prog 358 #[rptr qb, enV e, .int .i64 now] w (PutR B w0 qb o M F (forE e o now)) := by
 obtain ⟨e', he⟩ : ∃ e', forE e o now = e' := ⟨_, rfl⟩
 rw [he]
 have g1 : Hid (e'.exch.length ≤ 140737488351232) := Lib.hid (by rw [← he]; exact h1)
 have g2 : Hid (e'.key.length ≤ 140737488351232) := Lib.hid (by rw [← he]; exact h2)
 have hok := Lib.hid h.ok
 have ha : QuIs B w0 (w.alloc (enO e)).drew qb o M ((w.heap.size, enO e) :: F) := (h.alloc (enO e)).grow (drew_b _)
 obtain ⟨k0, k1, k2, k3, k4, k5, k6, k7, k8, k9⟩ := (ha.at_block (k := w.heap.size) (e := e) List.mem_cons_self).1
 obtain ⟨o0, o1, o2, o3, o4, o5⟩ := ha.ops.1
 have cf := Lib.hid (for_op he ha)
 replace hlen := Lib.hid hlen
 clear h h1 h2 ha he
 go_enter Tryz.func358, Tryz.ntmps358
 go_upto_region 1 with fail
 generalize w.heap.size = eb at *
 go_cut [] (fun wy => QuIs B w0 wy qb o M ((eb, enO e') :: F))
 case first =>
  go_region_law (go_simp; go_at_call 360; refine cf.out.mono ?_; rintro r w3 ⟨rfl, ⟨z0, z1, z2, z3, z4, z5, z6, z7, z8, z9⟩, zs, fin⟩)
  all_goals
   go_wp2_with fail
   go_meet
   case rel => exact fin
 case rest =>
  clear cf k0 k1 k2 k3 k4 k5 k6 k7 k8 k9 o0 o1 o2 o3 o4 o5
  have hR : QuIs B w0 wc.drew qb o M ((eb, enO e') :: F) := hcut.grow (drew_b _)
  have hs0 := Lib.hid (hR.at_block (k := eb) (e := e') List.mem_cons_self).1
  obtain ⟨q0, q1, q2, q3, q4, q5, q6, q7, q8, q9⟩ := (hcut.at_block (k := eb) (e := e') List.mem_cons_self).1
  clear hcut
  cases hpo : putOk M e' with
  | false =>
   have hN : putM M e' = M := by
    unfold putM
    rw [hpo]
    rfl
   have cp := Lib.hid (fun W rk (h : QuAt B w0 W qb rk o M ((eb, enO e') :: F)) => put_op g1.out g2.out (by have := hlen.out; omega) hpo hN h)
   have hfin : Hid (∀ w', QuIs B w0 w' qb o M ((eb, enO e') :: F) → PutR B w0 qb o M F e' (.returned (.tuple #[.bool false, .slice none 0 0])) w') := Lib.hid fun w' h => .none_ (.inl ⟨hpo, rfl, rfl, rfl⟩) (h.sub (List.sublist_cons_self _ _))
   clear hN hpo
   go_wp2_with fail
   go_region_held3 (fun x => x.cell? ⟨eb, 0, none⟩ = some (.int .i64 e'.id) ∧ x.cell? ⟨eb, 1, none⟩ = some (.int .i64 e'.body) ∧ x.cell? ⟨eb, 2, none⟩ = some (.int .i64 e'.size) ∧ x.cell? ⟨eb, 3, none⟩ = some (tx e'.exch) ∧ x.cell? ⟨eb, 4, none⟩ = some (tx e'.key) ∧ x.cell? ⟨eb, 5, none⟩ = some (.int .i64 e'.prio) ∧ x.cell? ⟨eb, 6, none⟩ = some (.int .i64 e'.ttl) ∧ x.cell? ⟨eb, 7, none⟩ = some (.int .i64 e'.til) ∧ x.cell? ⟨eb, 8, none⟩ = some (.bool e'.again) ∧ x.cell? ⟨eb, 9, none⟩ = some (.int .i64 e'.hops)) (first | exact kS | exact hs0.out) (first
    | (go_at_call 128; refine (ready_op (by assumption)).mono ?_; rintro r w4 ⟨rk, rfl, hA, kS⟩)
    | (go_at_call 227; refine (cp.out _ _ (by assumption)).mono ?_; rintro r w4 ⟨rfl, hQ, kS⟩))
   have fin := Lib.hid (hfin.out _ hQ)
   clear hQ kS hA hR cp hs0 hfin
   go_wp2_with fail
   go_ret2
   exact fin.out
  | true =>
   have hN : putM M e' = insM e' M := by
    unfold putM
    rw [hpo]
    rfl
   have hpo2 := hpo
   simp only [putOk, decide_eq_true_eq] at hpo2
   have hnin : ∀ x ∈ M, x.id ≠ e'.id := fun x hx e1 => hpo2.1 (e1 ▸ List.mem_map_of_mem hx)
   have cp := Lib.hid (fun W rk (h : QuAt B w0 W qb rk o M ((eb, enO e') :: F)) => put_op g1.out g2.out (by have := hlen.out; omega) hpo hN h)
   have cd := Lib.hid (fun W rk (h : QuAt B w0 W qb rk o (insM e' M) ((eb, enO e') :: F)) => drop_op (e := e') (mem_ins.2 (.inl rfl)) (del_ins hnin) h)
   obtain ⟨l, hl, hl1, hl2⟩ := limit_nat o
   have cl := Lib.hid (fun W (h : QuIs B w0 W qb o (insM e' M) ((eb, enO e') :: F)) => len_op h (ins_len e' M))
   have ci := Lib.hid (fun W (h : QuIs B w0 W qb o (insM e' M) ((eb, enO e') :: F)) => limit_op h hl)
   have cj := Lib.hid (fun W (h : QuIs B w0 W qb o M ((eb, enO e') :: F)) (hle : l ≤ M.length) => make_room h hl hl1 hle (by have := hlen.out; omega))
   have hP1 : Hid (M.length < l → ∀ w', QuIs B w0 w' qb o (insM e' M) ((eb, enO e') :: F) → PutR B w0 qb o M F e' (.returned (.tuple #[.bool true, .slice none 0 0])) w') := Lib.hid fun hlt w' h =>
    ⟨true, [], insM e' M, none, 0, [], rfl, .inr (.inl ⟨hpo, by rw [hl]; omega, rfl, rfl, rfl⟩), EnsIs.nil, h.sub (List.sublist_cons_self _ _)⟩
   have hP2 : Hid (l ≤ M.length → rejO o = true → ∀ w', QuIs B w0 w' qb o M ((eb, enO e') :: F) → PutR B w0 qb o M F e' (.returned (.tuple #[.bool false, .slice none 0 0])) w') := Lib.hid fun hle hr w' h =>
    .none_ (.inr (.inr (.inl ⟨hpo, by rw [hl]; omega, hr, rfl, rfl, rfl⟩))) (h.sub (List.sublist_cons_self _ _))
   have hP3 : Hid (l ≤ M.length → rejO o = false → ∀ W N a c S, Sheds M W N → N.length + 1 = l → EnsIs (.slice a W.length c) W S → (putOk N e' = true ∧ N.length < 100000) ∧ ∀ w', QuIs B w0 w' qb o (insM e' N) ((eb, enO e') :: (S ++ F)) → PutR B w0 qb o M F e' (.returned (.tuple #[.bool true, .slice a W.length c])) w') := Lib.hid fun hle hr W N a c S h1 h2 h3 => by
    refine ⟨⟨?_, by omega⟩, fun w' h => ⟨true, W, insM e' N, a, c, S, rfl, .inr (.inr (.inr ⟨hpo, by rw [hl]; omega, hr, rfl, N, h1, by rw [hl]; omega, rfl⟩)), h3, h.sub (List.sublist_cons_self _ _)⟩⟩
    simp only [putOk, decide_eq_true_eq]
    exact ⟨fun hm => hpo2.1 ((h1.sub.map _).subset hm), hpo2.2⟩
   replace hnin := Lib.hid hnin
   replace hpo := Lib.hid hpo
   clear hN hpo2 hl
   go_wp2_with fail
   go_region_held3 (fun x => x.cell? ⟨eb, 0, none⟩ = some (.int .i64 e'.id) ∧ x.cell? ⟨eb, 1, none⟩ = some (.int .i64 e'.body) ∧ x.cell? ⟨eb, 2, none⟩ = some (.int .i64 e'.size) ∧ x.cell? ⟨eb, 3, none⟩ = some (tx e'.exch) ∧ x.cell? ⟨eb, 4, none⟩ = some (tx e'.key) ∧ x.cell? ⟨eb, 5, none⟩ = some (.int .i64 e'.prio) ∧ x.cell? ⟨eb, 6, none⟩ = some (.int .i64 e'.ttl) ∧ x.cell? ⟨eb, 7, none⟩ = some (.int .i64 e'.til) ∧ x.cell? ⟨eb, 8, none⟩ = some (.bool e'.again) ∧ x.cell? ⟨eb, 9, none⟩ = some (.int .i64 e'.hops)) (first | exact kS | exact hs0.out) (first
    | (go_at_call 128; refine (ready_op (by assumption)).mono ?_; rintro r w4 ⟨rk, rfl, hA, kS⟩)
    | (go_at_call 227; refine (cp.out _ _ (by assumption)).mono ?_; rintro r w4 ⟨rfl, hQ, kS⟩))
   have hQ3 : QuIs B w0 w4.drew qb o (insM e' M) ((eb, enO e') :: F) := hQ.grow (drew_b _)
   clear hs0
   have hs0 := Lib.hid hQ3.ops.1
   clear hA hR kS cp hQ q0 q1 q2 q3 q4 q5 q6 q7 q8 q9
   by_cases hlt : M.length < l
   ·have hlt1 : ((M.length + 1 : Nat) : Int) ≤ l := by omega
    have hfin := Lib.hid (hP1.out hlt)
    clear hP1 hP2 hP3 cd cj hlt
    generalize M.length + 1 = n at *
    go_wp2_with fail
    go_region_held3 (fun x => x.cell? ⟨qb, 0, none⟩ = some (tx o.dead) ∧ x.cell? ⟨qb, 1, none⟩ = some (tx o.deadKey) ∧ x.cell? ⟨qb, 2, none⟩ = some (.int .i64 o.maxLen) ∧ x.cell? ⟨qb, 3, none⟩ = some (.int .i64 o.ttl) ∧ x.cell? ⟨qb, 4, none⟩ = some (.int .i64 o.prio) ∧ x.cell? ⟨qb, 5, none⟩ = some (.int .i64 o.bits)) (first | exact hS | exact hs0.out) (first
    | (go_at_call 73; refine (cl.out _ (by assumption)).mono ?_; rintro r w4 ⟨rfl, hQ, hS⟩)
    | (go_at_call 361; refine (ci.out _ (by assumption)).mono ?_; rintro r w4 ⟨rfl, hQ, hS⟩))
    have fin := Lib.hid (hfin.out _ hQ)
    clear hQ hS cl ci hs0 hfin hQ3
    go_wp2_with fail
    go_ret2
    exact fin.out
   ·have hlt1 : ¬ ((M.length + 1 : Nat) : Int) ≤ l := by omega
    have hle : l ≤ M.length := by omega
    replace hP2 := Lib.hid (hP2.out hle)
    replace hP3 := Lib.hid (hP3.out hle)
    replace cj := Lib.hid (fun W h => cj.out W h hle)
    clear hP1 hlt hle
    generalize M.length + 1 = n at *
    go_wp2_with fail
    go_region_held3 (fun x => x.cell? ⟨qb, 0, none⟩ = some (tx o.dead) ∧ x.cell? ⟨qb, 1, none⟩ = some (tx o.deadKey) ∧ x.cell? ⟨qb, 2, none⟩ = some (.int .i64 o.maxLen) ∧ x.cell? ⟨qb, 3, none⟩ = some (.int .i64 o.ttl) ∧ x.cell? ⟨qb, 4, none⟩ = some (.int .i64 o.prio) ∧ x.cell? ⟨qb, 5, none⟩ = some (.int .i64 o.bits)) (first | exact hS | exact hs0.out) (first
    | (go_at_call 73; refine (cl.out _ (by assumption)).mono ?_; rintro r w4 ⟨rfl, hQ, hS⟩)
    | (go_at_call 361; refine (ci.out _ (by assumption)).mono ?_; rintro r w4 ⟨rfl, hQ, hS⟩))
    have hQ5 : QuIs B w0 w4.drew qb o (insM e' M) ((eb, enO e') :: F) := hQ.grow (drew_b _)
    clear hs0 hS cl ci hQ hQ3
    have hs0 := Lib.hid (hQ5.at_block (k := eb) (e := e') List.mem_cons_self).1.1
    go_wp2_with fail
    go_region_held3 (fun x => x.cell? ⟨eb, 0, none⟩ = some (.int .i64 e'.id)) (first | exact kS.1 | exact hs0.out) (first
    | (go_at_call 128; refine (ready_op (by assumption)).mono ?_; rintro r w4 ⟨rk, rfl, hA, kS⟩)
    | (go_at_call 213; refine (cd.out _ _ (by assumption)).mono ?_; rintro r w4 ⟨⟨y, rfl⟩, hQ, kS⟩))
    have cr := Lib.hid (qu_rejects hQ)
    clear hs0 hA hQ5 kS cd
    cases hrj : rejO o with
    | true =>
     rw [hrj] at cr
     have fin := Lib.hid (hP2.out hrj _ hQ)
     clear hP2 hP3 cj hQ
     go_wp2_with fail
     refine cr.out.mono ?_
     rintro r w5 ⟨rfl, rfl⟩
     clear cr
     go_wp2_with fail
     go_ret2
     exact fin.out
    | false =>
     rw [hrj] at cr
     replace hP3 := Lib.hid (hP3.out hrj)
     have cm := Lib.hid (cj.out _ hQ)
     clear hP2 cj hQ
     go_wp2_with fail
     refine cr.out.mono ?_
     rintro r w5 ⟨rfl, rfl⟩
     clear cr
     go_wp2_with fail
     refine cm.out.mono ?_
     rintro r w6 ⟨W, N, a, c, S, rfl, t1, t2, t3, hQ6⟩
     obtain ⟨⟨hpN, hNl⟩, hfin⟩ := hP3.out W N a c S t1 t2 t3
     have hN : putM N e' = insM e' N := by
      unfold putM
      rw [hpN]
      rfl
     replace hfin := Lib.hid hfin
     have hQ7 : QuIs B w0 w6.drew qb o N ((eb, enO e') :: (S ++ F)) := (hQ6.permF List.perm_middle).grow (drew_b _)
     have cp := Lib.hid (fun W rk (h : QuAt B w0 W qb rk o N ((eb, enO e') :: (S ++ F))) => put_op g1.out g2.out hNl hpN hN h)
     have hs0 := Lib.hid (hQ7.at_block (k := eb) (e := e') List.mem_cons_self).1
     obtain ⟨q0, q1, q2, q3, q4, q5, q6, q7, q8, q9⟩ := ((hQ6.permF (F' := (eb, enO e') :: (S ++ F)) List.perm_middle).at_block (k := eb) (e := e') List.mem_cons_self).1
     clear cm hP3 t1 t2 t3 hN hpN hNl hQ6
     generalize W.length = n2 at *
     go_wp2_with fail
     go_region_held3 (fun x => x.cell? ⟨eb, 0, none⟩ = some (.int .i64 e'.id) ∧ x.cell? ⟨eb, 1, none⟩ = some (.int .i64 e'.body) ∧ x.cell? ⟨eb, 2, none⟩ = some (.int .i64 e'.size) ∧ x.cell? ⟨eb, 3, none⟩ = some (tx e'.exch) ∧ x.cell? ⟨eb, 4, none⟩ = some (tx e'.key) ∧ x.cell? ⟨eb, 5, none⟩ = some (.int .i64 e'.prio) ∧ x.cell? ⟨eb, 6, none⟩ = some (.int .i64 e'.ttl) ∧ x.cell? ⟨eb, 7, none⟩ = some (.int .i64 e'.til) ∧ x.cell? ⟨eb, 8, none⟩ = some (.bool e'.again) ∧ x.cell? ⟨eb, 9, none⟩ = some (.int .i64 e'.hops)) (first | exact kS | exact hs0.out) (first
    | (go_at_call 128; refine (ready_op (by assumption)).mono ?_; rintro r w4 ⟨rk, rfl, hA, kS⟩)
    | (go_at_call 227; refine (cp.out _ _ (by assumption)).mono ?_; rintro r w4 ⟨rfl, hQ, kS⟩))
     have fin := Lib.hid (hfin.out _ hQ)
     clear hQ hA hQ7 kS cp hs0 hfin q0 q1 q2 q3 q4 q5 q6 q7 q8 q9
     go_wp2_with fail
     go_ret2
     exact fin.out
end
end
def Up (s : Nat → Bool) (l i : Nat) : Prop := ∃ p, p / 64 ^ l = i ∧ s p = true
def ins (s : Nat → Bool) (i : Nat) : Nat → Bool := fun p => p == i || s p
def del (s : Nat → Bool) (i : Nat) : Nat → Bool := fun p => p != i && s p
theorem up_zero {s : Nat → Bool} {i : Nat} : Up s 0 i ↔ s i = true := by
 constructor
 ·rintro ⟨p, h, hs⟩
  rw [Nat.pow_zero, Nat.div_one] at h
  exact h ▸ hs
 ·intro h
  exact ⟨i, by rw [Nat.pow_zero, Nat.div_one], h⟩
theorem up_ins {s : Nat → Bool} {l i p : Nat} : Up (ins s p) l i ↔ Up s l i ∨ i = p / 64 ^ l := by
 constructor
 ·rintro ⟨q, h, hs⟩
  simp only [ins, Bool.or_eq_true, beq_iff_eq] at hs
  rcases hs with rfl | hs
  ·exact .inr h.symm
  ·exact .inl ⟨q, h, hs⟩
 ·rintro (⟨q, h, hs⟩ | rfl)
  ·exact ⟨q, h, by simp [ins, hs]⟩
  ·exact ⟨p, rfl, by simp [ins]⟩
theorem up_del {s : Nat → Bool} {l i p : Nat} (h : Up (del s p) l i) : Up s l i := by
 obtain ⟨q, h, hs⟩ := h
 simp only [del, Bool.and_eq_true] at hs
 exact ⟨q, h, hs.2⟩
theorem up_del_other {s : Nat → Bool} {l i p : Nat} (hi : i ≠ p / 64 ^ l) (h : Up s l i) : Up (del s p) l i := by
 obtain ⟨q, h, hs⟩ := h
 refine ⟨q, h, ?_⟩
 simp only [del, Bool.and_eq_true, bne_iff_ne, ne_eq]
 refine ⟨?_, hs⟩
 rintro rfl
 exact hi h.symm
def Bits (s : Nat → Bool) (l : Nat) (ws : List Nat) : Prop := ∀ j u, ws[j]? = some u → u < 2 ^ 64 ∧ ∀ b, b < 64 → (u.testBit b = true ↔ Up s l (64 * j + b))
section
variable {s t : Nat → Bool} {l j u : Nat} {ws : List Nat}
theorem set_getElem? {ws : List Nat} {i j u v : Nat} (h : (ws.set i v)[j]? = some u) : (j = i ∧ u = v) ∨ (j ≠ i ∧ ws[j]? = some u) := by
 rw [List.getElem?_set] at h
 split at h
 ·rename_i e
  split at h
  ·exact .inl ⟨e.symm, (Option.some.inj h).symm⟩
  ·cases h
 ·rename_i e
  exact .inr ⟨fun e' => e e'.symm, h⟩
theorem pow_lt_64 (k : Nat) (h : k < 64) : 2 ^ k < 2 ^ 64 := Nat.pow_lt_pow_right (by decide) h
theorem Bits.put {p : Nat} (h : Bits s l ws) (hu : ws[p / 64 ^ l / 64]? = some u) : Bits (ins s p) l (ws.set (p / 64 ^ l / 64) (u ||| 2 ^ (p / 64 ^ l % 64))) := by
 intro j v hv
 rcases set_getElem? hv with ⟨rfl, rfl⟩ | ⟨hj, hv⟩
 ·obtain ⟨h1, h2⟩ := h _ u hu
  refine ⟨Nat.or_lt_two_pow h1 (pow_lt_64 _ (Nat.mod_lt _ (by decide))), fun b hb => ?_⟩
  rw [Nat.testBit_or, Nat.testBit_two_pow, Bool.or_eq_true, h2 b hb, up_ins, decide_eq_true_eq]
  exact or_congr Iff.rfl ⟨fun e => by omega, fun e => by omega⟩
 ·obtain ⟨h1, h2⟩ := h j v hv
  refine ⟨h1, fun b hb => ?_⟩
  rw [h2 b hb, up_ins]
  exact ⟨.inl, fun h => h.elim id fun e => absurd (show j = p / 64 ^ l / 64 by omega) hj⟩
theorem Bits.cut {p : Nat} (h : Bits s l ws) (hp : ¬ Up (del s p) l (p / 64 ^ l)) (hu : ws[p / 64 ^ l / 64]? = some u) :
  Bits (del s p) l (ws.set (p / 64 ^ l / 64) (u &&& (18446744073709551615 - 2 ^ (p / 64 ^ l % 64)))) := by
 have hk : 2 ^ (p / 64 ^ l % 64) < 2 ^ 64 := pow_lt_64 _ (Nat.mod_lt _ (by decide))
 intro j v hv
 rcases set_getElem? hv with ⟨rfl, rfl⟩ | ⟨hj, hv⟩
 ·obtain ⟨h1, h2⟩ := h _ u hu
  refine ⟨Nat.lt_of_le_of_lt Nat.and_le_left h1, fun b hb => ?_⟩
  have e : 18446744073709551615 - 2 ^ (p / 64 ^ l % 64) = 2 ^ 64 - (2 ^ (p / 64 ^ l % 64) + 1) := by omega
  rw [e, Nat.testBit_and, Nat.testBit_two_pow_sub_succ hk, Nat.testBit_two_pow, Bool.and_eq_true, h2 b hb]
  simp only [hb, decide_true, Bool.true_and, Bool.not_eq_true', decide_eq_false_iff_not]
  constructor
  ·rintro ⟨h3, h4⟩
   exact up_del_other (by omega) h3
  ·intro h3
   refine ⟨up_del h3, fun e => hp ?_⟩
   have : p / 64 ^ l = 64 * (p / 64 ^ l / 64) + b := by omega
   rw [this]; exact h3
 ·obtain ⟨h1, h2⟩ := h j v hv
  refine ⟨h1, fun b hb => ?_⟩
  rw [h2 b hb]
  exact ⟨fun h3 => up_del_other (by omega) h3, up_del⟩
theorem mul_pow_up (a l : Nat) : a * 64 ^ (l + 1) = a * 64 * 64 ^ l := by rw [Nat.pow_succ, Nat.mul_comm (64 ^ l), Nat.mul_assoc]
def firstAt (s : Nat → Bool) (k a : Nat) : Option Nat := (List.range k).find? fun p => decide (a ≤ p) && s p
def nextAt (s : Nat → Bool) (k a : Nat) : Option Nat := (firstAt s k a).or (firstAt s k 0)
def cntB (s : Nat → Bool) (k : Nat) : Nat := (List.range k).countP s
end
structure Gst where
 conn : Int
 chan : Int
 tag : List UInt8
 most : Int
 noack : Bool
 sole : Bool
abbrev gsV (x : Gst) : Value := .agg #[.int .i64 x.conn, .int .i64 x.chan, tx x.tag, .int .i64 x.most, .bool x.noack, .bool x.sole]
abbrev gsO (x : Gst) : Obj := .cells #[.int .i64 x.conn, .int .i64 x.chan, tx x.tag, .int .i64 x.most, .bool x.noack, .bool x.sole] 77
abbrev z0G : Gst := ⟨0, 0, [], 0, false, false⟩
def keyG (c h : Int) (t : List UInt8) (x : Gst) : Bool := x.conn == c && (x.chan == h && x.tag == t)
def idxG (M : List Gst) (c h : Int) (t : List UInt8) : Option Nat := M.findIdx? (keyG c h t)
theorem idx_some {M : List Gst} {c h : Int} {t : List UInt8} {i : Nat} {x : Gst} (hx : M[i]? = some x) (hk : keyG c h t x = true) (hn : ∀ (j : Nat) y, j < i → M[j]? = some y → keyG c h t y = false) : idxG M c h t = some i := by
 obtain ⟨h1, h2⟩ := List.getElem?_eq_some_iff.1 hx
 rw [idxG, List.findIdx?_eq_some_iff_getElem]
 refine ⟨h1, by rw [h2]; exact hk, fun j hj => ?_⟩
 rw [hn j M[j] hj (List.getElem?_eq_getElem (by omega))]
 simp
theorem idx_none {M : List Gst} {c h : Int} {t : List UInt8} (hn : ∀ (j : Nat) y, j < M.length → M[j]? = some y → keyG c h t y = false) : idxG M c h t = none := by
 rw [idxG, List.findIdx?_eq_none_iff]
 intro x hx
 obtain ⟨j, hj⟩ := List.getElem?_of_mem hx
 exact hn j x (List.getElem?_eq_some_iff.1 hj).1 hj
theorem idx_is {M : List Gst} {c h : Int} {t : List UInt8} {i : Nat} (he : idxG M c h t = some i) : i < M.length ∧ ∃ x, M[i]? = some x ∧ keyG c h t x = true := by
 rw [idxG, List.findIdx?_eq_some_iff_getElem] at he
 obtain ⟨h1, h2, -⟩ := he
 exact ⟨h1, M[i], List.getElem?_eq_getElem h1, h2⟩
theorem key_ways {c h : Int} {t : List UInt8} {x : Gst} (hk : keyG c h t x = false) : (x.conn == c) = false ∨ (x.conn == c) = true ∧ (x.chan == h) = false ∨ (x.conn == c) = true ∧ (x.chan == h) = true ∧ (x.tag == t) = false := by
 unfold keyG at hk
 cases h1 : (x.conn == c) with
 | false => exact .inl rfl
 | true =>
  cases h2 : (x.chan == h) with
  | false => exact .inr (.inl ⟨rfl, rfl⟩)
  | true =>
   rw [h1, h2, Bool.true_and, Bool.true_and] at hk
   exact .inr (.inr ⟨rfl, rfl, hk⟩)
theorem key_yes {c h : Int} {t : List UInt8} {x : Gst} (hk : keyG c h t x = true) : (x.conn == c) = true ∧ (x.chan == h) = true ∧ (x.tag == t) = true := by
 unfold keyG at hk
 simpa [Bool.and_eq_true] using hk
def addOkG (M : List Gst) (x : Gst) : Bool := (idxG M x.conn x.chan x.tag).isNone
def addG (M : List Gst) (x : Gst) : List Gst := if addOkG M x = true then M ++ [x] else M
def turnG (n k : Nat) : Nat := if n ≤ k then 0 else k
def dropM (M : List Gst) (c h : Int) (t : List UInt8) : List Gst := match idxG M c h t with | none => M | some i => M.eraseIdx i
def dropT (M : List Gst) (T : Nat) (c h : Int) (t : List UInt8) : Nat := match idxG M c h t with | none => T | some i => turnG (M.length - 1) (if i < T then T - 1 else T)
def sparG (n sl : Nat) (s : Nat → Bool) : Nat → Bool := fun p => decide (p < n) && (decide (p < sl) && s p)
def pickG (n T : Nat) (f : Nat → Bool) : Option Nat := nextAt f n T
def soleG (M : List Gst) : Bool := M.any Gst.sole
def OkT (n T : Nat) : Prop := T < n ∨ T = 0
theorem turn_ok (n k : Nat) : OkT n (turnG n k) := by
 unfold OkT turnG
 split
 ·exact .inr rfl
 ·exact .inl (by omega)
end Go.Proofs.YtknjamfjonapiaaGreatDoor
