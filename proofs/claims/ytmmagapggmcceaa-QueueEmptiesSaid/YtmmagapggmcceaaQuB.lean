/- A queue: how many, all, those gone, its options, whether it refuses. -/
import Derived.Test.YtmmagapggmcceaaQuA
namespace Go.Proofs.Ytmmagapggmcceaa
open Go.RowKit
open Go.ChangeMaps (setBlock)
set_option linter.unusedVariables false
set_option linter.unusedSectionVars false
set_option linter.unusedSimpArgs false
set_option maxRecDepth 100000

/-- Whether it refuses what comes when there is no room. -/
def rejO (o : Opt) : Bool := !(bits .and .i64 o.bits 4 == 0)
section
variable {B : Nat} {w0 w w' : World} {qb rk b k : Nat} {o : Opt} {M L : List Ent} {F F' S Y : List (Nat × Obj)} {e e0 : Ent}
theorem qu_len (h : QuIs B w0 w qb o M F) : Calls Try.prog 10 #[rptr qb] w fun r w' => r = .returned (.int .i64 M.length) ∧ QuIs B w0 w' qb o M F := by
  have cr := Lib.hid (ready_any h)
  clear h
  go_enter Try.func10, Try.ntmps10
  go_wp2_with fail
  refine cr.out.mono ?_
  rintro r w1 ⟨rk, rfl, h1⟩
  have cl := Lib.hid (rk_len h1)
  replace h1 := Lib.hid h1
  clear cr
  go_wp2_with fail
  refine cl.out.mono ?_
  rintro r w2 ⟨rfl, rfl⟩
  clear cl
  go_wp2_with fail
  go_ret
  exact ⟨rfl, h1.out.is⟩

def QAllR (B : Nat) (w0 : World) (qb : Nat) (o : Opt) (M : List Ent) (F : List (Nat × Obj)) (L N : List Ent) (r : Ending) (w' : World) : Prop :=
  ∃ a c S, r = .returned (.slice a L.length c) ∧ EnsIs (.slice a L.length c) L S ∧ QuIs B w0 w' qb o N (S ++ F)
theorem qu_all (h : QuIs B w0 w qb o M F) : Calls Try.prog 13 #[rptr qb] w (QAllR B w0 qb o M F M M) := by
  have cr := Lib.hid (ready_any h)
  clear h
  go_enter Try.func13, Try.ntmps13
  go_wp2_with fail
  refine cr.out.mono ?_
  rintro r w1 ⟨rk, rfl, h1⟩
  have cl := Lib.hid (rk_all h1)
  clear cr h1
  go_wp2_with fail
  refine cl.out.mono ?_
  rintro r w2 ⟨a, c, S, rfl, hs, h2⟩
  have fin : Hid (QAllR B w0 qb o M F M M (.returned (.slice a M.length c)) w2) := Lib.hid ⟨a, c, S, rfl, hs, .inr ⟨rk, h2.permF List.perm_middle⟩⟩
  clear cl hs h2
  go_wp2_with fail
  go_ret
  exact fin.out
theorem qu_gone (h : QuIs B w0 w qb o M F) (now : Int) : Calls Try.prog 14 #[rptr qb, .int .i64 now] w (QAllR B w0 qb o M F (M.filter fun x => goneE x now) (M.filter fun x => !goneE x now)) := by
  have cr := Lib.hid (ready_any h)
  clear h
  go_enter Try.func14, Try.ntmps14
  go_wp2_with fail
  refine cr.out.mono ?_
  rintro r w1 ⟨rk, rfl, h1⟩
  have cl := Lib.hid (rk_gone h1 now)
  clear cr h1
  go_wp2_with fail
  refine cl.out.mono ?_
  rintro r w2 ⟨a, c, S, rfl, hs, h2⟩
  have fin : Hid (QAllR B w0 qb o M F (M.filter fun x => goneE x now) (M.filter fun x => !goneE x now) (.returned (.slice a (M.filter fun x => goneE x now).length c)) w2) := Lib.hid ⟨a, c, S, rfl, hs, .inr ⟨rk, h2.permF List.perm_middle⟩⟩
  clear cl hs h2
  generalize (M.filter fun x => goneE x now).length = n at *
  go_wp2_with fail
  go_ret
  exact fin.out
theorem qu_rejects (h : QuIs B w0 w qb o M F) : Calls Try.prog 23 #[rptr qb] w fun r w' => r = .returned (.bool (rejO o)) ∧ w' = w := by
  obtain ⟨-, -, -, -, -, c5⟩ := h.ops.1
  clear h
  go_enter Try.func23, Try.ntmps23
  go_wp2_with fail
  go_ret
  exact ⟨rfl, rfl⟩
end
abbrev z0O : Opt := ⟨[], [], 0, 0, 0, 0⟩
/-- A block of six cells with options stored into it. -/
abbrev opPut (w : World) (b : Nat) (o : Opt) : World := (((((w.setCell ⟨b, 0, none⟩ (tx o.dead)).setCell ⟨b, 1, none⟩ (tx o.deadKey)).setCell ⟨b, 2, none⟩ (.int .i64 o.maxLen)).setCell ⟨b, 3, none⟩ (.int .i64 o.ttl)).setCell ⟨b, 4, none⟩ (.int .i64 o.prio)).setCell ⟨b, 5, none⟩ (.int .i64 o.bits)
theorem St.opPut {B : Nat} {w0 w : World} {b : Nat} {o o1 : Opt} {C : List (Nat × Obj)} (h : St B w0 w ((b, opO o1) :: C)) : St B w0 (opPut w b o) ((b, opO o) :: C) := by
  have h10 := (((((h.set0 0 (tx o.dead)).set0 1 (tx o.deadKey)).set0 2 (.int .i64 o.maxLen)).set0 3 (.int .i64 o.ttl)).set0 4 (.int .i64 o.prio)).set0 5 (.int .i64 o.bits)
  simp only [List.setIfInBounds_toArray, List.set_cons_zero, List.set_cons_succ] at h10
  exact h10
theorem St.opC {B : Nat} {w0 w : World} {b : Nat} {o : Opt} {H : List (Nat × Obj)} (h : St B w0 w H) (m : (b, opO o) ∈ H) : OpC w b o :=
  ⟨h.cell m rfl, h.cell m rfl, h.cell m rfl, h.cell m rfl, h.cell m rfl, h.cell m rfl⟩
theorem ret_opts {P : Program} {fn : Func} {d : Nat} {tmps : Array Value} {w : World} {o : Opt} (hr : fn.results = #[.cell 2 25]) (h2 : tmps[2]? = some (.pointer (some ⟨d, 0, none⟩))) (q : OpC w d o) (hP : P = Try.prog) :
    (results fn tmps).run P w = .ok (opV o) w := by
  subst hP
  obtain ⟨q0, q1, q2, q3, q4, q5⟩ := q
  simp [results, hr, go_sem, h2, q0, q1, q2, q3, q4, q5]
section
variable {B : Nat} {w0 w w' : World} {qb rk b k : Nat} {o : Opt} {M L : List Ent} {F F' S Y : List (Nat × Obj)} {e e0 : Ent}
set_option maxHeartbeats 400000 in
theorem qu_opts (h : QuIs B w0 w qb o M F) : Calls Try.prog 16 #[rptr qb] w fun r w' => r = .returned (opV o) ∧ QuIs B w0 w' qb o M F := by
  have h1 := h.alloc (opO z0O)
  obtain ⟨c0, c1, c2, c3, c4, c5⟩ := h1.ops.1
  obtain ⟨S, s1, -, s2⟩ := h1.beside
  obtain ⟨z0, z1, z2, z3, z4, z5⟩ := (s1.perm List.perm_middle).opC List.mem_cons_self
  have zs := fun i => (s1.perm List.perm_middle).soft (b := w.heap.size) List.mem_cons_self i
  have h2 := h.alloc (opO o)
  obtain ⟨S2, s3, -, -⟩ := h2.beside
  have finE := Lib.hid ((s3.perm List.perm_middle).opC List.mem_cons_self)
  have fin := Lib.hid (h2.sub (List.sublist_cons_self _ _))
  clear h h1 s1 s2 h2 s3
  go_enter Try.func16, Try.ntmps16
  go_wp2_with fail
  exact bodyPost_ret (ret_opts rfl rfl finE.out rfl) rfl ⟨rfl, fin.out⟩
end
end Go.Proofs.Ytmmagapggmcceaa
