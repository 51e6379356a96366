/- A new queue: options with texts of its own. -/
import Derived.Test.YtmmagapggmcceaaQuB
namespace Go.Proofs.Ytmmagapggmcceaa
open Go.RowKit
open Go.ChangeMaps (setBlock)
set_option linter.unusedVariables false
set_option linter.unusedSectionVars false
set_option linter.unusedSimpArgs false
set_option maxRecDepth 100000

section
variable {w w' : World} {o : Opt}
/-- What is held on the way: the options that came in, those that are answered. -/
def OOwnS (w : World) (o : Opt) (w' : World) : Prop := St w.heap.size w w' [(w.heap.size, opO o), (w.heap.size + 1, opO z0O)]
theorem OOwnS.start (w : World) (o : Opt) : OOwnS w o ((w.alloc (opO o)).alloc (opO z0O)) := by
  have h := ((St.start w).alloc (opO o)).alloc (opO z0O)
  rw [World.size_alloc] at h
  exact h.perm (List.Perm.swap _ _ _)
theorem OOwnS.from (h : OOwnS w o w') : w'.cell? ⟨w.heap.size, 0, none⟩ = some (tx o.dead) ∧ w'.cell? ⟨w.heap.size, 1, none⟩ = some (tx o.deadKey) :=
  ⟨St.cell h List.mem_cons_self rfl, St.cell h List.mem_cons_self rfl⟩
theorem OOwnS.st0 (h : OOwnS w o w') : OOwnS w o (w'.setCell ⟨w.heap.size, 0, none⟩ (tx o.dead)) := St.set0 h 0 (tx o.dead)
theorem OOwnS.st1 (h : OOwnS w o w') : OOwnS w o (w'.setCell ⟨w.heap.size, 1, none⟩ (tx o.deadKey)) := St.set0 h 1 (tx o.deadKey)
theorem oclone_own (h : OOwnS w o w') {l : List UInt8} (hl : l.length ≤ 140737488351232) : Calls Try.prog 29 #[tx l] w' fun r w2 => r = .returned (tx l) ∧ OOwnS w o w2 ∧
    (w2.cell? ⟨w.heap.size, 0, none⟩ = some (tx o.dead) ∧ w2.cell? ⟨w.heap.size, 1, none⟩ = some (tx o.deadKey)) ∧
    (w2.frozen? ⟨w.heap.size, 0, none⟩ = false ∧ w2.frozen? ⟨w.heap.size, 1, none⟩ = false) := by
  refine (clone_any l w' hl).mono ?_
  rintro r w2 ⟨rfl, hb⟩
  have h2 : OOwnS w o w2 := St.grow h hb
  exact ⟨rfl, h2, h2.from, St.soft h2 List.mem_cons_self 0, St.soft h2 List.mem_cons_self 1⟩
structure OOwnC (w : World) (o : Opt) (w' : World) : Prop where
  src : OpC w' w.heap.size o
  dst : OpC w' (w.heap.size + 1) z0O
  soft : ∀ i, w'.frozen? ⟨w.heap.size + 1, i, none⟩ = false
theorem OOwnS.cells (h : OOwnS w o w') : OOwnC w o w' :=
  have m0 : (w.heap.size, opO o) ∈ [(w.heap.size, opO o), (w.heap.size + 1, opO z0O)] := List.mem_cons_self
  have m1 : (w.heap.size + 1, opO z0O) ∈ [(w.heap.size, opO o), (w.heap.size + 1, opO z0O)] := List.mem_cons_of_mem _ List.mem_cons_self
  ⟨St.opC h m0, St.opC h m1, fun i => St.soft h m1 i⟩

set_option maxHeartbeats 2000000 in
theorem oown_any (o : Opt) (h1 : o.dead.length ≤ 140737488351232) (h2 : o.deadKey.length ≤ 140737488351232) (w : World) : Calls Try.prog 17 #[opV o] w fun r w' => r = .returned (opV o) ∧ Below w.heap.size w w' := by
  have hs0 : OOwnS w o ((w.alloc (opO o)).alloc (opO z0O)).drew := St.drew (OOwnS.start w o)
  have hs1 := Lib.hid hs0.from
  have cc := Lib.hid (fun (w' : World) (h : OOwnS w o w') (l : List UInt8) (hl : l.length ≤ 140737488351232) => oclone_own h hl)
  go_enter Try.func17, Try.ntmps17
  go_wp2_with fail
  go_region_held3 (fun wr => wr.cell? ⟨w.heap.size, 0, none⟩ = some (tx o.dead) ∧ wr.cell? ⟨w.heap.size, 1, none⟩ = some (tx o.deadKey)) (first | exact hS | exact hs1.out | exact (OOwnS.st0 hO).from | exact (OOwnS.st1 (OOwnS.st0 hO)).from | go_keep) ((go_at_call 29; refine (cc.out _ (by assumption) _ (by assumption)).mono ?_; rintro r w'' ⟨rfl, hO, hS, f3, f4⟩))
  have hO2 := OOwnS.st1 (OOwnS.st0 hO)
  clear cc hs1 hs0 f3 f4 hS hO h1 h2
  obtain ⟨W, hW⟩ : ∃ W, W = (w''.setCell ⟨w.heap.size, 0, none⟩ (tx o.dead)).setCell ⟨w.heap.size, 1, none⟩ (tx o.deadKey) := ⟨_, rfl⟩
  rw [← hW] at hO2 ⊢
  clear hW
  obtain ⟨⟨k0, k1, k2, k3, k4, k5⟩, ⟨d0, d1, d2, d3, d4, d5⟩, sf⟩ := hO2.cells
  have hO3 : St w.heap.size w (opPut W (w.heap.size + 1) o) [(w.heap.size + 1, opO o), (w.heap.size, opO o)] := St.opPut (St.perm hO2 (List.Perm.swap _ _ _))
  have hE := Lib.hid (St.opC hO3 List.mem_cons_self)
  have hB := Lib.hid hO3.below
  clear hO2 hO3
  go_wp2_with fail
  exact bodyPost_ret (ret_opts rfl rfl hE.out rfl) rfl ⟨rfl, hB.out⟩
end
section
variable {B : Nat} {w0 w w' : World} {qb rk b k : Nat} {o : Opt} {M L : List Ent} {F F' S Y : List (Nat × Obj)} {e e0 : Ent}
theorem qu_new (h : St B w0 w F) (h1 : o.dead.length ≤ 140737488351232) (h2 : o.deadKey.length ≤ 140737488351232) : Calls Try.prog 8 #[opV o] w fun r w' => ∃ qb, r = .returned (rptr qb) ∧ QuIs B w0 w' qb o [] F := by
  have co := Lib.hid (oown_any o h1 h2 (w.alloc (opO o)))
  have hn : Hid (∀ w', Below (w.alloc (opO o)).heap.size (w.alloc (opO o)) w' → QuIs B w0 (w'.alloc (quO o none)) w'.heap.size o [] F) := Lib.hid fun w' hb =>
    .inl ⟨rfl, (((h.alloc (opO o)).grow hb).sub (List.sublist_cons_self _ _)).alloc _⟩
  clear h h1 h2
  go_enter Try.func8, Try.ntmps8
  go_wp2_with fail
  refine co.out.mono ?_
  rintro r w1 ⟨rfl, hb⟩
  have fin := Lib.hid (hn.out _ hb)
  clear co hn hb
  go_wp2_with fail
  go_ret
  exact ⟨_, rfl, fin.out⟩
end
end Go.Proofs.Ytmmagapggmcceaa
