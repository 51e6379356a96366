/- An entry with texts of its own. -/
import Derived.Test.YtmmagapggmcceaaRkF
namespace Go.Proofs.Ytmmagapggmcceaa
open Go.RowKit
open Go.ChangeMaps (setBlock)
set_option linter.unusedVariables false
set_option linter.unusedSectionVars false
set_option linter.unusedSimpArgs false
set_option maxRecDepth 100000

section
variable {w w' : World} {e : Ent}
/-- What is held on the way: the entry that came in, the one that is answered. -/
def EOwnS (w : World) (e : Ent) (w' : World) : Prop := St w.heap.size w w' [(w.heap.size, enO e), (w.heap.size + 1, enO z0E)]
theorem EOwnS.start (w : World) (e : Ent) : EOwnS w e ((w.alloc (enO e)).alloc (enO z0E)) := by
  have h := ((St.start w).alloc (enO e)).alloc (enO z0E)
  rw [World.size_alloc] at h
  exact h.perm (List.Perm.swap _ _ _)
theorem EOwnS.from (h : EOwnS w e w') : w'.cell? ⟨w.heap.size, 3, none⟩ = some (tx e.exch) ∧ w'.cell? ⟨w.heap.size, 4, none⟩ = some (tx e.key) :=
  ⟨St.cell h List.mem_cons_self rfl, St.cell h List.mem_cons_self rfl⟩
theorem EOwnS.st3 (h : EOwnS w e w') : EOwnS w e (w'.setCell ⟨w.heap.size, 3, none⟩ (tx e.exch)) := St.set0 h 3 (tx e.exch)
theorem EOwnS.st4 (h : EOwnS w e w') : EOwnS w e (w'.setCell ⟨w.heap.size, 4, none⟩ (tx e.key)) := St.set0 h 4 (tx e.key)
theorem eclone_own (h : EOwnS w e w') {l : List UInt8} (hl : l.length ≤ 140737488351232) : Calls Try.prog 29 #[tx l] w' fun r w2 => r = .returned (tx l) ∧ EOwnS w e w2 ∧
    (w2.cell? ⟨w.heap.size, 3, none⟩ = some (tx e.exch) ∧ w2.cell? ⟨w.heap.size, 4, none⟩ = some (tx e.key)) ∧
    (w2.frozen? ⟨w.heap.size, 3, none⟩ = false ∧ w2.frozen? ⟨w.heap.size, 4, none⟩ = false) := by
  refine (clone_any l w' hl).mono ?_
  rintro r w2 ⟨rfl, hb⟩
  have h2 : EOwnS w e w2 := St.grow h hb
  exact ⟨rfl, h2, h2.from, St.soft h2 List.mem_cons_self 3, St.soft h2 List.mem_cons_self 4⟩
structure EOwnC (w : World) (e : Ent) (w' : World) : Prop where
  src : EnAt w' w.heap.size e
  dst : EnAt w' (w.heap.size + 1) z0E
  soft : ∀ i, w'.frozen? ⟨w.heap.size + 1, i, none⟩ = false
theorem EOwnS.cells (h : EOwnS w e w') : EOwnC w e w' :=
  have m0 : (w.heap.size, enO e) ∈ [(w.heap.size, enO e), (w.heap.size + 1, enO z0E)] := List.mem_cons_self
  have m1 : (w.heap.size + 1, enO z0E) ∈ [(w.heap.size, enO e), (w.heap.size + 1, enO z0E)] := List.mem_cons_of_mem _ List.mem_cons_self
  ⟨⟨St.cell h m0 rfl, St.cell h m0 rfl, St.cell h m0 rfl, St.cell h m0 rfl, St.cell h m0 rfl, St.cell h m0 rfl, St.cell h m0 rfl, St.cell h m0 rfl, St.cell h m0 rfl, St.cell h m0 rfl⟩,
   ⟨St.cell h m1 rfl, St.cell h m1 rfl, St.cell h m1 rfl, St.cell h m1 rfl, St.cell h m1 rfl, St.cell h m1 rfl, St.cell h m1 rfl, St.cell h m1 rfl, St.cell h m1 rfl, St.cell h m1 rfl⟩, fun i => St.soft h m1 i⟩
/-- A block of ten cells with an entry stored into it. -/
abbrev enPut (w : World) (b : Nat) (e : Ent) : World := (((((((((w.setCell ⟨b, 0, none⟩ (.int .i64 e.id)).setCell ⟨b, 1, none⟩ (.int .i64 e.body)).setCell ⟨b, 2, none⟩ (.int .i64 e.size)).setCell ⟨b, 3, none⟩ (tx e.exch)).setCell ⟨b, 4, none⟩ (tx e.key)).setCell ⟨b, 5, none⟩ (.int .i64 e.prio)).setCell ⟨b, 6, none⟩ (.int .i64 e.ttl)).setCell ⟨b, 7, none⟩ (.int .i64 e.til)).setCell ⟨b, 8, none⟩ (.bool e.again)).setCell ⟨b, 9, none⟩ (.int .i64 e.hops)
theorem St.enPut {B : Nat} {w0 w : World} {b : Nat} {e e0 : Ent} {C : List (Nat × Obj)} (h : St B w0 w ((b, enO e0) :: C)) : St B w0 (enPut w b e) ((b, enO e) :: C) := by
  have h10 := (((((((((h.set0 0 (.int .i64 e.id)).set0 1 (.int .i64 e.body)).set0 2 (.int .i64 e.size)).set0 3 (tx e.exch)).set0 4 (tx e.key)).set0 5 (.int .i64 e.prio)).set0 6 (.int .i64 e.ttl)).set0 7 (.int .i64 e.til)).set0 8 (.bool e.again)).set0 9 (.int .i64 e.hops)
  simp only [List.setIfInBounds_toArray, List.set_cons_zero, List.set_cons_succ] at h10
  exact h10
theorem St.enAt {B : Nat} {w0 w : World} {b : Nat} {e : Ent} {H : List (Nat × Obj)} (h : St B w0 w H) (m : (b, enO e) ∈ H) : EnAt w b e :=
  ⟨h.cell m rfl, h.cell m rfl, h.cell m rfl, h.cell m rfl, h.cell m rfl, h.cell m rfl, h.cell m rfl, h.cell m rfl, h.cell m rfl, h.cell m rfl⟩
theorem ret_entry {P : Program} {fn : Func} {d : Nat} {tmps : Array Value} (hr : fn.results = #[.cell 2 32]) (h2 : tmps[2]? = some (.pointer (some ⟨d, 0, none⟩))) (q : EnAt w d e) (hP : P = Try.prog) :
    (results fn tmps).run P w = .ok (enV e) w := by
  subst hP
  obtain ⟨q0, q1, q2, q3, q4, q5, q6, q7, q8, q9⟩ := q
  simp [results, hr, go_sem, h2, q0, q1, q2, q3, q4, q5, q6, q7, q8, q9]

set_option maxHeartbeats 2000000 in
theorem eown_any (e : Ent) (h1 : e.exch.length ≤ 140737488351232) (h2 : e.key.length ≤ 140737488351232) (w : World) : Calls Try.prog 37 #[enV e] w fun r w' => r = .returned (enV e) ∧ Below w.heap.size w w' := by
  have hs0 : EOwnS w e ((w.alloc (enO e)).alloc (enO z0E)).drew := St.drew (EOwnS.start w e)
  have hs1 := Lib.hid hs0.from
  have cc := Lib.hid (fun (w' : World) (h : EOwnS w e w') (l : List UInt8) (hl : l.length ≤ 140737488351232) => eclone_own h hl)
  go_enter Try.func37, Try.ntmps37
  go_wp2_with fail
  go_region_held3 (fun wr => wr.cell? ⟨w.heap.size, 3, none⟩ = some (tx e.exch) ∧ wr.cell? ⟨w.heap.size, 4, none⟩ = some (tx e.key)) (first | exact hS | exact hs1.out | exact (EOwnS.st3 hO).from | exact (EOwnS.st4 (EOwnS.st3 hO)).from | go_keep) ((go_at_call 29; refine (cc.out _ (by assumption) _ (by assumption)).mono ?_; rintro r w'' ⟨rfl, hO, hS, f3, f4⟩))
  have hO2 := EOwnS.st4 (EOwnS.st3 hO)
  clear cc hs1 hs0 f3 f4 hS hO h1 h2
  obtain ⟨W, hW⟩ : ∃ W, W = (w''.setCell ⟨w.heap.size, 3, none⟩ (tx e.exch)).setCell ⟨w.heap.size, 4, none⟩ (tx e.key) := ⟨_, rfl⟩
  rw [← hW] at hO2 ⊢
  clear hW
  obtain ⟨⟨k0, k1, k2, k3, k4, k5, k6, k7, k8, k9⟩, ⟨d0, d1, d2, d3, d4, d5, d6, d7, d8, d9⟩, sf⟩ := hO2.cells
  have hO3 : St w.heap.size w (enPut W (w.heap.size + 1) e) [(w.heap.size + 1, enO e), (w.heap.size, enO e)] := St.enPut (St.perm hO2 (List.Perm.swap _ _ _))
  have hE := Lib.hid (St.enAt hO3 List.mem_cons_self)
  have hB := Lib.hid hO3.below
  clear hO2 hO3
  go_wp2_with fail
  exact bodyPost_ret (ret_entry rfl rfl hE.out rfl) rfl ⟨rfl, hB.out⟩
end
end Go.Proofs.Ytmmagapggmcceaa
