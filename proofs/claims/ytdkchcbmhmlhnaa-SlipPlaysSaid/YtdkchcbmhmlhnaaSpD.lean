/- A slip with texts of its own. -/
import Derived.Test.YtdkchcbmhmlhnaaSpC
import Derived.Test.YtdkchcbmhmlhnaaStrC
namespace Go.Proofs.Ytdkchcbmhmlhnaa
open Go.RowKit
set_option linter.unusedVariables false
set_option linter.unusedSectionVars false
set_option linter.unusedSimpArgs false
set_option maxRecDepth 100000

def FitL (x : Slp) : Prop := x.cons.length ≤ 140737488351232 ∧ x.exch.length ≤ 140737488351232 ∧ x.key.length ≤ 140737488351232
section
variable {w w' : World} {x : Slp}
/-- What is held on the way: the slip that came in, the one that is answered. -/
def LOwnS (w : World) (x : Slp) (w' : World) : Prop := St w.heap.size w w' [(w.heap.size, slO x), (w.heap.size + 1, slO z0L)]
theorem LOwnS.start (w : World) (x : Slp) : LOwnS w x ((w.alloc (slO x)).alloc (slO z0L)) := by
  have h := ((St.start w).alloc (slO x)).alloc (slO z0L)
  rw [World.size_alloc] at h
  exact h.perm (List.Perm.swap _ _ _)
theorem LOwnS.from (h : LOwnS w x w') : w'.cell? ⟨w.heap.size, 2, none⟩ = some (tx x.cons) ∧ w'.cell? ⟨w.heap.size, 6, none⟩ = some (tx x.exch) ∧ w'.cell? ⟨w.heap.size, 7, none⟩ = some (tx x.key) :=
  ⟨St.cell h List.mem_cons_self rfl, St.cell h List.mem_cons_self rfl, St.cell h List.mem_cons_self rfl⟩
theorem LOwnS.st2 (h : LOwnS w x w') : LOwnS w x (w'.setCell ⟨w.heap.size, 2, none⟩ (tx x.cons)) := St.set0 h 2 (tx x.cons)
theorem LOwnS.st6 (h : LOwnS w x w') : LOwnS w x (w'.setCell ⟨w.heap.size, 6, none⟩ (tx x.exch)) := St.set0 h 6 (tx x.exch)
theorem LOwnS.st7 (h : LOwnS w x w') : LOwnS w x (w'.setCell ⟨w.heap.size, 7, none⟩ (tx x.key)) := St.set0 h 7 (tx x.key)
theorem LOwnS.soft (h : LOwnS w x w') (i : Nat) : w'.frozen? ⟨w.heap.size, i, none⟩ = false := St.soft h List.mem_cons_self i
theorem lclone_own (h : LOwnS w x w') {l : List UInt8} (hl : l.length ≤ 140737488351232) : Calls Try.prog 32 #[tx l] w' fun r w2 => r = .returned (tx l) ∧ LOwnS w x w2 ∧
    (w2.cell? ⟨w.heap.size, 6, none⟩ = some (tx x.exch) ∧ w2.cell? ⟨w.heap.size, 7, none⟩ = some (tx x.key)) ∧
    (w2.frozen? ⟨w.heap.size, 6, none⟩ = false ∧ w2.frozen? ⟨w.heap.size, 7, none⟩ = false) := by
  refine (clone_any l w' hl).mono ?_
  rintro r w2 ⟨rfl, hb⟩
  have h2 : LOwnS w x w2 := St.grow h hb
  exact ⟨rfl, h2, h2.from.2, h2.soft 6, h2.soft 7⟩
structure LOwnC (w : World) (x : Slp) (w' : World) : Prop where
  src : SlAt w' w.heap.size x
  dst : SlAt w' (w.heap.size + 1) z0L
  soft : ∀ i, w'.frozen? ⟨w.heap.size + 1, i, none⟩ = false
theorem LOwnS.cells (h : LOwnS w x w') : LOwnC w x w' :=
  ⟨St.slAt h List.mem_cons_self, St.slAt h (List.mem_cons_of_mem _ List.mem_cons_self), fun i => St.soft h (List.mem_cons_of_mem _ List.mem_cons_self) i⟩

set_option maxHeartbeats 2000000 in
theorem lown_any (x : Slp) (hf : FitL x) (w : World) : Calls Try.prog 23 #[slV x] w fun r w' => r = .returned (slV x) ∧ Below w.heap.size w w' := by
  obtain ⟨h1, h2, h3⟩ := hf
  have hs0 := LOwnS.start w x
  obtain ⟨k2, k6, k7⟩ := hs0.from
  have c0 := Lib.hid (lclone_own hs0 h1)
  have cc := Lib.hid (fun (w' : World) (h : LOwnS w x w') (l : List UInt8) (hl : l.length ≤ 140737488351232) => lclone_own h hl)
  clear hs0
  go_enter Try.func23, Try.ntmps23
  go_wp2_with fail
  refine c0.out.mono ?_
  rintro r w1 ⟨rfl, hs1, -, -⟩
  have f2 := hs1.soft 2
  have e2 := hs1.from.1
  have hs2 : LOwnS w x ((w1.setCell ⟨w.heap.size, 2, none⟩ (tx x.cons)).drew) := St.drew hs1.st2
  have hs3 := Lib.hid hs2.from.2
  clear c0 hs1 k2 k6 k7
  go_wp2_with fail
  go_region_held3 (fun wr => wr.cell? ⟨w.heap.size, 6, none⟩ = some (tx x.exch) ∧ wr.cell? ⟨w.heap.size, 7, none⟩ = some (tx x.key)) (first | exact hS | exact hs3.out | exact (LOwnS.st6 hO).from.2 | exact (LOwnS.st7 (LOwnS.st6 hO)).from.2 | go_keep) ((go_at_call 32; refine (cc.out _ (by assumption) _ (by assumption)).mono ?_; rintro r w'' ⟨rfl, hO, hS, f6, f7⟩))
  have hO2 := LOwnS.st7 (LOwnS.st6 hO)
  clear cc hs3 hs2 f2 e2 f6 f7 hS hO h1 h2 h3
  obtain ⟨W, hW⟩ : ∃ W, W = (w''.setCell ⟨w.heap.size, 6, none⟩ (tx x.exch)).setCell ⟨w.heap.size, 7, none⟩ (tx x.key) := ⟨_, rfl⟩
  rw [← hW] at hO2 ⊢
  clear hW
  obtain ⟨⟨k0, k1, k2, k3, k4, k5, k6, k7, k8, k9, k10, k11, k12⟩, ⟨d0, d1, d2, d3, d4, d5, d6, d7, d8, d9, d10, d11, d12⟩, sf⟩ := hO2.cells
  have hO3 : St w.heap.size w (slPut W (w.heap.size + 1) x) [(w.heap.size + 1, slO x), (w.heap.size, slO x)] := St.slPut (St.perm hO2 (List.Perm.swap _ _ _))
  have hE := Lib.hid (St.slAt hO3 List.mem_cons_self)
  have hB := Lib.hid hO3.below
  clear hO2 hO3
  go_wp2_with fail
  exact bodyPost_ret (ret_slip2 rfl rfl hE.out rfl) rfl ⟨rfl, hB.out⟩
end
end Go.Proofs.Ytdkchcbmhmlhnaa
