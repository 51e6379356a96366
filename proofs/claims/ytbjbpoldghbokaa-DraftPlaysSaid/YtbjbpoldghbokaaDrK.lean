/- Draft: what is known ahead of each statement. -/
import Derived.Test.YtbjbpoldghbokaaDrE
import Derived.Test.YtbjbpoldghbokaaPrEq
namespace Go.Proofs.Ytbjbpoldghbokaa
open Go.RowKit
open Go.ChangeMaps (setBlock)
set_option linter.unusedVariables false
set_option linter.unusedSectionVars false
set_option linter.unusedSimpArgs false
set_option maxRecDepth 100000

section
variable {B : Nat} {w0 w w' : World} {db t : Nat} {F : List (Nat × Obj)} {P : List (Ent × Int)} {A : List (Int × Int)}
theorem DrIs.cell {c : Array Value} {T : TypeId} (h : DrIs B w0 w db P A F) (hm : (t, .cells c T) ∈ F) {i : Nat} {v : Value} (hi : c[i]? = some v) : w.cell? ⟨t, i, none⟩ = some v := by
  obtain ⟨Z, z, -⟩ := h.beside
  exact z.cell (b := t) (List.mem_append_right _ hm) hi
end
theorem take_has {zs : List Int} {i : Nat} {t z : Int} (hz : zs[i]? = some z) : decide (t ∈ zs.take (i + 1)) = (decide (t ∈ zs.take i) || (z == t)) := by
  rw [List.take_add_one, hz]
  by_cases h1 : t ∈ zs.take i
  · simp [h1]
  · by_cases h2 : z = t
    · simp [h2]
    · have h3 : ¬ t = z := fun e => h2 e.symm
      simp [h1, h2, h3]
abbrev kE : Ent := ⟨0, 0, 0, [], [107], 0, 0, 0, false, 0⟩
set_option maxHeartbeats 4000000 in
theorem known20_true (w : World) : Calls Try.prog 5 #[] w fun e w' => e = .returned (.bool true) ∧ Below w.heap.size w w' := by
  have c1 : Hid (Calls Try.prog 6 #[] w fun r w' => ∃ db, r = .returned (dptr db) ∧ DrIs w.heap.size w w' db [] [] []) := Lib.hid ((dr_new (St.start w)).mono fun r w' h => ⟨_, h⟩)
  go_enter Try.func5, Try.ntmps5
  go_wp2_with fail
  refine c1.out.mono ?_
  rintro e w1 ⟨db, rfl, h⟩
  clear c1
  have c2 := Lib.hid (dr_publish (F := []) h (by simp) kE (by simp) (by simp) 1)
  clear h
  go_wp2_with fail
  refine c2.out.mono ?_
  rintro e w2 ⟨rfl, h⟩
  clear c2
  have c3 := Lib.hid (dr_ack h (by simp) 3 2)
  clear h
  go_wp2_with fail
  refine c3.out.mono ?_
  rintro e w3 ⟨rfl, h⟩
  clear c3
  have c4 := Lib.hid (dr_publishes h (by simp))
  clear h
  go_wp2_with fail
  refine c4.out.mono ?_
  rintro e w4 ⟨t, u, rfl, h⟩
  clear c4
  have c5 := Lib.hid (dr_acks h (by simp))
  clear h
  simp only [List.nil_append, List.length_singleton]
  go_wp2_with fail
  refine c5.out.mono ?_
  rintro e w5 ⟨s, rfl, h⟩
  clear c5
  have c6 := Lib.hid (dr_len h (by simp) (by simp))
  clear h
  simp only [List.nil_append, List.length_singleton]
  go_wp2_with fail
  refine c6.out.mono ?_
  rintro e w6 ⟨rfl, h⟩
  clear c6
  have c7 := Lib.hid (dr_clear h)
  clear h
  simp only [List.nil_append, List.length_singleton]
  go_wp2_with fail
  refine c7.out.mono ?_
  rintro e w7 ⟨rfl, h⟩
  clear c7
  have k0 : w7.cell? ⟨t, 4, none⟩ = some (tx [107]) := h.cell (c := (entsV [kE]).toArray) (List.mem_cons_of_mem _ List.mem_cons_self) rfl
  have k1 : w7.cell? ⟨u, 0, none⟩ = some (.int .i64 1) := h.cell (c := (numsV [1]).toArray) (List.mem_cons_of_mem _ (List.mem_cons_of_mem _ List.mem_cons_self)) rfl
  have k2 : w7.cell? ⟨s, 0, none⟩ = some (.int .i64 3) := h.cell (c := (prsV [(3, 2)]).toArray) List.mem_cons_self rfl
  have k3 : w7.cell? ⟨s, 1, none⟩ = some (.int .i64 2) := h.cell (c := (prsV [(3, 2)]).toArray) List.mem_cons_self rfl
  have c8 := Lib.hid (dr_has h 3)
  have hq := eqPr 3 2 3 2
  clear h
  go_wp2_with fail
  refine c8.out.mono ?_
  rintro e w8 ⟨rfl, h⟩
  clear c8 k0 k1 k2 k3 hq
  have c9 := Lib.hid (dr_len h (by simp) (by simp))
  have fin := Lib.hid h.below
  clear h
  go_wp2_with fail
  refine c9.out.mono ?_
  rintro e w9 ⟨rfl, h⟩
  have fin := Lib.hid h.below
  clear c9 h
  go_wp2_with fail
  go_ret
  exact ⟨rfl, fin.out⟩
end Go.Proofs.Ytbjbpoldghbokaa
