/- Parcel: what is known ahead of each statement. -/
import Derived.Test.YtaolpcmecfhgnaaPaE
import Derived.Laws.StructEq
namespace Go.Proofs.Ytaolpcmecfhgnaa
open Go.RowKit
open Go.ChangeMaps (setBlock)
set_option linter.unusedVariables false
set_option linter.unusedSectionVars false
set_option linter.unusedSimpArgs false
set_option maxRecDepth 100000

set_option maxHeartbeats 4000000 in
theorem known21_true (w : World) : Calls Try.prog 6 #[] w fun e w' => e = .returned (.bool true) ∧ Below w.heap.size w w' := by
  have c1 : Hid (Calls Try.prog 7 #[] w fun r w' => ∃ pb, r = .returned (pptr pb) ∧ PaIs w.heap.size w w' pb z0P []) := Lib.hid ((pa_new (St.start w)).mono fun r w' h => ⟨_, h⟩)
  go_enter Try.func6, Try.ntmps6
  go_wp2_with fail
  refine c1.out.mono ?_
  rintro e w1 ⟨pb, rfl, h⟩
  clear c1
  have c := pa_body h [97] (by simp)
  rw [show bodyP z0P [97] = ((false, 505), z0P) from rfl] at c
  replace c := Lib.hid c
  clear h
  go_wp2_with fail
  refine c.out.mono ?_
  rintro e w2 ⟨rfl, h⟩
  clear c
  have c := pa_begin h [120] [107] 1 (by simp) (by simp)
  rw [show beginP z0P [120] [107] 1 = (0, ⟨1, [120], [107], 0, 0, 0, [], 1⟩) from rfl] at c
  replace c := Lib.hid c
  clear h
  go_wp2_with fail
  refine c.out.mono ?_
  rintro e w3 ⟨rfl, h⟩
  clear c
  have c := pa_begin h [120] [107] 1 (by simp) (by simp)
  rw [show beginP ⟨1, [120], [107], 0, 0, 0, [], 1⟩ [120] [107] 1 = (505, ⟨1, [120], [107], 0, 0, 0, [], 1⟩) from rfl] at c
  replace c := Lib.hid c
  clear h
  go_wp2_with fail
  refine c.out.mono ?_
  rintro e w4 ⟨rfl, h⟩
  clear c
  have c := pa_head h (by simp) 3 2 0
  rw [show headP ⟨1, [120], [107], 0, 0, 0, [], 1⟩ 3 2 0 = ((false, 0), ⟨2, [120], [107], 3, 2, 0, [], 1⟩) from rfl] at c
  replace c := Lib.hid c
  clear h
  go_wp2_with fail
  refine c.out.mono ?_
  rintro e w5 ⟨rfl, h⟩
  clear c
  have c := pa_body h [97, 98] (by simp)
  rw [show bodyP ⟨2, [120], [107], 3, 2, 0, [], 1⟩ [97, 98] = ((false, 0), ⟨2, [120], [107], 3, 2, 0, [97, 98], 1⟩) from rfl] at c
  replace c := Lib.hid c
  clear h
  go_wp2_with fail
  refine c.out.mono ?_
  rintro e w6 ⟨rfl, h⟩
  clear c
  have c := pa_body h [99] (by simp)
  rw [show bodyP ⟨2, [120], [107], 3, 2, 0, [97, 98], 1⟩ [99] = ((true, 0), ⟨3, [120], [107], 3, 2, 0, [97, 98, 99], 1⟩) from rfl] at c
  replace c := Lib.hid c
  clear h
  go_wp2_with fail
  refine c.out.mono ?_
  rintro e w7 ⟨rfl, h⟩
  clear c
  have c := pa_open h
  replace c := Lib.hid c
  clear h
  go_wp2_with fail
  refine c.out.mono ?_
  rintro e w8 ⟨rfl, h⟩
  clear c
  have c := pa_take h
  rw [show takeP ⟨3, [120], [107], 3, 2, 0, [97, 98, 99], 1⟩ = ((⟨0, 0, 3, [120], [107], 2, 0, 0, false, 0⟩, [97, 98, 99], 1), z0P) from rfl] at c
  replace c := Lib.hid c
  clear h
  go_wp2_with fail
  refine c.out.mono ?_
  rintro e w9 ⟨rfl, h⟩
  clear c
  have h9 := h.alloc (enO ⟨0, 0, 3, [120], [107], 2, 0, 0, false, 0⟩)
  have c : Hid (∀ n, Calls Try.prog 17 #[pptr pb] ((w9.alloc (enO ⟨0, 0, 3, [120], [107], 2, 0, 0, false, 0⟩)).drewN n) fun r w' => r = .returned (.bool false) ∧ PaIs w.heap.size w w' pb z0P _) := Lib.hid fun n => pa_open (h9.grow (drewN_below _ n))
  clear h h9
  go_wp2_with fail
  refine (c.out 0).mono ?_
  rintro e w10 ⟨rfl, h⟩
  have fin := Lib.hid h.below
  clear c h
  go_wp2_with fail
  go_ret
  exact ⟨rfl, fin.out⟩
end Go.Proofs.Ytaolpcmecfhgnaa
