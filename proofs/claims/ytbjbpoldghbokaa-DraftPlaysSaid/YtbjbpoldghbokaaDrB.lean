/- A draft's small calls: New, Len, Clear, Has; an entry of one's own. -/
import Derived.Test.YtbjbpoldghbokaaDrA
import Derived.Test.YtbjbpoldghbokaaEnG
import Derived.WalkKit
import Derived.Deep.QuietTactic
import Derived.BigQuiet
import Derived.Deep.LoopGhost
import Derived.Deep.RegionHeld3
import Derived.Deep.RegionWith
import Derived.Deep.RegionLaw
import Derived.Deep.DeepCutAuto
import Derived.Deep.CutBlock
import Derived.StillTailTactics
import Derived.Lib.Hide
namespace Go.Proofs.Ytbjbpoldghbokaa
open Go.RowKit
open Go.ChangeMaps (setBlock)
set_option linter.unusedVariables false
set_option linter.unusedSectionVars false
set_option linter.unusedSimpArgs false
set_option maxRecDepth 100000

section
variable {B : Nat} {w0 w w' : World} {db : Nat} {F F' S : List (Nat × Obj)} {P : List (Ent × Int)} {A : List (Int × Int)}
theorem dr_new (h : St B w0 w F) : Calls Try.prog 6 #[] w fun r w' => r = .returned (dptr w.heap.size) ∧ DrIs B w0 w' w.heap.size [] [] F := by
  have fin := Lib.hid (DrIs.new h)
  clear h
  go_enter Try.func6, Try.ntmps6
  go_wp2_with fail
  go_ret
  exact ⟨rfl, fin.out⟩

theorem dr_clear (h : DrIs B w0 w db P A F) : Calls Try.prog 9 #[dptr db] w fun r w' => r = .returned (.tuple #[]) ∧ DrIs B w0 w' db [] [] F := by
  obtain ⟨a1, k1, a2, k2, m, S1, S2, X, -, -, -, hst⟩ := h
  have c0 := hst.cell (b := db) List.mem_cons_self (i := 0) rfl
  have c1 := hst.cell (b := db) List.mem_cons_self (i := 1) rfl
  have c2 := hst.cell (b := db) List.mem_cons_self (i := 2) rfl
  have f0 := hst.soft (b := db) List.mem_cons_self 0
  have f1 := hst.soft (b := db) List.mem_cons_self 1
  have f2 := hst.soft (b := db) List.mem_cons_self 2
  have h3 := ((hst.set0 0 (.slice none 0 0)).set0 1 (.slice none 0 0)).set0 2 (.map none)
  simp only [List.setIfInBounds_toArray, List.set_cons_zero, List.set_cons_succ] at h3
  have fin : Hid (DrIs B w0 (((w.setCell ⟨db, 0, none⟩ (.slice none 0 0)).setCell ⟨db, 1, none⟩ (.slice none 0 0)).setCell ⟨db, 2, none⟩ (.map none)) db [] [] F) := Lib.hid
    ⟨none, 0, none, 0, none, [], [], [], SlIs.nil, SlIs.nil, .inl ⟨rfl, rfl, rfl⟩, h3.sub (((List.sublist_append_right X F).trans ((List.sublist_append_right S2 _).trans (List.sublist_append_right S1 _))).cons_cons _)⟩
  clear h3 hst
  go_enter Try.func9, Try.ntmps9
  go_wp2_with fail
  exact bodyPost_end (results_none rfl _ _ _) rfl ⟨rfl, fin.out⟩

theorem dr_len (h : DrIs B w0 w db P A F) (h1 : P.length ≤ 100000) (h2 : A.length ≤ 100000) : Calls Try.prog 13 #[dptr db] w fun r w' => r = .returned (.int .i64 (P.length + A.length : Nat)) ∧ DrIs B w0 w' db P A F := by
  have fin := Lib.hid (fun n => h.grow (drewN_below _ n))
  obtain ⟨a1, k1, a2, k2, m, S1, S2, X, -, -, -, hst⟩ := h
  have c0 := hst.cell (b := db) List.mem_cons_self (i := 0) rfl
  have c1 := hst.cell (b := db) List.mem_cons_self (i := 1) rfl
  clear hst
  have e1 : IntKind.i64.wrap ((P.length : Int) + A.length) = ((P.length + A.length : Nat) : Int) := by rw [IntWalk.i64_in _ (by omega)]; omega
  generalize P.length = p at *
  generalize A.length = q at *
  generalize ((p + q : Nat) : Int) = s at *
  go_enter Try.func13, Try.ntmps13
  go_wp2_with fail
  go_quiet (fail)
  go_wp2_with fail
  go_ret
  exact ⟨rfl, fin.out _⟩

theorem dr_has (h : DrIs B w0 w db P A F) (k : Int) : Calls Try.prog 14 #[dptr db, .int .i64 k] w fun r w' => r = .returned (.bool (decide (k ∈ A.map (·.1)))) ∧ DrIs B w0 w' db P A F := by
  have fin : Hid (∀ o, DrIs B w0 (w.alloc o) db P A F) := Lib.hid fun o => h.grow (new_below w o)
  obtain ⟨a1, k1, a2, k2, m, S1, S2, X, -, -, ht, hst⟩ := h
  have c2 := hst.cell (b := db) List.mem_cons_self (i := 2) rfl
  rcases ht with ⟨rfl, rfl, rfl⟩ | ⟨mb, es, clk, rfl, hM, rfl⟩
  · have hl := run_lookE_nil (c := true) keyI uTags (zTag w) (k := k) trivial
    simp only [List.map_nil, List.not_mem_nil, decide_false]
    clear hst
    go_enter Try.func14, Try.ntmps14
    go_wp2_with fail
    go_ret
    exact ⟨rfl, fin.out _⟩
  · have hl := hM.run_look keyI uTags (zTag w) (hst.get (b := mb) (by simp)) k true
    rw [if_pos rfl, tagG_getD, tagG_isSome] at hl
    clear hst hM
    generalize decide (k ∈ A.map (·.1)) = r at *
    go_enter Try.func14, Try.ntmps14
    go_wp2_with fail
    go_ret
    exact ⟨rfl, fin.out _⟩
end

set_option maxHeartbeats 2000000 in
theorem drown_any (e : Ent) (h1 : e.exch.length ≤ 140737488351232) (h2 : e.key.length ≤ 140737488351232) (w : World) : Calls Try.prog 15 #[enV e] w fun r w' => r = .returned (enV e) ∧ Below w.heap.size w w' := by
  have hs0 : EOwnS w e ((w.alloc (enO e)).alloc (enO z0E)).drew := St.drew (EOwnS.start w e)
  have hs1 := Lib.hid hs0.from
  have cc := Lib.hid (fun (w' : World) (h : EOwnS w e w') (l : List UInt8) (hl : l.length ≤ 140737488351232) => eclone_own h hl)
  go_enter Try.func15, Try.ntmps15
  go_wp2_with fail
  go_region_held3 (fun wr => wr.cell? ⟨w.heap.size, 3, none⟩ = some (tx e.exch) ∧ wr.cell? ⟨w.heap.size, 4, none⟩ = some (tx e.key)) (first | exact hS | exact hs1.out | exact (EOwnS.st3 hO).from | exact (EOwnS.st4 (EOwnS.st3 hO)).from | go_keep) ((go_at_call 16; refine (cc.out _ (by assumption) _ (by assumption)).mono ?_; rintro r w'' ⟨rfl, hO, hS, f3, f4⟩))
  have hO2 := EOwnS.st4 (EOwnS.st3 hO)
  clear cc hs1 hs0 f3 f4 hS hO h1 h2
  obtain ⟨W, hW⟩ : ∃ W, W = (w''.setCell ⟨w.heap.size, 3, none⟩ (tx e.exch)).setCell ⟨w.heap.size, 4, none⟩ (tx e.key) := ⟨_, rfl⟩
  rw [← hW] at hO2 ⊢
  clear hW
  obtain ⟨⟨k0, k1, k2, k3, k4, k5, k6, k7, k8, k9⟩, ⟨d0, d1, d2, d3, d4, d5, d6, d7, d8, d9⟩, sf⟩ := hO2.cells
  have hO3 : St w.heap.size w (enPut W (w.heap.size + 1) e) [(w.heap.size + 1, enO e), (w.heap.size, enO e)] := St.enPut (St.perm hO2 (List.Perm.swap _ _ _))
  have hE := Lib.hid (St.enAt hO3 List.mem_cons_self)
  have hB := Lib.hid hO3.below
  clear hO2 hO3
  go_wp2_with fail
  exact bodyPost_ret (ret_entry rfl rfl hE.out rfl) rfl ⟨rfl, hB.out⟩
end Go.Proofs.Ytbjbpoldghbokaa
