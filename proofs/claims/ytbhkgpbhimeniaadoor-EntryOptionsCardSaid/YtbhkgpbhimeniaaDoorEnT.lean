/- The table of limits in memory: what it says; what the row's condition gives of it. -/
import Derived.Test.YtbhkgpbhimeniaaDoorEnA
import Derived.Test.YtbhkgpbhimeniaaDoorRows
import Derived.Test.YtbhkgpbhimeniaaDoorProg
import Derived.OpenShut
import Derived.Lib.LaidTab
import Derived.LaidMore
import Derived.MakeChecks
namespace Go.Proofs.YtbhkgpbhimeniaaDoor
open Go.RowKit
set_option linter.unusedVariables false

def mostL : List Int := [60, 10000, 3, 15, 12, 40]
def MostAt (w : World) : Prop := ∀ k, k < 6 → w.cell? ⟨0, k, none⟩ = some (.int .i64 (mostL.getD k 0))
/-- .. below block B. -/
def Most (B : Nat) (w : World) : Prop := 0 < B ∧ MostAt w

theorem gMost : Tryd.prog.globalNamed "mailcoach/entry.most" = some 0 := by kernel_rfl
theorem tMost : (Tryd.prog.globals[0]?).map (·.type) = some 41 := by kernel_rfl
theorem uInt6 : Tryd.prog.underlying 41 = some (.array 6 3) := by kernel_rfl
theorem cInt3 : Tryd.prog.cellsOf 3 = 1 := by kernel_rfl
theorem cInt6 : Tryd.prog.cellsOf 41 = 6 := by kernel_rfl

def laidT : List (String × DataW Unit) := [("mailcoach/entry.most", Rows.laid_mailcoach_entry_most)]
theorem laidT_is : (Rows.laid_mailcoach_entry_most : DataW Unit) = .agg (mostL.map fun x => .lit (.int .i64 x)) := rfl

theorem most_of_laid {W : World} (h : laidMetH Tryd.prog laidT W) : Most W.heap.size W := by
  rw [MakeChecks.laidMetH_plain _ _ _ (by kernel_rfl)] at h
  unfold laidT at h
  rw [laidT_is] at h
  obtain ⟨ps, ⟨g', t', cs, fuel, p, q, hg', ht', hvar, hd, _, _⟩, _⟩ := h
  obtain rfl := Option.some.inj (gMost.symm.trans hg')
  obtain rfl := Option.some.inj (tMost.symm.trans ht')
  obtain ⟨xs, m, _, hx, hl, hlen, hf⟩ := Go.DataW.trod_array uInt6 hd
  rw [cInt6] at hl
  have key : MostAt W := by
    intro k hk6
    have hxs : xs.map (·.1) = mostL.map fun x => (DataW.lit (.int .i64 x) : DataW Unit) := by
      have := congrArg Prod.fst hx
      simpa using this.symm
    have h1 : (xs.map (·.1))[k]? = some (DataW.lit (.int .i64 (mostL.getD k 0))) := by
      rw [hxs, List.getElem?_map, List.getD_eq_getElem?_getD, List.getElem?_eq_getElem (show k < mostL.length by simpa [mostL] using hk6)]
      rfl
    rw [List.getElem?_map, Option.map_eq_some_iff] at h1
    obtain ⟨⟨d, pl⟩, h2, h3⟩ := h1
    simp only at h3
    subst h3
    have h4 := hf k hk6
    rw [h2, cInt3] at h4
    obtain ⟨n, c0, c1, _⟩ := Go.DataW.trod_int (by kernel_rfl : Tryd.prog.underlying 3 = some (.int .i64)) h4
    simp only [Prod.mk.injEq, DataW.lit.injEq, Lit.int.injEq, true_and] at c1
    have a0 := World.var?_cell gMost hvar k
    refine a0.trans ?_
    have := congrArg (·[0]?) c0
    rw [c1.1]
    simpa [List.getElem?_take, List.getElem?_drop] using this
  exact ⟨World.block_lt_of_cell? W _ (key 0 (by decide)), key⟩

/-- The door's own heap meets the condition. -/
theorem door_met (os : Os) (args : Array Value) : laidMetH Tryd.prog laidT ((World.doorLaid Tryd.prog 14 os).forCall (fun _ _ => 0) ⟨#[], args, []⟩).memory :=
  laidMetH_of_parts3 (fuel := 8) (laidMet_of_run' 8 (by kernel_rfl) (by kernel_rfl)) (by kernel_rfl) (by kernel_rfl)

theorem Most.below {B : Nat} {w w' : World} (h : Most B w) (hb : Below B w w') : Most B w' :=
  ⟨h.1, fun k hk => (hb.cell (p := ⟨0, k, none⟩) h.1).trans (h.2 k hk)⟩
theorem Most.mono {B C : Nat} {w : World} (h : Most B w) (hle : B ≤ C) : Most C w := ⟨Nat.lt_of_lt_of_le h.1 hle, h.2⟩
/-- What is new to one still holds them. -/
theorem Most.on {w w' : World} (h : Most w.heap.size w) (hb : Below w.heap.size w w') : Most w'.heap.size w' := (h.below hb).mono hb.size
end Go.Proofs.YtbhkgpbhimeniaaDoor
