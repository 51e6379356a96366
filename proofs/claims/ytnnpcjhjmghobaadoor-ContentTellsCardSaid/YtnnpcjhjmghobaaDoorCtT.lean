/- The table of widths in memory: what it says; what the row's condition gives of it. -/
import Derived.Test.YtnnpcjhjmghobaaDoorCtA
import Derived.Test.YtnnpcjhjmghobaaDoorRows
import Derived.Test.YtnnpcjhjmghobaaDoorProg
import Derived.OpenShut
import Derived.Lib.LaidTab
import Derived.LaidMore
import Derived.MakeChecks
namespace Go.Proofs.YtnnpcjhjmghobaaDoor
open Go.RowKit
set_option linter.unusedVariables false

def widthsL : List Int := [4, 1, 4]
def WidthsAt (w : World) : Prop := ∀ k, k < 3 → w.cell? ⟨0, k, none⟩ = some (.int .i64 (widthsL.getD k 0))
/-- .. below block B. -/
def Widths (B : Nat) (w : World) : Prop := 0 < B ∧ WidthsAt w

theorem gWidths : Tryd.prog.globalNamed "mailcoach/content.widths" = some 0 := by kernel_rfl
theorem tWidths : (Tryd.prog.globals[0]?).map (·.type) = some 36 := by kernel_rfl
theorem uRow3 : Tryd.prog.underlying 36 = some (.array 3 3) := by kernel_rfl
theorem cInt3 : Tryd.prog.cellsOf 3 = 1 := by kernel_rfl
theorem cRow3 : Tryd.prog.cellsOf 36 = 3 := by kernel_rfl

def laidT : List (String × DataW Unit) := [("mailcoach/content.widths", Rows.laid_mailcoach_content_widths)]
theorem laidT_is : (Rows.laid_mailcoach_content_widths : DataW Unit) = .agg (widthsL.map fun x => .lit (.int .i64 x)) := rfl

theorem widths_of_laid {W : World} (h : laidMetH Tryd.prog laidT W) : Widths W.heap.size W := by
  rw [MakeChecks.laidMetH_plain _ _ _ (by kernel_rfl)] at h
  unfold laidT at h
  rw [laidT_is] at h
  obtain ⟨ps, ⟨g', t', cs, fuel, p, q, hg', ht', hvar, hd, _, _⟩, _⟩ := h
  obtain rfl := Option.some.inj (gWidths.symm.trans hg')
  obtain rfl := Option.some.inj (tWidths.symm.trans ht')
  obtain ⟨xs, m, _, hx, hl, hlen, hf⟩ := Go.DataW.trod_array uRow3 hd
  rw [cRow3] at hl
  have key : WidthsAt W := by
    intro k hk3
    have hxs : xs.map (·.1) = widthsL.map fun x => (DataW.lit (.int .i64 x) : DataW Unit) := by
      have := congrArg Prod.fst hx
      simpa using this.symm
    have h1 : (xs.map (·.1))[k]? = some (DataW.lit (.int .i64 (widthsL.getD k 0))) := by
      rw [hxs, List.getElem?_map, List.getD_eq_getElem?_getD, List.getElem?_eq_getElem (show k < widthsL.length by simpa [widthsL] using hk3)]
      rfl
    rw [List.getElem?_map, Option.map_eq_some_iff] at h1
    obtain ⟨⟨d, pl⟩, h2, h3⟩ := h1
    simp only at h3
    subst h3
    have h4 := hf k hk3
    rw [h2, cInt3] at h4
    obtain ⟨n, c0, c1, _⟩ := Go.DataW.trod_int (by kernel_rfl : Tryd.prog.underlying 3 = some (.int .i64)) h4
    simp only [Prod.mk.injEq, DataW.lit.injEq, Lit.int.injEq, true_and] at c1
    have a0 := World.var?_cell gWidths hvar k
    refine a0.trans ?_
    have := congrArg (·[0]?) c0
    rw [c1.1]
    simpa [List.getElem?_take, List.getElem?_drop] using this
  exact ⟨World.block_lt_of_cell? W _ (key 0 (by decide)), key⟩

/-- The door's own heap meets the condition. -/
theorem door_met (os : Os) (args : Array Value) : laidMetH Tryd.prog laidT ((World.doorLaid Tryd.prog 14 os).forCall (fun _ _ => 0) ⟨#[], args, []⟩).memory :=
  laidMetH_of_parts3 (fuel := 8) (laidMet_of_run' 8 (by kernel_rfl) (by kernel_rfl)) (by kernel_rfl) (by kernel_rfl)

theorem Widths.below {B : Nat} {w w' : World} (h : Widths B w) (hb : Below B w w') : Widths B w' :=
  ⟨h.1, fun k hk => (hb.cell (p := ⟨0, k, none⟩) h.1).trans (h.2 k hk)⟩
theorem Widths.mono {B C : Nat} {w : World} (h : Widths B w) (hle : B ≤ C) : Widths C w := ⟨Nat.lt_of_lt_of_le h.1 hle, h.2⟩
/-- What is new to one still holds them. -/
theorem Widths.on {w w' : World} (h : Widths w.heap.size w) (hb : Below w.heap.size w w') : Widths w'.heap.size w' := (h.below hb).mono hb.size
end Go.Proofs.YtnnpcjhjmghobaaDoor
