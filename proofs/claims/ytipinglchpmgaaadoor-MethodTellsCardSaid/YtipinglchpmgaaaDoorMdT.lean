/- The table of kinds in memory: what it says; what the row's condition gives of it. -/
import Derived.Test.YtipinglchpmgaaaDoorMdA
import Derived.Test.YtipinglchpmgaaaDoorRows
import Derived.OpenShut
import Derived.Lib.LaidTab
import Derived.LaidMore
import Derived.MakeChecks
namespace Go.Proofs.YtipinglchpmgaaaDoor
open Go.RowKit
set_option linter.unusedVariables false

def KindsAt (w : World) : Prop := ∀ k, k < 50 → w.cell? ⟨0, k * 2, none⟩ = some (tx (kinds.getD k ([], false)).1) ∧ w.cell? ⟨0, k * 2 + 1, none⟩ = some (.bool (kinds.getD k ([], false)).2)
/-- .. below block B. -/
def Kinds (B : Nat) (w : World) : Prop := 0 < B ∧ KindsAt w

theorem gRows : Tryd.prog.globalNamed "mailcoach/method.rows" = some 0 := by kernel_rfl
theorem tRows : (Tryd.prog.globals[0]?).map (·.type) = some 49 := by kernel_rfl
theorem uKrows : Tryd.prog.underlying 49 = some (.array 50 48) := by kernel_rfl
theorem uKrow : Tryd.prog.underlying 48 = some (.struct (Tryd.prog.fieldsOf 48)) := by kernel_rfl
theorem cKrow : Tryd.prog.cellsOf 48 = 2 := by kernel_rfl
theorem cKrows : Tryd.prog.cellsOf 49 = 100 := by kernel_rfl

def laidT : List (String × DataW Unit) := [("mailcoach/method.rows", Rows.laid_mailcoach_method_rows)]
theorem laidT_is : (Rows.laid_mailcoach_method_rows : DataW Unit) = .agg (kinds.map fun x => .agg [.lit (.string x.1), .lit (.bool x.2)]) := rfl

/-- A row of the table. -/
theorem row_cells {w : World} {fuel : Nat} {cs : List Value} {x : List UInt8 × Bool} {p : List MemPlace} {enc : TypeId × Value → Unit} {base : Nat} {sp : Nat → Bool} {held : Bool}
    (h : DataW.trod enc Tryd.prog w base sp held fuel 48 cs = some (.agg [.lit (.string x.1), .lit (.bool x.2)], p)) : cs = [tx x.1, .bool x.2] := by
  obtain ⟨ys, n, _, hx, hl, hlen, hg⟩ := Go.DataW.trod_struct uKrow h
  rw [cKrow] at hl
  have f0 : ((Tryd.prog.fieldsOf 48)[0]?).map (fun f => (f.type, f.offset)) = some (9, 0) := by kernel_rfl
  have f1 : ((Tryd.prog.fieldsOf 48)[1]?).map (fun f => (f.type, f.offset)) = some (4, 1) := by kernel_rfl
  have f2 : (Tryd.prog.fieldsOf 48).size = 2 := by kernel_rfl
  simp only [Option.map_eq_some_iff, Prod.mk.injEq] at f0 f1
  obtain ⟨g0, e0, t0, o0⟩ := f0
  obtain ⟨g1, e1, t1, o1⟩ := f1
  have r0 := hg 0 g0 e0
  have r1 := hg 1 g1 e1
  have cs1 : Tryd.prog.cellsOf 9 = 1 := by kernel_rfl
  have cb1 : Tryd.prog.cellsOf 4 = 1 := by kernel_rfl
  rw [t0, o0, cs1] at r0
  rw [t1, o1, cb1] at r1
  match cs, hl with
  | [u, v], _ =>
    match ys, (show ys.length = 2 by omega) with
    | [y0, y1], _ =>
      simp only [List.map_cons, List.map_nil, Prod.mk.injEq, DataW.agg.injEq, List.cons.injEq, and_true] at hx
      obtain ⟨⟨a0, a1⟩, -⟩ := hx
      obtain ⟨s, b0, b1, _⟩ := Go.DataW.trod_string (by kernel_rfl : Tryd.prog.underlying 9 = some .string) (by simpa using r0)
      obtain ⟨b, c0, c1⟩ := Go.DataW.trod_bool (by kernel_rfl : Tryd.prog.underlying 4 = some .bool) (by simpa using r1)
      simp only [List.cons.injEq, and_true] at b0 c0
      subst b0 c0
      rw [b1] at a0
      rw [c1] at a1
      simp only [DataW.lit.injEq, Lit.string.injEq, Lit.bool.injEq] at a0 a1
      rw [a0, a1]

theorem kinds_of_laid {W : World} (h : laidMetH Tryd.prog laidT W) : Kinds W.heap.size W := by
  rw [MakeChecks.laidMetH_plain _ _ _ (by kernel_rfl)] at h
  unfold laidT at h
  rw [laidT_is] at h
  obtain ⟨ps, ⟨g', t', cs, fuel, p, q, hg', ht', hvar, hd, _, _⟩, _⟩ := h
  obtain rfl := Option.some.inj (gRows.symm.trans hg')
  obtain rfl := Option.some.inj (tRows.symm.trans ht')
  obtain ⟨xs, m, _, hx, hl, hlen, hf⟩ := Go.DataW.trod_array uKrows hd
  rw [cKrows] at hl
  have hk : kinds.length = 50 := rfl
  have key : KindsAt W := by
    intro k hk50
    have hxs : xs.map (·.1) = kinds.map fun x => (DataW.agg [.lit (.string x.1), .lit (.bool x.2)] : DataW Unit) := by
      have := congrArg Prod.fst hx
      simpa using this.symm
    have h1 : (xs.map (·.1))[k]? = some (DataW.agg [.lit (.string (kinds.getD k ([], false)).1), .lit (.bool (kinds.getD k ([], false)).2)]) := by
      rw [hxs, List.getElem?_map, List.getD_eq_getElem?_getD, List.getElem?_eq_getElem (by omega)]
      rfl
    rw [List.getElem?_map, Option.map_eq_some_iff] at h1
    obtain ⟨⟨d, pl⟩, h2, h3⟩ := h1
    simp only at h3
    subst h3
    have h4 := hf k hk50
    rw [h2, cKrow] at h4
    have h5 := row_cells h4
    have c0 : cs[k * 2]? = some (tx (kinds.getD k ([], false)).1) := by
      have := congrArg (·[0]?) h5
      simpa [List.getElem?_take, List.getElem?_drop] using this
    have c1 : cs[k * 2 + 1]? = some (.bool (kinds.getD k ([], false)).2) := by
      have := congrArg (·[1]?) h5
      simpa [List.getElem?_take, List.getElem?_drop] using this
    have a0 := World.var?_cell gRows hvar (k * 2)
    have a1 := World.var?_cell gRows hvar (k * 2 + 1)
    exact ⟨a0.trans c0, a1.trans c1⟩
  exact ⟨World.block_lt_of_cell? W _ (key 0 (by decide)).1, key⟩

/-- The door's own heap meets the condition. -/
theorem door_met (os : Os) (args : Array Value) : laidMetH Tryd.prog laidT ((World.doorLaid Tryd.prog 50 os).forCall (fun _ _ => 0) ⟨#[], args, []⟩).memory :=
  laidMetH_of_parts3 (fuel := 8) (laidMet_of_run' 8 (by kernel_rfl) (by kernel_rfl)) (by kernel_rfl) (by kernel_rfl)

theorem Kinds.below {B : Nat} {w w' : World} (h : Kinds B w) (hb : Below B w w') : Kinds B w' :=
  ⟨h.1, fun k hk => ⟨(hb.cell (p := ⟨0, k * 2, none⟩) h.1).trans (h.2 k hk).1, (hb.cell (p := ⟨0, k * 2 + 1, none⟩) h.1).trans (h.2 k hk).2⟩⟩
theorem Kinds.mono {B C : Nat} {w : World} (h : Kinds B w) (hle : B ≤ C) : Kinds C w := ⟨Nat.lt_of_lt_of_le h.1 hle, h.2⟩
theorem Kinds.parts {B : Nat} {w : World} (h : Kinds B w) {k : Nat} (hk : k < 50) : w.cell? ⟨0, k * 2, none⟩ = some (tx (partsK k)) := (h.2 k hk).1
theorem Kinds.client {B : Nat} {w : World} (h : Kinds B w) {k : Nat} (hk : k < 50) : w.cell? ⟨0, k * 2 + 1, none⟩ = some (.bool (clientK k)) := (h.2 k hk).2
end Go.Proofs.YtipinglchpmgaaaDoor
