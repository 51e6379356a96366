/- Crowds: guests told by the numbers of their connections; a row of bools beside them. -/
import Derived.Test.YtpnkaamijjeckaaDoorGsL
import Derived.Test.YtpnkaamijjeckaaDoorTabB
import Derived.Laws.MakeOwn
namespace Go.Proofs.YtpnkaamijjeckaaDoor
open Go.RowKit
set_option linter.unusedVariables false
set_option linter.unusedSectionVars false
set_option linter.unusedSimpArgs false
set_option maxRecDepth 100000

def crowd (k : Nat) : List Gst := (List.range k).map fun i : Nat => gC (i : Int) [] 0
theorem crowd_len (k : Nat) : (crowd k).length = k := by simp [crowd]
theorem crowd_at {k i : Nat} (h : i < k) : (crowd k)[i]? = some (gC (i : Int) [] 0) := by simp [crowd, h]
theorem crowd_mem {k : Nat} {x : Gst} (h : x ∈ crowd k) : ∃ i, i < k ∧ x = gC (i : Int) [] 0 := by
  obtain ⟨i, h1, h2⟩ := List.mem_map.1 h
  exact ⟨i, List.mem_range.1 h1, h2.symm⟩
theorem key_gC {i d : Int} : keyG d 0 [] (gC i [] 0) = (i == d) := by simp [keyG]
theorem crowd_idx {k d : Nat} (h : d < k) : idxG (crowd k) d 0 [] = some d := by
  refine idx_some (crowd_at h) (by rw [key_gC]; simp) fun j y hj hy => ?_
  rw [crowd_at (by omega)] at hy
  cases hy
  rw [key_gC, beq_eq_false_iff_ne]
  omega
theorem crowd_new (k : Nat) : idxG (crowd k) (k : Int) 0 [] = none := by
  refine idx_none fun j y hj hy => ?_
  rw [crowd_len] at hj
  rw [crowd_at hj] at hy
  cases hy
  rw [key_gC, beq_eq_false_iff_ne]
  omega
theorem crowd_ok (k : Nat) : addOkG (crowd k) (gC (k : Int) [] 0) = true := by
  unfold addOkG
  rw [crowd_new]
  rfl
theorem crowd_add (k : Nat) : addG (crowd k) (gC (k : Int) [] 0) = crowd (k + 1) := by
  unfold addG
  rw [if_pos (crowd_ok k)]
  simp [crowd, List.range_succ]
theorem pick_self {n T : Nat} {f : Nat → Bool} (hf : ∀ p, f p = true → p < n) (h : f T = true) : pickG n T f = some T := pick_first hf h (Nat.le_refl _) fun p h1 h2 => by omega
theorem pick_true {n sl T : Nat} (h : T < n) (hs : n ≤ sl) : pickG n T (sparG n sl fun _ => true) = some T := pick_self sparG_lt (by simp [sparG]; omega)

/-! ### a row of bools beside -/
abbrev rowG (k : Nat) (f : Nat → Bool) : Obj := .cells (tabB k f).toArray 4
theorem uBoolsG : Tryd.prog.underlying 32 = some (.slice 4) := by kernel_rfl
theorem infBoolG : (Tryd.prog.info? 4).map (fun i => (i.zero, i.size, i.bytes)) = some (some (.bool false), 1, 1) := by kernel_rfl
theorem mk_boolsG (w : World) (k : Nat) (hk : k ≤ 1000) : (Instr.makeSlice 32 (.int .i64 (k : Int)) (.int .i64 (k : Int))).run Tryd.prog w = .ok (.slice (some ⟨w.heap.size, 0, none⟩) k k) (w.alloc (rowG k fun _ => false)) := by
  obtain ⟨i0, hi, hz0, hz1, hz2⟩ := info_parts infBoolG
  have h := run_make (P := Tryd.prog) w 32 4 i0 (.bool false) uBoolsG hi hz0 .i64 .i64 k k (by omega) (Int.le_refl _) (by rw [hz2]; omega) (by omega)
  rw [h, Int.toNat_natCast]
  congr 2
  unfold rowG
  congr 1
  apply Array.toList_inj.1
  rw [hz1, Nat.mul_one, show (Value.bool false).cells = #[Value.bool false] from rfl, toList_madeCells_one]
  apply List.ext_getElem?
  intro i
  by_cases hi : i < k <;> simp [tabB, hi]
section
variable {B : Nat} {w0 w w' : World} {gb ib b c T k g off n cap i j sl sc : Nat} {M N L : List Gst} {a sa : Option Addr} {v : Value} {S R F F' X : List (Nat × Obj)} {x y : Gst} {f : Nat → Bool}
theorem GuIs.rowAt (h : GuIs B w0 w gb M T F) (hm : (ib, rowG k f) ∈ F) (hj : j < k) : w.cell? ⟨ib, j, none⟩ = some (.bool (f j)) := by
  obtain ⟨S, h1, -⟩ := h.beside
  exact h1.cell (b := ib) (c := (tabB k f).toArray) (T := 4) (fr := (0, 0)) (List.mem_append_right _ hm) (by rw [List.getElem?_toArray]; exact tabB_at f hj)
theorem GuIs.rowSoft (h : GuIs B w0 w gb M T F) (hm : (ib, rowG k f) ∈ F) (j : Nat) : w.frozen? ⟨ib, j, none⟩ = false := by
  obtain ⟨S, h1, -⟩ := h.beside
  exact h1.soft (b := ib) (c := (tabB k f).toArray) (T := 4) (List.mem_append_right _ hm) j
theorem GuIs.rowSet (h : GuIs B w0 w gb M T ((ib, rowG k f) :: F)) (j : Nat) (b : Bool) : GuIs B w0 (w.setCell ⟨ib, j, none⟩ (.bool b)) gb M T ((ib, rowG k (updB f j b)) :: F) := by
  obtain ⟨S, h1, h2⟩ := h.beside
  have h3 := (h1.perm List.perm_middle).set0 j (.bool b)
  rw [List.setIfInBounds_toArray, tabB_set] at h3
  exact h2 _ _ (h3.perm List.perm_middle.symm)
theorem rowG_congr {g : Nat → Bool} (h : ∀ j, j < k → f j = g j) : rowG k f = rowG k g := by
  unfold rowG
  rw [tabB_congr h]
theorem GuIs.rowSp (h : GuIs B w0 w gb M T F) (hm : (ib, rowG k f) ∈ F) (hk : k ≤ 1000000) : SpAt w (some ⟨ib, 0, none⟩) k f :=
  ⟨by unfold maxLen; omega, fun j hj => ⟨ib, 0, rfl, by rw [Nat.zero_add]; exact h.rowAt hm hj⟩⟩
/-- Pick by such a row; the answer in a block of its own. -/
theorem pick_row (h : GuIs B w0 w gb M T ((ib, rowG k f) :: F)) (hk : k ≤ 1000000) {q : Nat} (hrr : pickG M.length T (sparG M.length k f) = some q) {r : Gst} (hx : M[q]? = some r) {T' : Nat} (hT' : turnG M.length (q + 1) = T') :
    Calls Tryd.prog 13 #[gup gb, .slice (some ⟨ib, 0, none⟩) k sc] w fun e w' => e = .returned (.tuple #[gsV r, .bool true]) ∧ GuIs B w0 (w'.alloc (gsO r)) gb M T' ((w'.heap.size, gsO r) :: (ib, rowG k f) :: F) := by
  refine (gu_pick_yes h (h.rowSp List.mem_cons_self hk) hrr hx hT').mono ?_
  rintro e w' ⟨rfl, h2⟩
  exact ⟨rfl, h2.alloc _⟩
theorem pick_row0 (h : GuIs B w0 w gb M T ((ib, rowG k f) :: F)) (hk : k ≤ 1000000) (hrr : pickG M.length T (sparG M.length k f) = none) :
    Calls Tryd.prog 13 #[gup gb, .slice (some ⟨ib, 0, none⟩) k sc] w fun e w' => e = .returned (.tuple #[gsV z0G, .bool false]) ∧ GuIs B w0 (w'.alloc (gsO z0G)) gb M T ((w'.heap.size, gsO z0G) :: (ib, rowG k f) :: F) := by
  refine (gu_pick_no h (h.rowSp List.mem_cons_self hk) hrr).mono ?_
  rintro e w' ⟨rfl, h2⟩
  exact ⟨rfl, h2.alloc _⟩
end
end Go.Proofs.YtpnkaamijjeckaaDoor
