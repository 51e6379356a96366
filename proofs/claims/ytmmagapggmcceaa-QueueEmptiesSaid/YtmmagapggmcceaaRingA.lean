/- What the memory of a ring holds, as plain data: its cells, where the row begins, how long it is; and the row that this makes. -/
import Derived.Test.YtmmagapggmcceaaOwn
namespace Go.Proofs.Ytmmagapggmcceaa
open Go.RowKit

structure RG where
  cb : Option Nat
  cs : List Int
  first : Nat
  count : Nat

def ints (l : List Int) : List Value := l.map (Value.int .i64)
theorem ints_len (l : List Int) : (ints l).length = l.length := by simp [ints]
theorem ints_append (l m : List Int) : ints (l ++ m) = ints l ++ ints m := by simp [ints]
theorem ints_set (l : List Int) (i : Nat) (n : Int) : (ints l).set i (.int .i64 n) = ints (l.set i n) := by simp [ints, List.map_set]
theorem ints_at {l : List Int} {i : Nat} {n : Int} (h : l[i]? = some n) : (ints l)[i]? = some (.int .i64 n) := by simp [ints, h]

def RG.sl (g : RG) : Value := match g.cb with | none => .slice none 0 0 | some b => .slice (some ⟨b, 0, none⟩) g.cs.length g.cs.length
def RG.obj (g : RG) : Obj := .cells #[g.sl, .int .i64 g.first, .int .i64 g.count] 85
def intsObj (l : List Int) : Obj := .cells (ints l).toArray 3
def RG.cellsH (g : RG) : List (Nat × Obj) := match g.cb with | none => [] | some b => [(b, intsObj g.cs)]
def RG.place (g : RG) (i : Nat) : Nat := (g.first + i) % g.cs.length
def RG.row (g : RG) : List Int := (List.range g.count).map fun i => g.cs.getD (g.place i) 0

structure RG.Wf (g : RG) : Prop where
  bare : g.cb = none → g.cs = []
  first : g.first < g.cs.length ∨ g.first = 0 ∧ g.cs = []
  count : g.count ≤ g.cs.length
  top : g.cs.length ≤ 1073741824

theorem RG.row_len (g : RG) : g.row.length = g.count := by simp [RG.row]
theorem RG.row_at {g : RG} {i : Nat} (h : i < g.count) : g.row[i]? = some (g.cs.getD (g.place i) 0) := by simp [RG.row, h]

theorem RG.place_lt {g : RG} (h : 0 < g.cs.length) (i : Nat) : g.place i < g.cs.length := Nat.mod_lt _ h
theorem RG.place_of {g : RG} {i : Nat} (h1 : g.first < g.cs.length) (h2 : i < g.cs.length) : g.place i = if g.first + i < g.cs.length then g.first + i else g.first + i - g.cs.length := by
  unfold RG.place
  split
  · exact Nat.mod_eq_of_lt (by assumption)
  · rw [Nat.mod_eq_sub_mod (by omega), Nat.mod_eq_of_lt (by omega)]
theorem RG.place_inj {g : RG} {i j : Nat} (h1 : g.first < g.cs.length) (h2 : i < g.cs.length) (h3 : j < g.cs.length) (h : g.place i = g.place j) : i = j := by
  rw [RG.place_of h1 h2, RG.place_of h1 h3] at h
  split at h <;> split at h <;> omega

theorem RG.Wf.pos {g : RG} (h : g.Wf) {i : Nat} (hi : i < g.cs.length) : g.first < g.cs.length := by
  rcases h.first with h | ⟨_, h⟩
  · exact h
  · rw [h] at hi; simp at hi

/-- The ring with n stored at the place behind the row. -/
def RG.pushed (g : RG) (n : Int) : RG := { g with cs := g.cs.set (g.place g.count) n, count := g.count + 1 }
theorem RG.pushed_row {g : RG} (wf : g.Wf) (h : g.count < g.cs.length) (n : Int) : (g.pushed n).row = g.row ++ [n] := by
  have hp := wf.pos h
  apply List.ext_getElem?
  intro i
  by_cases hi : i < g.count
  · rw [RG.row_at (g := g.pushed n) (show i < g.count + 1 by omega), List.getElem?_append_left (by rw [RG.row_len]; exact hi), RG.row_at hi]
    have e : (g.pushed n).place i = g.place i := by simp [RG.place, RG.pushed]
    have hne : g.place g.count ≠ g.place i := fun e => by have := RG.place_inj hp h (by omega) e; omega
    rw [e]
    simp only [RG.pushed, List.getD_eq_getElem?_getD, List.getElem?_set_ne hne]
  · by_cases hi2 : i = g.count
    · subst hi2
      rw [RG.row_at (g := g.pushed n) (show g.count < g.count + 1 by omega), List.getElem?_append_right (by rw [RG.row_len]; omega), RG.row_len, Nat.sub_self]
      have e : (g.pushed n).place g.count = g.place g.count := by simp [RG.place, RG.pushed]
      rw [e]
      have hl : g.place g.count < g.cs.length := RG.place_lt (by omega) _
      simp only [RG.pushed, List.getD_eq_getElem?_getD, List.getElem?_set_self hl]
      rfl
    · rw [List.getElem?_eq_none (by rw [RG.row_len]; simp only [RG.pushed]; omega), List.getElem?_eq_none (by rw [List.length_append, RG.row_len]; simp; omega)]
theorem RG.pushed_wf {g : RG} (wf : g.Wf) (h : g.count < g.cs.length) (n : Int) : (g.pushed n).Wf :=
  ⟨fun e => by simp [RG.pushed, wf.bare e], by simp only [RG.pushed, List.length_set]; exact .inl (wf.pos h), by simp only [RG.pushed, List.length_set]; omega, by simp only [RG.pushed, List.length_set]; exact wf.top⟩

/-- The ring with n stored at the place ahead of the row. -/
def RG.ahead (g : RG) : Nat := g.place (g.cs.length - 1)
def RG.unshifted (g : RG) (n : Int) : RG := { g with cs := g.cs.set g.ahead n, first := g.ahead, count := g.count + 1 }
theorem RG.unshifted_row {g : RG} (wf : g.Wf) (h : g.count < g.cs.length) (n : Int) : (g.unshifted n).row = n :: g.row := by
  have hp := wf.pos h
  have ha : g.ahead = if g.first = 0 then g.cs.length - 1 else g.first - 1 := by
    unfold RG.ahead
    rw [RG.place_of hp (by omega)]
    split <;> split <;> omega
  have hal : g.ahead < g.cs.length := RG.place_lt (by omega) _
  apply List.ext_getElem?
  intro i
  have hq : ∀ j, j < g.cs.length → (g.unshifted n).place j = if g.ahead + j < g.cs.length then g.ahead + j else g.ahead + j - g.cs.length := by
    intro j hj
    have := RG.place_of (g := g.unshifted n) (i := j) (by simpa [RG.unshifted] using hal) (by simpa [RG.unshifted] using hj)
    simpa [RG.unshifted] using this
  cases i with
  | zero =>
    rw [RG.row_at (g := g.unshifted n) (show 0 < g.count + 1 by omega), hq 0 (by omega), if_pos (by omega)]
    simp only [RG.unshifted, List.getD_eq_getElem?_getD, Nat.add_zero, List.getElem?_set_self hal]
    rfl
  | succ i =>
    by_cases hi : i < g.count
    · rw [RG.row_at (g := g.unshifted n) (show i + 1 < g.count + 1 by omega), List.getElem?_cons_succ, RG.row_at hi, hq (i + 1) (by omega)]
      have e : (if g.ahead + (i + 1) < g.cs.length then g.ahead + (i + 1) else g.ahead + (i + 1) - g.cs.length) = g.place i := by
        rw [RG.place_of hp (by omega), ha]
        repeat' split
        all_goals omega
      rw [e]
      have hne : g.ahead ≠ g.place i := fun e => by have := RG.place_inj hp (i := g.cs.length - 1) (by omega) (show i < _ by omega) e; omega
      simp only [RG.unshifted, List.getD_eq_getElem?_getD, List.getElem?_set_ne hne]
    · rw [List.getElem?_eq_none (by rw [RG.row_len]; simp only [RG.unshifted]; omega), List.getElem?_eq_none (by rw [List.length_cons, RG.row_len]; omega)]
theorem RG.unshifted_wf {g : RG} (wf : g.Wf) (h : g.count < g.cs.length) (n : Int) : (g.unshifted n).Wf :=
  ⟨fun e => by simp [RG.unshifted, wf.bare e], by simp only [RG.unshifted, List.length_set]; exact .inl (RG.place_lt (by omega) _), by simp only [RG.unshifted, List.length_set]; omega, by simp only [RG.unshifted, List.length_set]; exact wf.top⟩

/-- The ring without the last of the row. -/
def RG.popped (g : RG) : RG := { g with count := g.count - 1 }
theorem RG.popped_row (g : RG) : g.popped.row = g.row.dropLast := by
  cases hc : g.count with
  | zero => simp [RG.popped, RG.row, hc]
  | succ k =>
    have e : g.row = g.popped.row ++ [g.cs.getD (g.place k) 0] := by
      unfold RG.row
      rw [hc, List.range_succ, List.map_append]
      simp [RG.popped, hc, RG.place]
    rw [e, List.dropLast_concat]
theorem RG.popped_wf {g : RG} (wf : g.Wf) : g.popped.Wf := ⟨wf.bare, wf.first, by have := wf.count; simp only [RG.popped]; omega, wf.top⟩

/-- The ring without the first of the row. -/
def RG.shifted (g : RG) : RG := { g with first := g.place 1, count := g.count - 1 }
theorem RG.shifted_row {g : RG} (wf : g.Wf) (h : 0 < g.count) : g.shifted.row = g.row.tail := by
  have hc := wf.count
  have hp := wf.pos (i := 0) (by omega)
  apply List.ext_getElem?
  intro i
  rw [List.getElem?_tail]
  by_cases hi : i + 1 < g.count
  · rw [RG.row_at (g := g.shifted) (show i < g.count - 1 by omega), RG.row_at hi]
    have e : g.shifted.place i = g.place (i + 1) := by
      simp only [RG.shifted, RG.place]
      rw [Nat.mod_add_mod, Nat.add_assoc, Nat.add_comm 1 i]
    rw [e]
    rfl
  · rw [List.getElem?_eq_none (by rw [RG.row_len]; simp only [RG.shifted]; omega), List.getElem?_eq_none (by rw [RG.row_len]; omega)]
theorem RG.shifted_wf {g : RG} (wf : g.Wf) (h : 0 < g.count) : g.shifted.Wf := by
  have hc := wf.count
  exact ⟨wf.bare, .inl (RG.place_lt (g := g) (by omega) _), by simp only [RG.shifted]; omega, wf.top⟩

/-- The ring laid anew into so many cells at block b. -/
def RG.laid (g : RG) (size : Nat) : List Int := g.row ++ List.replicate (size - g.count) 0
theorem RG.laid_len {g : RG} {size : Nat} (h : g.count ≤ size) : (g.laid size).length = size := by
  rw [RG.laid, List.length_append, RG.row_len, List.length_replicate]; omega
def RG.moved (g : RG) (b size : Nat) : RG := ⟨some b, g.laid size, 0, g.count⟩
theorem RG.moved_row {g : RG} {b size : Nat} (h : g.count ≤ size) : (g.moved b size).row = g.row := by
  apply List.ext_getElem?
  intro i
  by_cases hi : i < g.count
  · rw [RG.row_at (g := g.moved b size) (show i < g.count from hi)]
    have e : (g.moved b size).place i = i := by
      simp only [RG.place, RG.moved, RG.laid_len h, Nat.zero_add]
      exact Nat.mod_eq_of_lt (by omega)
    rw [e]
    simp only [RG.moved, RG.laid, List.getD_eq_getElem?_getD]
    rw [List.getElem?_append_left (by rw [RG.row_len]; exact hi), RG.row_at hi]
    rfl
  · rw [List.getElem?_eq_none (by rw [RG.row_len]; simp only [RG.moved]; omega), List.getElem?_eq_none (by rw [RG.row_len]; omega)]
theorem RG.moved_wf {g : RG} {b size : Nat} (h : g.count ≤ size) (h2 : size ≤ 1073741824) : (g.moved b size).Wf :=
  ⟨fun e => by simp [RG.moved] at e, by
    have := RG.laid_len h
    simp only [RG.moved]
    rcases Nat.eq_zero_or_pos size with h0 | h0
    · right
      exact ⟨trivial, List.eq_nil_of_length_eq_zero (by omega)⟩
    · left
      omega, by simp only [RG.moved, RG.laid_len h]; exact h, by simp only [RG.moved, RG.laid_len h]; exact h2⟩

/-- How the cells look while the row is being laid. -/
def RG.part (g : RG) (size k : Nat) : List Int := g.row.take k ++ List.replicate (size - k) 0
theorem RG.part_zero (g : RG) (size : Nat) : g.part size 0 = List.replicate size 0 := by simp [RG.part]
theorem RG.part_all (g : RG) (size : Nat) : g.part size g.count = g.laid size := by
  unfold RG.part RG.laid
  rw [List.take_of_length_le (by rw [RG.row_len]; exact Nat.le_refl _)]
theorem RG.part_len {g : RG} {size k : Nat} (h : k ≤ g.count) (h2 : g.count ≤ size) : (g.part size k).length = size := by
  simp only [RG.part, List.length_append, List.length_take, RG.row_len, List.length_replicate]; omega
theorem RG.part_set {g : RG} {size k : Nat} (h : k < g.count) (h2 : g.count ≤ size) : (g.part size k).set k (g.cs.getD (g.place k) 0) = g.part size (k + 1) := by
  unfold RG.part
  have hl : (g.row.take k).length = k := by rw [List.length_take, RG.row_len]; omega
  have e : List.replicate (size - k) (0 : Int) = 0 :: List.replicate (size - (k + 1)) 0 := by
    rw [show size - k = (size - (k + 1)) + 1 by omega, List.replicate_succ]
  rw [List.set_append_right _ _ (by omega), hl, Nat.sub_self, e, List.set_cons_zero, List.take_add_one, RG.row_at h]
  simp
end Go.Proofs.Ytmmagapggmcceaa
