/- Maps told by their rows: what is looked up; keys that are ints. -/
import Derived.Test.YtbjbpoldghbokaaProg
import Derived.Test.YtbjbpoldghbokaaTrB
namespace Go.Proofs.Ytbjbpoldghbokaa
open Go.RowKit
open Go.ChangeMaps (setBlock)
set_option linter.unusedVariables false
set_option linter.unusedSectionVars false
set_option linter.unusedSimpArgs false
set_option maxRecDepth 100000

section
variable {α : Type} [DecidableEq α]
theorem seek_none {l : List (MapRow α)} {k : α} : seek l k = none ↔ k ∉ l.map (·.1) := by
  unfold seek
  rw [List.find?_eq_none]
  simp only [decide_eq_true_eq, List.mem_map, not_exists, not_and]
theorem seek_mem {l : List (MapRow α)} {k : α} {e : MapRow α} (h : seek l k = some e) : e ∈ l ∧ e.1 = k := by
  unfold seek at h
  exact ⟨List.mem_of_find?_eq_some h, by simpa using List.find?_some h⟩
theorem seek_some {l : List (MapRow α)} {e : MapRow α} (hn : (l.map (·.1)).Nodup) (h : e ∈ l) : seek l e.1 = some e := by
  cases hs : seek l e.1 with
  | none => exact absurd (List.mem_map_of_mem h) (seek_none.1 hs)
  | some x =>
    obtain ⟨h1, h2⟩ := seek_mem hs
    obtain ⟨i, hi⟩ := List.getElem?_of_mem h
    obtain ⟨j, hj⟩ := List.getElem?_of_mem h1
    have hil := (List.getElem?_eq_some_iff.1 hi).1
    have : i = j := (List.getElem?_inj (by simpa using hil) hn).1 (by simp [hi, hj, h2])
    subst this
    rw [hi] at hj; cases hj; rfl
theorem seek_isSome {l : List (MapRow α)} {k : α} : (seek l k).isSome = decide (k ∈ l.map (·.1)) := by
  cases hs : seek l k with
  | none => simpa using seek_none.1 hs
  | some e =>
    obtain ⟨h1, h2⟩ := seek_mem hs
    have : k ∈ l.map (·.1) := h2 ▸ List.mem_map_of_mem h1
    simp only [Option.isSome_some, true_eq_decide_iff] 
    exact this
def restE (es : List (MapRow α)) (k : α) : List (MapRow α) := es.eraseP (fun x => decide (x.1 = k))
theorem rest_sub (es : List (MapRow α)) (k : α) : (restE es k).Sublist es := List.eraseP_sublist
theorem rest_eq {es : List (MapRow α)} (hn : (es.map (·.1)).Nodup) (k : α) : restE es k = es.filter fun x => decide (x.1 ≠ k) := by
  unfold restE
  induction es with
  | nil => rfl
  | cons x es ih =>
    rw [List.map_cons, List.nodup_cons] at hn
    by_cases hx : x.1 = k
    · rw [List.eraseP_cons_of_pos (by simpa using hx), List.filter_cons_of_neg (by simpa using hx)]
      refine (List.filter_eq_self.2 fun y hy => ?_).symm
      have : y.1 ≠ k := fun e => hn.1 (hx ▸ e ▸ List.mem_map_of_mem hy)
      simpa using this
    · rw [List.eraseP_cons_of_neg (by simpa using hx), List.filter_cons_of_pos (by simpa using hx), ih hn.2]
end

abbrev encI : Int → Value := fun k => .int .i64 k
theorem uInt12 : Try.prog.underlying 3 = some (.int .i64) := by kernel_rfl
theorem keyI : KeyBy Try.prog 3 encI (fun _ _ => True) := keyBy_now uInt12 (fun em n k w => by simp [Instr.checkKey, run_underlying uInt12])
  (fun a b => by
    have h : Instr.sameNow (.int .i64) (encI a) (encI b) = some (a == b) := rfl
    rw [h, Option.some.injEq, Bool.eq_iff_iff, beq_iff_eq, decide_eq_true_iff]
    exact eq_comm) (fun k => by
    have h : Instr.sameBits 10000 (encI k) (encI k) = (IntKind.i64 == IntKind.i64 && k == k) := rfl
    rw [h, beq_self_eq_true k]
    rfl)
end Go.Proofs.Ytbjbpoldghbokaa
