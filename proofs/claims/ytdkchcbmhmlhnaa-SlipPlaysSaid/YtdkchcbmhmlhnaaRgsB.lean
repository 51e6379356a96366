/- Sets of numbers in memory: what lies there, and the inner functions that only read. -/
import Derived.Test.YtdkchcbmhmlhnaaRows
import Derived.Test.YtdkchcbmhmlhnaaRgsA
import Derived.Test.YtdkchcbmhmlhnaaEdit
import Derived.Deep.QuietTactic
import Derived.BigQuiet
import Derived.Deep.LoopGhost
import Derived.Deep.Draws
import Derived.Laws.MakeOwn
import Derived.IntWalk
import Derived.Lib.Hide
namespace Go.Proofs.Ytdkchcbmhmlhnaa
open Go.RowKit

abbrev gptr (b : Nat) : Value := .pointer (some ⟨b, 0, none⟩)

theorem uRows : Try.prog.underlying 64 = some (.slice 63) := by kernel_rfl
theorem infPair : (Try.prog.info? 63).map (fun i => (i.zero, i.size, i.bytes)) = some (some (.agg #[.int .i64 0, .int .i64 0]), 2, 16) := by kernel_rfl

/-! ### rows as cells -/
def rowsV (l : List Row) : List Value := l.flatMap fun r => [.int .i64 r.1, .int .i64 r.2]
theorem rowsV_nil : rowsV [] = [] := rfl
theorem rowsV_cons (r : Row) (l : List Row) : rowsV (r :: l) = .int .i64 r.1 :: .int .i64 r.2 :: rowsV l := rfl
theorem rowsV_append (l m : List Row) : rowsV (l ++ m) = rowsV l ++ rowsV m := by simp [rowsV]
theorem rowsV_len : ∀ (l : List Row), (rowsV l).length = l.length * 2
  | [] => rfl
  | r :: l => by rw [rowsV_cons, List.length_cons, List.length_cons, rowsV_len l, List.length_cons]; omega
theorem rowsV_at : ∀ {l : List Row} {i : Nat} {r : Row}, l[i]? = some r → (rowsV l)[i * 2]? = some (.int .i64 r.1) ∧ (rowsV l)[i * 2 + 1]? = some (.int .i64 r.2)
  | [], _, _, h => by simp at h
  | r :: l, 0, s, h => by simp at h; subst h; simp [rowsV_cons]
  | r :: l, i + 1, s, h => by
    have := rowsV_at (l := l) (i := i) (r := s) (by simpa using h)
    rw [rowsV_cons]
    rw [show (i + 1) * 2 = i * 2 + 1 + 1 by omega, show i * 2 + 1 + 1 + 1 = (i * 2 + 1) + 1 + 1 by omega]
    simpa using this
theorem rowsV_take (l : List Row) (k : Nat) : (rowsV l).take (k * 2) = rowsV (l.take k) := by
  induction l generalizing k with
  | nil => simp [rowsV]
  | cons r l ih =>
    cases k with
    | zero => simp [rowsV]
    | succ k => rw [show (k + 1) * 2 = k * 2 + 1 + 1 by omega, rowsV_cons, List.take_succ_cons, List.take_succ_cons, ih, List.take_succ_cons, rowsV_cons]
theorem rowsV_drop (l : List Row) (k : Nat) : (rowsV l).drop (k * 2) = rowsV (l.drop k) := by
  induction l generalizing k with
  | nil => simp [rowsV]
  | cons r l ih =>
    cases k with
    | zero => simp [rowsV]
    | succ k => rw [show (k + 1) * 2 = k * 2 + 1 + 1 by omega, rowsV_cons, List.drop_succ_cons, List.drop_succ_cons, ih, List.drop_succ_cons]
theorem rowsV_one (l : List Row) : ∀ u ∈ rowsV l, u.oneCell' = true := by
  intro u hu
  obtain ⟨r, _, hr⟩ := List.mem_flatMap.1 hu
  rcases List.mem_cons.1 hr with rfl | hr
  · rfl
  · obtain rfl := List.mem_singleton.1 hr
    rfl

/-- The slice value reads as the rows l in w, wherever it lies. -/
def ReadRows (w : World) (v : Value) (l : List Row) : Prop :=
  ∃ a cap, v = .slice a l.length cap ∧ ∀ i r, l[i]? = some r → ∃ b off, a = some ⟨b, off, none⟩ ∧ w.cell? ⟨b, off + i * 2, none⟩ = some (.int .i64 r.1) ∧ w.cell? ⟨b, off + i * 2 + 1, none⟩ = some (.int .i64 r.2)

theorem SlIs.readRows {T : TypeId} {v : Value} {l : List Row} {B : Nat} {w0 w : World} {A F : List (Nat × Obj)} (h : SlIs T 2 v l.length (rowsV l) F) (hst : St B w0 w (A ++ F)) : ReadRows w v l := by
  obtain ⟨a, cap, rfl, _, _, ha⟩ := h.form
  refine ⟨a, cap, rfl, fun i r hr => ?_⟩
  obtain ⟨g, off, rfl⟩ := ha i (List.getElem?_eq_some_iff.1 hr).1
  exact ⟨g, off, rfl, h.cellAt hst (rowsV_at hr).1, h.cellAt hst (rowsV_at hr).2⟩
theorem ReadRows.drewN {w : World} {v : Value} {l : List Row} (h : ReadRows w v l) (n : Nat) : ReadRows (w.drewN n) v l := h

section
variable {B : Nat} {w0 w : World} {rb : Nat} {v : Value} {l : List Row} {F S : List (Nat × Obj)}

/-- In w there lies at block rb a set with the rows l, its slice v in S. -/
structure RgsAt (B : Nat) (w0 w : World) (rb : Nat) (v : Value) (l : List Row) (F S : List (Nat × Obj)) : Prop where
  sl : SlIs 63 2 v l.length (rowsV l) S
  st : St B w0 w (((rb, .cells #[v, .int .i64 (cnt l)] 66) :: F) ++ S)

theorem RgsAt.c0 (h : RgsAt B w0 w rb v l F S) : w.cell? ⟨rb, 0, none⟩ = some v := h.st.cell (List.mem_cons_self) rfl
theorem RgsAt.c1 (h : RgsAt B w0 w rb v l F S) : w.cell? ⟨rb, 1, none⟩ = some (.int .i64 (cnt l)) := h.st.cell (List.mem_cons_self) rfl
theorem RgsAt.soft (h : RgsAt B w0 w rb v l F S) (i : Nat) : w.frozen? ⟨rb, i, none⟩ = false := St.soft h.st List.mem_cons_self i
theorem RgsAt.read (h : RgsAt B w0 w rb v l F S) : ReadRows w v l := h.sl.readRows h.st
theorem RgsAt.drewN (h : RgsAt B w0 w rb v l F S) (n : Nat) : RgsAt B w0 (w.drewN n) rb v l F S := ⟨h.sl, h.st.drewN n⟩
theorem RgsAt.alloc (h : RgsAt B w0 w rb v l F S) (o : Obj) : RgsAt B w0 (w.alloc o) rb v l ((w.heap.size, o) :: F) S :=
  ⟨h.sl, (h.st.alloc o).perm (List.Perm.swap _ _ _)⟩
theorem RgsAt.sub {F' : List (Nat × Obj)} (h : RgsAt B w0 w rb v l F S) (hs : F'.Sublist F) : RgsAt B w0 w rb v l F' S :=
  ⟨h.sl, h.st.sub ((hs.cons_cons _).append (List.Sublist.refl _))⟩

/-! ### which row is the first one that doesn't end below n -/
set_option maxHeartbeats 400000 in
theorem rowUpC_any {b1 b2 : Nat} {n : Int} (h : ReadRows w v l) (h1 : w.cell? ⟨b1, 0, none⟩ = some (gptr rb)) (h2 : w.cell? ⟨b2, 0, none⟩ = some (.int .i64 n)) (h0 : w.cell? ⟨rb, 0, none⟩ = some v) (i : Nat) (r : Row) (hr : l[i]? = some r) :
    Calls Try.prog 37 (#[.int .i64 i] ++ #[gptr b1, gptr b2]) w fun e w' => e = .returned (.bool (decide (n ≤ r.2))) ∧ ∃ q, w' = w.drewN q := by
  obtain ⟨a, cap, rfl, hc⟩ := h
  obtain ⟨b, off, rfl, k1, k2⟩ := hc i r hr
  have hi1 : (i : Int) < l.length := by have := (List.getElem?_eq_some_iff.1 hr).1; omega
  have hi0 : (0 : Int) ≤ i := by omega
  clear hc hr
  go_enter Try.func37, Try.ntmps37
  go_wp2_with fail
  go_quiet (fail)
  go_wp2_with fail
  go_ret
  exact ⟨rfl, _, rfl⟩
end
end Go.Proofs.Ytdkchcbmhmlhnaa
