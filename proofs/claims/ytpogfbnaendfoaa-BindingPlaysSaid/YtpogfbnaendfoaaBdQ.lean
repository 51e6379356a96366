/- Both tables side by side: contracts. -/
import Derived.Test.YtpogfbnaendfoaaBdO
namespace Go.Proofs.Ytpogfbnaendfoaa
open Go.RowKit
set_option linter.unusedVariables false

section
variable {B : Nat} {w0 w w' : World} {S F A X E : List (Nat × Obj)} {T : TypeId} {tb rb : Nat} {v u : Value} {L M : List Bnd} {b : Bnd}

/-- The program's table at tb, the document's at rb, beside them E. -/
def Two (B : Nat) (w0 w : World) (tb rb : Nat) (L M : List Bnd) (E : List (Nat × Obj)) : Prop :=
  ∃ u R, BnsIs u M R ∧ TbIs 55 B w0 w tb L (E ++ (rb, .cells #[u] 29) :: R)
theorem Two.below (h : Two B w0 w tb rb L M E) : Below B w0 w := by
  obtain ⟨u, R, hu, ht⟩ := h
  exact ht.below
theorem Two.base (h : Two B w0 w tb rb L M E) : B ≤ w.heap.size := by
  obtain ⟨u, R, hu, ht⟩ := h
  exact ht.base
theorem Two.grow (h : Two B w0 w tb rb L M E) (hb : Below w.heap.size w w') : Two B w0 w' tb rb L M E := by
  obtain ⟨u, R, hu, ht⟩ := h
  exact ⟨u, R, hu, ht.grow hb⟩
theorem Two.alloc (h : Two B w0 w tb rb L M E) (o : Obj) : Two B w0 (w.alloc o) tb rb L M ((w.heap.size, o) :: E) := by
  obtain ⟨u, R, hu, ht⟩ := h
  exact ⟨u, R, hu, ht.alloc o⟩
theorem Two.sub {E' : List (Nat × Obj)} (h : Two B w0 w tb rb L M E) (hs : E'.Sublist E) : Two B w0 w tb rb L M E' := by
  obtain ⟨u, R, hu, ht⟩ := h
  exact ⟨u, R, hu, ht.sub (hs.append (List.Sublist.refl _))⟩
theorem Two.cell {c : Array Value} {U : TypeId} {k : Nat} (h : Two B w0 w tb rb L M E) (hm : (k, .cells c U) ∈ E) {i : Nat} {x : Value} (hi : c[i]? = some x) : w.cell? ⟨k, i, none⟩ = some x := by
  obtain ⟨u, R, hu, ht⟩ := h
  exact ht.cell (k := k) (List.mem_append_left _ hm) hi
theorem Two.main (h : Two B w0 w tb rb L M E) : ∃ v, OneAt 55 w tb v ∧ ReadBs w v L := by
  obtain ⟨u, R, hu, ht⟩ := h
  exact ht.one
/-- Seen from the document's table. -/
theorem Two.ref (h : Two B w0 w tb rb L M E) : ∃ A, TbIs 29 B w0 w rb M A ∧ ∀ w' M' Q, TbIs 29 B w0 w' rb M' (A ++ Q) → Two B w0 w' tb rb L M' (E ++ Q) := by
  obtain ⟨u, R, hu, ht⟩ := h
  obtain ⟨v, S, hv, hr⟩ := TbIs.swap ht hu
  refine ⟨_, hr, fun w' M' Q h' => ?_⟩
  have h2 : TbIs 29 B w0 w' rb M' ((E ++ Q) ++ (tb, .cells #[v] 55) :: S) := h'.perm (by
    simp only [List.append_assoc, List.cons_append]
    refine List.Perm.append_left E ?_
    have e : (tb, Obj.cells #[v] 55) :: (S ++ Q) = ((tb, Obj.cells #[v] 55) :: S) ++ Q := rfl
    rw [e]
    exact List.perm_append_comm)
  obtain ⟨u', R', hu', h3⟩ := TbIs.swap h2 hv
  exact ⟨u', R', hu', h3⟩
theorem Two.rone (h : Two B w0 w tb rb L M E) : ∃ v, OneAt 29 w rb v ∧ ReadBs w v M := by
  obtain ⟨A, hr, -⟩ := h.ref
  exact hr.one
theorem Two.rest {Q : List (Nat × Obj)} (hu : BnsIs u M S) (h : TbIs 55 B w0 w tb L ((E ++ (rb, .cells #[u] 29) :: S) ++ Q)) : Two B w0 w tb rb L M (E ++ Q) :=
  ⟨u, S, hu, h.perm (by
    simp only [List.append_assoc, List.cons_append]
    refine List.Perm.append_left E ?_
    have e : (rb, Obj.cells #[u] 29) :: (S ++ Q) = ((rb, Obj.cells #[u] 29) :: S) ++ Q := rfl
    rw [e]
    exact List.perm_append_comm)⟩

/-! ### the program's -/
theorem two_add {b1 b2 b3 : List UInt8} (h : Two B w0 w tb rb L M E) (hL : L.length ≤ 40) (hf : FitB (b1, b2, b3)) {L' : List Bnd} {ok : Bool} {n : Int} (e : addL L (b1, b2, b3) = (L', ok, n)) :
    Calls Try.prog 8 #[bpt tb, .agg #[tx b1, tx b2, tx b3]] w fun e w' => e = .returned (.tuple #[.bool ok, .int .i64 n]) ∧ Two B w0 w' tb rb L' M E := by
  obtain ⟨u, R, hu, ht⟩ := h
  refine (add_is ht hL hf e).mono ?_
  rintro e w' ⟨rfl, h'⟩
  exact ⟨rfl, u, R, hu, h'⟩
theorem two_drop {b1 b2 b3 : List UInt8} (h : Two B w0 w tb rb L M E) (hL : L.length ≤ 10000) {L' : List Bnd} {ok : Bool} (e : L.filter (fun b => !(b == (b1, b2, b3))) = L') (e2 : decide (0 < (L.filter fun b => b == (b1, b2, b3)).length) = ok) :
    Calls Try.prog 10 #[bpt tb, .agg #[tx b1, tx b2, tx b3]] w fun e w' => e = .returned (.bool ok) ∧ Two B w0 w' tb rb L' M E := by
  obtain ⟨u, R, hu, ht⟩ := h
  refine (drop_is ht hL e e2).mono ?_
  rintro e w' ⟨rfl, h'⟩
  exact ⟨rfl, u, R, hu, h'⟩
theorem two_dropE (h : Two B w0 w tb rb L M E) (hL : L.length ≤ 10000) (x : List UInt8) :
    Calls Try.prog 15 #[bpt tb, tx x] w fun e w' => e = .returned (.tuple #[]) ∧ Two B w0 w' tb rb (L.filter fun b => !(b.1 == x)) M E := by
  obtain ⟨u, R, hu, ht⟩ := h
  refine (dropE_any ht hL x).mono ?_
  rintro e w' ⟨rfl, h'⟩
  exact ⟨rfl, u, R, hu, h'⟩
def TwoN (B : Nat) (w0 : World) (tb rb : Nat) (L M : List Bnd) (E : List (Nat × Obj)) (l : List (List UInt8)) (e : Ending) (w' : World) : Prop := ∃ u S, e = .returned u ∧ TssIs u l S ∧ Two B w0 w' tb rb L M (E ++ S)
theorem two_dropQ (h : Two B w0 w tb rb L M E) (hL : L.length ≤ 10000) (hfit : ∀ b ∈ L, FitB b) (x : List UInt8) :
    Calls Try.prog 13 #[bpt tb, tx x] w (TwoN B w0 tb rb (L.filter fun b => !(b.2.1 == x)) M E (onceL [] ((L.filter fun b => b.2.1 == x).map (·.1)))) := by
  obtain ⟨u, R, hu, ht⟩ := h
  refine (dropQ_any ht hL hfit x).mono ?_
  rintro e w' ⟨z, S, rfl, hz, h'⟩
  exact ⟨z, S, rfl, hz, Two.rest hu h'⟩

/-! ### the document's -/
theorem two_radd {b1 b2 b3 : List UInt8} (h : Two B w0 w tb rb L M E) (hM : M.length ≤ 40) {M' : List Bnd} {ok : Bool} {n : Int} (e : addL M (b1, b2, b3) = (M', ok, n)) :
    Calls Try.prog 9 #[bpt rb, .agg #[tx b1, tx b2, tx b3]] w fun e w' => e = .returned (.tuple #[.bool ok, .int .i64 n]) ∧ Two B w0 w' tb rb L M' E := by
  obtain ⟨A, hr, back⟩ := h.ref
  have := radd_any hr hM (b1, b2, b3)
  unfold AddR at this
  rw [e] at this
  refine this.mono ?_
  rintro e w' ⟨rfl, h'⟩
  exact ⟨rfl, by have := back w' M' [] (by rw [List.append_nil]; exact h'); rwa [List.append_nil] at this⟩
theorem two_rdrop {b1 b2 b3 : List UInt8} (h : Two B w0 w tb rb L M E) (hM : M.length ≤ 10000) {M' : List Bnd} {ok : Bool} (e : M.filter (fun b => !(b == (b1, b2, b3))) = M') (e2 : decide (M'.length < M.length) = ok) :
    Calls Try.prog 11 #[bpt rb, .agg #[tx b1, tx b2, tx b3]] w fun e w' => e = .returned (.bool ok) ∧ Two B w0 w' tb rb L M' E := by
  obtain ⟨A, hr, back⟩ := h.ref
  subst e e2
  refine (rdrop_any hr hM (b1, b2, b3)).mono ?_
  rintro e w' ⟨rfl, h'⟩
  exact ⟨rfl, by have := back w' _ [] (by rw [List.append_nil]; exact h'); rwa [List.append_nil] at this⟩
theorem two_rdropE (h : Two B w0 w tb rb L M E) (hM : M.length ≤ 10000) (x : List UInt8) :
    Calls Try.prog 16 #[bpt rb, tx x] w fun e w' => e = .returned (.tuple #[]) ∧ Two B w0 w' tb rb L (M.filter fun b => !(b.1 == x)) E := by
  obtain ⟨A, hr, back⟩ := h.ref
  refine (rdropE_any hr hM x).mono ?_
  rintro e w' ⟨rfl, h'⟩
  exact ⟨rfl, by have := back w' _ [] (by rw [List.append_nil]; exact h'); rwa [List.append_nil] at this⟩
theorem two_rdropQ (h : Two B w0 w tb rb L M E) (hM : M.length ≤ 10000) (hfit : ∀ b ∈ M, FitB b) (x : List UInt8) :
    Calls Try.prog 14 #[bpt rb, tx x] w (TwoN B w0 tb rb L (M.filter fun b => !(b.2.1 == x)) E (onceL [] ((M.filter fun b => b.2.1 == x).map (·.1)))) := by
  obtain ⟨A, hr, back⟩ := h.ref
  refine (rdropQ_any hr hM hfit x).mono ?_
  rintro e w' ⟨z, S, rfl, hz, h'⟩
  exact ⟨z, S, rfl, hz, back w' _ S h'⟩

theorem drop_same (L : List Bnd) (x : Bnd) : decide (0 < (L.filter fun b => b == x).length) = decide ((L.filter fun b => !(b == x)).length < L.length) := by
  apply decide_eq_decide.2
  have h : (L.filter fun b => b == x).length + (L.filter fun b => !(b == x)).length = L.length := by
    induction L with
    | nil => rfl
    | cons y L ih =>
      simp only [List.filter_cons]
      cases y == x <;> simp <;> omega
  omega
end
end Go.Proofs.Ytpogfbnaendfoaa
