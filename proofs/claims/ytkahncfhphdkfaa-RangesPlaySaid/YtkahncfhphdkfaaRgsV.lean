/- The statement of layer 3 about every row of steps. -/
import Derived.Test.YtkahncfhphdkfaaRgsY
import Derived.Test.YtkahncfhphdkfaaArgs
namespace Go.Proofs.Ytkahncfhphdkfaa
open Go.RowKit
set_option linter.unusedVariables false

structure GStep where
  cut : Bool
  lo : Int
  hi : Int

theorem gstep_shape {w : World} {cs : List Value} (h : Read Try.prog w 31 cs) : ∃ s : GStep, cs = [.bool s.cut, .int .i64 s.lo, .int .i64 s.hi] := by
  obtain ⟨hl, hf⟩ := Read.struct Try.underlying31 h
  rw [show Try.prog.cellsOf 31 = 3 by kernel_rfl] at hl
  obtain ⟨v0, v1, v2, rfl⟩ : ∃ v0 v1 v2, cs = [v0, v1, v2] := by
    match cs, hl with
    | [v0, v1, v2], _ => exact ⟨v0, v1, v2, rfl⟩
  have t0 : Read Try.prog w 4 (([v0, v1, v2].drop 0).take (Try.prog.cellsOf 4)) := hf 0 _ rfl
  have t1 : Read Try.prog w 3 (([v0, v1, v2].drop 1).take (Try.prog.cellsOf 3)) := hf 1 _ rfl
  have t2 : Read Try.prog w 3 (([v0, v1, v2].drop 2).take (Try.prog.cellsOf 3)) := hf 2 _ rfl
  rw [show Try.prog.cellsOf 4 = 1 by kernel_rfl] at t0
  rw [show Try.prog.cellsOf 3 = 1 by kernel_rfl] at t1 t2
  obtain ⟨n0, e0⟩ := Read.bool Try.underlying4 t0
  obtain ⟨n1, e1, b1⟩ := Read.int Try.underlying3 t1
  obtain ⟨n2, e2, b2⟩ := Read.int Try.underlying3 t2
  simp at e0 e1 e2
  subst e0 e1 e2
  exact ⟨⟨n0, n1, n2⟩, rfl⟩

section
variable {B : Nat} {w0 w : World} {rb fb sb : Nat} {so : Obj} {v : Value} {L L1 : List Row} {S Y : List (Nat × Obj)}

/-- The set at rb with the rows L1, the document's at fb with the slice v, the step at sb. -/
def Pair3 (B : Nat) (w0 w : World) (rb fb sb : Nat) (so : Obj) (v : Value) (L1 : List Row) (S Y : List (Nat × Obj)) : Prop := RgsIs B w0 w rb L1 ((sb, so) :: (fb, .cells #[v] 29) :: (S ++ Y))

theorem Pair3.ref (h : Pair3 B w0 w rb fb sb so v L1 S Y) (hs : SlIs 40 2 v L.length (rowsV L) S) : ∃ X, RefAt B w0 w fb v L X S ∧ ∀ w' v' S' Y', St B w0 w' ((((fb, .cells #[v'] 29) :: X) ++ S') ++ Y') → Pair3 B w0 w' rb fb sb so v' L1 S' (Y' ++ Y) := by
  obtain ⟨X, h1, h2⟩ := h.st
  refine ⟨X ++ ((sb, so) :: Y), ⟨hs, h1.perm ?_⟩, fun w' v' S' Y' h' => h2 _ _ (h'.perm ?_)⟩
  · have e : (((fb, Obj.cells #[v] 29) :: (X ++ ((sb, so) :: Y))) ++ S) = (fb, Obj.cells #[v] 29) :: (X ++ ((sb, so) :: (Y ++ S))) := by simp
    rw [e]
    exact ((List.Perm.swap _ _ _).append_left X).trans (List.perm_middle.trans (.cons _ ((List.Perm.cons _ List.perm_append_comm).append_left X)))
  · have e : ((((fb, Obj.cells #[v'] 29) :: (X ++ ((sb, so) :: Y))) ++ S') ++ Y') = (fb, Obj.cells #[v'] 29) :: (X ++ ((sb, so) :: (Y ++ (S' ++ Y')))) := by simp
    have e2 : S' ++ (Y' ++ Y) = (S' ++ Y') ++ Y := by simp
    rw [e, e2]
    exact (List.perm_middle.symm).trans (((List.Perm.swap _ _ _).trans (.cons _ (.cons _ List.perm_append_comm))).append_left X)

theorem Pair3.rgs (h : Pair3 B w0 w rb fb sb so v L1 S Y) : RgsIs B w0 w rb L1 ((sb, so) :: (fb, .cells #[v] 29) :: (S ++ Y)) := h
theorem Pair3.of {Z : List (Nat × Obj)} (h : RgsIs B w0 w rb L1 (((sb, so) :: (fb, .cells #[v] 29) :: (S ++ Y)) ++ Z)) : Pair3 B w0 w rb fb sb so v L1 S (Y ++ Z) := by
  unfold Pair3
  simpa using h
theorem Pair3.drop (h : Pair3 B w0 w rb fb sb so v L1 S Y) : Pair3 B w0 w rb fb sb so v L1 S [] := by
  refine RgsIs.sub h ?_
  simp
theorem Pair3.perm {Y' : List (Nat × Obj)} (h : Pair3 B w0 w rb fb sb so v L1 S Y) (hp : Y.Perm Y') : Pair3 B w0 w rb fb sb so v L1 S Y' := RgsIs.perm h (.cons _ (.cons _ (hp.append_left S)))
theorem Pair3.drewN (h : Pair3 B w0 w rb fb sb so v L1 S Y) (n : Nat) : Pair3 B w0 (w.drewN n) rb fb sb so v L1 S Y := RgsIs.drewN h n
theorem Pair3.c0 (h : Pair3 B w0 w rb fb sb so v L1 S Y) : w.cell? ⟨fb, 0, none⟩ = some v := RgsIs.cell h (b := fb) (c := #[v]) (T := 29) (by simp) rfl
theorem Pair3.step {c : Array Value} {T : TypeId} (h : Pair3 B w0 w rb fb sb (.cells c T) v L1 S Y) {i : Nat} {u : Value} (hi : c[i]? = some u) : w.cell? ⟨sb, i, none⟩ = some u := RgsIs.cell h (b := sb) (c := c) (T := T) List.mem_cons_self hi
theorem Pair3.read (h : Pair3 B w0 w rb fb sb so v L1 S Y) (hs : SlIs 40 2 v L.length (rowsV L) S) : ReadRows w v L := by
  obtain ⟨X, hr, -⟩ := h.ref hs
  exact hr.read

theorem pair_turn (h : Pair3 B w0 w rb fb sb so v L1 S Y) (hs : SlIs 40 2 v L.length (rowsV L) S) (hc : Canon L) (on : Bool) (lo hi : Int) :
    Calls Try.prog 12 #[gptr fb, .int .i64 lo, .int .i64 hi, .bool on] w fun e w' => e = .returned (.int .i64 (max (cnt (turnTo on lo hi L) - cnt L) (cnt L - cnt (turnTo on lo hi L)))) ∧
      ∃ a cap S', SlIs 40 2 (.slice a (turnTo on lo hi L).length cap) (turnTo on lo hi L).length (rowsV (turnTo on lo hi L)) S' ∧ Pair3 B w0 w' rb fb sb so (.slice a (turnTo on lo hi L).length cap) L1 S' Y := by
  obtain ⟨X, hr, hb⟩ := h.ref hs
  refine (refTurn_any on lo hi hr hc).mono ?_
  rintro e w' ⟨v', S', rfl, h2⟩
  obtain ⟨a, cap, rfl, -, -, -⟩ := h2.sl.form
  exact ⟨rfl, a, cap, S', h2.sl, hb _ _ S' [] (by simpa using h2.st)⟩

theorem pair_upto (h : Pair3 B w0 w rb fb sb so v L1 S Y) (hs : SlIs 40 2 v L.length (rowsV L) S) (hc : Canon L) (n : Int) :
    Calls Try.prog 21 #[gptr fb, .int .i64 n] w fun e w' => ∃ v' S', e = .returned v' ∧ SlIs 3 1 v' (uptoL L n).length (nms (uptoL L n)) S' ∧ Pair3 B w0 w' rb fb sb so v L1 S (S' ++ Y) := by
  obtain ⟨X, hr, hb⟩ := h.ref hs
  have hlen := hc.len_half
  refine (refUpto_any hr hc.fits (by omega) n).mono ?_
  rintro e w' ⟨v', S', rfl, h1, h2⟩
  exact ⟨v', S', rfl, h1, hb _ _ S S' h2⟩

theorem Pair3.ints {Z : List (Nat × Obj)} {u : Value} {l : List Int} (h : Pair3 B w0 w rb fb sb so v L1 S (Z ++ Y)) (hs : SlIs 3 1 u l.length (nms l) Z) : ReadInts w u l := by
  obtain ⟨X, h1, -⟩ := RgsIs.st h
  refine SlIs.readInts (A := (X ++ ((sb, so) :: (fb, .cells #[v] 29) :: S)) ++ Y) hs (h1.perm ?_)
  have e : X ++ ((sb, so) :: (fb, Obj.cells #[v] 29) :: (S ++ (Z ++ Y))) = (X ++ ((sb, so) :: (fb, Obj.cells #[v] 29) :: S)) ++ (Z ++ Y) := by simp
  have e3 := (List.perm_append_comm (l₁ := Z) (l₂ := Y)).append_left (X ++ ((sb, so) :: (fb, Obj.cells #[v] 29) :: S))
  rw [← List.append_assoc _ Y Z] at e3
  rw [e]
  exact e3
theorem Pair3.rows {Z : List (Nat × Obj)} {u : Value} {l : List Row} (h : Pair3 B w0 w rb fb sb so v L1 S (Z ++ Y)) (hs : SlIs 40 2 u l.length (rowsV l) Z) : ReadRows w u l := by
  obtain ⟨X, h1, -⟩ := RgsIs.st h
  refine SlIs.readRows (A := (X ++ ((sb, so) :: (fb, .cells #[v] 29) :: S)) ++ Y) hs (h1.perm ?_)
  have e : X ++ ((sb, so) :: (fb, Obj.cells #[v] 29) :: (S ++ (Z ++ Y))) = (X ++ ((sb, so) :: (fb, Obj.cells #[v] 29) :: S)) ++ (Z ++ Y) := by simp
  have e3 := (List.perm_append_comm (l₁ := Z) (l₂ := Y)).append_left (X ++ ((sb, so) :: (fb, Obj.cells #[v] 29) :: S))
  rw [← List.append_assoc _ Y Z] at e3
  rw [e]
  exact e3
end

/-- What the code answers, and the rows behind it. -/
theorem gstep_turn {L L1 : List Row} (hc : Canon L) (hc1 : Canon L1) (cut : Bool) (lo hi : Int) (h : ∀ k, Inn L1 k ↔ if cut = true then Inn L k ∧ ¬ (max lo 1 ≤ k ∧ k ≤ min hi 1000000) else Inn L k ∨ (max lo 1 ≤ k ∧ k ≤ min hi 1000000)) :
    turnTo (!cut) lo hi L = L1 ∧ max (cnt L1 - cnt L) (cnt L - cnt L1) = if cut = true then cnt L - cnt L1 else cnt L1 - cnt L := by
  obtain ⟨h1, h2⟩ := turnTo_is hc (!cut) lo hi
  constructor
  · refine h1.uniq hc1 fun k => ?_
    rw [h2, h]
    cases cut <;> simp
  · cases cut
    · simp only [Bool.false_eq_true, if_false] at h ⊢
      have := hc.cnt_le hc1 fun k hk => (h k).2 (.inl hk)
      omega
    · simp only [if_true] at h ⊢
      have := hc1.cnt_le hc fun k hk => ((h k).1 hk).1
      omega
end Go.Proofs.Ytkahncfhphdkfaa
