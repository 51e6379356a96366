/- Asked again and again from the one behind: all that are set come in turn. -/
import Derived.Test.YtmclnnepcgkiaaaDoorBmH
import Derived.Test.YtmclnnepcgkiaaaDoorArgs
import Derived.Deep.DeepCutAuto
import Derived.Deep.CutBlock
namespace Go.Proofs.YtmclnnepcgkiaaaDoor
open Go.RowKit
set_option linter.unusedVariables false

section
variable {B : Nat} {w0 w : World} {bb k : Nat} {F : List (Nat × Obj)} {s t : Nat → Bool}

/-- What lies beside a bitmap, and the way back. -/
theorem BmIs.beside (h : BmIs B w0 w bb s k F) : ∃ X, St B w0 w (F ++ X) ∧ ∀ w' F', St B w0 w' (F' ++ X) → BmIs B w0 w' bb s k F' := by
  obtain ⟨h1, h2, L, ov, oF, h3, h4, h5⟩ := h
  have hp : ∀ G : List (Nat × Obj), (((bb, Obj.cells #[ov, .int .i64 (k : Int), .int .i64 (cntB s k : Int)] 42) :: (lvH L ++ G)) ++ oF).Perm (G ++ ((bb, Obj.cells #[ov, .int .i64 (k : Int), .int .i64 (cntB s k : Int)] 42) :: (lvH L ++ oF))) := fun G => by
    rw [List.cons_append]
    refine List.Perm.trans (.cons _ ?_) List.perm_middle.symm
    rw [List.append_assoc, ← List.append_assoc G]
    refine List.Perm.trans ?_ (List.Perm.append_right _ List.perm_append_comm)
    rw [List.append_assoc]
  exact ⟨_, h5.st.perm (hp F), fun w' F' h' => ⟨h1, h2, L, ov, oF, h3, h4, h5.sl, h'.perm (hp F').symm⟩⟩

/-- The law's own row of places: whether each is set. -/
def setRow (s : Nat → Bool) (k : Nat) : List Value := (List.range k).map fun i => Value.bool (s i)
theorem setRow_len (s : Nat → Bool) (k : Nat) : (setRow s k).length = k := by simp [setRow]
theorem setRow_at {i : Nat} (h : i < k) : (setRow s k)[i]? = some (.bool (s i)) := by simp [setRow, h]
theorem setRow_put (s : Nat → Bool) (k i : Nat) (on : Bool) : (setRow s k).set i (.bool on) = setRow (if on then ins s i else del s i) k := by
  apply List.ext_getElem?
  intro j
  by_cases hj : j < k
  · rw [setRow_at (s := if on then ins s i else del s i) hj, List.getElem?_set, setRow_len]
    by_cases e : i = j
    · subst e
      rw [if_pos rfl, if_pos hj]
      cases on
      · simp [del]
      · simp [ins]
    · rw [if_neg e, setRow_at hj]
      cases on
      · simp [del, Ne.symm e]
      · simp [ins, Ne.symm e]
  · rw [List.getElem?_eq_none (by rw [List.length_set, setRow_len]; omega), List.getElem?_eq_none (by rw [setRow_len]; omega)]
def setObj' (s : Nat → Bool) (k : Nat) : Obj := .cells (setRow s k).toArray 4

/-- A bitmap with the law's row beside it. -/
def Both (B : Nat) (w0 w : World) (bb sb : Nat) (s t : Nat → Bool) (k : Nat) (G : List (Nat × Obj)) : Prop := BmIs B w0 w bb s k ((sb, setObj' t k) :: G)
theorem Both.at_ {sb : Nat} {G : List (Nat × Obj)} (h : Both B w0 w bb sb s t k G) {i : Nat} (hi : i < k) : w.cell? ⟨sb, i, none⟩ = some (.bool (t i)) := by
  obtain ⟨X, h1, -⟩ := BmIs.beside h
  exact h1.cell (b := sb) (c := (setRow t k).toArray) (T := 4) (fr := (0, 0)) List.mem_cons_self (by rw [List.getElem?_toArray]; exact setRow_at hi)
theorem Both.soft {sb : Nat} {G : List (Nat × Obj)} (h : Both B w0 w bb sb s t k G) (i : Nat) : w.frozen? ⟨sb, i, none⟩ = false := by
  obtain ⟨X, h1, -⟩ := BmIs.beside h
  exact h1.soft (b := sb) (c := (setRow t k).toArray) (T := 4) List.mem_cons_self i
theorem Both.put {sb : Nat} {G : List (Nat × Obj)} (h : Both B w0 w bb sb s t k G) (i : Nat) (on : Bool) : Both B w0 (w.setCell ⟨sb, i, none⟩ (.bool on)) bb sb s (if on then ins t i else del t i) k G := by
  obtain ⟨X, h1, h2⟩ := BmIs.beside h
  refine h2 _ _ ?_
  have h3 := St.set0 (b := sb) (c := (setRow t k).toArray) (T := 4) (fr := (0, 0)) h1 i (.bool on)
  rw [List.setIfInBounds_toArray, setRow_put] at h3
  exact h3
theorem Both.gcell {sb g : Nat} {c : Array Value} {T : TypeId} {G : List (Nat × Obj)} (h : Both B w0 w bb sb s t k G) (hm : (g, .cells c T) ∈ G) {i : Nat} {v : Value} (hi : c[i]? = some v) : w.cell? ⟨g, i, none⟩ = some v := by
  obtain ⟨X, h1, -⟩ := BmIs.beside h
  exact h1.cell (b := g) (List.mem_append_left _ (List.mem_cons_of_mem _ hm)) hi
theorem BmIs.allocF (h : BmIs B w0 w bb s k F) (o : Obj) : BmIs B w0 (w.alloc o) bb s k ((w.heap.size, o) :: F) := by
  obtain ⟨X, h1, h2⟩ := h.beside
  exact h2 _ _ (h1.alloc o)
theorem BmIs.subF {F' : List (Nat × Obj)} (h : BmIs B w0 w bb s k F) (hs : F'.Sublist F) : BmIs B w0 w bb s k F' := by
  obtain ⟨X, h1, h2⟩ := h.beside
  exact h2 _ _ (h1.sub (hs.append_right X))
theorem Both.permG {sb : Nat} {G G' : List (Nat × Obj)} (h : Both B w0 w bb sb s t k G) (hp : G.Perm G') : Both B w0 w bb sb s t k G' := by
  obtain ⟨X, h1, h2⟩ := BmIs.beside h
  exact h2 _ _ (h1.perm ((hp.cons _).append_right X))
theorem Both.alloc {sb : Nat} {G : List (Nat × Obj)} (h : Both B w0 w bb sb s t k G) (o : Obj) : Both B w0 (w.alloc o) bb sb s t k ((w.heap.size, o) :: G) := by
  obtain ⟨X, h1, h2⟩ := BmIs.beside h
  refine h2 _ _ ((h1.alloc o).perm ?_)
  exact List.Perm.swap _ _ _
theorem Both.sub {sb : Nat} {G G' : List (Nat × Obj)} (h : Both B w0 w bb sb s t k G) (hs : G'.Sublist G) : Both B w0 w bb sb s t k G' := BmIs.subF h (hs.cons_cons _)

theorem uBools : Tryd.prog.underlying 26 = some (.slice 4) := by kernel_rfl
theorem infBool : (Tryd.prog.info? 4).map (fun i => (i.zero, i.size, i.bytes)) = some (some (.bool false), 1, 1) := by kernel_rfl
theorem mk_bools (w : World) (k : Nat) (h1 : k ≤ 1073741824) :
    (Instr.makeSlice 26 (.int .i64 k) (.int .i64 k)).run Tryd.prog w = .ok (.slice (some ⟨w.heap.size, 0, none⟩) k k) (w.alloc (setObj' none0 k)) := by
  obtain ⟨i0, hi, hz0, hz1, hz2⟩ := info_parts infBool
  have h := run_make (P := Tryd.prog) w 26 4 i0 (.bool false) uBools hi hz0 .i64 .i64 k k (by omega) (Int.le_refl _) (by rw [hz2]; omega) (by omega)
  rw [h, Int.toNat_natCast]
  congr 2
  unfold setObj'
  congr 1
  apply Array.toList_inj.1
  rw [hz1, Nat.mul_one, show (Value.bool false).cells = #[Value.bool false] from rfl, toList_madeCells_one]
  apply List.ext_getElem?
  intro i
  by_cases hi : i < k <;> simp [setRow, none0, hi]

/-! ### counting -/
theorem cntB_noneIn {a b : Nat} (h : NoneIn s a b) (hab : a ≤ b) : cntB s b = cntB s a := by
  obtain ⟨d, rfl⟩ : ∃ d, b = a + d := ⟨b - a, by omega⟩
  induction d with
  | zero => rfl
  | succ d ih =>
    rw [← Nat.add_assoc, cntB_succ, h (a + d) (by omega) (by omega)]
    exact ih (fun p h1 h2 => h p h1 (by omega)) (by omega)
theorem cntB_mono (s : Nat → Bool) {a b : Nat} (h : a ≤ b) : cntB s a ≤ cntB s b := by
  obtain ⟨d, rfl⟩ : ∃ d, b = a + d := ⟨b - a, by omega⟩
  induction d with
  | zero => exact Nat.le_refl _
  | succ d ih =>
    have := ih (by omega)
    rw [← Nat.add_assoc, cntB_succ]
    omega
/-- The next one, where fewer have been met than there are. -/
theorem next_more {from_ : Nat} (hf : from_ ≤ k) (h : cntB s from_ < cntB s k) : ∃ a, nextAt s k from_ = some a ∧ from_ ≤ a ∧ a < k ∧ s a = true ∧ cntB s (a + 1) = cntB s from_ + 1 := by
  cases hr : firstAt s k from_ with
  | none =>
    have h1 := firstAt_isnone hr
    rw [cntB_noneIn (s := s) (a := from_) (b := k) (fun p h2 h3 => h1 p h2 h3) hf] at h
    omega
  | some a =>
    obtain ⟨h1, h2, h3, h4⟩ := firstAt_is hr
    refine ⟨a, by rw [nextAt, hr]; rfl, h3, h1, h2, ?_⟩
    rw [cntB_succ, cntB_noneIn h4 h3, h2]
    rfl
/-- All met: it goes round. -/
theorem next_round {from_ : Nat} (hf : from_ ≤ k) (h : cntB s from_ = cntB s k) (hs : ∀ p, s p = true → p < k) : nextAt s k from_ = nextAt s k 0 := by
  have h1 : firstAt s k from_ = none := by
    refine firstAt_none fun p hp => ?_
    cases hsp : s p with
    | false => rfl
    | true =>
      have h2 := hs p hsp
      have h3 : cntB s (p + 1) ≤ cntB s k := cntB_mono s (by omega)
      have h4 : cntB s from_ ≤ cntB s p := cntB_mono s hp
      rw [cntB_succ, hsp] at h3
      simp at h3
      omega
  unfold nextAt
  rw [h1, Option.none_or]
  cases firstAt s k 0 <;> rfl
theorem next_any_of {a : Nat} (h : 0 < cntB s k) (a : Nat) (hs : ∀ p, s p = true → p < k) : ∃ b, nextAt s k a = some b := by
  obtain ⟨b, hb, -⟩ := next_more (s := s) (k := k) (from_ := 0) (Nat.zero_le _) (by simpa [cntB] using h)
  unfold nextAt at hb ⊢
  cases firstAt s k a with
  | some c => exact ⟨c, rfl⟩
  | none =>
    rw [Option.none_or]
    cases h0 : firstAt s k 0 with
    | some c => exact ⟨c, rfl⟩
    | none => rw [h0] at hb; cases hb
theorem next_no (h : cntB s k = 0) (hs : ∀ p, s p = true → p < k) (a : Nat) : nextAt s k a = none := by
  have hz : ∀ p, s p = false := fun p => by
    cases hsp : s p with
    | false => rfl
    | true =>
      have h2 := hs p hsp
      have h3 : cntB s (p + 1) ≤ cntB s k := cntB_mono s (by omega)
      rw [cntB_succ, hsp] at h3
      simp at h3
      omega
  unfold nextAt
  rw [firstAt_none fun p _ => hz p, firstAt_none fun p _ => hz p]; rfl
end
end Go.Proofs.YtmclnnepcgkiaaaDoor
