/- Frames' bytes in whatever pieces, plain; a slice of frames, of bytes that came in. -/
import Derived.Test.YtjeejflmkdncpaaFmO
import Derived.Laws.BitsLemmas
namespace Go.Proofs.Ytjeejflmkdncpaa
open Go.RowKit
set_option linter.unusedVariables false

theorem and3 (n : Int) : bits .and .i64 n 3 = n % 4 := by
  have h : (BitVec.ofInt 64 3).toNat = 2 ^ 2 - 1 := by decide
  show IntKind.i64.wrap ((BitVec.ofInt 64 n &&& BitVec.ofInt 64 3).toNat : Nat) = n % 4
  rw [BitVec.toNat_and, BitVec.toNat_ofInt, h, Nat.and_two_pow_sub_one_eq_mod, IntKind.wrap_i64]
  omega
theorem and16 (n : Int) : bits .and .i64 n 65535 = n % 65536 := by
  have h : (BitVec.ofInt 64 65535).toNat = 2 ^ 16 - 1 := by decide
  show IntKind.i64.wrap ((BitVec.ofInt 64 n &&& BitVec.ofInt 64 65535).toNat : Nat) = n % 65536
  rw [BitVec.toNat_and, BitVec.toNat_ofInt, h, Nat.and_two_pow_sub_one_eq_mod, IntKind.wrap_i64]
  omega

/-- A frame's kind, one of the four. -/
def kindOf (k : Int) : Nat := if k % 4 = 0 then 1 else if k % 4 = 1 then 2 else if k % 4 = 2 then 3 else 8
def mapF (f : Frm) : Frm := (kindOf f.1, ((f.2.1 % 65536).toNat : Int), f.2.2)
theorem kindOf_is (k : Int) : isK (kindOf k : Int) = true ∧ kindOf k ≤ 255 := by
  unfold kindOf
  split
  · decide
  · split
    · decide
    · split <;> decide
/-- Frames that any parser of the greatest size tells. -/
def Fine (l : List Frm) : Prop := ∀ f ∈ l, ∃ k c : Nat, f.1 = k ∧ f.2.1 = c ∧ isK (k : Int) = true ∧ k ≤ 255 ∧ c ≤ 65535 ∧ f.2.2.length ≤ 200
theorem mapF_fine {f : Frm} (h : f.2.2.length ≤ 200) : ∃ k c : Nat, (mapF f).1 = k ∧ (mapF f).2.1 = c ∧ isK (k : Int) = true ∧ k ≤ 255 ∧ c ≤ 65535 ∧ (mapF f).2.2.length ≤ 200 :=
  ⟨kindOf f.1, (f.2.1 % 65536).toNat, rfl, rfl, (kindOf_is _).1, (kindOf_is _).2, by omega, h⟩

def rawL (l : List Frm) : List UInt8 := l.flatMap fun f => frRaw f.1 f.2.1 f.2.2
theorem rawL_cons (f : Frm) (l : List Frm) : rawL (f :: l) = frRaw f.1 f.2.1 f.2.2 ++ rawL l := rfl
theorem rawL_snoc (l : List Frm) (f : Frm) : rawL (l ++ [f]) = rawL l ++ frRaw f.1 f.2.1 f.2.2 := by simp [rawL]
theorem rawL_len {l : List Frm} (h : Fine l) : (rawL l).length ≤ 208 * l.length := by
  induction l with
  | nil => simp [rawL]
  | cons f l ih =>
    obtain ⟨_, _, _, _, _, _, _, h1⟩ := h f List.mem_cons_self
    have h2 := ih fun g hg => h g (List.mem_cons_of_mem _ hg)
    rw [rawL_cons, List.length_append, frRaw_length, List.length_cons]
    omega
theorem Fine.frBytes {l : List Frm} {f : Frm} (h : Fine l) (hf : f ∈ l) : frBytes f.1 f.2.1 f.2.2 = frRaw f.1 f.2.1 f.2.2 := by
  obtain ⟨k, c, e1, e2, _, h2, h3, _⟩ := h f hf
  refine if_pos ?_
  rw [e1, e2]
  unfold frOk
  omega

/-- The rest of the bytes lacks some of the next frame's. -/
def Lacks (R : List UInt8) (l : List Frm) : Prop := (l = [] → R = []) ∧ ∀ f r, l = f :: r → R.length < f.2.2.length + 8
/-- A beginning of frames' bytes: whole frames, and some bytes of the next one. -/
theorem tell_prefix : ∀ (l : List Frm) (L Q : List UInt8), Fine l → L ++ Q = rawL l → ∃ fs rest R, l = fs ++ rest ∧ Tells 4096 L fs R ∧ R ++ Q = rawL rest ∧ Lacks R rest := by
  intro l
  induction l with
  | nil =>
    intro L Q hf h
    obtain ⟨rfl, rfl⟩ := List.append_eq_nil_iff.1 (by simpa [rawL] using h)
    exact ⟨[], [], [], rfl, .done rfl, rfl, ⟨fun _ => rfl, fun f r e => by cases e⟩⟩
  | cons f l ih =>
    intro L Q hf h
    obtain ⟨k, c, e1, e2, h1, h2, h3, h4⟩ := hf f List.mem_cons_self
    rw [rawL_cons, e1, e2] at h
    have hl := frRaw_length k c f.2.2
    by_cases hlt : L.length < f.2.2.length + 8
    · have hL : L = (frRaw k c f.2.2).take L.length := by
        have := congrArg (List.take L.length) h
        rw [List.take_left, List.take_append_of_le_length (by omega)] at this
        exact this
      refine ⟨[], f :: l, L, rfl, .done ?_, by rw [rawL_cons, e1, e2]; exact h, ⟨fun e => (List.cons_ne_nil _ _ e).elim, fun g r e => by cases e; exact hlt⟩⟩
      rw [hL]
      have := nextL_cut (M := 4096) (k := k) (c := c) (d := f.2.2) (n := L.length) h1 h2 (by omega) (by decide) hlt
      exact this
    · obtain ⟨L2, rfl⟩ : ∃ L2, L = frRaw k c f.2.2 ++ L2 := by
        refine ⟨L.drop (frRaw k c f.2.2).length, ?_⟩
        have := congrArg (List.take (frRaw k c f.2.2).length) h
        rw [List.take_left, List.take_append_of_le_length (by omega)] at this
        have e := (List.take_append_drop (frRaw k c f.2.2).length L).symm
        rw [this] at e
        exact e
      rw [List.append_assoc] at h
      obtain ⟨fs, rest, R, hl2, ht, hR, hlk⟩ := ih L2 Q (fun g hg => hf g (List.mem_cons_of_mem _ hg)) (List.append_cancel_left h)
      refine ⟨f :: fs, rest, R, by rw [hl2]; rfl, ?_, hR, hlk⟩
      obtain ⟨x, y, z⟩ := f
      simp only at e1 e2 h4 ht ⊢
      subst e1 e2
      exact .more (nextL_raw (M := 4096) h1 h2 h3 (by omega) (by decide)) ht
theorem Lacks.nil {R : List UInt8} {l : List Frm} (hl : Lacks R l) (hf : Fine l) (h : R = rawL l) : R = [] ∧ l = [] := by
  cases l with
  | nil => exact ⟨hl.1 rfl, rfl⟩
  | cons f r =>
    have := hl.2 f r rfl
    rw [h, rawL_cons, List.length_append, frRaw_length] at this
    omega
theorem Fine.right {a b : List Frm} (h : Fine (a ++ b)) : Fine b := fun f hf => h f (List.mem_append_right a hf)

/-! ### what came in -/
theorem frames_of {w : World} {a : Option Addr} {len cap : Nat} {rd : Nat → List Value} (h : RowsAt Try.prog w 23 a len rd) : ∃ T : List Frm, T.length = len ∧ ReadFrames w (.slice a T.length cap) T := by
  have hco : Try.prog.cellsOf 23 = 3 := by kernel_rfl
  have key : ∀ i, ∃ x : Frm, i < len → rd i = [.int .i64 x.1, .int .i64 x.2.1, tx x.2.2] := by
    intro i
    by_cases hi : i < len
    · obtain ⟨k, c, d, h1, -, -⟩ := frame_of (h.at_ i hi).1
      exact ⟨(k, c, d), fun _ => h1⟩
    · exact ⟨(0, 0, []), fun h => absurd h hi⟩
  refine ⟨(List.range len).map fun i => (key i).choose, by simp, a, cap, by simp, fun i x hx => ?_⟩
  have hi : i < len := by
    have := (List.getElem?_eq_some_iff.1 hx).1
    simpa using this
  rw [List.getElem?_map, List.getElem?_range hi, Option.map_some, Option.some.injEq] at hx
  have h1 := (key i).choose_spec hi
  rw [hx] at h1
  obtain ⟨_, _, b, off, ha, hc⟩ := h.at_ i hi
  rw [hco] at hc
  exact ⟨b, off, ha, hc 0 _ (by rw [h1]; rfl), hc 1 _ (by rw [h1]; rfl), hc 2 _ (by rw [h1]; rfl)⟩

/-- The slice at a with len elements reads as these bytes. -/
structure CutsAt (w : World) (a : Option Addr) (len : Nat) (T : List Nat) : Prop where
  size : T.length = len
  at_ : ∀ (i x : Nat), T[i]? = some x → x ≤ 255 ∧ ∃ b off, a = some ⟨b, off, none⟩ ∧ w.cell? ⟨b, off + i, none⟩ = some (.int .u8 (x : Int))
theorem CutsAt.below {w w' : World} {a : Option Addr} {len : Nat} {T : List Nat} (h : CutsAt w a len T) (hb : Below w.heap.size w w') : CutsAt w' a len T :=
  ⟨h.size, fun i x hx => by
    obtain ⟨h1, b, off, e, hc⟩ := h.at_ i x hx
    exact ⟨h1, b, off, e, (hb.cell (p := ⟨b, off + i, none⟩) (World.block_lt_of_cell? w _ hc)).trans hc⟩⟩
theorem CutsAt.of {w : World} {a : Option Addr} {len : Nat} {rd : Nat → List Value} (h : RowsAt Try.prog w 5 a len rd) : ∃ T, CutsAt w a len T := by
  have hco : Try.prog.cellsOf 5 = 1 := by kernel_rfl
  have key : ∀ i, ∃ x : Nat, i < len → rd i = [.int .u8 (x : Int)] ∧ x ≤ 255 := by
    intro i
    by_cases hi : i < len
    · obtain ⟨s, h1, h2⟩ := (h.at_ i hi).1.int uU86
      obtain ⟨b0, b1⟩ := bounds_u8 h2
      obtain ⟨s, rfl⟩ := Int.eq_ofNat_of_zero_le b0
      exact ⟨s, fun _ => ⟨h1, by omega⟩⟩
    · exact ⟨0, fun h => absurd h hi⟩
  refine ⟨(List.range len).map fun i => (key i).choose, by simp, fun i x hx => ?_⟩
  have hi : i < len := by
    have := (List.getElem?_eq_some_iff.1 hx).1
    simpa using this
  rw [List.getElem?_map, List.getElem?_range hi, Option.map_some, Option.some.injEq] at hx
  obtain ⟨h1, h2⟩ := (key i).choose_spec hi
  rw [hx] at h1 h2
  obtain ⟨_, _, b, off, ha, hc⟩ := h.at_ i hi
  refine ⟨h2, b, off, ha, ?_⟩
  have := hc 0 _ (by rw [h1]; rfl)
  rwa [hco, Nat.mul_one] at this
end Go.Proofs.Ytjeejflmkdncpaa
