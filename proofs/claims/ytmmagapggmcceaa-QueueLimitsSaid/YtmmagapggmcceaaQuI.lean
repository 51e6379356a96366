/- The statement of layer 16 about limits. -/
import Derived.Test.YtmmagapggmcceaaQuH
namespace Go.Proofs.Ytmmagapggmcceaa
open Go.RowKit
open Go.ChangeMaps (setBlock)
set_option linter.unusedVariables false
set_option linter.unusedSectionVars false
set_option linter.unusedSimpArgs false
set_option maxRecDepth 100000

/-- So many are there when i came. -/
structure LimX (lim i : Nat) (M : List Ent) : Prop where
  ok : RkOk M
  ids : ∀ e ∈ M, 1 ≤ e.id ∧ e.id ≤ i
  len : M.length = min lim i
section
variable {lim i : Nat} {M : List Ent} {p : Int} {x : Ent}
theorem LimX.nil : LimX lim 0 [] := ⟨RkOk.nil, by simp, by simp⟩
theorem LimX.new (h : LimX lim i M) (hp : 0 ≤ p ∧ p ≤ 3) : putOk M (oE ((i : Int) + 1) p 0) = true ∧ ∀ y ∈ M, y.id ≠ (oE ((i : Int) + 1) p 0).id := by
  have h2 : ∀ y ∈ M, y.id ≠ (oE ((i : Int) + 1) p 0).id := fun y hy e => by
    have := (h.ids y hy).2
    have : y.id = (i : Int) + 1 := e
    omega
  refine ⟨?_, h2⟩
  simp only [putOk, decide_eq_true_eq]
  refine ⟨fun hm => ?_, hp⟩
  obtain ⟨y, hy, e⟩ := List.mem_map.1 hm
  exact h2 y hy e
theorem LimX.room (h : LimX lim i M) (hp : 0 ≤ p ∧ p ≤ 3) (hi : i < lim) : LimX lim (i + 1) (insM (oE ((i : Int) + 1) p 0) M) :=
  ⟨h.ok.ins hp (h.new hp).2, fun e he => by
    rcases mem_ins.1 he with rfl | he
    · show 1 ≤ (i : Int) + 1 ∧ (i : Int) + 1 ≤ ((i + 1 : Nat) : Int)
      omega
    · have := h.ids e he
      omega, by rw [ins_len, h.len]; omega⟩
theorem LimX.full (h : LimX lim i M) (hp : 0 ≤ p ∧ p ≤ 3) (hi : lim ≤ i) (hx : IsWorst M x) : LimX lim (i + 1) (insM (oE ((i : Int) + 1) p 0) (delM M x.id)) :=
  ⟨(h.ok.del _).ins hp fun y hy => (h.new hp).2 y (List.mem_filter.1 hy).1, fun e he => by
    rcases mem_ins.1 he with rfl | he
    · show 1 ≤ (i : Int) + 1 ∧ (i : Int) + 1 ≤ ((i + 1 : Nat) : Int)
      omega
    · have := h.ids e (List.mem_filter.1 he).1
      omega, by
    have := del_len h.ok hx.mem
    rw [ins_len]
    have := h.len
    omega⟩
theorem LimX.keep (h : LimX lim i M) (hi : lim ≤ i) : LimX lim (i + 1) M :=
  ⟨h.ok, fun e he => by
    have := h.ids e he
    omega, by rw [h.len]; omega⟩
end
section
variable {B : Nat} {w0 w : World} {qb i lim : Nat} {M : List Ent} {F : List (Nat × Obj)} {o : Opt} {p : Int}
/-- What one put says: whether it is there, how many went. -/
def LimR (B : Nat) (w0 : World) (qb : Nat) (o : Opt) (F : List (Nat × Obj)) (lim i : Nat) (ok : Bool) (d : Nat) (r : Ending) (w' : World) : Prop :=
  ∃ a c M', r = .returned (.tuple #[.bool ok, .slice a d c]) ∧ LimX lim (i + 1) M' ∧ QuIs B w0 w' qb o M' F
theorem lim_room (h : QuIs B w0 w qb o M F) (hx : LimX lim i M) (hp : 0 ≤ p ∧ p ≤ 3) (ho : o.prio = 3 ∧ o.ttl = 0) (hl : limitO o = lim) (hi : i < lim) (h9 : lim ≤ 60) :
    Calls Try.prog 9 #[rptr qb, oV ((i : Int) + 1) p 0, .int .i64 0] w (LimR B w0 qb o F lim i true 0) := by
  have hlen := hx.len
  refine (put_q (for_plain hp.1 (by rw [ho.1]; exact hp.2) ho.2) h (by omega)).mono ?_
  rintro r w' ⟨ok, W, N, a, c, S, rfl, hP, hs, h'⟩
  obtain ⟨rfl, rfl, rfl⟩ := hP.room (hx.new hp).1 (by omega)
  exact ⟨a, c, _, rfl, hx.room hp hi, h'.sub (List.sublist_append_right _ _)⟩
theorem lim_full (h : QuIs B w0 w qb o M F) (hx : LimX lim i M) (hp : 0 ≤ p ∧ p ≤ 3) (ho : o.prio = 3 ∧ o.ttl = 0) (hl : limitO o = lim) (hi : lim ≤ i) (h9 : lim ≤ 60) (hr : rejO o = false) :
    Calls Try.prog 9 #[rptr qb, oV ((i : Int) + 1) p 0, .int .i64 0] w (LimR B w0 qb o F lim i true 1) := by
  have hlen := hx.len
  refine (put_q (for_plain hp.1 (by rw [ho.1]; exact hp.2) ho.2) h (by omega)).mono ?_
  rintro r w' ⟨ok, W, N, a, c, S, rfl, hP, hs, h'⟩
  obtain ⟨rfl, x, rfl, hw, rfl⟩ := hP.full hx.ok (hx.new hp).1 (by omega) hr
  exact ⟨a, c, _, rfl, hx.full hp hi hw, h'.sub (List.sublist_append_right _ _)⟩
theorem lim_refuse (h : QuIs B w0 w qb o M F) (hx : LimX lim i M) (hp : 0 ≤ p ∧ p ≤ 3) (ho : o.prio = 3 ∧ o.ttl = 0) (hl : limitO o = lim) (hi : lim ≤ i) (h9 : lim ≤ 60) (hr : rejO o = true) :
    Calls Try.prog 9 #[rptr qb, oV ((i : Int) + 1) p 0, .int .i64 0] w (LimR B w0 qb o F lim i false 0) := by
  have hlen := hx.len
  refine (put_q (for_plain hp.1 (by rw [ho.1]; exact hp.2) ho.2) h (by omega)).mono ?_
  rintro r w' ⟨ok, W, N, a, c, S, rfl, hP, hs, h'⟩
  obtain ⟨rfl, rfl, rfl⟩ := hP.refuse (hx.new hp).1 (by omega) hr
  exact ⟨a, c, _, rfl, hx.keep hi, h'.sub (List.sublist_append_right _ _)⟩
theorem lim_len (h : QuIs B w0 w qb o M F) (hx : LimX lim i M) {m : Nat} (hm : min lim i = m) : Calls Try.prog 10 #[rptr qb] w fun r w' => r = .returned (.int .i64 m) ∧ QuIs B w0 w' qb o M F := by
  refine (qu_len h).mono ?_
  rintro r w' ⟨rfl, h'⟩
  exact ⟨by rw [hx.len, hm], h'⟩
end
end Go.Proofs.Ytmmagapggmcceaa
