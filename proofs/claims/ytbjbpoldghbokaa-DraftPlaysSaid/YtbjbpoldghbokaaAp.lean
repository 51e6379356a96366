/- 'append' of whatever elements: copies, pieces put together. -/
import Derived.Test.YtbjbpoldghbokaaSl
import Derived.Test.YtbjbpoldghbokaaEdit
namespace Go.Proofs.Ytbjbpoldghbokaa
open Go.RowKit
set_option linter.unusedVariables false

/-- What 'append' asks of a slice's type. -/
structure Ap (P : Program) (ts e : TypeId) (size bytes : Nat) : Prop where
  ty : P.underlying ts = some (.slice e)
  info : ∃ i z, P.info? e = some i ∧ i.zero = some z ∧ i.size = size ∧ i.bytes = bytes ∧ z.cells.size = size
/-- A run of 'append', told as one fact (its worlds are compared, not its text). -/
structure AppRun (P : Program) (T : TypeId) (x y : Value) (w : World) (v : Value) (w' : World) : Prop where
  run : (Builtin.append_ #[T, T] 0 #[x, y]).run P w = .ok v w'
theorem step_app {P : Program} {w w' : World} {ops : Array Oper} {o : Oper} {a : Act} {K : Act → World → Prop} {Q : Exit → Act → World → Prop} {E : Prop} {x y v' : Value} (d s : Operand) (T : TypeId)
    (hr : AppRun P T x y w v' w') (hgd : o.guard = none) (ho : o.op = .call { callee := .builtin .append, args := #[d, s], argTypes := #[T, T] }) (hed : a.eval d = x) (hes : a.eval s = y)
    (h : K (a.put o.dst v') w') : if Region.wanted o (yielded ops a.tmps) = true then Oper.wp P o a w K Q else E :=
  step_append_go hgd d s T T ho x y hed hes hr.run h
section
variable {P : Program} {B : Nat} {w0 w : World} {A F : List (Nat × Obj)} {ts e : TypeId} {size bytes n m : Nat} {v x : Value} {xs news : List Value}
theorem Ap.append (hA : Ap P ts e size bytes) (hs : SlIs e size v n xs F) (hst : St B w0 w (A ++ F)) (hx : Reads w x m size news) (h1 : ∀ u ∈ news, u.oneCell' = true) (h63 : n + m ≤ maxLen) (hb : (n + m) * bytes ≤ 140737488355328) :
    ∃ a c W F', (Builtin.append_ #[ts, ts] 0 #[v, x]).run P w = .ok (.slice a (n + m) c) W ∧ SlIs e size (.slice a (n + m) c) (n + m) (xs ++ news) F' ∧ St B w0 W (A ++ F') := by
  obtain ⟨i, z, hi, hz, hs1, hs2, hs3⟩ := hA.info
  obtain ⟨v', W, F', h2, h3, h4⟩ := run_append_sl ts 0 e i z size bytes hA.ty hi hz hs1 hs2 hs3 hs hst hx h1 h63 hb
  obtain ⟨a, c, rfl, -⟩ := h3.form
  exact ⟨a, c, W, F', h2, h3, h4⟩
theorem Ap.copy (hA : Ap P ts e size bytes) (hst : St B w0 w A) (hx : Reads w x m size news) (h1 : ∀ u ∈ news, u.oneCell' = true) (h63 : m ≤ maxLen) (hb : m * bytes ≤ 140737488355328) :
    ∃ a c W F', (Builtin.append_ #[ts, ts] 0 #[.slice none 0 0, x]).run P w = .ok (.slice a m c) W ∧ SlIs e size (.slice a m c) m news F' ∧ St B w0 W (A ++ F') := by
  obtain ⟨a, c, W, F', h2, h3, h4⟩ := hA.append (SlIs.nil (T := e) (size := size)) (A := A) (by rw [List.append_nil]; exact hst) hx h1 (by omega) (by rw [Nat.zero_add]; exact hb)
  rw [Nat.zero_add] at h2 h3
  rw [List.nil_append] at h3
  exact ⟨a, c, W, F', h2, h3, h4⟩
/-- A piece of a slice that is owned. -/
theorem Ap.piece (hA : Ap P ts e size bytes) (h : SlIs e size v n xs F) (k : Nat) (hk : k ≤ n) :
    ∃ a1 c1 a2 c2, SlIs e size (.slice a1 k c1) k (xs.take (k * size)) F ∧ SlIs e size (.slice a2 (n - k) c2) (n - k) (xs.drop (k * size)) F ∧
      (∀ w, (Instr.slice ts v none (some (.int .i64 k)) none).run P w = .ok (.slice a1 k c1) w) ∧ (∀ w, (Instr.slice ts v (some (.int .i64 k)) none none).run P w = .ok (.slice a2 (n - k) c2) w) := by
  obtain ⟨i, z, hi, hz, hs1, hs2, hs3⟩ := hA.info
  obtain ⟨v1, h1, -, -, r1⟩ := run_piece hA.ty hi hs1 h 0 k (by omega) hk
  obtain ⟨v2, h2, -, r2, -⟩ := run_piece hA.ty hi hs1 h k n hk (by omega)
  obtain ⟨a1, c1, rfl, -⟩ := h1.form
  obtain ⟨a2, c2, rfl, -⟩ := h2.form
  rw [Nat.zero_mul, List.drop_zero, Nat.sub_zero] at h1
  rw [List.take_of_length_le (by
    rw [List.length_drop, h.len]
    have : (n - k) * size = n * size - k * size := Nat.sub_mul _ _ _
    omega)] at h2
  rw [Nat.sub_zero] at r1
  exact ⟨a1, c1, a2, c2, h1, h2, fun w => r1 rfl w, fun w => r2 rfl w⟩
end
end Go.Proofs.Ytbjbpoldghbokaa
