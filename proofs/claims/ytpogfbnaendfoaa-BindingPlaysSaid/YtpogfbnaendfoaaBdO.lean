/- The steps that came in; both tables side by side. -/
import Derived.Test.YtpogfbnaendfoaaBdJ
import Derived.Test.YtpogfbnaendfoaaBdK
import Derived.Test.YtpogfbnaendfoaaSzR
namespace Go.Proofs.Ytpogfbnaendfoaa
open Go.RowKit
set_option linter.unusedVariables false

/-- The slice at a with len elements reads as these steps. -/
structure StpAt (w : World) (a : Option Addr) (len : Nat) (G : List (Int × Bnd)) : Prop where
  size : G.length = len
  at_ : ∀ (i : Nat) s, G[i]? = some s → FitB s.2 ∧ ∃ b off, a = some ⟨b, off, none⟩ ∧ w.cell? ⟨b, off + i * 4, none⟩ = some (.int .i64 s.1) ∧ w.cell? ⟨b, off + i * 4 + 1, none⟩ = some (tx s.2.1) ∧
    w.cell? ⟨b, off + i * 4 + 2, none⟩ = some (tx s.2.2.1) ∧ w.cell? ⟨b, off + i * 4 + 3, none⟩ = some (tx s.2.2.2)
theorem StpAt.below {w w' : World} {a : Option Addr} {len : Nat} {G : List (Int × Bnd)} (h : StpAt w a len G) (hb : Below w.heap.size w w') : StpAt w' a len G :=
  ⟨h.size, fun i s hs => by
    obtain ⟨h1, b, off, e, c0, c1, c2, c3⟩ := h.at_ i s hs
    exact ⟨h1, b, off, e, cellOn (c := (b, _)) c0 hb, cellOn (c := (b, _)) c1 hb, cellOn (c := (b, _)) c2 hb, cellOn (c := (b, _)) c3 hb⟩⟩

theorem step_of {w : World} {cs : List Value} (h : ReadS Try.prog w 33 cs) : ∃ n : Int, ∃ b : Bnd, cs = [.int .i64 n, tx b.1, tx b.2.1, tx b.2.2] ∧ FitB b := by
  have hu : Try.prog.underlying 33 = some (.struct (Try.prog.fieldsOf 33)) := by kernel_rfl
  have hv : Try.prog.underlying 31 = some (.struct (Try.prog.fieldsOf 31)) := by kernel_rfl
  obtain ⟨h1, h2⟩ := h.struct hu
  rw [show Try.prog.cellsOf 33 = 4 by kernel_rfl] at h1
  have hi : Try.prog.cellsOf 3 = 1 := by kernel_rfl
  have hb : Try.prog.cellsOf 31 = 3 := by kernel_rfl
  have hs : Try.prog.cellsOf 9 = 1 := by kernel_rfl
  have uInt : Try.prog.underlying 3 = some (.int .i64) := by kernel_rfl
  have f0 : ((Try.prog.fieldsOf 33)[0]?).map (fun f => (f.type, f.offset)) = some (3, 0) := by kernel_rfl
  have f1 : ((Try.prog.fieldsOf 33)[1]?).map (fun f => (f.type, f.offset)) = some (31, 1) := by kernel_rfl
  have g0 : ((Try.prog.fieldsOf 31)[0]?).map (fun f => (f.type, f.offset)) = some (9, 0) := by kernel_rfl
  have g1 : ((Try.prog.fieldsOf 31)[1]?).map (fun f => (f.type, f.offset)) = some (9, 1) := by kernel_rfl
  have g2 : ((Try.prog.fieldsOf 31)[2]?).map (fun f => (f.type, f.offset)) = some (9, 2) := by kernel_rfl
  simp only [Option.map_eq_some_iff, Prod.mk.injEq] at f0 f1 g0 g1 g2
  obtain ⟨x0, e0, t0, o0⟩ := f0
  obtain ⟨x1, e1, t1, o1⟩ := f1
  obtain ⟨y0, k0, s0, p0⟩ := g0
  obtain ⟨y1, k1, s1, p1⟩ := g1
  obtain ⟨y2, k2, s2, p2⟩ := g2
  have r0 := h2 0 x0 e0
  have r1 := h2 1 x1 e1
  rw [t0, o0, hi] at r0
  rw [t1, o1, hb] at r1
  obtain ⟨m1, m2⟩ := r1.struct hv
  have q0 := m2 0 y0 k0
  have q1 := m2 1 y1 k1
  have q2 := m2 2 y2 k2
  rw [s0, p0, hs] at q0
  rw [s1, p1, hs] at q1
  rw [s2, p2, hs] at q2
  obtain ⟨n, c0, -⟩ := r0.read.int uInt
  obtain ⟨a, c1, l1⟩ := q0.string uStr6
  obtain ⟨b, c2, l2⟩ := q1.string uStr6
  obtain ⟨c, c3, l3⟩ := q2.string uStr6
  obtain ⟨z0, z1, z2, z3, rfl⟩ : ∃ z0 z1 z2 z3, cs = [z0, z1, z2, z3] := by
    match cs, h1 with
    | [z0, z1, z2, z3], _ => exact ⟨z0, z1, z2, z3, rfl⟩
  simp at c0 c1 c2 c3
  subst c0 c1 c2 c3
  exact ⟨n, (a.data.toList, b.data.toList, c.data.toList), rfl, l1, l2, l3⟩

theorem StpAt.of {w : World} {a : Option Addr} {len : Nat} {rd : Nat → List Value} (h : RowsS Try.prog w 33 a len rd) : ∃ G, StpAt w a len G := by
  have hco : Try.prog.cellsOf 33 = 4 := by kernel_rfl
  have key : ∀ i, ∃ s : Int × Bnd, i < len → rd i = [.int .i64 s.1, tx s.2.1, tx s.2.2.1, tx s.2.2.2] ∧ FitB s.2 := by
    intro i
    by_cases hi : i < len
    · obtain ⟨n, b, h1, h2⟩ := step_of (h.at_ i hi).1
      exact ⟨(n, b), fun _ => ⟨h1, h2⟩⟩
    · exact ⟨(0, [], [], []), fun h => absurd h hi⟩
  refine ⟨(List.range len).map fun i => (key i).choose, by simp, fun i s hs => ?_⟩
  have hi : i < len := by
    have := (List.getElem?_eq_some_iff.1 hs).1
    simpa using this
  rw [List.getElem?_map, List.getElem?_range hi, Option.map_some, Option.some.injEq] at hs
  obtain ⟨h1, h2⟩ := (key i).choose_spec hi
  rw [hs] at h1 h2
  obtain ⟨_, _, b, off, ha, hc⟩ := h.at_ i hi
  rw [hco] at hc
  refine ⟨h2, b, off, ha, ?_, ?_, ?_, ?_⟩
  · exact hc 0 _ (by rw [h1]; rfl)
  · exact hc 1 _ (by rw [h1]; rfl)
  · exact hc 2 _ (by rw [h1]; rfl)
  · exact hc 3 _ (by rw [h1]; rfl)
end Go.Proofs.Ytpogfbnaendfoaa
