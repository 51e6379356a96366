/- Entries that came in. -/
import Derived.Test.YtbjbpoldghbokaaEnF
import Derived.Test.YtbjbpoldghbokaaSzR
namespace Go.Proofs.Ytbjbpoldghbokaa
open Go.RowKit
open Go.ChangeMaps (setBlock)
set_option linter.unusedVariables false
set_option linter.unusedSectionVars false
set_option linter.unusedSimpArgs false
set_option maxRecDepth 100000

/-- Texts that may be cloned. -/
def FitT (e : Ent) : Prop := e.exch.length ≤ 140737488351232 ∧ e.key.length ≤ 140737488351232
theorem uEntryS : Try.prog.underlying 30 = some (.struct (Try.prog.fieldsOf 30)) := by kernel_rfl
theorem entryS_of {w : World} {cs : List Value} (h : ReadS Try.prog w 30 cs) : ∃ e : Ent, cs = ecells e ∧ FitT e := by
  obtain ⟨h1, h2⟩ := h.struct uEntryS
  have hc : Try.prog.cellsOf 30 = 10 := by kernel_rfl
  have hi : Try.prog.cellsOf 3 = 1 := by kernel_rfl
  have hs : Try.prog.cellsOf 9 = 1 := by kernel_rfl
  have hb : Try.prog.cellsOf 4 = 1 := by kernel_rfl
  rw [hc] at h1
  have f0 : ((Try.prog.fieldsOf 30)[0]?).map (fun f => (f.type, f.offset)) = some (3, 0) := by kernel_rfl
  have f1 : ((Try.prog.fieldsOf 30)[1]?).map (fun f => (f.type, f.offset)) = some (3, 1) := by kernel_rfl
  have f2 : ((Try.prog.fieldsOf 30)[2]?).map (fun f => (f.type, f.offset)) = some (3, 2) := by kernel_rfl
  have f3 : ((Try.prog.fieldsOf 30)[3]?).map (fun f => (f.type, f.offset)) = some (9, 3) := by kernel_rfl
  have f4 : ((Try.prog.fieldsOf 30)[4]?).map (fun f => (f.type, f.offset)) = some (9, 4) := by kernel_rfl
  have f5 : ((Try.prog.fieldsOf 30)[5]?).map (fun f => (f.type, f.offset)) = some (3, 5) := by kernel_rfl
  have f6 : ((Try.prog.fieldsOf 30)[6]?).map (fun f => (f.type, f.offset)) = some (3, 6) := by kernel_rfl
  have f7 : ((Try.prog.fieldsOf 30)[7]?).map (fun f => (f.type, f.offset)) = some (3, 7) := by kernel_rfl
  have f8 : ((Try.prog.fieldsOf 30)[8]?).map (fun f => (f.type, f.offset)) = some (4, 8) := by kernel_rfl
  have f9 : ((Try.prog.fieldsOf 30)[9]?).map (fun f => (f.type, f.offset)) = some (3, 9) := by kernel_rfl
  simp only [Option.map_eq_some_iff, Prod.mk.injEq] at f0 f1 f2 f3 f4 f5 f6 f7 f8 f9
  obtain ⟨g0, e0, t0, o0⟩ := f0
  have r0 := h2 0 g0 e0
  rw [t0, o0, hi] at r0
  obtain ⟨g1, e1, t1, o1⟩ := f1
  have r1 := h2 1 g1 e1
  rw [t1, o1, hi] at r1
  obtain ⟨g2, e2, t2, o2⟩ := f2
  have r2 := h2 2 g2 e2
  rw [t2, o2, hi] at r2
  obtain ⟨g3, e3, t3, o3⟩ := f3
  have r3 := h2 3 g3 e3
  rw [t3, o3, hs] at r3
  obtain ⟨g4, e4, t4, o4⟩ := f4
  have r4 := h2 4 g4 e4
  rw [t4, o4, hs] at r4
  obtain ⟨g5, e5, t5, o5⟩ := f5
  have r5 := h2 5 g5 e5
  rw [t5, o5, hi] at r5
  obtain ⟨g6, e6, t6, o6⟩ := f6
  have r6 := h2 6 g6 e6
  rw [t6, o6, hi] at r6
  obtain ⟨g7, e7, t7, o7⟩ := f7
  have r7 := h2 7 g7 e7
  rw [t7, o7, hi] at r7
  obtain ⟨g8, e8, t8, o8⟩ := f8
  have r8 := h2 8 g8 e8
  rw [t8, o8, hb] at r8
  obtain ⟨g9, e9, t9, o9⟩ := f9
  have r9 := h2 9 g9 e9
  rw [t9, o9, hi] at r9
  match cs, h1 with
  | [x0, x1, x2, x3, x4, x5, x6, x7, x8, x9], _ =>
    have uInt : Try.prog.underlying 3 = some (.int .i64) := by kernel_rfl
    have uStr : Try.prog.underlying 9 = some .string := by kernel_rfl
    have uBool : Try.prog.underlying 4 = some .bool := by kernel_rfl
    obtain ⟨n0, q0, w0⟩ := r0.read.int uInt
    obtain ⟨n1, q1, w1⟩ := r1.read.int uInt
    obtain ⟨n2, q2, w2⟩ := r2.read.int uInt
    obtain ⟨n3, q3, w3⟩ := r3.string uStr
    obtain ⟨n4, q4, w4⟩ := r4.string uStr
    obtain ⟨n5, q5, w5⟩ := r5.read.int uInt
    obtain ⟨n6, q6, w6⟩ := r6.read.int uInt
    obtain ⟨n7, q7, w7⟩ := r7.read.int uInt
    obtain ⟨n8, q8⟩ := r8.read.bool uBool
    obtain ⟨n9, q9, w9⟩ := r9.read.int uInt
    simp at q0 q1 q2 q3 q4 q5 q6 q7 q8 q9
    subst q0 q1 q2 q3 q4 q5 q6 q7 q8 q9
    exact ⟨⟨n0, n1, n2, n3.data.toList, n4.data.toList, n5, n6, n7, n8, n9⟩, rfl, w3, w4⟩
end Go.Proofs.Ytbjbpoldghbokaa
