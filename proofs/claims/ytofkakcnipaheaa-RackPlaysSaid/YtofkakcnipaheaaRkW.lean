/- The steps of RackPlays that came in. -/
import Derived.Test.YtofkakcnipaheaaRkT
import Derived.Test.YtofkakcnipaheaaSzR
namespace Go.Proofs.Ytofkakcnipaheaa
open Go.RowKit
set_option linter.unusedVariables false
set_option maxRecDepth 100000

/-- Texts that may be cloned. -/
def FitT (e : Ent) : Prop := e.exch.length ≤ 140737488351232 ∧ e.key.length ≤ 140737488351232
abbrev StRow (w : World) (b o : Nat) (s : Int × Ent) : Prop := w.cell? ⟨b, o, none⟩ = some (.int .i64 s.1) ∧ w.cell? ⟨b, o + 1, none⟩ = some (.int .i64 s.2.id) ∧ w.cell? ⟨b, o + 2, none⟩ = some (.int .i64 s.2.body) ∧ w.cell? ⟨b, o + 3, none⟩ = some (.int .i64 s.2.size) ∧ w.cell? ⟨b, o + 4, none⟩ = some (tx s.2.exch) ∧ w.cell? ⟨b, o + 5, none⟩ = some (tx s.2.key) ∧
  w.cell? ⟨b, o + 6, none⟩ = some (.int .i64 s.2.prio) ∧ w.cell? ⟨b, o + 7, none⟩ = some (.int .i64 s.2.ttl) ∧ w.cell? ⟨b, o + 8, none⟩ = some (.int .i64 s.2.til) ∧ w.cell? ⟨b, o + 9, none⟩ = some (.bool s.2.again) ∧ w.cell? ⟨b, o + 10, none⟩ = some (.int .i64 s.2.hops)
theorem StRow.below {w w' : World} {b o : Nat} {s : Int × Ent} (h : StRow w b o s) (hb : Below w.heap.size w w') : StRow w' b o s := by
  obtain ⟨h0, h1, h2, h3, h4, h5, h6, h7, h8, h9, h10⟩ := h
  exact ⟨cellUp h0 hb, cellUp h1 hb, cellUp h2 hb, cellUp h3 hb, cellUp h4 hb, cellUp h5 hb, cellUp h6 hb, cellUp h7 hb, cellUp h8 hb, cellUp h9 hb, cellUp h10 hb⟩
structure Stp15 (w : World) (a : Option Addr) (len : Nat) (G : List (Int × Ent)) : Prop where
  size : G.length = len
  at_ : ∀ (i : Nat) s, G[i]? = some s → FitT s.2 ∧ ∃ b off, a = some ⟨b, off, none⟩ ∧ StRow w b (off + i * 11) s
theorem Stp15.below {w w' : World} {a : Option Addr} {len : Nat} {G : List (Int × Ent)} (h : Stp15 w a len G) (hb : Below w.heap.size w w') : Stp15 w' a len G :=
  ⟨h.size, fun i s hs => by
    obtain ⟨h1, b, off, e, h2⟩ := h.at_ i s hs
    exact ⟨h1, b, off, e, h2.below hb⟩⟩
def ecellsS (s : Int × Ent) : List Value := .int .i64 s.1 :: ecells s.2

theorem uEntryS : Try.prog.underlying 28 = some (.struct (Try.prog.fieldsOf 28)) := by kernel_rfl
theorem entryS_of {w : World} {cs : List Value} (h : ReadS Try.prog w 28 cs) : ∃ e : Ent, cs = ecells e ∧ FitT e := by
  obtain ⟨h1, h2⟩ := h.struct uEntryS
  have hc : Try.prog.cellsOf 28 = 10 := by kernel_rfl
  have hi : Try.prog.cellsOf 3 = 1 := by kernel_rfl
  have hs : Try.prog.cellsOf 9 = 1 := by kernel_rfl
  have hb : Try.prog.cellsOf 4 = 1 := by kernel_rfl
  rw [hc] at h1
  have f0 : ((Try.prog.fieldsOf 28)[0]?).map (fun f => (f.type, f.offset)) = some (3, 0) := by kernel_rfl
  have f1 : ((Try.prog.fieldsOf 28)[1]?).map (fun f => (f.type, f.offset)) = some (3, 1) := by kernel_rfl
  have f2 : ((Try.prog.fieldsOf 28)[2]?).map (fun f => (f.type, f.offset)) = some (3, 2) := by kernel_rfl
  have f3 : ((Try.prog.fieldsOf 28)[3]?).map (fun f => (f.type, f.offset)) = some (9, 3) := by kernel_rfl
  have f4 : ((Try.prog.fieldsOf 28)[4]?).map (fun f => (f.type, f.offset)) = some (9, 4) := by kernel_rfl
  have f5 : ((Try.prog.fieldsOf 28)[5]?).map (fun f => (f.type, f.offset)) = some (3, 5) := by kernel_rfl
  have f6 : ((Try.prog.fieldsOf 28)[6]?).map (fun f => (f.type, f.offset)) = some (3, 6) := by kernel_rfl
  have f7 : ((Try.prog.fieldsOf 28)[7]?).map (fun f => (f.type, f.offset)) = some (3, 7) := by kernel_rfl
  have f8 : ((Try.prog.fieldsOf 28)[8]?).map (fun f => (f.type, f.offset)) = some (4, 8) := by kernel_rfl
  have f9 : ((Try.prog.fieldsOf 28)[9]?).map (fun f => (f.type, f.offset)) = some (3, 9) := by kernel_rfl
  simp only [Option.map_eq_some_iff, Prod.mk.injEq] at f0 f1 f2 f3 f4 f5 f6 f7 f8 f9
  obtain ⟨g0, e0, t0, o0⟩ := f0
  have r0 := h2 0 g0 e0
  rw [t0, o0, hi] at r0
  obtain ⟨g1, e1, t1, o1⟩ := f1
  have r1 := h2 1 g1 e1
  rw [t1, o1, hi] at r1
  obtain ⟨g2, e2, t2, o2⟩ := f2
  have r2 := h2 2 g2 e2
  rw [t2, o2, hi] at r2
  obtain ⟨g3, e3, t3, o3⟩ := f3
  have r3 := h2 3 g3 e3
  rw [t3, o3, hs] at r3
  obtain ⟨g4, e4, t4, o4⟩ := f4
  have r4 := h2 4 g4 e4
  rw [t4, o4, hs] at r4
  obtain ⟨g5, e5, t5, o5⟩ := f5
  have r5 := h2 5 g5 e5
  rw [t5, o5, hi] at r5
  obtain ⟨g6, e6, t6, o6⟩ := f6
  have r6 := h2 6 g6 e6
  rw [t6, o6, hi] at r6
  obtain ⟨g7, e7, t7, o7⟩ := f7
  have r7 := h2 7 g7 e7
  rw [t7, o7, hi] at r7
  obtain ⟨g8, e8, t8, o8⟩ := f8
  have r8 := h2 8 g8 e8
  rw [t8, o8, hb] at r8
  obtain ⟨g9, e9, t9, o9⟩ := f9
  have r9 := h2 9 g9 e9
  rw [t9, o9, hi] at r9
  match cs, h1 with
  | [x0, x1, x2, x3, x4, x5, x6, x7, x8, x9], _ =>
    have uInt : Try.prog.underlying 3 = some (.int .i64) := by kernel_rfl
    have uStr : Try.prog.underlying 9 = some .string := by kernel_rfl
    have uBool : Try.prog.underlying 4 = some .bool := by kernel_rfl
    obtain ⟨n0, q0, w0⟩ := r0.read.int uInt
    obtain ⟨n1, q1, w1⟩ := r1.read.int uInt
    obtain ⟨n2, q2, w2⟩ := r2.read.int uInt
    obtain ⟨n3, q3, w3⟩ := r3.string uStr
    obtain ⟨n4, q4, w4⟩ := r4.string uStr
    obtain ⟨n5, q5, w5⟩ := r5.read.int uInt
    obtain ⟨n6, q6, w6⟩ := r6.read.int uInt
    obtain ⟨n7, q7, w7⟩ := r7.read.int uInt
    obtain ⟨n8, q8⟩ := r8.read.bool uBool
    obtain ⟨n9, q9, w9⟩ := r9.read.int uInt
    simp at q0 q1 q2 q3 q4 q5 q6 q7 q8 q9
    subst q0 q1 q2 q3 q4 q5 q6 q7 q8 q9
    exact ⟨⟨n0, n1, n2, n3.data.toList, n4.data.toList, n5, n6, n7, n8, n9⟩, rfl, w3, w4⟩
theorem step15_of {w : World} {cs : List Value} (h : ReadS Try.prog w 30 cs) : ∃ s : Int × Ent, cs = ecellsS s ∧ FitT s.2 := by
  have hu : Try.prog.underlying 30 = some (.struct (Try.prog.fieldsOf 30)) := by kernel_rfl
  obtain ⟨h1, h2⟩ := h.struct hu
  rw [show Try.prog.cellsOf 30 = 11 by kernel_rfl] at h1
  have hi : Try.prog.cellsOf 3 = 1 := by kernel_rfl
  have he : Try.prog.cellsOf 28 = 10 := by kernel_rfl
  have uInt : Try.prog.underlying 3 = some (.int .i64) := by kernel_rfl
  have f0 : ((Try.prog.fieldsOf 30)[0]?).map (fun f => (f.type, f.offset)) = some (3, 0) := by kernel_rfl
  have f1 : ((Try.prog.fieldsOf 30)[1]?).map (fun f => (f.type, f.offset)) = some (28, 1) := by kernel_rfl
  simp only [Option.map_eq_some_iff, Prod.mk.injEq] at f0 f1
  obtain ⟨x0, e0, t0, o0⟩ := f0
  obtain ⟨x1, e1, t1, o1⟩ := f1
  have r0 := h2 0 x0 e0
  have r1 := h2 1 x1 e1
  rw [t0, o0, hi] at r0
  rw [t1, o1, he] at r1
  obtain ⟨n, c0, -⟩ := r0.read.int uInt
  obtain ⟨e, c1, fit⟩ := entryS_of r1
  match cs, h1 with
  | z :: zs, h1 =>
    simp at c0 h1
    subst c0
    have : zs = ecells e := by
      rw [List.drop_one, List.tail_cons, List.take_of_length_le (by omega)] at c1
      exact c1
    rw [this]
    exact ⟨(n, e), rfl, fit⟩
theorem Stp15.of {w : World} {a : Option Addr} {len : Nat} {rd : Nat → List Value} (h : RowsS Try.prog w 30 a len rd) : ∃ G, Stp15 w a len G := by
  have hco : Try.prog.cellsOf 30 = 11 := by kernel_rfl
  have key : ∀ i, ∃ s : Int × Ent, i < len → rd i = ecellsS s ∧ FitT s.2 := by
    intro i
    by_cases hi : i < len
    · obtain ⟨s, h1, h2⟩ := step15_of (h.at_ i hi).1
      exact ⟨s, fun _ => ⟨h1, h2⟩⟩
    · exact ⟨(0, z0E), fun h => absurd h hi⟩
  refine ⟨(List.range len).map fun i => (key i).choose, by simp, fun i s hs => ?_⟩
  have hi : i < len := by
    have := (List.getElem?_eq_some_iff.1 hs).1
    simpa using this
  rw [List.getElem?_map, List.getElem?_range hi, Option.map_some, Option.some.injEq] at hs
  obtain ⟨h1, h2⟩ := (key i).choose_spec hi
  rw [hs] at h1 h2
  obtain ⟨_, _, b, off, ha, hc⟩ := h.at_ i hi
  rw [hco] at hc
  refine ⟨h2, b, off, ha, ?_⟩
  have kk : ∀ {k : Nat} {v : Value}, (ecellsS s)[k]? = some v → w.cell? ⟨b, off + i * 11 + k, none⟩ = some v := fun hk => hc _ _ (by rw [h1]; exact hk)
  exact ⟨kk (k := 0) rfl, kk (k := 1) rfl, kk (k := 2) rfl, kk (k := 3) rfl, kk (k := 4) rfl, kk (k := 5) rfl, kk (k := 6) rfl, kk (k := 7) rfl, kk (k := 8) rfl, kk (k := 9) rfl, kk (k := 10) rfl⟩
end Go.Proofs.Ytofkakcnipaheaa
