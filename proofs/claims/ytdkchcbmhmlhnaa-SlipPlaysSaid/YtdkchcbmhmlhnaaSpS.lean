/- The steps of SlipPlays that came in. -/
import Derived.Test.YtdkchcbmhmlhnaaSpD
import Derived.Test.YtdkchcbmhmlhnaaSzR
namespace Go.Proofs.Ytdkchcbmhmlhnaa
open Go.RowKit
set_option linter.unusedVariables false
set_option maxRecDepth 100000

abbrev SlStRow (w : World) (b o : Nat) (s : Int × Slp) : Prop := w.cell? ⟨b, o, none⟩ = some (.int .i64 s.1) ∧ SlRow w b (o + 1) s.2
theorem SlStRow.below {w w' : World} {b o : Nat} {s : Int × Slp} (h : SlStRow w b o s) (hb : Below w.heap.size w w') : SlStRow w' b o s := ⟨cellUp h.1 hb, h.2.below hb⟩
structure Stp17 (w : World) (a : Option Addr) (len : Nat) (G : List (Int × Slp)) : Prop where
  size : G.length = len
  at_ : ∀ (i : Nat) s, G[i]? = some s → FitL s.2 ∧ ∃ b off, a = some ⟨b, off, none⟩ ∧ SlStRow w b (off + i * 14) s
theorem Stp17.below {w w' : World} {a : Option Addr} {len : Nat} {G : List (Int × Slp)} (h : Stp17 w a len G) (hb : Below w.heap.size w w') : Stp17 w' a len G :=
  ⟨h.size, fun i s hs => by
    obtain ⟨h1, b, off, e, h2⟩ := h.at_ i s hs
    exact ⟨h1, b, off, e, h2.below hb⟩⟩
def scellsS (s : Int × Slp) : List Value := .int .i64 s.1 :: scells s.2

theorem entry17_of {w : World} {cs : List Value} (h : ReadS Try.prog w 31 cs) : ∃ (i b z : Int) (ex ky : List UInt8) (p t u : Int) (ag : Bool) (ho : Int),
    cs = [.int .i64 i, .int .i64 b, .int .i64 z, tx ex, tx ky, .int .i64 p, .int .i64 t, .int .i64 u, .bool ag, .int .i64 ho] ∧ ex.length ≤ 140737488351232 ∧ ky.length ≤ 140737488351232 := by
  have uE : Try.prog.underlying 31 = some (.struct (Try.prog.fieldsOf 31)) := by kernel_rfl
  obtain ⟨h1, h2⟩ := h.struct uE
  have hc : Try.prog.cellsOf 31 = 10 := by kernel_rfl
  have hi : Try.prog.cellsOf 3 = 1 := by kernel_rfl
  have hs : Try.prog.cellsOf 9 = 1 := by kernel_rfl
  have hb : Try.prog.cellsOf 4 = 1 := by kernel_rfl
  rw [hc] at h1
  have f0 : ((Try.prog.fieldsOf 31)[0]?).map (fun f => (f.type, f.offset)) = some (3, 0) := by kernel_rfl
  have f1 : ((Try.prog.fieldsOf 31)[1]?).map (fun f => (f.type, f.offset)) = some (3, 1) := by kernel_rfl
  have f2 : ((Try.prog.fieldsOf 31)[2]?).map (fun f => (f.type, f.offset)) = some (3, 2) := by kernel_rfl
  have f3 : ((Try.prog.fieldsOf 31)[3]?).map (fun f => (f.type, f.offset)) = some (9, 3) := by kernel_rfl
  have f4 : ((Try.prog.fieldsOf 31)[4]?).map (fun f => (f.type, f.offset)) = some (9, 4) := by kernel_rfl
  have f5 : ((Try.prog.fieldsOf 31)[5]?).map (fun f => (f.type, f.offset)) = some (3, 5) := by kernel_rfl
  have f6 : ((Try.prog.fieldsOf 31)[6]?).map (fun f => (f.type, f.offset)) = some (3, 6) := by kernel_rfl
  have f7 : ((Try.prog.fieldsOf 31)[7]?).map (fun f => (f.type, f.offset)) = some (3, 7) := by kernel_rfl
  have f8 : ((Try.prog.fieldsOf 31)[8]?).map (fun f => (f.type, f.offset)) = some (4, 8) := by kernel_rfl
  have f9 : ((Try.prog.fieldsOf 31)[9]?).map (fun f => (f.type, f.offset)) = some (3, 9) := by kernel_rfl
  simp only [Option.map_eq_some_iff, Prod.mk.injEq] at f0 f1 f2 f3 f4 f5 f6 f7 f8 f9
  obtain ⟨g0, e0, t0, o0⟩ := f0
  have r0 := h2 0 g0 e0
  rw [t0, o0, hi] at r0
  obtain ⟨g1, e1, t1, o1⟩ := f1
  have r1 := h2 1 g1 e1
  rw [t1, o1, hi] at r1
  obtain ⟨g2, e2, t2, o2⟩ := f2
  have r2 := h2 2 g2 e2
  rw [t2, o2, hi] at r2
  obtain ⟨g3, e3, t3, o3⟩ := f3
  have r3 := h2 3 g3 e3
  rw [t3, o3, hs] at r3
  obtain ⟨g4, e4, t4, o4⟩ := f4
  have r4 := h2 4 g4 e4
  rw [t4, o4, hs] at r4
  obtain ⟨g5, e5, t5, o5⟩ := f5
  have r5 := h2 5 g5 e5
  rw [t5, o5, hi] at r5
  obtain ⟨g6, e6, t6, o6⟩ := f6
  have r6 := h2 6 g6 e6
  rw [t6, o6, hi] at r6
  obtain ⟨g7, e7, t7, o7⟩ := f7
  have r7 := h2 7 g7 e7
  rw [t7, o7, hi] at r7
  obtain ⟨g8, e8, t8, o8⟩ := f8
  have r8 := h2 8 g8 e8
  rw [t8, o8, hb] at r8
  obtain ⟨g9, e9, t9, o9⟩ := f9
  have r9 := h2 9 g9 e9
  rw [t9, o9, hi] at r9
  match cs, h1 with
  | [x0, x1, x2, x3, x4, x5, x6, x7, x8, x9], _ =>
    have uInt : Try.prog.underlying 3 = some (.int .i64) := by kernel_rfl
    have uStr : Try.prog.underlying 9 = some .string := by kernel_rfl
    have uBool : Try.prog.underlying 4 = some .bool := by kernel_rfl
    obtain ⟨n0, q0, w0⟩ := r0.read.int uInt
    obtain ⟨n1, q1, w1⟩ := r1.read.int uInt
    obtain ⟨n2, q2, w2⟩ := r2.read.int uInt
    obtain ⟨n3, q3, w3⟩ := r3.string uStr
    obtain ⟨n4, q4, w4⟩ := r4.string uStr
    obtain ⟨n5, q5, w5⟩ := r5.read.int uInt
    obtain ⟨n6, q6, w6⟩ := r6.read.int uInt
    obtain ⟨n7, q7, w7⟩ := r7.read.int uInt
    obtain ⟨n8, q8⟩ := r8.read.bool uBool
    obtain ⟨n9, q9, w9⟩ := r9.read.int uInt
    simp at q0 q1 q2 q3 q4 q5 q6 q7 q8 q9
    subst q0 q1 q2 q3 q4 q5 q6 q7 q8 q9
    exact ⟨n0, n1, n2, n3.data.toList, n4.data.toList, n5, n6, n7, n8, n9, rfl, w3, w4⟩
theorem slip17_of {w : World} {cs : List Value} (h : ReadS Try.prog w 33 cs) : ∃ x : Slp, cs = scells x ∧ FitL x := by
  have uL : Try.prog.underlying 33 = some (.struct (Try.prog.fieldsOf 33)) := by kernel_rfl
  obtain ⟨h1, h2⟩ := h.struct uL
  have hc : Try.prog.cellsOf 33 = 13 := by kernel_rfl
  have hi : Try.prog.cellsOf 3 = 1 := by kernel_rfl
  have hs : Try.prog.cellsOf 9 = 1 := by kernel_rfl
  have he : Try.prog.cellsOf 31 = 10 := by kernel_rfl
  rw [hc] at h1
  have f0 : ((Try.prog.fieldsOf 33)[0]?).map (fun f => (f.type, f.offset)) = some (3, 0) := by kernel_rfl
  have f1 : ((Try.prog.fieldsOf 33)[1]?).map (fun f => (f.type, f.offset)) = some (3, 1) := by kernel_rfl
  have f2 : ((Try.prog.fieldsOf 33)[2]?).map (fun f => (f.type, f.offset)) = some (9, 2) := by kernel_rfl
  have f3 : ((Try.prog.fieldsOf 33)[3]?).map (fun f => (f.type, f.offset)) = some (31, 3) := by kernel_rfl
  simp only [Option.map_eq_some_iff, Prod.mk.injEq] at f0 f1 f2 f3
  obtain ⟨g0, e0, t0, o0⟩ := f0
  have r0 := h2 0 g0 e0
  rw [t0, o0, hi] at r0
  obtain ⟨g1, e1, t1, o1⟩ := f1
  have r1 := h2 1 g1 e1
  rw [t1, o1, hi] at r1
  obtain ⟨g2, e2, t2, o2⟩ := f2
  have r2 := h2 2 g2 e2
  rw [t2, o2, hs] at r2
  obtain ⟨g3, e3, t3, o3⟩ := f3
  have r3 := h2 3 g3 e3
  rw [t3, o3, he] at r3
  have uInt : Try.prog.underlying 3 = some (.int .i64) := by kernel_rfl
  have uStr : Try.prog.underlying 9 = some .string := by kernel_rfl
  obtain ⟨n0, q0, -⟩ := r0.read.int uInt
  obtain ⟨n1, q1, -⟩ := r1.read.int uInt
  obtain ⟨n2, q2, w2⟩ := r2.string uStr
  obtain ⟨i, b, z, ex, ky, p, t, u, ag, ho, q3, w3, w4⟩ := entry17_of r3
  match cs, h1 with
  | x0 :: x1 :: x2 :: zs, h1 =>
    simp at q0 q1 q2 h1
    subst q0 q1 q2
    have : zs = [.int .i64 i, .int .i64 b, .int .i64 z, tx ex, tx ky, .int .i64 p, .int .i64 t, .int .i64 u, .bool ag, .int .i64 ho] := by
      rw [show (Value.int .i64 n0 :: .int .i64 n1 :: Value.string n2 :: zs).drop 3 = zs from rfl, List.take_of_length_le (by omega)] at q3
      exact q3
    rw [this]
    exact ⟨⟨n0, n1, n2.data.toList, i, b, z, ex, ky, p, t, u, ag, ho⟩, rfl, w2, w3, w4⟩
theorem step17_of {w : World} {cs : List Value} (h : ReadS Try.prog w 35 cs) : ∃ s : Int × Slp, cs = scellsS s ∧ FitL s.2 := by
  have hu : Try.prog.underlying 35 = some (.struct (Try.prog.fieldsOf 35)) := by kernel_rfl
  obtain ⟨h1, h2⟩ := h.struct hu
  rw [show Try.prog.cellsOf 35 = 14 by kernel_rfl] at h1
  have hi : Try.prog.cellsOf 3 = 1 := by kernel_rfl
  have he : Try.prog.cellsOf 33 = 13 := by kernel_rfl
  have uInt : Try.prog.underlying 3 = some (.int .i64) := by kernel_rfl
  have f0 : ((Try.prog.fieldsOf 35)[0]?).map (fun f => (f.type, f.offset)) = some (3, 0) := by kernel_rfl
  have f1 : ((Try.prog.fieldsOf 35)[1]?).map (fun f => (f.type, f.offset)) = some (33, 1) := by kernel_rfl
  simp only [Option.map_eq_some_iff, Prod.mk.injEq] at f0 f1
  obtain ⟨x0, e0, t0, o0⟩ := f0
  obtain ⟨x1, e1, t1, o1⟩ := f1
  have r0 := h2 0 x0 e0
  have r1 := h2 1 x1 e1
  rw [t0, o0, hi] at r0
  rw [t1, o1, he] at r1
  obtain ⟨n, c0, -⟩ := r0.read.int uInt
  obtain ⟨e, c1, fit⟩ := slip17_of r1
  match cs, h1 with
  | z :: zs, h1 =>
    simp at c0 h1
    subst c0
    have : zs = scells e := by
      rw [List.drop_one, List.tail_cons, List.take_of_length_le (by omega)] at c1
      exact c1
    rw [this]
    exact ⟨(n, e), rfl, fit⟩
theorem Stp17.of {w : World} {a : Option Addr} {len : Nat} {rd : Nat → List Value} (h : RowsS Try.prog w 35 a len rd) : ∃ G, Stp17 w a len G := by
  have hco : Try.prog.cellsOf 35 = 14 := by kernel_rfl
  have key : ∀ i, ∃ s : Int × Slp, i < len → rd i = scellsS s ∧ FitL s.2 := by
    intro i
    by_cases hi : i < len
    · obtain ⟨s, h1, h2⟩ := step17_of (h.at_ i hi).1
      exact ⟨s, fun _ => ⟨h1, h2⟩⟩
    · exact ⟨(0, z0L), fun h => absurd h hi⟩
  refine ⟨(List.range len).map fun i => (key i).choose, by simp, fun i s hs => ?_⟩
  have hi : i < len := by
    have := (List.getElem?_eq_some_iff.1 hs).1
    simpa using this
  rw [List.getElem?_map, List.getElem?_range hi, Option.map_some, Option.some.injEq] at hs
  obtain ⟨h1, h2⟩ := (key i).choose_spec hi
  rw [hs] at h1 h2
  obtain ⟨_, _, b, off, ha, hc⟩ := h.at_ i hi
  rw [hco] at hc
  refine ⟨h2, b, off, ha, ?_⟩
  have kk : ∀ {k : Nat} {v : Value}, (scellsS s)[k]? = some v → w.cell? ⟨b, off + i * 14 + k, none⟩ = some v := fun hk => hc _ _ (by rw [h1]; exact hk)
  exact ⟨kk (k := 0) rfl, kk (k := 1) rfl, kk (k := 2) rfl, kk (k := 3) rfl, kk (k := 4) rfl, kk (k := 5) rfl, kk (k := 6) rfl, kk (k := 7) rfl, kk (k := 8) rfl, kk (k := 9) rfl, kk (k := 10) rfl, kk (k := 11) rfl, kk (k := 12) rfl, kk (k := 13) rfl⟩
end Go.Proofs.Ytdkchcbmhmlhnaa
