/- The steps of DraftPlays that came in. -/
import Derived.Test.YtbjbpoldghbokaaDrA
import Derived.Test.YtbjbpoldghbokaaEnS
namespace Go.Proofs.Ytbjbpoldghbokaa
open Go.RowKit
set_option linter.unusedVariables false
set_option maxRecDepth 100000

/-- What, Tag, N, the entry. -/
abbrev S20 := Int × Int × Int × Ent
def cells20 (s : S20) : List Value := .int .i64 s.1 :: .int .i64 s.2.1 :: .int .i64 s.2.2.1 :: ecells s.2.2.2
abbrev StRow20 (w : World) (b o : Nat) (s : S20) : Prop := w.cell? ⟨b, o, none⟩ = some (.int .i64 s.1) ∧ w.cell? ⟨b, o + 1, none⟩ = some (.int .i64 s.2.1) ∧ w.cell? ⟨b, o + 2, none⟩ = some (.int .i64 s.2.2.1) ∧ w.cell? ⟨b, o + 3, none⟩ = some (.int .i64 s.2.2.2.id) ∧ w.cell? ⟨b, o + 4, none⟩ = some (.int .i64 s.2.2.2.body) ∧ w.cell? ⟨b, o + 5, none⟩ = some (.int .i64 s.2.2.2.size) ∧ w.cell? ⟨b, o + 6, none⟩ = some (tx s.2.2.2.exch) ∧ w.cell? ⟨b, o + 7, none⟩ = some (tx s.2.2.2.key) ∧
  w.cell? ⟨b, o + 8, none⟩ = some (.int .i64 s.2.2.2.prio) ∧ w.cell? ⟨b, o + 9, none⟩ = some (.int .i64 s.2.2.2.ttl) ∧ w.cell? ⟨b, o + 10, none⟩ = some (.int .i64 s.2.2.2.til) ∧ w.cell? ⟨b, o + 11, none⟩ = some (.bool s.2.2.2.again) ∧ w.cell? ⟨b, o + 12, none⟩ = some (.int .i64 s.2.2.2.hops)
theorem StRow20.below {w w' : World} {b o : Nat} {s : S20} (h : StRow20 w b o s) (hb : Below w.heap.size w w') : StRow20 w' b o s := by
  obtain ⟨h0, h1, h2, h3, h4, h5, h6, h7, h8, h9, h10, h11, h12⟩ := h
  exact ⟨cellUp h0 hb, cellUp h1 hb, cellUp h2 hb, cellUp h3 hb, cellUp h4 hb, cellUp h5 hb, cellUp h6 hb, cellUp h7 hb, cellUp h8 hb, cellUp h9 hb, cellUp h10 hb, cellUp h11 hb, cellUp h12 hb⟩
structure Stp20 (w : World) (a : Option Addr) (len : Nat) (G : List S20) : Prop where
  size : G.length = len
  at_ : ∀ (i : Nat) s, G[i]? = some s → FitT s.2.2.2 ∧ ∃ b off, a = some ⟨b, off, none⟩ ∧ StRow20 w b (off + i * 13) s
theorem Stp20.below {w w' : World} {a : Option Addr} {len : Nat} {G : List S20} (h : Stp20 w a len G) (hb : Below w.heap.size w w') : Stp20 w' a len G :=
  ⟨h.size, fun i s hs => by
    obtain ⟨h1, b, off, e, h2⟩ := h.at_ i s hs
    exact ⟨h1, b, off, e, h2.below hb⟩⟩
theorem step20_of {w : World} {cs : List Value} (h : ReadS Try.prog w 32 cs) : ∃ s : S20, cs = cells20 s ∧ FitT s.2.2.2 := by
  have hu : Try.prog.underlying 32 = some (.struct (Try.prog.fieldsOf 32)) := by kernel_rfl
  obtain ⟨h1, h2⟩ := h.struct hu
  rw [show Try.prog.cellsOf 32 = 13 by kernel_rfl] at h1
  have hi : Try.prog.cellsOf 3 = 1 := by kernel_rfl
  have he : Try.prog.cellsOf 30 = 10 := by kernel_rfl
  have uInt : Try.prog.underlying 3 = some (.int .i64) := by kernel_rfl
  have f0 : ((Try.prog.fieldsOf 32)[0]?).map (fun f => (f.type, f.offset)) = some (3, 0) := by kernel_rfl
  have f1 : ((Try.prog.fieldsOf 32)[1]?).map (fun f => (f.type, f.offset)) = some (3, 1) := by kernel_rfl
  have f2 : ((Try.prog.fieldsOf 32)[2]?).map (fun f => (f.type, f.offset)) = some (3, 2) := by kernel_rfl
  have f3 : ((Try.prog.fieldsOf 32)[3]?).map (fun f => (f.type, f.offset)) = some (30, 3) := by kernel_rfl
  simp only [Option.map_eq_some_iff, Prod.mk.injEq] at f0 f1 f2 f3
  obtain ⟨x0, e0, t0, o0⟩ := f0
  obtain ⟨x1, e1, t1, o1⟩ := f1
  obtain ⟨x2, e2, t2, o2⟩ := f2
  obtain ⟨x3, e3, t3, o3⟩ := f3
  have r0 := h2 0 x0 e0
  have r1 := h2 1 x1 e1
  have r2 := h2 2 x2 e2
  have r3 := h2 3 x3 e3
  rw [t0, o0, hi] at r0
  rw [t1, o1, hi] at r1
  rw [t2, o2, hi] at r2
  rw [t3, o3, he] at r3
  obtain ⟨n0, c0, -⟩ := r0.read.int uInt
  obtain ⟨n1, c1, -⟩ := r1.read.int uInt
  obtain ⟨n2, c2, -⟩ := r2.read.int uInt
  obtain ⟨e, c3, fit⟩ := entryS_of r3
  match cs, h1 with
  | z0 :: z1 :: z2 :: zs, h1 =>
    simp at c0 c1 c2 h1
    subst c0 c1 c2
    have : zs = ecells e := by
      have hd : List.drop 3 (Value.int .i64 n0 :: .int .i64 n1 :: .int .i64 n2 :: zs) = zs := rfl
      rw [hd, List.take_of_length_le (by omega)] at c3
      exact c3
    rw [this]
    exact ⟨(n0, n1, n2, e), rfl, fit⟩
theorem Stp20.of {w : World} {a : Option Addr} {len : Nat} {rd : Nat → List Value} (h : RowsS Try.prog w 32 a len rd) : ∃ G, Stp20 w a len G := by
  have hco : Try.prog.cellsOf 32 = 13 := by kernel_rfl
  have key : ∀ i, ∃ s : S20, i < len → rd i = cells20 s ∧ FitT s.2.2.2 := by
    intro i
    by_cases hi : i < len
    · obtain ⟨s, h1, h2⟩ := step20_of (h.at_ i hi).1
      exact ⟨s, fun _ => ⟨h1, h2⟩⟩
    · exact ⟨(0, 0, 0, z0E), fun h => absurd h hi⟩
  refine ⟨(List.range len).map fun i => (key i).choose, by simp, fun i s hs => ?_⟩
  have hi : i < len := by
    have := (List.getElem?_eq_some_iff.1 hs).1
    simpa using this
  rw [List.getElem?_map, List.getElem?_range hi, Option.map_some, Option.some.injEq] at hs
  obtain ⟨h1, h2⟩ := (key i).choose_spec hi
  rw [hs] at h1 h2
  obtain ⟨_, _, b, off, ha, hc⟩ := h.at_ i hi
  rw [hco] at hc
  refine ⟨h2, b, off, ha, ?_⟩
  have kk : ∀ {k : Nat} {v : Value}, (cells20 s)[k]? = some v → w.cell? ⟨b, off + i * 13 + k, none⟩ = some v := fun hk => hc _ _ (by rw [h1]; exact hk)
  exact ⟨kk (k := 0) rfl, kk (k := 1) rfl, kk (k := 2) rfl, kk (k := 3) rfl, kk (k := 4) rfl, kk (k := 5) rfl, kk (k := 6) rfl, kk (k := 7) rfl, kk (k := 8) rfl, kk (k := 9) rfl, kk (k := 10) rfl, kk (k := 11) rfl, kk (k := 12) rfl⟩
end Go.Proofs.Ytbjbpoldghbokaa
