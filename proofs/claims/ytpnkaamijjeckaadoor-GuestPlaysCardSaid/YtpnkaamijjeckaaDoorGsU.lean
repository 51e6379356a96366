/- The steps of GuestPlays that came in. -/
import Derived.Test.YtpnkaamijjeckaaDoorGsH
import Derived.Test.YtpnkaamijjeckaaDoorSzR
namespace Go.Proofs.YtpnkaamijjeckaaDoor
open Go.RowKit
set_option linter.unusedVariables false
set_option maxRecDepth 100000

/-- A step: what is done, a guest, who has spare. -/
structure StG where
  what : Int
  x : Gst
  sa : Option Addr
  sl : Nat
  sc : Nat
  sp : Nat → Bool
abbrev StgRow (w : World) (b o : Nat) (s : StG) : Prop := w.cell? ⟨b, o, none⟩ = some (.int .i64 s.what) ∧ GsRow w b (o + 1) s.x ∧ w.cell? ⟨b, o + 7, none⟩ = some (.slice s.sa s.sl s.sc)
theorem StgRow.below {w w' : World} {b o : Nat} {s : StG} (h : StgRow w b o s) (hb : Below w.heap.size w w') : StgRow w' b o s := ⟨cellUp h.1 hb, h.2.1.below hb, cellUp h.2.2 hb⟩
structure Stp18 (w : World) (a : Option Addr) (len : Nat) (G : List StG) : Prop where
  size : G.length = len
  at_ : ∀ (i : Nat) s, G[i]? = some s → (s.x.tag.length ≤ 140737488351232 ∧ SpAt w s.sa s.sl s.sp) ∧ ∃ b off, a = some ⟨b, off, none⟩ ∧ StgRow w b (off + i * 8) s
theorem Stp18.below {w w' : World} {a : Option Addr} {len : Nat} {G : List StG} (h : Stp18 w a len G) (hb : Below w.heap.size w w') : Stp18 w' a len G :=
  ⟨h.size, fun i s hs => by
    obtain ⟨⟨h1, h3⟩, b, off, e, h2⟩ := h.at_ i s hs
    exact ⟨⟨h1, h3.below hb⟩, b, off, e, h2.below hb⟩⟩
def stcells (s : StG) : List Value := .int .i64 s.what :: (gcells s.x ++ [.slice s.sa s.sl s.sc])

theorem guest18_of {w : World} {cs : List Value} (h : ReadS Tryd.prog w 31 cs) : ∃ x : Gst, cs = gcells x ∧ x.tag.length ≤ 140737488351232 := by
  have uE : Tryd.prog.underlying 31 = some (.struct (Tryd.prog.fieldsOf 31)) := by kernel_rfl
  obtain ⟨h1, h2⟩ := h.struct uE
  have hc : Tryd.prog.cellsOf 31 = 6 := by kernel_rfl
  have hi : Tryd.prog.cellsOf 3 = 1 := by kernel_rfl
  have hs : Tryd.prog.cellsOf 9 = 1 := by kernel_rfl
  have hb : Tryd.prog.cellsOf 4 = 1 := by kernel_rfl
  rw [hc] at h1
  have f0 : ((Tryd.prog.fieldsOf 31)[0]?).map (fun f => (f.type, f.offset)) = some (3, 0) := by kernel_rfl
  have f1 : ((Tryd.prog.fieldsOf 31)[1]?).map (fun f => (f.type, f.offset)) = some (3, 1) := by kernel_rfl
  have f2 : ((Tryd.prog.fieldsOf 31)[2]?).map (fun f => (f.type, f.offset)) = some (9, 2) := by kernel_rfl
  have f3 : ((Tryd.prog.fieldsOf 31)[3]?).map (fun f => (f.type, f.offset)) = some (3, 3) := by kernel_rfl
  have f4 : ((Tryd.prog.fieldsOf 31)[4]?).map (fun f => (f.type, f.offset)) = some (4, 4) := by kernel_rfl
  have f5 : ((Tryd.prog.fieldsOf 31)[5]?).map (fun f => (f.type, f.offset)) = some (4, 5) := by kernel_rfl
  simp only [Option.map_eq_some_iff, Prod.mk.injEq] at f0 f1 f2 f3 f4 f5
  obtain ⟨g0, e0, t0, o0⟩ := f0
  have r0 := h2 0 g0 e0
  rw [t0, o0, hi] at r0
  obtain ⟨g1, e1, t1, o1⟩ := f1
  have r1 := h2 1 g1 e1
  rw [t1, o1, hi] at r1
  obtain ⟨g2, e2, t2, o2⟩ := f2
  have r2 := h2 2 g2 e2
  rw [t2, o2, hs] at r2
  obtain ⟨g3, e3, t3, o3⟩ := f3
  have r3 := h2 3 g3 e3
  rw [t3, o3, hi] at r3
  obtain ⟨g4, e4, t4, o4⟩ := f4
  have r4 := h2 4 g4 e4
  rw [t4, o4, hb] at r4
  obtain ⟨g5, e5, t5, o5⟩ := f5
  have r5 := h2 5 g5 e5
  rw [t5, o5, hb] at r5
  match cs, h1 with
  | [x0, x1, x2, x3, x4, x5], _ =>
    have uInt : Tryd.prog.underlying 3 = some (.int .i64) := by kernel_rfl
    have uStr : Tryd.prog.underlying 9 = some .string := by kernel_rfl
    have uBool : Tryd.prog.underlying 4 = some .bool := by kernel_rfl
    obtain ⟨n0, q0, w0⟩ := r0.read.int uInt
    obtain ⟨n1, q1, w1⟩ := r1.read.int uInt
    obtain ⟨n2, q2, w2⟩ := r2.string uStr
    obtain ⟨n3, q3, w3⟩ := r3.read.int uInt
    obtain ⟨n4, q4⟩ := r4.read.bool uBool
    obtain ⟨n5, q5⟩ := r5.read.bool uBool
    simp at q0 q1 q2 q3 q4 q5
    subst q0 q1 q2 q3 q4 q5
    exact ⟨⟨n0, n1, n2.data.toList, n3, n4, n5⟩, rfl, w2⟩
/-- The bools that tell who has spare. -/
theorem spare18_of {w : World} {v : Value} (h : ReadS Tryd.prog w 32 [v]) : ∃ sa sl sc sp, v = .slice sa sl sc ∧ SpAt w sa sl sp := by
  have uB : Tryd.prog.underlying 32 = some (.slice 4) := by kernel_rfl
  have uBool : Tryd.prog.underlying 4 = some .bool := by kernel_rfl
  have hco : Tryd.prog.cellsOf 4 = 1 := by kernel_rfl
  have hv : ∃ sa sl sc, v = .slice sa sl sc := by
    obtain ⟨H, enc, b, sp, held, _, _, h, _⟩ := h
    rcases Go.Deep.open_slice uB h with ⟨hcs, _⟩ | ⟨a', len', cap', m, fuel', D, Pl, hcs, _⟩
    · simp at hcs
      exact ⟨none, 0, 0, hcs⟩
    · simp at hcs
      exact ⟨_, _, _, hcs⟩
  obtain ⟨sa, sl, sc, rfl⟩ := hv
  obtain ⟨rd, hr⟩ := h.slice uB (by rw [hco]; decide)
  have key : ∀ k, ∃ b : Bool, k < sl → rd k = [.bool b] := by
    intro k
    by_cases hk : k < sl
    · obtain ⟨b, hb⟩ := (hr.at_ k hk).1.read.bool uBool
      exact ⟨b, fun _ => hb⟩
    · exact ⟨false, fun h => absurd h hk⟩
  refine ⟨sa, sl, sc, fun k => (key k).choose, rfl, hr.top, fun k hk => ?_⟩
  have h1 := (key k).choose_spec hk
  obtain ⟨_, _, b, off, ha, hc⟩ := hr.at_ k hk
  refine ⟨b, off, ha, ?_⟩
  obtain ⟨bb, hbb⟩ : ∃ bb, bb = (key k).choose := ⟨_, rfl⟩
  rw [← hbb] at h1 ⊢
  have := hc 0 (.bool bb) (by rw [h1]; rfl)
  rwa [hco, Nat.mul_one] at this
theorem step18_of {w : World} {cs : List Value} (h : ReadS Tryd.prog w 34 cs) : ∃ s : StG, cs = stcells s ∧ s.x.tag.length ≤ 140737488351232 ∧ SpAt w s.sa s.sl s.sp := by
  have hu : Tryd.prog.underlying 34 = some (.struct (Tryd.prog.fieldsOf 34)) := by kernel_rfl
  obtain ⟨h1, h2⟩ := h.struct hu
  rw [show Tryd.prog.cellsOf 34 = 8 by kernel_rfl] at h1
  have hi : Tryd.prog.cellsOf 3 = 1 := by kernel_rfl
  have he : Tryd.prog.cellsOf 31 = 6 := by kernel_rfl
  have hs : Tryd.prog.cellsOf 32 = 1 := by kernel_rfl
  have uInt : Tryd.prog.underlying 3 = some (.int .i64) := by kernel_rfl
  have f0 : ((Tryd.prog.fieldsOf 34)[0]?).map (fun f => (f.type, f.offset)) = some (3, 0) := by kernel_rfl
  have f1 : ((Tryd.prog.fieldsOf 34)[1]?).map (fun f => (f.type, f.offset)) = some (31, 1) := by kernel_rfl
  have f2 : ((Tryd.prog.fieldsOf 34)[2]?).map (fun f => (f.type, f.offset)) = some (32, 7) := by kernel_rfl
  simp only [Option.map_eq_some_iff, Prod.mk.injEq] at f0 f1 f2
  obtain ⟨x0, e0, t0, o0⟩ := f0
  obtain ⟨x1, e1, t1, o1⟩ := f1
  obtain ⟨x2, e2, t2, o2⟩ := f2
  have r0 := h2 0 x0 e0
  have r1 := h2 1 x1 e1
  have r2 := h2 2 x2 e2
  rw [t0, o0, hi] at r0
  rw [t1, o1, he] at r1
  rw [t2, o2, hs] at r2
  match cs, h1 with
  | [y0, y1, y2, y3, y4, y5, y6, y7], _ =>
    obtain ⟨n, c0, -⟩ := r0.read.int uInt
    obtain ⟨x, c1, fit⟩ := guest18_of r1
    have r2' : ReadS Tryd.prog w 32 [y7] := r2
    obtain ⟨sa, sl, sc, sp, c2, hsp⟩ := spare18_of r2'
    simp at c0 c1
    subst c0 c2
    refine ⟨⟨n, x, sa, sl, sc, sp⟩, ?_, fit, hsp⟩
    show [Value.int .i64 n, y1, y2, y3, y4, y5, y6, .slice sa sl sc] = .int .i64 n :: (gcells x ++ [.slice sa sl sc])
    rw [← c1]
    rfl
theorem Stp18.of {w : World} {a : Option Addr} {len : Nat} {rd : Nat → List Value} (h : RowsS Tryd.prog w 34 a len rd) : ∃ G, Stp18 w a len G := by
  have hco : Tryd.prog.cellsOf 34 = 8 := by kernel_rfl
  have key : ∀ i, ∃ s : StG, i < len → rd i = stcells s ∧ s.x.tag.length ≤ 140737488351232 ∧ SpAt w s.sa s.sl s.sp := by
    intro i
    by_cases hi : i < len
    · obtain ⟨s, h1, h2⟩ := step18_of (h.at_ i hi).1
      exact ⟨s, fun _ => ⟨h1, h2⟩⟩
    · exact ⟨⟨0, z0G, none, 0, 0, fun _ => false⟩, fun h => absurd h hi⟩
  refine ⟨(List.range len).map fun i => (key i).choose, by simp, fun i s hs => ?_⟩
  have hi : i < len := by
    have := (List.getElem?_eq_some_iff.1 hs).1
    simpa using this
  rw [List.getElem?_map, List.getElem?_range hi, Option.map_some, Option.some.injEq] at hs
  obtain ⟨h1, h2⟩ := (key i).choose_spec hi
  rw [hs] at h1 h2
  obtain ⟨_, _, b, off, ha, hc⟩ := h.at_ i hi
  rw [hco] at hc
  refine ⟨h2, b, off, ha, ?_⟩
  have kk : ∀ {k : Nat} {v : Value}, (stcells s)[k]? = some v → w.cell? ⟨b, off + i * 8 + k, none⟩ = some v := fun hk => hc _ _ (by rw [h1]; exact hk)
  exact ⟨kk (k := 0) rfl, ⟨kk (k := 1) rfl, kk (k := 2) rfl, kk (k := 3) rfl, kk (k := 4) rfl, kk (k := 5) rfl, kk (k := 6) rfl⟩, kk (k := 7) rfl⟩
end Go.Proofs.YtpnkaamijjeckaaDoor
