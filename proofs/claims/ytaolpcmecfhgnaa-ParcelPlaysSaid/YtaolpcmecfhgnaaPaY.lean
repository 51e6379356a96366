/- ParcelPlays: the steps that came in; both parcels side by side. -/
import Derived.Test.YtaolpcmecfhgnaaPaU
import Derived.Test.YtaolpcmecfhgnaaArgs
namespace Go.Proofs.Ytaolpcmecfhgnaa
open Go.RowKit
set_option linter.unusedVariables false
set_option linter.unusedSectionVars false
set_option maxRecDepth 100000

structure S21 where
  what : Int
  bits : Int
  a : List UInt8
  b : List UInt8
  s : Int
  r : Int
  t : Int
def cells21 (x : S21) : List Value := [.int .i64 x.what, .int .i64 x.bits, tx x.a, tx x.b, .int .i64 x.s, .int .i64 x.r, .int .i64 x.t]
abbrev stO21 (x : S21) : Obj := .cells #[.int .i64 x.what, .int .i64 x.bits, tx x.a, tx x.b, .int .i64 x.s, .int .i64 x.r, .int .i64 x.t] 34
abbrev StRow21 (w : World) (b o : Nat) (x : S21) : Prop := w.cell? ⟨b, o, none⟩ = some (.int .i64 x.what) ∧ w.cell? ⟨b, o + 1, none⟩ = some (.int .i64 x.bits) ∧ w.cell? ⟨b, o + 2, none⟩ = some (tx x.a) ∧ w.cell? ⟨b, o + 3, none⟩ = some (tx x.b) ∧ w.cell? ⟨b, o + 4, none⟩ = some (.int .i64 x.s) ∧ w.cell? ⟨b, o + 5, none⟩ = some (.int .i64 x.r) ∧ w.cell? ⟨b, o + 6, none⟩ = some (.int .i64 x.t)
theorem StRow21.below {w w' : World} {b o : Nat} {x : S21} (h : StRow21 w b o x) (hb : Below w.heap.size w w') : StRow21 w' b o x := by
  obtain ⟨h0, h1, h2, h3, h4, h5, h6⟩ := h
  exact ⟨cellUp h0 hb, cellUp h1 hb, cellUp h2 hb, cellUp h3 hb, cellUp h4 hb, cellUp h5 hb, cellUp h6 hb⟩
structure Stp21 (w : World) (a : Option Addr) (len : Nat) (G : List S21) : Prop where
  size : G.length = len
  at_ : ∀ (i : Nat) x, G[i]? = some x → ∃ b off, a = some ⟨b, off, none⟩ ∧ StRow21 w b (off + i * 7) x
theorem Stp21.below {w w' : World} {a : Option Addr} {len : Nat} {G : List S21} (h : Stp21 w a len G) (hb : Below w.heap.size w w') : Stp21 w' a len G :=
  ⟨h.size, fun i s hs => by
    obtain ⟨b, off, e, h2⟩ := h.at_ i s hs
    exact ⟨b, off, e, h2.below hb⟩⟩
theorem uInt21 : Try.prog.underlying 3 = some (.int .i64) := by kernel_rfl
theorem content_of21 {w : World} {cs : List Value} (h : Read Try.prog w 32 cs) : ∃ s r t : Int, cs = [.int .i64 s, .int .i64 r, .int .i64 t] := by
  have hu : Try.prog.underlying 32 = some (.struct (Try.prog.fieldsOf 32)) := by kernel_rfl
  obtain ⟨h1, h2⟩ := h.struct hu
  rw [show Try.prog.cellsOf 32 = 3 by kernel_rfl] at h1
  have hi : Try.prog.cellsOf 3 = 1 := by kernel_rfl
  have f0 : ((Try.prog.fieldsOf 32)[0]?).map (fun f => (f.type, f.offset)) = some (3, 0) := by kernel_rfl
  have f1 : ((Try.prog.fieldsOf 32)[1]?).map (fun f => (f.type, f.offset)) = some (3, 1) := by kernel_rfl
  have f2 : ((Try.prog.fieldsOf 32)[2]?).map (fun f => (f.type, f.offset)) = some (3, 2) := by kernel_rfl
  simp only [Option.map_eq_some_iff, Prod.mk.injEq] at f0 f1 f2
  obtain ⟨x0, e0, t0, o0⟩ := f0
  obtain ⟨x1, e1, t1, o1⟩ := f1
  obtain ⟨x2, e2, t2, o2⟩ := f2
  have r0 := h2 0 x0 e0
  have r1 := h2 1 x1 e1
  have r2 := h2 2 x2 e2
  rw [t0, o0, hi] at r0
  rw [t1, o1, hi] at r1
  rw [t2, o2, hi] at r2
  obtain ⟨n0, c0, -⟩ := r0.int uInt21
  obtain ⟨n1, c1, -⟩ := r1.int uInt21
  obtain ⟨n2, c2, -⟩ := r2.int uInt21
  match cs, h1 with
  | [z0, z1, z2], _ =>
    simp at c0 c1 c2
    subst c0 c1 c2
    exact ⟨_, _, _, rfl⟩
theorem step21_of {w : World} {cs : List Value} (h : Read Try.prog w 34 cs) : ∃ x : S21, cs = cells21 x := by
  have hu : Try.prog.underlying 34 = some (.struct (Try.prog.fieldsOf 34)) := by kernel_rfl
  obtain ⟨h1, h2⟩ := h.struct hu
  rw [show Try.prog.cellsOf 34 = 7 by kernel_rfl] at h1
  have hi : Try.prog.cellsOf 3 = 1 := by kernel_rfl
  have hs : Try.prog.cellsOf 9 = 1 := by kernel_rfl
  have hc : Try.prog.cellsOf 32 = 3 := by kernel_rfl
  have uStr : Try.prog.underlying 9 = some .string := by kernel_rfl
  have f0 : ((Try.prog.fieldsOf 34)[0]?).map (fun f => (f.type, f.offset)) = some (3, 0) := by kernel_rfl
  have f1 : ((Try.prog.fieldsOf 34)[1]?).map (fun f => (f.type, f.offset)) = some (3, 1) := by kernel_rfl
  have f2 : ((Try.prog.fieldsOf 34)[2]?).map (fun f => (f.type, f.offset)) = some (9, 2) := by kernel_rfl
  have f3 : ((Try.prog.fieldsOf 34)[3]?).map (fun f => (f.type, f.offset)) = some (9, 3) := by kernel_rfl
  have f4 : ((Try.prog.fieldsOf 34)[4]?).map (fun f => (f.type, f.offset)) = some (32, 4) := by kernel_rfl
  simp only [Option.map_eq_some_iff, Prod.mk.injEq] at f0 f1 f2 f3 f4
  obtain ⟨x0, e0, t0, o0⟩ := f0
  obtain ⟨x1, e1, t1, o1⟩ := f1
  obtain ⟨x2, e2, t2, o2⟩ := f2
  obtain ⟨x3, e3, t3, o3⟩ := f3
  obtain ⟨x4, e4, t4, o4⟩ := f4
  have r0 := h2 0 x0 e0
  have r1 := h2 1 x1 e1
  have r2 := h2 2 x2 e2
  have r3 := h2 3 x3 e3
  have r4 := h2 4 x4 e4
  rw [t0, o0, hi] at r0
  rw [t1, o1, hi] at r1
  rw [t2, o2, hs] at r2
  rw [t3, o3, hs] at r3
  rw [t4, o4, hc] at r4
  obtain ⟨n0, c0, -⟩ := r0.int uInt21
  obtain ⟨n1, c1, -⟩ := r1.int uInt21
  obtain ⟨n2, c2, -⟩ := r2.string uStr
  obtain ⟨n3, c3, -⟩ := r3.string uStr
  obtain ⟨s, r, t, c4⟩ := content_of21 r4
  match cs, h1 with
  | [z0, z1, z2, z3, z4, z5, z6], _ =>
    simp at c0 c1 c2 c3 c4
    obtain ⟨c4, c5, c6⟩ := c4
    subst c0 c1 c2 c3 c4 c5 c6
    exact ⟨⟨n0, n1, n2.data.toList, n3.data.toList, s, r, t⟩, rfl⟩
theorem Stp21.of {w : World} {a : Option Addr} {len : Nat} {rd : Nat → List Value} (h : RowsAt Try.prog w 34 a len rd) : ∃ G, Stp21 w a len G := by
  have hco : Try.prog.cellsOf 34 = 7 := by kernel_rfl
  have key : ∀ i, ∃ x : S21, i < len → rd i = cells21 x := by
    intro i
    by_cases hi : i < len
    · obtain ⟨s, h1⟩ := step21_of (h.at_ i hi).1
      exact ⟨s, fun _ => h1⟩
    · exact ⟨⟨0, 0, [], [], 0, 0, 0⟩, fun h => absurd h hi⟩
  refine ⟨(List.range len).map fun i => (key i).choose, by simp, fun i s hs => ?_⟩
  have hi : i < len := by
    have := (List.getElem?_eq_some_iff.1 hs).1
    simpa using this
  rw [List.getElem?_map, List.getElem?_range hi, Option.map_some, Option.some.injEq] at hs
  have h1 := (key i).choose_spec hi
  rw [hs] at h1
  obtain ⟨_, _, b, off, ha, hc⟩ := h.at_ i hi
  rw [hco] at hc
  refine ⟨b, off, ha, ?_⟩
  have kk : ∀ {k : Nat} {v : Value}, (cells21 s)[k]? = some v → w.cell? ⟨b, off + i * 7 + k, none⟩ = some v := fun hk => hc _ _ (by rw [h1]; exact hk)
  exact ⟨kk (k := 0) rfl, kk (k := 1) rfl, kk (k := 2) rfl, kk (k := 3) rfl, kk (k := 4) rfl, kk (k := 5) rfl, kk (k := 6) rfl⟩

/-! ### side by side -/
abbrev refO (p : Pcl) : Obj := rpO (!decide (p.next = 0)) (decide (2 ≤ p.next)) p
section
variable {B : Nat} {w0 w w' : World} {pb rb qb : Nat} {p q : Pcl} {Y : List (Nat × Obj)}
/-- Both parcels hold p. -/
def Law21 (B : Nat) (w0 w : World) (pb rb : Nat) (p : Pcl) (Y : List (Nat × Obj)) : Prop := PaIs B w0 w pb p ((rb, refO p) :: Y)
theorem PaIs.ref (h : PaIs B w0 w pb q ((rb, refO p) :: Y)) : ∃ Z, RPaIs B w0 w rb p (Z ++ Y) ∧ ∀ w' p', RPaIs B w0 w' rb p' (Z ++ Y) → PaIs B w0 w' pb q ((rb, refO p') :: Y) := by
  obtain ⟨Z, z, k⟩ := h.beside
  exact ⟨Z, z.perm List.perm_middle, fun w' p' h => k _ _ (St.perm h List.perm_middle.symm)⟩
theorem law_begin (h : Law21 B w0 w pb rb p Y) (e k : List UInt8) (b : Int) (h1 : e.length ≤ 300) (h2 : k.length ≤ 300) : Calls Try.prog 8 #[pptr pb, tx e, tx k, .int .i64 b] w fun r w' => r = .returned (.int .i64 (beginP p e k b).1) ∧ PaIs B w0 w' pb (beginP p e k b).2 ((rb, refO p) :: Y) :=
  pa_begin h e k b (by omega) (by omega)
theorem law_rbegin (h : PaIs B w0 w pb q ((rb, refO p) :: Y)) (ok : OkP p) (e k : List UInt8) (b : Int) (hq : (beginP p e k b).2 = q) : Calls Try.prog 9 #[pptr rb, tx e, tx k, .int .i64 b] w fun r w' => r = .returned (.int .i64 (beginP p e k b).1) ∧ Law21 B w0 w' pb rb q Y := by
  obtain ⟨Z, z, k'⟩ := h.ref
  refine (rf_begin z ok e k b).mono ?_
  rintro r w' ⟨rfl, h'⟩
  rw [hq] at h'
  exact ⟨rfl, k' _ _ h'⟩
theorem law_rhead (h : PaIs B w0 w pb q ((rb, refO p) :: Y)) (hb : p.bytes.length ≤ 1000000) (s r t : Int) (hq : (headP p s r t).2 = q) : Calls Try.prog 11 #[pptr rb, cntV s r t] w fun v w' => v = .returned (.tuple #[.bool (headP p s r t).1.1, .int .i64 (headP p s r t).1.2]) ∧ Law21 B w0 w' pb rb q Y := by
  obtain ⟨Z, z, k'⟩ := h.ref
  refine (rf_head z hb s r t).mono ?_
  rintro v w' ⟨rfl, h'⟩
  rw [hq] at h'
  exact ⟨rfl, k' _ _ h'⟩
theorem law_rbody (h : PaIs B w0 w pb q ((rb, refO p) :: Y)) (ok : OkP p) (y : List UInt8) (hb : p.bytes.length + y.length ≤ 1000000) (hq : (bodyP p y).2 = q) : Calls Try.prog 13 #[pptr rb, tx y] w fun v w' => v = .returned (.tuple #[.bool (bodyP p y).1.1, .int .i64 (bodyP p y).1.2]) ∧ Law21 B w0 w' pb rb q Y := by
  obtain ⟨Z, z, k'⟩ := h.ref
  refine (rf_body z ok y hb).mono ?_
  rintro v w' ⟨rfl, h'⟩
  rw [hq] at h'
  exact ⟨rfl, k' _ _ h'⟩
theorem law_rtake (h : PaIs B w0 w pb q ((rb, refO p) :: Y)) (ok : OkP p) (hb : p.bytes.length ≤ 1000000) (hq : (takeP p).2 = q) : Calls Try.prog 15 #[pptr rb] w fun v w' => v = .returned (.tuple #[enV (takeP p).1.1, tx (takeP p).1.2.1, .int .i64 (takeP p).1.2.2]) ∧ Law21 B w0 w' pb rb q Y := by
  obtain ⟨Z, z, k'⟩ := h.ref
  refine (rf_take z ok hb).mono ?_
  rintro v w' ⟨rfl, h'⟩
  rw [hq] at h'
  exact ⟨rfl, k' _ _ h'⟩
/-- Both sides behind i steps. -/
def Pl21 (w : World) (pb rb i : Nat) (Y : List (Nat × Obj)) (W : World) : Prop := ∃ p, OkP p ∧ p.bytes.length ≤ 300 * i ∧ Law21 w.heap.size w W pb rb p Y
end
end Go.Proofs.Ytaolpcmecfhgnaa
