/- Steps that came in; the law's own list of pairs: one cut out, one put behind. -/
import Derived.Test.YtbfelfejelkdpaaTtB
import Derived.Test.YtbfelfejelkdpaaTxts
namespace Go.Proofs.Ytbfelfejelkdpaa
open Go.RowKit
set_option linter.unusedVariables false
set_option linter.unusedSectionVars false
set_option linter.unusedSimpArgs false
set_option maxRecDepth 100000

/-- The slice at a with len elements reads as these steps. -/
structure Stp12 (w : World) (a : Option Addr) (len : Nat) (G : List (Bool × Tp)) : Prop where
  size : G.length = len
  at_ : ∀ (i : Nat) s, G[i]? = some s → (s.2.1.length ≤ maxLen ∧ -9223372036854775808 ≤ s.2.2 ∧ s.2.2 ≤ 9223372036854775807) ∧ ∃ b off, a = some ⟨b, off, none⟩ ∧ w.cell? ⟨b, off + i * 3, none⟩ = some (.bool s.1) ∧ w.cell? ⟨b, off + i * 3 + 1, none⟩ = some (tx s.2.1) ∧
    w.cell? ⟨b, off + i * 3 + 2, none⟩ = some (.int .i64 s.2.2)
theorem Stp12.below {w w' : World} {a : Option Addr} {len : Nat} {G : List (Bool × Tp)} (h : Stp12 w a len G) (hb : Below w.heap.size w w') : Stp12 w' a len G :=
  ⟨h.size, fun i s hs => by
    obtain ⟨h1, b, off, e, c0, c1, c2⟩ := h.at_ i s hs
    exact ⟨h1, b, off, e, cellUp c0 hb, cellUp c1 hb, cellUp c2 hb⟩⟩
theorem wf_i64 {z : Int} (h : (Lit.int .i64 z).wf = true) : -9223372036854775808 ≤ z ∧ z ≤ 9223372036854775807 := bounds_i64 h
theorem step12_of {w : World} {cs : List Value} (h : Read Try.prog w 28 cs) : ∃ s : Bool × Tp, cs = [.bool s.1, tx s.2.1, .int .i64 s.2.2] ∧ s.2.1.length ≤ maxLen ∧ -9223372036854775808 ≤ s.2.2 ∧ s.2.2 ≤ 9223372036854775807 := by
  have hu : Try.prog.underlying 28 = some (.struct (Try.prog.fieldsOf 28)) := by kernel_rfl
  obtain ⟨h1, h2⟩ := h.struct hu
  rw [show Try.prog.cellsOf 28 = 3 by kernel_rfl] at h1
  have hi : Try.prog.cellsOf 3 = 1 := by kernel_rfl
  have hb : Try.prog.cellsOf 4 = 1 := by kernel_rfl
  have hs : Try.prog.cellsOf 9 = 1 := by kernel_rfl
  have uInt : Try.prog.underlying 3 = some (.int .i64) := by kernel_rfl
  have uBool : Try.prog.underlying 4 = some .bool := by kernel_rfl
  have f0 : ((Try.prog.fieldsOf 28)[0]?).map (fun f => (f.type, f.offset)) = some (4, 0) := by kernel_rfl
  have f1 : ((Try.prog.fieldsOf 28)[1]?).map (fun f => (f.type, f.offset)) = some (9, 1) := by kernel_rfl
  have f2 : ((Try.prog.fieldsOf 28)[2]?).map (fun f => (f.type, f.offset)) = some (3, 2) := by kernel_rfl
  simp only [Option.map_eq_some_iff, Prod.mk.injEq] at f0 f1 f2
  obtain ⟨x0, e0, t0, o0⟩ := f0
  obtain ⟨x1, e1, t1, o1⟩ := f1
  obtain ⟨x2, e2, t2, o2⟩ := f2
  have r0 := h2 0 x0 e0
  have r1 := h2 1 x1 e1
  have r2 := h2 2 x2 e2
  rw [t0, o0, hb] at r0
  rw [t1, o1, hs] at r1
  rw [t2, o2, hi] at r2
  obtain ⟨d, c0⟩ := r0.bool uBool
  obtain ⟨s, c1, l1⟩ := r1.string uStr6
  obtain ⟨n, c2, wf⟩ := r2.int uInt
  obtain ⟨z0, z1, z2, rfl⟩ : ∃ z0 z1 z2, cs = [z0, z1, z2] := by
    match cs, h1 with
    | [z0, z1, z2], _ => exact ⟨z0, z1, z2, rfl⟩
  simp at c0 c1 c2
  subst c0 c1 c2
  exact ⟨(d, s.data.toList, n), rfl, l1, wf_i64 wf⟩
theorem Stp12.of {w : World} {a : Option Addr} {len : Nat} {rd : Nat → List Value} (h : RowsAt Try.prog w 28 a len rd) : ∃ G, Stp12 w a len G := by
  have hco : Try.prog.cellsOf 28 = 3 := by kernel_rfl
  have key : ∀ i, ∃ s : Bool × Tp, i < len → rd i = [.bool s.1, tx s.2.1, .int .i64 s.2.2] ∧ s.2.1.length ≤ maxLen ∧ -9223372036854775808 ≤ s.2.2 ∧ s.2.2 ≤ 9223372036854775807 := by
    intro i
    by_cases hi : i < len
    · obtain ⟨s, h1⟩ := step12_of (h.at_ i hi).1
      exact ⟨s, fun _ => h1⟩
    · exact ⟨(false, [], 0), fun h => absurd h hi⟩
  refine ⟨(List.range len).map fun i => (key i).choose, by simp, fun i s hs => ?_⟩
  have hi : i < len := by
    have := (List.getElem?_eq_some_iff.1 hs).1
    simpa using this
  rw [List.getElem?_map, List.getElem?_range hi, Option.map_some, Option.some.injEq] at hs
  obtain ⟨h1, h2⟩ := (key i).choose_spec hi
  rw [hs] at h1 h2
  obtain ⟨_, _, b, off, ha, hc⟩ := h.at_ i hi
  rw [hco] at hc
  exact ⟨h2, b, off, ha, hc 0 _ (by rw [h1]; rfl), hc 1 _ (by rw [h1]; rfl), hc 2 _ (by rw [h1]; rfl)⟩

/-! ### the law's own list -/
theorem apT : Ap Try.prog 22 28 3 32 where
  ty := by kernel_rfl
  info := by
    have h : (Try.prog.info? 28).map (fun i => (i.zero.map fun z => z.cells.size, i.size, i.bytes)) = some (some 3, 3, 32) := by kernel_rfl
    rw [Option.map_eq_some_iff] at h
    obtain ⟨i, h1, h2⟩ := h
    simp only [Prod.mk.injEq, Option.map_eq_some_iff] at h2
    obtain ⟨⟨z, h3, h4⟩, h5, h6⟩ := h2
    exact ⟨i, z, h1, h3, h5, h6, h4⟩
theorem tcells_one (L : List Tp) : ∀ u ∈ tcells L, u.oneCell' = true := fun u hu => by
  unfold tcells at hu
  rw [List.mem_flatMap] at hu
  obtain ⟨s, -, h⟩ := hu
  simp only [List.mem_cons, List.not_mem_nil, or_false] at h
  rcases h with rfl | rfl | rfl <;> rfl
abbrev TpsIs (v : Value) (L : List Tp) (S : List (Nat × Obj)) : Prop := SlIs 28 3 v L.length (tcells L) S
section
variable {B : Nat} {w0 w : World} {S X F : List (Nat × Obj)} {a : Option Addr} {c k tb cc : Nat} {L : List Tp} {M : Prs} {p : List UInt8} {z : Int}
theorem TpsIs.read (hs : TpsIs (.slice a L.length c) L S) (hst : St B w0 w (X ++ S)) : ReadTp w a L := fun i s hi => by
  obtain ⟨a', c', e, -, -, h⟩ := hs.form
  cases e
  obtain ⟨g, off, rfl⟩ := h i (List.getElem?_eq_some_iff.1 hi).1
  obtain ⟨h0, h1, h2⟩ := tcells_at hi
  exact ⟨g, off, rfl, hs.cellAt hst h0, hs.cellAt hst h1, hs.cellAt hst h2⟩
abbrev stO12 (d : Bool) (p : List UInt8) (z : Int) : Obj := .cells #[.bool d, tx p, .int .i64 z] 28
theorem tps_push (hs : TpsIs (.slice a L.length c) L S) (hst : St B w0 w (X ++ S)) (p : List UInt8) (z : Int) (hl : L.length ≤ 1000) :
    ∃ a' c' W S', (Builtin.append_ #[22, 22] 0 #[.slice a L.length c, .slice (some ⟨w.heap.size, 0, none⟩) 1 1]).run Try.prog (w.alloc (stO12 false p z)) = .ok (.slice a' (L ++ [(p, z)]).length c') W ∧
      TpsIs (.slice a' (L ++ [(p, z)]).length c') (L ++ [(p, z)]) S' ∧ St B w0 W (X ++ S') := by
  have hst1 := hst.alloc (stO12 false p z)
  have hb := hst1.get (b := w.heap.size) (o := stO12 false p z) List.mem_cons_self
  obtain ⟨a', c', W, S', q1, q2, q3⟩ := apT.append (A := (w.heap.size, stO12 false p z) :: X) hs hst1 (Reads.block (cs := tcells [(p, z)]) (n := 1) (size := 3) hb rfl 1) (tcells_one _) (by unfold maxLen; omega) (by omega)
  have e : L.length + 1 = (L ++ [(p, z)]).length := by rw [List.length_append]; rfl
  rw [e] at q1 q2
  rw [← tcells_app] at q2
  exact ⟨a', c', W, S', q1, q2, q3.sub (List.sublist_cons_self _ _)⟩
theorem tps_cut (hs : TpsIs (.slice a L.length c) L S) (hk : k < L.length) (hl : L.length ≤ 1000) :
    ∃ a1 c1 a2 n2 c2, (∀ w, (Instr.slice 22 (.slice a L.length c) none (some (.int .i64 k)) none).run Try.prog w = .ok (.slice a1 k c1) w) ∧
      (∀ w, (Instr.slice 22 (.slice a L.length c) (some (.int .i64 (k + 1))) none none).run Try.prog w = .ok (.slice a2 n2 c2) w) ∧
      ∀ w, St B w0 w (X ++ S) → ∃ a3 c3 W1, AppRun Try.prog 22 (.slice none 0 0) (.slice a1 k c1) w (.slice a3 k c3) W1 ∧
        ∃ a4 c4 W2 S', AppRun Try.prog 22 (.slice a3 k c3) (.slice a2 n2 c2) W1 (.slice a4 (L.take k ++ L.drop (k + 1)).length c4) W2 ∧
          TpsIs (.slice a4 (L.take k ++ L.drop (k + 1)).length c4) (L.take k ++ L.drop (k + 1)) S' ∧ St B w0 W2 (X ++ S') := by
  obtain ⟨a1, c1, -, -, h1, -, r1, -⟩ := apT.piece hs k (by omega)
  obtain ⟨-, -, a2, c2, -, h2, -, r2⟩ := apT.piece hs (k + 1) (by omega)
  rw [← tcells_take _ _ (by omega)] at h1
  rw [← tcells_drop _ _ (by omega)] at h2
  refine ⟨a1, c1, a2, L.length - (k + 1), c2, r1, fun w => r2 w, fun w hst => ?_⟩
  have rd : Reads w (.slice a1 k c1) k 3 (tcells (L.take k)) := SlIs.reads (A := X) h1 hst
  obtain ⟨a3, c3, W1, F1, q1, q2, q3⟩ := apT.copy hst rd (tcells_one _) (by unfold maxLen; omega) (by omega)
  refine ⟨a3, c3, W1, ⟨q1⟩, ?_⟩
  have rd2 : Reads W1 (.slice a2 (L.length - (k + 1)) c2) (L.length - (k + 1)) 3 (tcells (L.drop (k + 1))) := SlIs.reads (A := X ++ F1) h2 (q3.perm (by
    simp only [List.append_assoc]
    exact List.Perm.append_left _ List.perm_append_comm))
  obtain ⟨a4, c4, W2, F2, p1, p2, p3⟩ := apT.append q2 q3 rd2 (tcells_one _) (by unfold maxLen; omega) (by omega)
  have e : k + (L.length - (k + 1)) = (L.take k ++ L.drop (k + 1)).length := by
    rw [List.length_append, List.length_take, List.length_drop]
    omega
  rw [e] at p1 p2
  rw [← tcells_app] at p2
  exact ⟨a4, c4, W2, F2, ⟨p1⟩, p2, p3.sub ((List.sublist_append_left _ _).append (List.Sublist.refl _))⟩
end
end Go.Proofs.Ytbfelfejelkdpaa
