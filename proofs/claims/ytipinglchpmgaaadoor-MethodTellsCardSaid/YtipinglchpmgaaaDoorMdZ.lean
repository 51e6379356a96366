/- Methods that came in. -/
import Derived.Test.YtipinglchpmgaaaDoorMdL
import Derived.Test.YtipinglchpmgaaaDoorTxts
namespace Go.Proofs.YtipinglchpmgaaaDoor
open Go.RowKit
set_option linter.unusedVariables false

theorem slice_form {P : Program} {w : World} {t e : TypeId} {cs : List Value} (ht : P.underlying t = some (.slice e)) (h : Read P w t cs) : ∃ a len cap, cs = [.slice a len cap] ∧ len ≤ cap ∧ cap ≤ maxLen := by
  obtain ⟨H, enc, b, sp, held, _, _, h⟩ := h
  rcases Go.Deep.open_slice ht h with ⟨hcs, _⟩ | ⟨a', len', cap', m, fuel', D, Pl, hcs, _, hl, hm, hmm, _, hi⟩
  · exact ⟨none, 0, 0, hcs, Nat.le_refl _, Nat.zero_le _⟩
  · exact ⟨some a', len', cap', hcs, hl, hm⟩
theorem txts_of {w : World} {cs : List Value} (h : Read Tryd.prog w 22 cs) : ∃ v L, cs = [v] ∧ TxtS w v L := by
  obtain ⟨a, len, cap, rfl, h1, h2⟩ := slice_form uStrs8 h
  obtain ⟨rd, hr⟩ := h.slice uStrs8 (by decide +kernel)
  obtain ⟨L, hL⟩ := TextsAt.of hr
  obtain ⟨hs, hx⟩ := hL
  subst hs
  exact ⟨_, L, rfl, a, cap, rfl, h1, h2, hx⟩
theorem nums_of {w : World} {cs : List Value} (h : Read Tryd.prog w 23 cs) : ∃ v L, cs = [v] ∧ NumS w v L := by
  obtain ⟨a, len, cap, rfl, h1, h2⟩ := slice_form uInts8 h
  obtain ⟨rd, hr⟩ := h.slice uInts8 (by decide +kernel)
  have hco : Tryd.prog.cellsOf 3 = 1 := by kernel_rfl
  have uInt : Tryd.prog.underlying 3 = some (.int .i64) := by kernel_rfl
  have key : ∀ i, ∃ x : Int, i < len → rd i = [.int .i64 x] := by
    intro i
    by_cases hi : i < len
    · obtain ⟨s, h1, h2⟩ := (hr.at_ i hi).1.int uInt
      exact ⟨s, fun _ => h1⟩
    · exact ⟨0, fun h => absurd h hi⟩
  have hsz : ((List.range len).map fun i => (key i).choose).length = len := by simp
  refine ⟨_, (List.range len).map fun i => (key i).choose, rfl, a, cap, by rw [hsz], by rw [hsz]; exact h1, h2, fun i x hx => ?_⟩
  have hi : i < len := by
    have := (List.getElem?_eq_some_iff.1 hx).1
    simpa using this
  rw [List.getElem?_map, List.getElem?_range hi, Option.map_some, Option.some.injEq] at hx
  have h1 := (key i).choose_spec hi
  rw [hx] at h1
  obtain ⟨_, _, b, off, ha, hc⟩ := hr.at_ i hi
  refine ⟨b, off, ha, ?_⟩
  have := hc 0 (.int .i64 x) (by rw [h1]; rfl)
  rwa [hco, Nat.mul_one] at this

theorem meth_of {w : World} {cs : Array Value} (h : Read Tryd.prog w 25 cs.toList) : ∃ m a c a2 c2, (.agg cs : Value) = aV m a c a2 c2 ∧ RdM w (aV m a c a2 c2) m := by
  have hu : Tryd.prog.underlying 25 = some (.struct (Tryd.prog.fieldsOf 25)) := by kernel_rfl
  obtain ⟨h1, h2⟩ := h.struct hu
  have hc : Tryd.prog.cellsOf 25 = 4 := by kernel_rfl
  have hi : Tryd.prog.cellsOf 3 = 1 := by kernel_rfl
  have hs : Tryd.prog.cellsOf 22 = 1 := by kernel_rfl
  have hn : Tryd.prog.cellsOf 23 = 1 := by kernel_rfl
  rw [hc] at h1
  have f0 : ((Tryd.prog.fieldsOf 25)[0]?).map (fun f => (f.type, f.offset)) = some (3, 0) := by kernel_rfl
  have f1 : ((Tryd.prog.fieldsOf 25)[1]?).map (fun f => (f.type, f.offset)) = some (22, 1) := by kernel_rfl
  have f2 : ((Tryd.prog.fieldsOf 25)[2]?).map (fun f => (f.type, f.offset)) = some (23, 2) := by kernel_rfl
  have f3 : ((Tryd.prog.fieldsOf 25)[3]?).map (fun f => (f.type, f.offset)) = some (3, 3) := by kernel_rfl
  simp only [Option.map_eq_some_iff, Prod.mk.injEq] at f0 f1 f2 f3
  obtain ⟨g0, e0, t0, o0⟩ := f0
  obtain ⟨g1, e1, t1, o1⟩ := f1
  obtain ⟨g2, e2, t2, o2⟩ := f2
  obtain ⟨g3, e3, t3, o3⟩ := f3
  have r0 := h2 0 g0 e0
  have r1 := h2 1 g1 e1
  have r2 := h2 2 g2 e2
  have r3 := h2 3 g3 e3
  rw [t0, o0, hi] at r0
  rw [t1, o1, hs] at r1
  rw [t2, o2, hn] at r2
  rw [t3, o3, hi] at r3
  obtain ⟨cl⟩ := cs
  simp only at h1 r0 r1 r2 r3
  match cl, h1 with
  | [x, y, z, u], _ =>
    have uInt : Tryd.prog.underlying 3 = some (.int .i64) := by kernel_rfl
    obtain ⟨k, hk, wk⟩ := r0.int uInt
    obtain ⟨b, hb, wb⟩ := r3.int uInt
    obtain ⟨v, S, hv, hS⟩ := txts_of r1
    obtain ⟨v2, N, hv2, hN⟩ := nums_of r2
    simp at hk hb hv hv2
    subst hk hb hv hv2
    have hR : RdM w (.agg #[.int .i64 k, y, z, .int .i64 b]) ⟨k, S, N, b⟩ := ⟨y, z, rfl, hS, hN⟩
    obtain ⟨a, c, a2, c2, e⟩ := hR.form
    exact ⟨_, a, c, a2, c2, e, e ▸ hR⟩
end Go.Proofs.YtipinglchpmgaaaDoor
