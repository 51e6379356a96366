/- Methods that are read: the memory of Read on the way. -/
import Derived.Test.YtipinglchpmgaaaDoorMdG
import Derived.Test.YtipinglchpmgaaaDoorEdit
import Derived.Test.YtipinglchpmgaaaDoorGoto
import Derived.RegionTactic
import Derived.ChangeAlike
namespace Go.Proofs.YtipinglchpmgaaaDoor
open Go.RowKit
set_option linter.unusedVariables false

section
variable {P : Program} {a : Act} {w : World} {Q : Exit → Act → World → Prop}
/-- Where a scope with three labels is left to: forward to 0 and 1, back to 2. -/
def three (J0 J1 : Act → World → Prop) (K : Act → World → Prop) (l : Nat) (a : Act) (w : World) : Prop := (l = 0 ∧ J0 a w) ∨ (l = 1 ∧ J1 a w) ∨ (l = 2 ∧ K a w)
/-- A scope with three labels: 2 is jumped back to; 1 lies behind it and falls to 0. -/
theorem wp_scope_three {c X0 X1 X2 : Code} (J0 J1 : Act → World → Prop) (J2 : Nat → Act → World → Prop)
    (h0 : findLabel c 0 = some (.seq .skip X0)) (h1 : findLabel c 1 = some (.seq .skip X1)) (h2 : findLabel c 2 = some (.seq .skip X2))
    (pass0 : ∀ a w, J0 a w → X0.wp P (jumps (fun _ _ _ => False) Q) a w)
    (pass1 : (∀ a w, J0 a w → X0.wp P (jumps (fun _ _ _ => False) Q) a w) → ∀ a w, J1 a w → X1.wp P (jumps (fun _ _ _ => False) Q) a w)
    (pass2 : ∀ n a w, J2 n a w → X2.wp P (jumps (three J0 J1 fun a' w' => ∃ m, m < n ∧ J2 m a' w') Q) a w)
    (first : (∀ n a w, J2 n a w → X2.wp P (jumps (three J0 J1 fun a' w' => ∃ m, J2 m a' w') Q) a w) → c.wp P (jumps (three J0 J1 fun a' w' => ∃ m, J2 m a' w') Q) a w) : (Code.scope c).wp P Q a w := by
  refine wp_scope_gotos (fun l => if l = 0 then X0 else if l = 1 then X1 else X2) (fun l n a w => (l = 0 ∧ n = 0 ∧ J0 a w) ∨ (l = 1 ∧ n = 1 ∧ J1 a w) ∨ (l = 2 ∧ ∃ m, n = m + 2 ∧ J2 m a w)) ?_ ?_ ?_
  · rintro l n a w (⟨rfl, _⟩ | ⟨rfl, _⟩ | ⟨rfl, _⟩)
    · exact h0
    · exact h1
    · exact h2
  · refine Code.wp_mono (jumps_mono ?_) (first fun n a w hJ => Code.wp_mono (jumps_mono ?_) (pass2 n a w hJ))
    · rintro l a' w' (⟨rfl, h⟩ | ⟨rfl, h⟩ | ⟨rfl, m, h⟩)
      · exact ⟨0, .inl ⟨rfl, rfl, h⟩⟩
      · exact ⟨1, .inr (.inl ⟨rfl, rfl, h⟩)⟩
      · exact ⟨m + 2, .inr (.inr ⟨rfl, m, rfl, h⟩)⟩
    · rintro l a' w' (⟨rfl, h⟩ | ⟨rfl, h⟩ | ⟨rfl, m, _, h⟩)
      · exact .inl ⟨rfl, h⟩
      · exact .inr (.inl ⟨rfl, h⟩)
      · exact .inr (.inr ⟨rfl, m, h⟩)
  · rintro l n a w (⟨rfl, rfl, h⟩ | ⟨rfl, rfl, h⟩ | ⟨rfl, m, rfl, h⟩)
    · exact Code.wp_mono (jumps_mono fun _ _ _ h => h.elim) (pass0 a w h)
    · exact Code.wp_mono (jumps_mono fun _ _ _ h => h.elim) (pass1 pass0 a w h)
    · refine Code.wp_mono (jumps_mono ?_) (pass2 m a w h)
      rintro l a' w' (⟨rfl, h⟩ | ⟨rfl, h⟩ | ⟨rfl, q, hq, h⟩)
      · exact ⟨0, by omega, .inl ⟨rfl, rfl, h⟩⟩
      · exact ⟨1, by omega, .inr (.inl ⟨rfl, rfl, h⟩)⟩
      · exact ⟨q + 2, by omega, .inr (.inr ⟨rfl, q, rfl, h⟩)⟩
end

/-- On the way: the result's cells, still empty; the method's own; its slices. -/
structure MdMem (w0 wr : World) (rb mb : Nat) (k : Int) (s n : Value) (x : Int) (S : List (List UInt8)) (N : List Int) (F1 F2 : List (Nat × Obj)) : Prop where
  st : St w0.heap.size w0 wr ((rb, mO 0 (.slice none 0 0) (.slice none 0 0) 0) :: (mb, mO k s n x) :: (F1 ++ F2))
  ss : SlIs 9 1 s S.length (S.map fun t => tx t) F1
  sn : SlIs 3 1 n N.length (N.map fun z => .int .i64 z) F2

section
variable {w0 wr : World} {rb mb : Nat} {k x : Int} {s n : Value} {S : List (List UInt8)} {N : List Int} {F1 F2 : List (Nat × Obj)}
theorem MdMem.start (w : World) : MdMem w ((w.alloc (mO 0 (.slice none 0 0) (.slice none 0 0) 0)).alloc (mO 0 (.slice none 0 0) (.slice none 0 0) 0)) w.heap.size (w.heap.size + 1) 0 (.slice none 0 0) (.slice none 0 0) 0 [] [] [] [] := by
  refine ⟨?_, SlIs.nil, SlIs.nil⟩
  have := ((St.start w).alloc (mO 0 (.slice none 0 0) (.slice none 0 0) 0)).alloc (mO 0 (.slice none 0 0) (.slice none 0 0) 0)
  rw [World.size_alloc] at this
  exact this.perm (List.Perm.swap _ _ _)
theorem MdMem.grow {w' : World} (h : MdMem w0 wr rb mb k s n x S N F1 F2) (hb : Below wr.heap.size wr w') : MdMem w0 w' rb mb k s n x S N F1 F2 :=
  ⟨⟨h.st.below.trans (hb.mono h.st.base), Nat.le_trans h.st.base hb.size, h.st.nodup, fun p hm => ⟨(h.st.at_ p hm).1, (hb.block _ (St.lt (o := p.2) h.st hm)).trans (h.st.at_ p hm).2⟩⟩, h.ss, h.sn⟩
theorem MdMem.drewN (h : MdMem w0 wr rb mb k s n x S N F1 F2) (q : Nat) : MdMem w0 (wr.drewN q) rb mb k s n x S N F1 F2 := ⟨h.st.drewN q, h.ss, h.sn⟩
theorem MdMem.below (h : MdMem w0 wr rb mb k s n x S N F1 F2) : Below w0.heap.size w0 wr := h.st.below
theorem MdMem.m0 (h : MdMem w0 wr rb mb k s n x S N F1 F2) : wr.cell? ⟨mb, 0, none⟩ = some (.int .i64 k) := h.st.cell (b := mb) (List.mem_cons_of_mem _ List.mem_cons_self) rfl
theorem MdMem.m1 (h : MdMem w0 wr rb mb k s n x S N F1 F2) : wr.cell? ⟨mb, 1, none⟩ = some s := h.st.cell (b := mb) (List.mem_cons_of_mem _ List.mem_cons_self) rfl
theorem MdMem.m2 (h : MdMem w0 wr rb mb k s n x S N F1 F2) : wr.cell? ⟨mb, 2, none⟩ = some n := h.st.cell (b := mb) (List.mem_cons_of_mem _ List.mem_cons_self) rfl
theorem MdMem.m3 (h : MdMem w0 wr rb mb k s n x S N F1 F2) : wr.cell? ⟨mb, 3, none⟩ = some (.int .i64 x) := h.st.cell (b := mb) (List.mem_cons_of_mem _ List.mem_cons_self) rfl
theorem MdMem.mf (h : MdMem w0 wr rb mb k s n x S N F1 F2) (i : Nat) : wr.frozen? ⟨mb, i, none⟩ = false := St.soft (b := mb) h.st (List.mem_cons_of_mem _ List.mem_cons_self) i
theorem MdMem.r0 (h : MdMem w0 wr rb mb k s n x S N F1 F2) : wr.cell? ⟨rb, 0, none⟩ = some (.int .i64 0) := h.st.cell (b := rb) List.mem_cons_self rfl
theorem MdMem.r1 (h : MdMem w0 wr rb mb k s n x S N F1 F2) : wr.cell? ⟨rb, 1, none⟩ = some (.slice none 0 0) := h.st.cell (b := rb) List.mem_cons_self rfl
theorem MdMem.r2 (h : MdMem w0 wr rb mb k s n x S N F1 F2) : wr.cell? ⟨rb, 2, none⟩ = some (.slice none 0 0) := h.st.cell (b := rb) List.mem_cons_self rfl
theorem MdMem.r3 (h : MdMem w0 wr rb mb k s n x S N F1 F2) : wr.cell? ⟨rb, 3, none⟩ = some (.int .i64 0) := h.st.cell (b := rb) List.mem_cons_self rfl
theorem MdMem.rf (h : MdMem w0 wr rb mb k s n x S N F1 F2) (i : Nat) : wr.frozen? ⟨rb, i, none⟩ = false := St.soft (b := rb) h.st List.mem_cons_self i
theorem MdMem.ne (h : MdMem w0 wr rb mb k s n x S N F1 F2) : rb ≠ mb := St.ne (C := (mb, mO k s n x) :: (F1 ++ F2)) h.st List.mem_cons_self
theorem MdMem.old (h : MdMem w0 wr rb mb k s n x S N F1 F2) : w0.heap.size ≤ mb ∧ w0.heap.size ≤ rb := ⟨St.ge (b := mb) h.st (List.mem_cons_of_mem _ List.mem_cons_self), St.ge (b := rb) h.st List.mem_cons_self⟩
theorem MdMem.setK (h : MdMem w0 wr rb mb k s n x S N F1 F2) (k' : Int) : MdMem w0 (wr.setCell ⟨mb, 0, none⟩ (.int .i64 k')) rb mb k' s n x S N F1 F2 := ⟨St.set (A := [_]) (b := mb) (C := F1 ++ F2) h.st 0 (.int .i64 k'), h.ss, h.sn⟩
theorem MdMem.setX (h : MdMem w0 wr rb mb k s n x S N F1 F2) (x' : Int) : MdMem w0 (wr.setCell ⟨mb, 3, none⟩ (.int .i64 x')) rb mb k s n x' S N F1 F2 := ⟨St.set (A := [_]) (b := mb) (C := F1 ++ F2) h.st 3 (.int .i64 x'), h.ss, h.sn⟩

/-- A text more. -/
theorem MdMem.addT (h : MdMem w0 wr rb mb k s n x S N F1 F2) (hS : S.length ≤ 100) (t : List UInt8) : ∃ a cap W2, (Builtin.append_ #[22, 22] 0 #[s, .slice (some ⟨wr.heap.size, 0, none⟩) 1 1]).run Tryd.prog (wr.alloc (.cells #[tx t] 9)) = .ok (.slice a (S.length + 1) cap) W2 ∧
    W2.cell? ⟨mb, 1, none⟩ = some s ∧ W2.frozen? ⟨mb, 1, none⟩ = false ∧ ∃ F1', MdMem w0 (W2.setCell ⟨mb, 1, none⟩ (.slice a (S.length + 1) cap)) rb mb k (.slice a (S.length + 1) cap) n x (S ++ [t]) N F1' F2 := by
  obtain ⟨i0, hi0, hz0, hz1, hz2⟩ := info_parts infStr8
  have hst0 := (h.st.alloc (.cells #[tx t] 9)).perm (H' := ((wr.heap.size, .cells #[tx t] 9) :: (rb, mO 0 (.slice none 0 0) (.slice none 0 0) 0) :: (mb, mO k s n x) :: F2) ++ F1) (.cons _ (.cons _ (.cons _ List.perm_append_comm)))
  obtain ⟨v2, W2, F1', hr, hs2, hst2⟩ := run_append_sl (P := Tryd.prog) 22 0 9 i0 _ 1 16 uStrs8 hi0 hz0 hz1 hz2 rfl h.ss hst0 (Reads.one wr (tx t) 9) (by intro u hu; obtain rfl := List.mem_singleton.1 hu; rfl) (by unfold maxLen; omega) (by omega)
  obtain ⟨a, cap, rfl, -⟩ := hs2.form
  have hst3 := (hst2.sub (List.sublist_cons_self _ _)).perm (H' := (rb, mO 0 (.slice none 0 0) (.slice none 0 0) 0) :: (mb, mO k s n x) :: (F1' ++ F2)) (.cons _ (.cons _ List.perm_append_comm))
  refine ⟨a, cap, W2, hr, St.cell (b := mb) hst3 (List.mem_cons_of_mem _ List.mem_cons_self) rfl, St.soft (b := mb) hst3 (List.mem_cons_of_mem _ List.mem_cons_self) 1, F1', St.set (A := [_]) (b := mb) (C := F1' ++ F2) hst3 1 _, ?_, h.sn⟩
  rw [List.map_append, List.length_append]
  exact hs2
theorem MdMem.addN (h : MdMem w0 wr rb mb k s n x S N F1 F2) (hN : N.length ≤ 100) (t : Int) : ∃ a cap W2, (Builtin.append_ #[23, 23] 0 #[n, .slice (some ⟨wr.heap.size, 0, none⟩) 1 1]).run Tryd.prog (wr.alloc (.cells #[.int .i64 t] 3)) = .ok (.slice a (N.length + 1) cap) W2 ∧
    W2.cell? ⟨mb, 2, none⟩ = some n ∧ W2.frozen? ⟨mb, 2, none⟩ = false ∧ ∃ F2', MdMem w0 (W2.setCell ⟨mb, 2, none⟩ (.slice a (N.length + 1) cap)) rb mb k s (.slice a (N.length + 1) cap) x S (N ++ [t]) F1 F2' := by
  obtain ⟨i0, hi0, hz0, hz1, hz2⟩ := info_parts infInt8
  have hst0 : St w0.heap.size w0 _ (((wr.heap.size, .cells #[.int .i64 t] 3) :: (rb, mO 0 (.slice none 0 0) (.slice none 0 0) 0) :: (mb, mO k s n x) :: F1) ++ F2) := h.st.alloc (.cells #[.int .i64 t] 3)
  obtain ⟨v2, W2, F2', hr, hs2, hst2⟩ := run_append_sl (P := Tryd.prog) 23 0 3 i0 _ 1 8 uInts8 hi0 hz0 hz1 hz2 rfl h.sn hst0 (Reads.one wr (.int .i64 t) 3) (by intro u hu; obtain rfl := List.mem_singleton.1 hu; rfl) (by unfold maxLen; omega) (by omega)
  obtain ⟨a, cap, rfl, -⟩ := hs2.form
  have hst3 : St w0.heap.size w0 W2 ((rb, mO 0 (.slice none 0 0) (.slice none 0 0) 0) :: (mb, mO k s n x) :: (F1 ++ F2')) := hst2.sub (List.sublist_cons_self _ _)
  refine ⟨a, cap, W2, hr, St.cell (b := mb) hst3 (List.mem_cons_of_mem _ List.mem_cons_self) rfl, St.soft (b := mb) hst3 (List.mem_cons_of_mem _ List.mem_cons_self) 2, F2', St.set (A := [_]) (b := mb) (C := F1 ++ F2') hst3 2 _, h.ss, ?_⟩
  rw [List.map_append, List.length_append]
  exact hs2

/-- Read back. -/
theorem SlIs.txts {w : World} {A F : List (Nat × Obj)} {v : Value} {L : List (List UInt8)} (h : SlIs 9 1 v L.length (L.map fun t => tx t) F) (hst : St w0.heap.size w0 w (A ++ F)) (hL : ∀ t ∈ L, t.length ≤ maxLen) : TxtS w v L := by
  obtain ⟨a, cap, rfl, h1, h2, h3⟩ := h.form
  refine ⟨a, cap, rfl, h1, h2, fun i x hi => ?_⟩
  have hlt := (List.getElem?_eq_some_iff.1 hi).1
  obtain ⟨g, off, rfl⟩ := h3 i hlt
  exact ⟨hL x (List.mem_of_getElem? hi), g, off, rfl, h.cellAt hst (by rw [List.getElem?_map, hi]; rfl)⟩
theorem SlIs.nums {w : World} {A F : List (Nat × Obj)} {v : Value} {L : List Int} (h : SlIs 3 1 v L.length (L.map fun z => .int .i64 z) F) (hst : St w0.heap.size w0 w (A ++ F)) : NumS w v L := by
  obtain ⟨a, cap, rfl, h1, h2, h3⟩ := h.form
  refine ⟨a, cap, rfl, h1, h2, fun i x hi => ?_⟩
  have hlt := (List.getElem?_eq_some_iff.1 hi).1
  obtain ⟨g, off, rfl⟩ := h3 i hlt
  exact ⟨g, off, rfl, h.cellAt hst (by rw [List.getElem?_map, hi]; rfl)⟩
/-- Stored into the result's cells. -/
theorem MdMem.done (h : MdMem w0 wr rb mb k s n x S N F1 F2) (hS : ∀ t ∈ S, t.length ≤ maxLen) : ∀ w', Hid (w' = (((wr.setCell ⟨rb, 0, none⟩ (.int .i64 k)).setCell ⟨rb, 1, none⟩ s).setCell ⟨rb, 2, none⟩ n).setCell ⟨rb, 3, none⟩ (.int .i64 x)) →
    RdM w' (.agg #[.int .i64 k, s, n, .int .i64 x]) ⟨k, S, N, x⟩ ∧ Below w0.heap.size w0 w' ∧ w'.cell? ⟨rb, 0, none⟩ = some (.int .i64 k) ∧ w'.cell? ⟨rb, 1, none⟩ = some s ∧ w'.cell? ⟨rb, 2, none⟩ = some n ∧ w'.cell? ⟨rb, 3, none⟩ = some (.int .i64 x) := by
  intro w' e
  obtain rfl := e.out
  have h1 := (((h.st.set0 (C := (mb, mO k s n x) :: (F1 ++ F2)) 0 (.int .i64 k)).set0 (C := (mb, mO k s n x) :: (F1 ++ F2)) 1 s).set0 (C := (mb, mO k s n x) :: (F1 ++ F2)) 2 n).set0 (C := (mb, mO k s n x) :: (F1 ++ F2)) 3 (.int .i64 x)
  have h2 := h1.sub (H' := [] ++ F1) (by simp only [List.nil_append]; exact .cons _ (.cons _ (List.sublist_append_left _ _)))
  have h3 := h1.sub (H' := [] ++ F2) (by simp only [List.nil_append]; exact .cons _ (.cons _ (List.sublist_append_right _ _)))
  exact ⟨⟨s, n, rfl, h.ss.txts h2 hS, h.sn.nums h3⟩, h1.below, h1.cell (b := rb) List.mem_cons_self rfl, h1.cell (b := rb) List.mem_cons_self rfl, h1.cell (b := rb) List.mem_cons_self rfl, h1.cell (b := rb) List.mem_cons_self rfl⟩
theorem RdM.zero (w : World) : RdM w (.agg #[.int .i64 0, .slice none 0 0, .slice none 0 0, .int .i64 0]) zeroM := ⟨_, _, rfl, ⟨none, 0, rfl, Nat.le_refl _, Nat.zero_le _, fun i x hi => by simp [zeroM] at hi⟩, none, 0, rfl, Nat.le_refl _, Nat.zero_le _, fun i x hi => by simp [zeroM] at hi⟩
theorem MdMem.fail (h : MdMem w0 wr rb mb k s n x S N F1 F2) : ∀ w', Hid (w' = (((wr.setCell ⟨rb, 0, none⟩ (.int .i64 0)).setCell ⟨rb, 1, none⟩ (.slice none 0 0)).setCell ⟨rb, 2, none⟩ (.slice none 0 0)).setCell ⟨rb, 3, none⟩ (.int .i64 0)) →
    RdM w' (.agg #[.int .i64 0, .slice none 0 0, .slice none 0 0, .int .i64 0]) zeroM ∧ Below w0.heap.size w0 w' ∧ w'.cell? ⟨rb, 0, none⟩ = some (.int .i64 0) ∧ w'.cell? ⟨rb, 1, none⟩ = some (.slice none 0 0) ∧ w'.cell? ⟨rb, 2, none⟩ = some (.slice none 0 0) ∧ w'.cell? ⟨rb, 3, none⟩ = some (.int .i64 0) := by
  intro w' e
  obtain rfl := e.out
  have h1 := (((h.st.set0 (C := (mb, mO k s n x) :: (F1 ++ F2)) 0 (.int .i64 0)).set0 (C := (mb, mO k s n x) :: (F1 ++ F2)) 1 (.slice none 0 0)).set0 (C := (mb, mO k s n x) :: (F1 ++ F2)) 2 (.slice none 0 0)).set0 (C := (mb, mO k s n x) :: (F1 ++ F2)) 3 (.int .i64 0)
  exact ⟨RdM.zero _, h1.below, h1.cell (b := rb) List.mem_cons_self rfl, h1.cell (b := rb) List.mem_cons_self rfl, h1.cell (b := rb) List.mem_cons_self rfl, h1.cell (b := rb) List.mem_cons_self rfl⟩
end
end Go.Proofs.YtipinglchpmgaaaDoor
