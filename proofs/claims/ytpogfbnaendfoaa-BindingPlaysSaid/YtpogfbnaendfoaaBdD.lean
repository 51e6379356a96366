/- Rows that are so, rows cut out, names each once: loops by goto over a function value. -/
import Derived.Test.YtpogfbnaendfoaaBdC
import Derived.Test.YtpogfbnaendfoaaEdit
import Derived.Deep.Fields
namespace Go.Proofs.Ytpogfbnaendfoaa
open Go.RowKit
set_option linter.unusedVariables false

abbrev bpt (b : Nat) : Value := .pointer (some ⟨b, 0, none⟩)
/-- A block of one cell, never frozen: a table. -/
def OneAt (T : TypeId) (w : World) (tb : Nat) (v : Value) : Prop := w.heap[tb]? = some (.cells #[v] T (0, 0))
section
variable {B : Nat} {w0 w w' : World} {S F A X : List (Nat × Obj)} {T : TypeId} {tb : Nat} {v u : Value} {L : List Bnd} {p : Bnd → Bool} {f : Bnd → List UInt8}
theorem OneAt.cell (h : OneAt T w tb v) : w.cell? ⟨tb, 0, none⟩ = some v := by
  unfold OneAt at h
  simp [World.cell?, h]
theorem OneAt.soft (h : OneAt T w tb v) : w.frozen? ⟨tb, 0, none⟩ = false := by
  unfold OneAt at h
  simp [World.frozen?, h]
theorem OneAt.lt (h : OneAt T w tb v) : tb < w.heap.size := (Array.getElem?_eq_some_iff.1 h).1
theorem OneAt.below (h : OneAt T w tb v) (hb : Below w.heap.size w w') : OneAt T w' tb v := (hb.block _ h.lt).trans h

/-- A function value that tells of each binding whether it is so. -/
structure TellsP (w : World) (g : Nat) (cb : Array Value) (p : Bnd → Bool) : Prop where
  go : ∀ args w, (callFunc g args).run Try.prog w = .ok (.enter g args) w
  is : ∀ w1, Below w.heap.size w w1 → ∀ b : Bnd, Calls Try.prog g (#[bV b] ++ cb) w1 fun e w2 => e = .returned (.bool (p b)) ∧ Below w1.heap.size w1 w2
/-- .. its name. -/
structure TellsN (w : World) (g : Nat) (cb : Array Value) (f : Bnd → List UInt8) : Prop where
  go : ∀ args w, (callFunc g args).run Try.prog w = .ok (.enter g args) w
  is : ∀ w1, Below w.heap.size w w1 → ∀ b : Bnd, Calls Try.prog g (#[bV b] ++ cb) w1 fun e w2 => e = .returned (tx (f b)) ∧ Below w1.heap.size w1 w2

/-! ### those -/
def ThoseR (w : World) (l : List Bnd) (e : Ending) (w' : World) : Prop := ∃ u S, e = .returned u ∧ BnsIs u l S ∧ St w.heap.size w w' S
def ThoseAt (w : World) (tb : Nat) (fv : Value) (L : List Bnd) (p : Bnd → Bool) (g : Nat) (a' : Act) (w' : World) : Prop :=
  ∃ (i : Nat) (u : Value) (S : List (Nat × Obj)), Fr 36 [(0, bpt tb), (1, fv), (5, u), (6, .int .i64 i)] a' ∧ i + g = L.length ∧ BnsIs u ((L.take i).filter p) S ∧ St w.heap.size w w' S

set_option maxHeartbeats 2000000 in
theorem those_any {g : Nat} {cb : Array Value} (h : OneAt T w tb v) (hv : ReadBs w v L) (hL : L.length ≤ 10000) (hp : TellsP w g cb p) :
    Calls Try.prog 31 #[bpt tb, .func (.func g) #[] cb] w (ThoseR w (L.filter p)) := by
  obtain ⟨eg, his⟩ := hp
  have hg := Lib.hid his
  have ht := Lib.hid (fun w' hb => (h.below (w' := w') hb).cell)
  obtain ⟨a, cap, rfl, -⟩ := id hv
  have hr := Lib.hid (fun w' hb => hv.below (w' := w') hb)
  clear hv his h
  go_enter Try.func31, Try.ntmps31
  go_wp2_with fail
  refine wp_scope_ghost 0 (ThoseAt w tb (.func (.func g) #[] cb) L p) rfl ?_ ?_
  · rintro n a' w' ⟨i, u, S, hfr, hi, hs, hst⟩
    obtain ⟨q, rfl, hl'⟩ := hfr.lit
    clear hfr
    simp only [List.mem_cons, List.not_mem_nil, or_false, forall_eq_or_imp, forall_eq] at hl'
    obtain ⟨f0, f1, f5, f6⟩ := hl'
    simp only [List.range, List.range.loop, List.map, f0, f1, f5, f6]
    clear f0 f1 f5 f6
    have hi0 : (0 : Int) ≤ i := by omega
    have ct := ht.out w' hst.below
    have hlen := filter_len_take (L := L) p i
    by_cases hlt : i < L.length
    · have hi1 : (i : Int) < L.length := by omega
      have hiB : ((i : Int) == L.length) = false := by rw [beq_eq_false_iff_ne]; omega
      have hx : L[i]? = some L[i] := List.getElem?_eq_getElem hlt
      generalize L[i] = x at hx
      have stp := filter_step (p := p) hx
      obtain ⟨a1, c1, e, hcells⟩ := hr.out w' hst.below
      cases e
      obtain ⟨b1, o1, rfl, k1, k2, k3⟩ := hcells i x hx
      have cc := Lib.hid (hg.out w' hst.below x)
      have hx2 : Hid (∀ w2, Below w'.heap.size w' w2 → w2.cell? ⟨tb, 0, none⟩ = some (.slice (some ⟨b1, o1, none⟩) L.length cap) ∧ w2.cell? ⟨b1, o1 + i * 3, none⟩ = some (tx x.1) ∧ w2.cell? ⟨b1, o1 + i * 3 + 1, none⟩ = some (tx x.2.1) ∧ w2.cell? ⟨b1, o1 + i * 3 + 2, none⟩ = some (tx x.2.2)) := Lib.hid fun w2 hb =>
        ⟨(hb.cell (p := ⟨tb, 0, none⟩) (World.block_lt_of_cell? w' _ ct)).trans ct, (hb.cell (World.block_lt_of_cell? w' _ k1)).trans k1, (hb.cell (World.block_lt_of_cell? w' _ k2)).trans k2, (hb.cell (World.block_lt_of_cell? w' _ k3)).trans k3⟩
      cases hpx : p x with
      | true =>
        rw [hpx] at stp cc
        rw [if_pos rfl] at stp
        have ap : Hid (∀ w2, Below w'.heap.size w' w2 → ∃ a cap2 W2, (Builtin.append_ #[27, 27] 0 #[u, .slice (some ⟨w2.heap.size, 0, none⟩) 1 1]).run Try.prog (w2.alloc (bO x)) = .ok (.slice a (((L.take i).filter p).length + 1) cap2) W2 ∧
            ∀ a', Fr 36 [(0, bpt tb), (1, .func (.func g) #[] cb), (5, .slice a (((L.take i).filter p).length + 1) cap2), (6, .int .i64 ((i + 1 : Nat) : Int))] a' → ∃ m, m < n ∧ ThoseAt w tb (.func (.func g) #[] cb) L p m a' W2) := by
          refine Lib.hid fun w2 hb => ?_
          obtain ⟨a, cap2, W2, F2, hrun, hs2, hst2⟩ := bnd_append (X := []) hs (hst.grow hb) x (by omega)
          refine ⟨a, cap2, W2, hrun, fun a' hf => ⟨n - 1, by omega, i + 1, _, F2, hf, by omega, ?_, hst2⟩⟩
          rw [stp]
          exact hs2
        obtain ⟨au, cu, rfl⟩ := hs.form
        obtain ⟨x1, x2, x3⟩ := x
        simp only at k1 k2 k3
        generalize ((L.take i).filter p).length = q0 at *
        clear hs hst hx hpx stp hlen hr ht hg
        go_wp2_with fail
        refine cc.out.mono ?_
        rintro e w2 ⟨rfl, hb⟩
        obtain ⟨ct2, m1, m2, m3⟩ := hx2.out w2 hb
        obtain ⟨a2, cap2, W2, hrun, fin⟩ := ap.out _ hb
        replace fin := Lib.hid fin
        clear cc ap hx2 hb k1 k2 k3 ct
        go_wp2_with (at_builtin; refine wpList_append_go rfl (.tmp 24) (.tmp 32) 27 27 rfl _ _ rfl rfl hrun ?_)
        refine wp_goto ?_
        exact ⟨rfl, fin.out _ ⟨rfl, rfl, by simp⟩⟩
      | false =>
        rw [hpx] at stp cc
        rw [if_neg (by decide), List.append_nil] at stp
        have fin : Hid (∀ w2, Below w'.heap.size w' w2 → ∀ a', Fr 36 [(0, bpt tb), (1, .func (.func g) #[] cb), (5, u), (6, .int .i64 ((i + 1 : Nat) : Int))] a' → ∃ m, m < n ∧ ThoseAt w tb (.func (.func g) #[] cb) L p m a' w2) :=
          Lib.hid fun w2 hb a' hf => ⟨n - 1, by omega, i + 1, _, S, hf, by omega, by rw [stp]; exact hs, hst.grow hb⟩
        obtain ⟨au, cu, rfl⟩ := hs.form
        obtain ⟨x1, x2, x3⟩ := x
        simp only at k1 k2 k3
        generalize ((L.take i).filter p).length = q0 at *
        clear hs hst hx hpx stp hlen hr ht hg
        go_wp2_with fail
        refine cc.out.mono ?_
        rintro e w2 ⟨rfl, hb⟩
        replace fin := Lib.hid (fin.out _ hb)
        clear cc hx2 hb k1 k2 k3 ct
        go_wp2_with fail
        refine wp_goto ?_
        exact ⟨rfl, fin.out _ ⟨rfl, rfl, by simp⟩⟩
    · obtain rfl : i = L.length := by omega
      rw [List.take_of_length_le (Nat.le_refl _)] at hs
      have fin : Hid (ThoseR w (L.filter p) (.returned u) w') := Lib.hid ⟨u, S, rfl, hs, hst⟩
      obtain ⟨au, cu, rfl⟩ := hs.form
      clear hs hst hg hr ht hlen
      go_wp2_with fail
      simp only [Exit.jump]
      go_ret
      exact fin.out
  · intro H
    go_wp2_with fail
    refine wp_label ?_
    go_step
    go_step
    exact H L.length _ _ ⟨0, _, [], ⟨rfl, rfl, by simp⟩, by omega, BnsIs.nil, St.start w⟩
end
end Go.Proofs.Ytpogfbnaendfoaa
