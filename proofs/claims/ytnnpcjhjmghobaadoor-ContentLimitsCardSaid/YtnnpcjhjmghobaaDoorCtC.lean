/- Heads' bytes, by the program. -/
import Derived.Test.YtnnpcjhjmghobaaDoorCtB
import Derived.Deep.RegionHeld3
namespace Go.Proofs.YtnnpcjhjmghobaaDoor
open Go.RowKit
set_option linter.unusedVariables false

/-- Three cells of one's own, and nothing else turned. -/
structure Tri (w wr : World) (b : Nat) (x y z : Value) : Prop where
  below : Below w.heap.size w wr
  lt : b < wr.heap.size
  c0 : wr.cell? ⟨b, 0, none⟩ = some x
  c1 : wr.cell? ⟨b, 1, none⟩ = some y
  c2 : wr.cell? ⟨b, 2, none⟩ = some z
section
variable {w wr w' : World} {b : Nat} {x y z : Value}
theorem Tri.step (h : Tri w wr b x y z) (hb : Below wr.heap.size wr w') : Tri w w' b x y z :=
  ⟨bel h.below hb, Nat.lt_of_lt_of_le h.lt hb.size, (hb.cell (p := ⟨b, 0, none⟩) h.lt).trans h.c0, (hb.cell (p := ⟨b, 1, none⟩) h.lt).trans h.c1, (hb.cell (p := ⟨b, 2, none⟩) h.lt).trans h.c2⟩
theorem Tri.start {w1 : World} (hb : Below w.heap.size w w1) (x y z : Value) (T : TypeId) : Tri w (w1.alloc (.cells #[x, y, z] T)) w1.heap.size x y z :=
  ⟨bel hb (new_below _ _), by simp, by simp, by simp, by simp⟩
end
theorem drew_below (w : World) : Below w.heap.size w w.drew := ⟨rfl, rfl, rfl, Nat.le_refl _, fun _ _ => rfl⟩

def leftC (s p t : Int) : Nat → List UInt8
  | 0 => rawC s p t
  | 1 => low 1 p ++ low 4 t
  | 2 => low 4 t
  | _ => []
def PutAt (w : World) (s p t : Int) (g : Nat) (a' : Act) (wr : World) : Prop :=
  ∃ (j nb : Nat) (acc : List UInt8), j + g = 3 ∧ Fr 30 [(3, .pointer (some ⟨nb, 0, none⟩)), (4, tx acc), (5, .int .i64 j)] a' ∧ acc ++ leftC s p t j = rawC s p t ∧ Tri w wr nb (.int .i64 s) (.int .i64 p) (.int .i64 t)

/-- What is held while a number is put. -/
abbrev PutS (w wr : World) (nb j : Nat) (x y z : Value) (v k : Int) : Prop :=
  (Tri w wr nb x y z ∧ 0 < wr.heap.size) ∧ wr.cell? ⟨nb, j, none⟩ = some (.int .i64 v) ∧ wr.cell? ⟨0, j, none⟩ = some (.int .i64 k)
theorem putHold {w wa wb : World} {nb j : Nat} {x y z : Value} {v k : Int} (h : PutS w wa nb j x y z v k) (hb : Below wa.heap.size wa wb) : PutS w wb nb j x y z v k :=
  ⟨⟨h.1.1.step hb, Nat.lt_of_lt_of_le h.1.2 hb.size⟩, (hb.cell (p := ⟨nb, j, none⟩) h.1.1.lt).trans h.2.1, (hb.cell (p := ⟨0, j, none⟩) h.1.2).trans h.2.2⟩
theorem put_step {w wr : World} {nb j : Nat} {s p t : Int} (hH : Tri w wr nb (.int .i64 s) (.int .i64 p) (.int .i64 t)) (hT : Widths wr.heap.size wr) (hj : j < 3) :
    ∃ v k, PutS w wr nb j (.int .i64 s) (.int .i64 p) (.int .i64 t) v k ∧ leftC s p t j = low (heldN k) v ++ leftC s p t (j + 1) ∧ (low (heldN k) v).length ≤ 4 := by
  have hw := hT.2 j hj
  match j, hj with
  | 0, _ => exact ⟨s, 4, ⟨⟨hH, hT.1⟩, hH.c0, hw⟩, rfl, by rw [low_length]; decide⟩
  | 1, _ => exact ⟨p, 1, ⟨⟨hH, hT.1⟩, hH.c1, hw⟩, rfl, by rw [low_length]; decide⟩
  | 2, _ => exact ⟨t, 4, ⟨⟨hH, hT.1⟩, hH.c2, hw⟩, (List.append_nil _).symm, by rw [low_length]; decide⟩

set_option maxHeartbeats 1000000 in
theorem bytesc_any (s p t : Int) (w : World) (hT : Widths w.heap.size w) : Calls Tryd.prog 8 #[ctV s p t] w fun e w' => e = .returned (tx (bytesC s p t)) ∧ Below w.heap.size w w' := by
  have hW : Hid (∀ w', Below w.heap.size w w' → Widths w'.heap.size w') := Lib.hid fun w' hb => hT.on hb
  have hB0 := Lib.hid (Tri.start (Below.refl w.heap.size w) (.int .i64 s) (.int .i64 p) (.int .i64 t) 23)
  have c1 := Lib.hid (isc_b s p t)
  clear hT
  cases hC : isC s p t with
  | false =>
    have e0 : bytesC s p t = [] := by unfold bytesC; rw [hC]; rfl
    rw [e0]
    rw [hC] at c1
    clear hC e0
    go_enter Tryd.func8, Tryd.ntmps8
    go_wp2_with fail
    refine wp_scope_ghost 0 (fun _ _ _ => False) rfl (fun _ _ _ h => h.elim) fun _ => ?_
    go_wp2_with fail
    refine (c1.out _).mono ?_
    rintro e w1 ⟨rfl, hb1⟩
    have hb2 := Lib.hid (hB0.out.step hb1)
    clear hb1
    go_wp2_with fail
    simp only [Exit.jump]
    go_ret
    exact ⟨rfl, hb2.out.below⟩
  | true =>
    have e0 : bytesC s p t = rawC s p t := by unfold bytesC; rw [hC]; rfl
    rw [e0]
    rw [hC] at c1
    clear hC e0
    go_enter Tryd.func8, Tryd.ntmps8
    go_wp2_with fail
    refine wp_scope_ghost 0 (PutAt w s p t) rfl ?_ ?_
    · rintro g a' wr ⟨j, nb, acc, hj, hfr, hacc, hH⟩
      have hlen : acc.length ≤ 9 := by
        have := congrArg List.length hacc
        rw [List.length_append, rawC_len] at this
        omega
      obtain ⟨f, rfl, hl'⟩ := hfr.lit
      clear hfr c1 hB0
      simp only [List.mem_cons, List.not_mem_nil, or_false, forall_eq_or_imp, forall_eq] at hl'
      obtain ⟨f3, f4, f5⟩ := hl'
      simp only [List.range, List.range.loop, List.map, f3, f4, f5]
      clear f3 f4 f5
      by_cases h3 : j = 3
      · subst h3
        have e : acc = rawC s p t := by rw [← hacc]; simp [leftC]
        subst e
        have fin := Lib.hid hH.below
        clear hH hacc hlen hW
        go_wp2_with fail
        simp only [Exit.jump]
        go_ret
        exact ⟨rfl, fin.out⟩
      · obtain ⟨v, k, hS, hleft, hl4⟩ := put_step hH (hW.out _ hH.below) (show j < 3 by omega)
        have n1 := Lib.hid (fun wr => num_b v k wr (l := low (heldN k) v) rfl)
        rw [hleft, ← List.append_assoc] at hacc
        replace hacc := Lib.hid hacc
        have hadd := fun W => run_string_add_lists (P := Tryd.prog) W acc (low (heldN k) v) (by omega) (by omega)
        have hS0 := Lib.hid (putHold hS (drew_below _))
        generalize low (heldN k) v = L at *
        generalize acc ++ L = acc2 at *
        have q0 := hS.2.1
        have q1 := hS.2.2
        have hj0 : (0 : Int) ≤ j := by omega
        have hj1 : (j : Int) < 3 := by omega
        clear hleft hH hW hS hl4
        go_wp2_with fail
        go_region_held3 (fun wr' => (Tri w wr' nb (.int .i64 s) (.int .i64 p) (.int .i64 t) ∧ 0 < wr'.heap.size) ∧ wr'.cell? ⟨nb, j, none⟩ = some (.int .i64 v) ∧ wr'.cell? ⟨0, j, none⟩ = some (.int .i64 k)) (first | exact putHold (by assumption) hb | exact hS0.out) ((go_at_call 13; refine (n1.out _).mono ?_; rintro e w'' ⟨rfl, hb⟩))
        rename_i hHeld
        have fin := Lib.hid hHeld.1.1
        clear hHeld hS0 hb
        go_wp2_with fail
        refine wp_goto ?_
        exact ⟨rfl, g - 1, by omega, j + 1, nb, acc2, by omega, ⟨rfl, rfl, by simp⟩, hacc.out, fin.out⟩
    · intro H
      go_wp2_with fail
      refine (c1.out _).mono ?_
      rintro e w1 ⟨rfl, hb1⟩
      have hH := hB0.out.step hb1
      have q0 := hH.c0
      have q1 := hH.c1
      have q2 := hH.c2
      have hN := Lib.hid (Tri.start hH.below (.int .i64 s) (.int .i64 p) (.int .i64 t) 36)
      clear hb1 c1 hH
      go_wp2_with fail
      refine wp_label ?_
      go_step
      go_step
      exact H _ _ _ ⟨0, _, [], Nat.zero_add 3, ⟨rfl, rfl, by simp⟩, rfl, hN.out⟩

/-! ### by the document's own -/
def numC (n k : Int) : List UInt8 := low (heldN k) n
theorem rnum_c (n k : Int) (w : World) : Calls Tryd.prog 14 #[.int .i64 n, .int .i64 k] w fun e w' => e = .returned (tx (numC n k)) ∧ Below w.heap.size w w' := rnum_any n k w
abbrev TriS (w wr : World) (b : Nat) (x y z : Value) : Prop :=
  (Below w.heap.size w wr ∧ b < wr.heap.size) ∧ wr.cell? ⟨b, 0, none⟩ = some x ∧ wr.cell? ⟨b, 1, none⟩ = some y ∧ wr.cell? ⟨b, 2, none⟩ = some z
theorem triHold {w wa wb : World} {b : Nat} {x y z : Value} (h : TriS w wa b x y z) (hb : Below wa.heap.size wa wb) : TriS w wb b x y z :=
  ⟨⟨bel h.1.1 hb, Nat.lt_of_lt_of_le h.1.2 hb.size⟩, (hb.cell (p := ⟨b, 0, none⟩) h.1.2).trans h.2.1, (hb.cell (p := ⟨b, 1, none⟩) h.1.2).trans h.2.2.1, (hb.cell (p := ⟨b, 2, none⟩) h.1.2).trans h.2.2.2⟩

set_option maxHeartbeats 1000000 in
theorem rbytesc_any (s p t : Int) (w : World) : Calls Tryd.prog 9 #[ctV s p t] w fun e w' => e = .returned (tx (bytesC s p t)) ∧ Below w.heap.size w w' := by
  have hB0 := Lib.hid (Tri.start (Below.refl w.heap.size w) (.int .i64 s) (.int .i64 p) (.int .i64 t) 23)
  have c1 := Lib.hid (risc_b s p t)
  cases hC : isC s p t with
  | false =>
    have e0 : bytesC s p t = [] := by unfold bytesC; rw [hC]; rfl
    rw [e0]
    rw [hC] at c1
    clear hC e0
    go_enter Tryd.func9, Tryd.ntmps9
    go_wp2_with fail
    refine (c1.out _).mono ?_
    rintro e w1 ⟨rfl, hb1⟩
    have hb2 := Lib.hid (hB0.out.step hb1)
    clear hb1
    go_wp2_with fail
    go_ret
    exact ⟨rfl, hb2.out.below⟩
  | true =>
    have e0 : bytesC s p t = rawC s p t := by unfold bytesC; rw [hC]; rfl
    rw [e0]
    rw [hC] at c1
    have hadd1 := fun W => run_string_add_lists (P := Tryd.prog) W (numC s 4) (numC p 1) (by rw [numC, low_length]; decide) (by rw [numC, low_length]; decide)
    have hadd2 := fun W => run_string_add_lists (P := Tryd.prog) W (numC s 4 ++ numC p 1) (numC t 4) (by rw [List.length_append, numC, numC, low_length, low_length]; decide) (by rw [numC, low_length]; decide)
    have hR : Hid (rawC s p t = numC s 4 ++ numC p 1 ++ numC t 4) := Lib.hid (List.append_assoc _ _ _).symm
    generalize rawC s p t = R at *
    generalize numC s 4 ++ numC p 1 = A1 at *
    generalize A1 ++ numC t 4 = A2 at *
    clear hC e0
    have n1 := Lib.hid rnum_c
    go_enter Tryd.func9, Tryd.ntmps9
    go_wp2_with fail
    refine (c1.out _).mono ?_
    rintro e w1 ⟨rfl, hb1⟩
    have hb2 := hB0.out.step hb1
    have hS0 := Lib.hid (triHold ⟨⟨hb2.below, hb2.lt⟩, hb2.c0, hb2.c1, hb2.c2⟩ (drew_below _))
    clear hb1 hb2 hB0 c1
    go_wp2_with fail
    go_region_held3 (fun wr' => (Below w.heap.size w wr' ∧ w.heap.size < wr'.heap.size) ∧ wr'.cell? ⟨w.heap.size, 0, none⟩ = some (.int .i64 s) ∧ wr'.cell? ⟨w.heap.size, 1, none⟩ = some (.int .i64 p) ∧ wr'.cell? ⟨w.heap.size, 2, none⟩ = some (.int .i64 t)) (first | exact triHold (by assumption) hb | exact hS0.out) ((go_at_call 14; refine (n1.out _ _ _).mono ?_; rintro e w'' ⟨rfl, hb⟩))
    rename_i hHeld
    have fin := Lib.hid hHeld.1.1
    clear hHeld hS0 hb
    go_wp2_with fail
    go_ret
    exact ⟨by rw [hR.out]; rfl, fin.out⟩
end Go.Proofs.YtnnpcjhjmghobaaDoor
