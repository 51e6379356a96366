/- Frames: a frame's bytes, by the program and by the document's own. -/
import Derived.Test.YtjeejflmkdncpaaFmB
import Derived.Deep.RegionHeld3
namespace Go.Proofs.Ytjeejflmkdncpaa
open Go.RowKit
set_option linter.unusedVariables false

def numL (n k : Int) : List UInt8 := low (heldN k) n
theorem numL_length (n k : Int) : (numL n k).length = heldN k := low_length _ _
theorem num_c (n k : Int) (w : World) : Calls Try.prog 24 #[.int .i64 n, .int .i64 k] w fun e w' => e = .returned (tx (numL n k)) ∧ Below w.heap.size w w' := num_any n k w
theorem rnum_c (n k : Int) (w : World) : Calls Try.prog 25 #[.int .i64 n, .int .i64 k] w fun e w' => e = .returned (tx (numL n k)) ∧ Below w.heap.size w w' := rnum_any n k w

/-- What is held through a region that puts numbers: the frame's own cells. -/
theorem frHold {w0 : World} {b : Nat} {x y z : Value} {wa wb : World} (h : (Below w0.heap.size w0 wa ∧ b < wa.heap.size) ∧ wa.cell? ⟨b, 0, none⟩ = some x ∧ wa.cell? ⟨b, 1, none⟩ = some y ∧ wa.cell? ⟨b, 2, none⟩ = some z) (hb : Below wa.heap.size wa wb) :
    (Below w0.heap.size w0 wb ∧ b < wb.heap.size) ∧ wb.cell? ⟨b, 0, none⟩ = some x ∧ wb.cell? ⟨b, 1, none⟩ = some y ∧ wb.cell? ⟨b, 2, none⟩ = some z := by
  obtain ⟨⟨h1, h2⟩, h3, h4, h5⟩ := h
  exact ⟨⟨bel h1 hb, Nat.lt_of_lt_of_le h2 hb.size⟩, (hb.cell h2).trans h3, (hb.cell h2).trans h4, (hb.cell h2).trans h5⟩

theorem frHold0 (w : World) (x y z : Value) (T : TypeId) : (Below w.heap.size w ((w.alloc (.cells #[x, y, z] T)).drew) ∧ w.heap.size < ((w.alloc (.cells #[x, y, z] T)).drew).heap.size) ∧
    ((w.alloc (.cells #[x, y, z] T)).drew).cell? ⟨w.heap.size, 0, none⟩ = some x ∧ ((w.alloc (.cells #[x, y, z] T)).drew).cell? ⟨w.heap.size, 1, none⟩ = some y ∧ ((w.alloc (.cells #[x, y, z] T)).drew).cell? ⟨w.heap.size, 2, none⟩ = some z := by
  refine ⟨⟨((Below.refl _ w).alloc (Nat.le_refl _) _).trans ⟨rfl, rfl, rfl, Nat.le_refl _, fun _ _ => rfl⟩, by simp⟩, ?_, ?_, ?_⟩ <;> simp

theorem drew_below (w : World) : Below w.heap.size w w.drew := ⟨rfl, rfl, rfl, Nat.le_refl _, fun _ _ => rfl⟩
def BytesR (w : World) (k c : Int) (d : List UInt8) (e : Ending) (w' : World) : Prop := e = .returned (tx (frBytes k c d)) ∧ Below w.heap.size w w'

set_option maxHeartbeats 2000000 in
theorem bytes_any (k c : Int) (d : List UInt8) (w : World) (hd : d.length ≤ 8000000) : Calls Try.prog 10 #[frV k c d] w (BytesR w k c d) := by
  have c1 := Lib.hid (fits1 k)
  have c2 := Lib.hid (fits2 c)
  by_cases h1 : 0 ≤ k ∧ k ≤ 255
  rotate_left
  · have hz : Hid (frBytes k c d = []) := Lib.hid (if_neg (fun h => h1 h.1))
    rw [decide_eq_false h1] at c1
    replace h1 := Lib.hid h1
    go_enter Try.func10, Try.ntmps10
    go_wp2_with fail
    refine (c1.out _).mono ?_
    rintro e w1 ⟨rfl, rfl⟩
    go_wp2_with fail
    go_ret
    exact ⟨by rw [hz.out]; rfl, (Below.refl _ w).alloc (Nat.le_refl _) _⟩
  by_cases h2 : 0 ≤ c ∧ c ≤ 65535
  rotate_left
  · have hz : Hid (frBytes k c d = []) := Lib.hid (if_neg (fun h => h2 h.2))
    rw [decide_eq_true h1] at c1
    rw [decide_eq_false h2] at c2
    replace h1 := Lib.hid h1
    replace h2 := Lib.hid h2
    go_enter Try.func10, Try.ntmps10
    go_wp2_with fail
    refine (c1.out _).mono ?_
    rintro e w1 ⟨rfl, rfl⟩
    go_wp2_with fail
    refine (c2.out _).mono ?_
    rintro e w1 ⟨rfl, rfl⟩
    go_wp2_with fail
    go_ret
    exact ⟨by rw [hz.out]; rfl, (Below.refl _ w).alloc (Nat.le_refl _) _⟩
  · have hz : Hid (frBytes k c d = low 1 k ++ low 2 c ++ low 4 d.length ++ d ++ [206]) := Lib.hid (if_pos ⟨h1, h2⟩)
    rw [decide_eq_true h1] at c1
    rw [decide_eq_true h2] at c2
    replace h1 := Lib.hid h1
    replace h2 := Lib.hid h2
    have n1 := Lib.hid num_c
    have l1 := numL_length k 1
    have l2 := numL_length c 2
    have l3 := numL_length (d.length : Int) 4
    rw [show heldN 1 = 1 from rfl] at l1
    rw [show heldN 2 = 2 from rfl] at l2
    rw [show heldN 4 = 4 from rfl] at l3
    have a1 := fun W => run_string_add_lists (P := Try.prog) W (numL k 1) (numL c 2) (by omega) (by omega)
    have a2 := fun W => run_string_add_lists (P := Try.prog) W (numL k 1 ++ numL c 2) (numL d.length 4) (by rw [List.length_append]; omega) (by omega)
    have a3 := fun W => run_string_add_lists (P := Try.prog) W (numL k 1 ++ numL c 2 ++ numL d.length 4) d (by rw [List.length_append, List.length_append]; omega) (by omega)
    have a4 := fun W => run_string_add_lists (P := Try.prog) W (numL k 1 ++ numL c 2 ++ numL d.length 4 ++ d) (numL 206 1) (by rw [List.length_append, List.length_append, List.length_append]; omega) (by decide +kernel)
    simp only [List.append_assoc] at a2 a3 a4
    clear l1 l2 l3
    have hs0 := Lib.hid (frHold0 w (.int .i64 k) (.int .i64 c) (tx d) 23)
    go_enter Try.func10, Try.ntmps10
    go_wp2_with fail
    refine (c1.out _).mono ?_
    rintro e w1 ⟨rfl, rfl⟩
    go_wp2_with fail
    refine (c2.out _).mono ?_
    rintro e w1 ⟨rfl, rfl⟩
    go_wp2_with fail
    go_region_held3 (fun wr => (Below w.heap.size w wr ∧ w.heap.size < wr.heap.size) ∧ wr.cell? ⟨w.heap.size, 0, none⟩ = some (.int .i64 k) ∧ wr.cell? ⟨w.heap.size, 1, none⟩ = some (.int .i64 c) ∧ wr.cell? ⟨w.heap.size, 2, none⟩ = some (tx d)) (first | exact frHold (by assumption) hb | exact hs0.out) ((go_at_call 24; refine (n1.out _ _ _).mono ?_; rintro e w'' ⟨rfl, hb⟩))
    rename_i hH
    have hH := Lib.hid hH
    clear hs0
    go_wp2_with fail
    go_region_held3 (fun wr => (Below w.heap.size w wr ∧ w.heap.size < wr.heap.size) ∧ wr.cell? ⟨w.heap.size, 0, none⟩ = some (.int .i64 k) ∧ wr.cell? ⟨w.heap.size, 1, none⟩ = some (.int .i64 c) ∧ wr.cell? ⟨w.heap.size, 2, none⟩ = some (tx d)) (first | exact frHold (by assumption) hb2 | exact frHold hH.out (drew_below _)) ((go_at_call 24; refine (n1.out _ _ _).mono ?_; rintro e w'' ⟨rfl, hb2⟩))
    rename_i hH2
    have hH2 := Lib.hid hH2.1.1
    go_wp2_with fail
    go_ret
    exact ⟨by rw [hz.out]; simp only [List.append_assoc]; rfl, hH2.out⟩

/-! ### by the document's own -/
theorem wpAnyH_mono {P : Program} {md : Region.Mode} {ops : Array Oper} {Q : Exit → Act → World → Prop} {S1 S2 : World → Prop} (h : ∀ w, S2 w → S1 w) :
    ∀ (fuel : Nat) (listed : Array Bool) (a : Act) (w : World), wpAnyH P md ops Q S2 fuel listed a w → wpAnyH P md ops Q S1 fuel listed a w
  | 0, _, _, _, H => H
  | fuel + 1, _, _, _, H => ⟨H.1, fun i hi => wpOp_mono (fun a' w' h' => ⟨h _ h'.1, wpAnyH_mono h fuel _ a' w' h'.2⟩) (H.2 i hi)⟩
theorem alloc_below (w : World) (o : Obj) : Below w.heap.size w (w.alloc o) := (Below.refl _ w).alloc (Nat.le_refl _) o
abbrev endO : Obj := .cells #[.int .u8 206] 5
theorem conv_end {w : World} {b : Nat} (h : w.cell? ⟨b, 0, none⟩ = some (.int .u8 206)) : (convert 45 9 (.slice (some ⟨b, 0, none⟩) 1 1)).run Try.prog w = .ok (tx (numL 206 1)) w :=
  run_conv_bytes (l := numL 206 1) (by decide +kernel) fun i c hi => by
    rw [show numL 206 1 = [206] by decide +kernel] at hi
    have h0 : i = 0 := by
      have := (List.getElem?_eq_some_iff.1 hi).1
      simp at this
      omega
    subst h0
    simp only [List.getElem?_cons_zero, Option.some.injEq] at hi
    subst hi
    exact h
theorem end_new (w : World) : (w.alloc endO).cell? ⟨w.heap.size, 0, none⟩ = some (.int .u8 206) := by simp
theorem end_first (w : World) (o : Obj) : ((w.alloc o).alloc endO).drew.cell? ⟨w.heap.size + 1, 0, none⟩ = some (.int .u8 206) := by
  have := end_new (w.alloc o)
  rw [World.size_alloc] at this
  exact this
theorem end_on {wa wb : World} {b : Nat} (h : wa.cell? ⟨b, 0, none⟩ = some (.int .u8 206)) (hb : Below wa.heap.size wa wb) : wb.cell? ⟨b, 0, none⟩ = some (.int .u8 206) :=
  (hb.cell (World.block_lt_of_cell? wa _ h)).trans h

set_option maxHeartbeats 4000000 in
theorem rbytes_any (k c : Int) (d : List UInt8) (w : World) (hd : d.length ≤ 8000000) : Calls Try.prog 11 #[frV k c d] w (BytesR w k c d) := by
  by_cases hok : frOk k c
  rotate_left
  · have hz : Hid (frBytes k c d = []) := Lib.hid (if_neg hok)
    have hor : k < 0 ∨ (0 ≤ k ∧ 255 < k) ∨ (0 ≤ k ∧ k ≤ 255 ∧ c < 0) ∨ (0 ≤ k ∧ k ≤ 255 ∧ 0 ≤ c ∧ 65535 < c) := by unfold frOk at hok; omega
    clear hok
    rcases hor with h | ⟨h1, h⟩ | ⟨h1, h2, h⟩ | ⟨h1, h2, h3, h⟩
    all_goals
      go_enter Try.func11, Try.ntmps11
      go_wp2_with fail
      go_ret
      exact ⟨by rw [hz.out]; rfl, (Below.refl _ w).alloc (Nat.le_refl _) _⟩
  · have hz : Hid (frBytes k c d = low 1 k ++ low 2 c ++ low 4 d.length ++ d ++ [206]) := Lib.hid (if_pos hok)
    obtain ⟨⟨h1, h2⟩, h3, h4⟩ := hok
    have n1 := Lib.hid rnum_c
    have l1 := numL_length k 1
    have l2 := numL_length c 2
    have l3 := numL_length (d.length : Int) 4
    rw [show heldN 1 = 1 from rfl] at l1
    rw [show heldN 2 = 2 from rfl] at l2
    rw [show heldN 4 = 4 from rfl] at l3
    have a1 := fun W => run_string_add_lists (P := Try.prog) W (numL k 1) (numL c 2) (by omega) (by omega)
    have a2 := fun W => run_string_add_lists (P := Try.prog) W (numL k 1 ++ numL c 2) (numL d.length 4) (by rw [List.length_append]; omega) (by omega)
    have a3 := fun W => run_string_add_lists (P := Try.prog) W (numL k 1 ++ numL c 2 ++ numL d.length 4) d (by rw [List.length_append, List.length_append]; omega) (by omega)
    have a4 := fun W => run_string_add_lists (P := Try.prog) W (numL k 1 ++ numL c 2 ++ numL d.length 4 ++ d) (numL 206 1) (by rw [List.length_append, List.length_append, List.length_append]; omega) (by decide +kernel)
    simp only [List.append_assoc] at a2 a3 a4
    clear l1 l2 l3
    have hs0 := Lib.hid (frHold0 w (.int .i64 k) (.int .i64 c) (tx d) 23)
    go_enter Try.func11, Try.ntmps11
    go_wp2_with fail
    refine wp_region_held_drew (S := fun wr => (Below w.heap.size w wr ∧ w.heap.size < wr.heap.size) ∧ wr.cell? ⟨w.heap.size, 0, none⟩ = some (.int .i64 k) ∧ wr.cell? ⟨w.heap.size, 1, none⟩ = some (.int .i64 c) ∧ wr.cell? ⟨w.heap.size, 2, none⟩ = some (tx d)) (by kernel_rfl) hs0.out (fun hHeld => ?_)
    clear hs0
    refine wpAnyH_take (i := 0) (oi := { dst := some 21, op := Op.fieldAddr 23 (Operand.tmp 1) 0, type := 0, pos := "mailcoachref6.go:56", after := #[], guard := none }) (v := ?_) rfl (by kernel_rfl) (by kernel_rfl) (by kernel_rfl) (fun _ _ _ h => h) (Or.inl ⟨by rfl, ?_⟩) hHeld ?_
    rotate_left 1
    · (intro w' hSw; clear hSw; go_simp; (try with_reducible rfl))
    try simp only [Act.put, List.setIfInBounds_toArray, List.set_cons_zero, List.set_cons_succ]
    refine wpAnyH_take (i := 1) (oi := { dst := some 22, op := Op.load 3 (Operand.tmp 21), type := 3, pos := "mailcoachref6.go:56", after := #[{ on := 0, ground := Ground.data }], guard := none }) (v := ?_) rfl (by kernel_rfl) (by kernel_rfl) (by kernel_rfl) (fun _ _ _ h => h) (Or.inl ⟨by rfl, ?_⟩) hHeld ?_
    rotate_left 1
    · (intro w' hSw; obtain ⟨_, s0, s1, s2⟩ := hSw; go_simp; (try with_reducible rfl))
    try simp only [Act.put, List.setIfInBounds_toArray, List.set_cons_zero, List.set_cons_succ]
    refine wpAnyH_take (i := 3) (oi := { dst := some 24, op := Op.fieldAddr 23 (Operand.tmp 1) 1, type := 0, pos := "mailcoachref6.go:56", after := #[], guard := none }) (v := ?_) rfl (by kernel_rfl) (by kernel_rfl) (by kernel_rfl) (fun _ _ _ h => h) (Or.inl ⟨by rfl, ?_⟩) hHeld ?_
    rotate_left 1
    · (intro w' hSw; clear hSw; go_simp; (try with_reducible rfl))
    try simp only [Act.put, List.setIfInBounds_toArray, List.set_cons_zero, List.set_cons_succ]
    refine wpAnyH_take (i := 4) (oi := { dst := some 25, op := Op.load 3 (Operand.tmp 24), type := 3, pos := "mailcoachref6.go:56", after := #[{ on := 3, ground := Ground.data }], guard := none }) (v := ?_) rfl (by kernel_rfl) (by kernel_rfl) (by kernel_rfl) (fun _ _ _ h => h) (Or.inl ⟨by rfl, ?_⟩) hHeld ?_
    rotate_left 1
    · (intro w' hSw; obtain ⟨_, s0, s1, s2⟩ := hSw; go_simp; (try with_reducible rfl))
    try simp only [Act.put, List.setIfInBounds_toArray, List.set_cons_zero, List.set_cons_succ]
    refine wpAnyH_take (i := 7) (oi := { dst := some 28, op := Op.fieldAddr 23 (Operand.tmp 1) 2, type := 0, pos := "mailcoachref6.go:56", after := #[], guard := none }) (v := ?_) rfl (by kernel_rfl) (by kernel_rfl) (by kernel_rfl) (fun _ _ _ h => h) (Or.inl ⟨by rfl, ?_⟩) hHeld ?_
    rotate_left 1
    · (intro w' hSw; clear hSw; go_simp; (try with_reducible rfl))
    try simp only [Act.put, List.setIfInBounds_toArray, List.set_cons_zero, List.set_cons_succ]
    refine wpAnyH_take (i := 8) (oi := { dst := some 29, op := Op.load 9 (Operand.tmp 28), type := 9, pos := "mailcoachref6.go:56", after := #[{ on := 7, ground := Ground.data }], guard := none }) (v := ?_) rfl (by kernel_rfl) (by kernel_rfl) (by kernel_rfl) (fun _ _ _ h => h) (Or.inl ⟨by rfl, ?_⟩) hHeld ?_
    rotate_left 1
    · (intro w' hSw; obtain ⟨_, s0, s1, s2⟩ := hSw; go_simp; (try with_reducible rfl))
    try simp only [Act.put, List.setIfInBounds_toArray, List.set_cons_zero, List.set_cons_succ]
    refine wpAnyH_take (i := 9) (oi := { dst := some 30, op := Op.call { callee := Callee.builtin Builtin.len, args := #[Operand.tmp 29], argTypes := #[9] }, type := 3, pos := "mailcoachref6.go:56", after := #[{ on := 8, ground := Ground.data }], guard := none }) (v := ?_) rfl (by kernel_rfl) (by kernel_rfl) (by kernel_rfl) (fun _ _ _ h => h) (Or.inl ⟨by rfl, ?_⟩) hHeld ?_
    rotate_left 1
    · (intro w' hSw; clear hSw; go_simp; (try with_reducible rfl))
    try simp only [Act.put, List.setIfInBounds_toArray, List.set_cons_zero, List.set_cons_succ]
    refine wpAnyH_take (i := 12) (oi := { dst := some 33, op := Op.fieldAddr 23 (Operand.tmp 1) 2, type := 0, pos := "mailcoachref6.go:56", after := #[], guard := none }) (v := ?_) rfl (by kernel_rfl) (by kernel_rfl) (by kernel_rfl) (fun _ _ _ h => h) (Or.inl ⟨by rfl, ?_⟩) hHeld ?_
    rotate_left 1
    · (intro w' hSw; clear hSw; go_simp; (try with_reducible rfl))
    try simp only [Act.put, List.setIfInBounds_toArray, List.set_cons_zero, List.set_cons_succ]
    refine wpAnyH_take (i := 13) (oi := { dst := some 34, op := Op.load 9 (Operand.tmp 33), type := 9, pos := "mailcoachref6.go:56", after := #[{ on := 12, ground := Ground.data }], guard := none }) (v := ?_) rfl (by kernel_rfl) (by kernel_rfl) (by kernel_rfl) (fun _ _ _ h => h) (Or.inl ⟨by rfl, ?_⟩) hHeld ?_
    rotate_left 1
    · (intro w' hSw; obtain ⟨_, s0, s1, s2⟩ := hSw; go_simp; (try with_reducible rfl))
    try simp only [Act.put, List.setIfInBounds_toArray, List.set_cons_zero, List.set_cons_succ]
    refine wpAnyH_ready (rs := [2, 15]) (by kernel_rfl) (by simp) (AllReadyH.cons (o := { dst := some 23, op := Op.call { callee := Callee.value (Operand.func 25), args := #[Operand.tmp 22, Operand.const (Value.int IntKind.i64 1)], argTypes := #[3, 3] }, type := 9, pos := "mailcoachref6.go:56", after := #[{ on := 1, ground := Ground.data }], guard := none }) rfl (fun K hK => ?_) (AllReadyH.cons (o := { dst := some 36, op := Op.buildSlice 45 1 #[(0, Operand.const (Value.int IntKind.u8 206))], type := 45, pos := "mailcoachref6.go:56", after := #[], guard := none }) rfl (fun K hK => ?_) AllReadyH.nil))
    · go_simp
      refine (n1.out _ _ _).mono ?_
      rintro e w1 ⟨rfl, hb⟩
      have hH2 := frHold hHeld hb
      clear hHeld hb
      go_wp2_with fail
      refine hK.out _ _ hH2 (fun hHeld => ?_)
      clear hK K
      try simp only [Act.put, List.setIfInBounds_toArray, List.set_cons_zero, List.set_cons_succ]
      clear hH2
      refine wpAnyH_ready (rs := [5, 15]) (by kernel_rfl) (by simp) (AllReadyH.cons (o := { dst := some 26, op := Op.call { callee := Callee.value (Operand.func 25), args := #[Operand.tmp 25, Operand.const (Value.int IntKind.i64 2)], argTypes := #[3, 3] }, type := 9, pos := "mailcoachref6.go:56", after := #[{ on := 4, ground := Ground.data }, { on := 2, ground := Ground.chain }], guard := none }) rfl (fun K hK => ?_) (AllReadyH.cons (o := { dst := some 36, op := Op.buildSlice 45 1 #[(0, Operand.const (Value.int IntKind.u8 206))], type := 45, pos := "mailcoachref6.go:56", after := #[], guard := none }) rfl (fun K hK => ?_) AllReadyH.nil))
      · go_simp
        refine (n1.out _ _ _).mono ?_
        rintro e w2 ⟨rfl, hb⟩
        have hH2 := frHold hHeld hb
        clear hHeld hb
        go_wp2_with fail
        refine hK.out _ _ hH2 (fun hHeld => ?_)
        clear hK K
        try simp only [Act.put, List.setIfInBounds_toArray, List.set_cons_zero, List.set_cons_succ]
        clear hH2
        refine wpAnyH_take (i := 6) (oi := { dst := some 27, op := Op.binOp BinOp.add 9 (Operand.tmp 23) (Operand.tmp 26) 9, type := 9, pos := "mailcoachref6.go:56", after := #[{ on := 2, ground := Ground.data }, { on := 5, ground := Ground.data }], guard := none }) (v := ?_) rfl (by kernel_rfl) (by kernel_rfl) (by kernel_rfl) (fun _ _ _ h => h) (Or.inl ⟨by rfl, ?_⟩) hHeld ?_
        rotate_left 1
        · (intro w' hSw; clear hSw; go_simp; (try with_reducible rfl))
        try simp only [Act.put, List.setIfInBounds_toArray, List.set_cons_zero, List.set_cons_succ]
        refine wpAnyH_ready (rs := [10, 15]) (by kernel_rfl) (by simp) (AllReadyH.cons (o := { dst := some 31, op := Op.call { callee := Callee.value (Operand.func 25), args := #[Operand.tmp 30, Operand.const (Value.int IntKind.i64 4)], argTypes := #[3, 3] }, type := 9, pos := "mailcoachref6.go:56", after := #[{ on := 9, ground := Ground.data }, { on := 5, ground := Ground.chain }], guard := none }) rfl (fun K hK => ?_) (AllReadyH.cons (o := { dst := some 36, op := Op.buildSlice 45 1 #[(0, Operand.const (Value.int IntKind.u8 206))], type := 45, pos := "mailcoachref6.go:56", after := #[], guard := none }) rfl (fun K hK => ?_) AllReadyH.nil))
        · go_simp
          refine (n1.out _ _ _).mono ?_
          rintro e w3 ⟨rfl, hb⟩
          have hH2 := frHold hHeld hb
          clear hHeld hb
          go_wp2_with fail
          refine hK.out _ _ hH2 (fun hHeld => ?_)
          clear hK K
          try simp only [Act.put, List.setIfInBounds_toArray, List.set_cons_zero, List.set_cons_succ]
          clear hH2
          refine wpAnyH_take (i := 11) (oi := { dst := some 32, op := Op.binOp BinOp.add 9 (Operand.tmp 27) (Operand.tmp 31) 9, type := 9, pos := "mailcoachref6.go:56", after := #[{ on := 6, ground := Ground.data }, { on := 10, ground := Ground.data }], guard := none }) (v := ?_) rfl (by kernel_rfl) (by kernel_rfl) (by kernel_rfl) (fun _ _ _ h => h) (Or.inl ⟨by rfl, ?_⟩) hHeld ?_
          rotate_left 1
          · (intro w' hSw; clear hSw; go_simp; (try with_reducible rfl))
          try simp only [Act.put, List.setIfInBounds_toArray, List.set_cons_zero, List.set_cons_succ]
          refine wpAnyH_take (i := 14) (oi := { dst := some 35, op := Op.binOp BinOp.add 9 (Operand.tmp 32) (Operand.tmp 34) 9, type := 9, pos := "mailcoachref6.go:56", after := #[{ on := 11, ground := Ground.data }, { on := 13, ground := Ground.data }], guard := none }) (v := ?_) rfl (by kernel_rfl) (by kernel_rfl) (by kernel_rfl) (fun _ _ _ h => h) (Or.inl ⟨by rfl, ?_⟩) hHeld ?_
          rotate_left 1
          · (intro w' hSw; clear hSw; go_simp; (try with_reducible rfl))
          try simp only [Act.put, List.setIfInBounds_toArray, List.set_cons_zero, List.set_cons_succ]
          refine wpAnyH_ready (rs := [15]) (by kernel_rfl) (by simp) (AllReadyH.cons (o := { dst := some 36, op := Op.buildSlice 45 1 #[(0, Operand.const (Value.int IntKind.u8 206))], type := 45, pos := "mailcoachref6.go:56", after := #[], guard := none }) rfl (fun K hK => ?_) AllReadyH.nil)
          go_simp
          have hH2 := frHold hHeld (alloc_below _ endO)
          clear hHeld
          refine hK.out _ _ hH2 (fun hHeld => ?_)
          clear hK K
          try simp only [Act.put, List.setIfInBounds_toArray, List.set_cons_zero, List.set_cons_succ]
          clear hH2
          refine wpAnyH_mono (S2 := fun wr => ((Below w.heap.size w wr ∧ w.heap.size < wr.heap.size) ∧ wr.cell? ⟨w.heap.size, 0, none⟩ = some (.int .i64 k) ∧ wr.cell? ⟨w.heap.size, 1, none⟩ = some (.int .i64 c) ∧ wr.cell? ⟨w.heap.size, 2, none⟩ = some (tx d)) ∧ wr.cell? ⟨w3.heap.size, 0, none⟩ = some (.int .u8 206)) (fun _ h => h.1) _ _ _ _ ?_
          replace hHeld := And.intro hHeld (end_new w3)
          refine wpAnyH_take (i := 16) (oi := { dst := some 37, op := Op.convert 45 9 (Operand.tmp 36), type := 9, pos := "mailcoachref6.go:56", after := #[{ on := 15, ground := Ground.data }], guard := none }) (v := ?_) rfl (by kernel_rfl) (by kernel_rfl) (by kernel_rfl) (fun _ _ _ h => h) (Or.inl ⟨by rfl, ?_⟩) hHeld ?_
          rotate_left 1
          · (intro w' hSw; have hcv := conv_end hSw.2; clear hSw; go_simp; (try with_reducible rfl))
          try simp only [Act.put, List.setIfInBounds_toArray, List.set_cons_zero, List.set_cons_succ]
          refine wpAnyH_take (i := 17) (oi := { dst := some 38, op := Op.binOp BinOp.add 9 (Operand.tmp 35) (Operand.tmp 37) 9, type := 9, pos := "mailcoachref6.go:56", after := #[{ on := 14, ground := Ground.data }, { on := 16, ground := Ground.data }], guard := none }) (v := ?_) rfl (by kernel_rfl) (by kernel_rfl) (by kernel_rfl) (fun _ _ _ h => h) (Or.inl ⟨by rfl, ?_⟩) hHeld ?_
          rotate_left 1
          · (intro w' hSw; clear hSw; go_simp; (try with_reducible rfl))
          try simp only [Act.put, List.setIfInBounds_toArray, List.set_cons_zero, List.set_cons_succ]
          refine wpAnyH_take (i := 18) (oi := { dst := some 2, op := Op.assign (Operand.tmp 38), type := 9, pos := "mailcoachref6.go:56", after := #[{ on := 17, ground := Ground.data }, { on := 10, ground := Ground.chain }, { on := 0, ground := Ground.phase }, { on := 1, ground := Ground.phase }, { on := 2, ground := Ground.phase }, { on := 3, ground := Ground.phase }, { on := 4, ground := Ground.phase }, { on := 5, ground := Ground.phase }, { on := 6, ground := Ground.phase }, { on := 7, ground := Ground.phase }, { on := 8, ground := Ground.phase }, { on := 9, ground := Ground.phase }, { on := 10, ground := Ground.phase }, { on := 11, ground := Ground.phase }, { on := 12, ground := Ground.phase }, { on := 13, ground := Ground.phase }, { on := 14, ground := Ground.phase }, { on := 15, ground := Ground.phase }, { on := 16, ground := Ground.phase }, { on := 17, ground := Ground.phase }], guard := none }) (v := ?_) rfl (by kernel_rfl) (by kernel_rfl) (by kernel_rfl) (fun _ _ _ h => h) (Or.inl ⟨by rfl, ?_⟩) hHeld ?_
          rotate_left 1
          · (intro w' hSw; clear hSw; go_simp; (try with_reducible rfl))
          try simp only [Act.put, List.setIfInBounds_toArray, List.set_cons_zero, List.set_cons_succ]
          refine wpAnyH_done (by kernel_rfl) ?_ _
          have hH := Lib.hid hHeld.1.1.1
          clear hHeld
          go_wp2_with fail
          go_ret
          exact ⟨by rw [hz.out]; simp only [List.append_assoc]; rfl, hH.out⟩
        · go_simp
          have hH2 := frHold hHeld (alloc_below _ endO)
          clear hHeld
          refine hK.out _ _ hH2 (fun hHeld => ?_)
          clear hK K
          try simp only [Act.put, List.setIfInBounds_toArray, List.set_cons_zero, List.set_cons_succ]
          clear hH2
          refine wpAnyH_mono (S2 := fun wr => ((Below w.heap.size w wr ∧ w.heap.size < wr.heap.size) ∧ wr.cell? ⟨w.heap.size, 0, none⟩ = some (.int .i64 k) ∧ wr.cell? ⟨w.heap.size, 1, none⟩ = some (.int .i64 c) ∧ wr.cell? ⟨w.heap.size, 2, none⟩ = some (tx d)) ∧ wr.cell? ⟨w2.heap.size, 0, none⟩ = some (.int .u8 206)) (fun _ h => h.1) _ _ _ _ ?_
          replace hHeld := And.intro hHeld (end_new w2)
          refine wpAnyH_take (i := 16) (oi := { dst := some 37, op := Op.convert 45 9 (Operand.tmp 36), type := 9, pos := "mailcoachref6.go:56", after := #[{ on := 15, ground := Ground.data }], guard := none }) (v := ?_) rfl (by kernel_rfl) (by kernel_rfl) (by kernel_rfl) (fun _ _ _ h => h) (Or.inl ⟨by rfl, ?_⟩) hHeld ?_
          rotate_left 1
          · (intro w' hSw; have hcv := conv_end hSw.2; clear hSw; go_simp; (try with_reducible rfl))
          try simp only [Act.put, List.setIfInBounds_toArray, List.set_cons_zero, List.set_cons_succ]
          refine wpAnyH_ready (rs := [10]) (by kernel_rfl) (by simp) (AllReadyH.cons (o := { dst := some 31, op := Op.call { callee := Callee.value (Operand.func 25), args := #[Operand.tmp 30, Operand.const (Value.int IntKind.i64 4)], argTypes := #[3, 3] }, type := 9, pos := "mailcoachref6.go:56", after := #[{ on := 9, ground := Ground.data }, { on := 5, ground := Ground.chain }], guard := none }) rfl (fun K hK => ?_) AllReadyH.nil)
          go_simp
          refine (n1.out _ _ _).mono ?_
          rintro e w4 ⟨rfl, hb⟩
          have hH2 := And.intro (frHold hHeld.1 hb) (end_on hHeld.2 hb)
          clear hHeld hb
          go_wp2_with fail
          refine hK.out _ _ hH2 (fun hHeld => ?_)
          clear hK K
          try simp only [Act.put, List.setIfInBounds_toArray, List.set_cons_zero, List.set_cons_succ]
          clear hH2
          refine wpAnyH_take (i := 11) (oi := { dst := some 32, op := Op.binOp BinOp.add 9 (Operand.tmp 27) (Operand.tmp 31) 9, type := 9, pos := "mailcoachref6.go:56", after := #[{ on := 6, ground := Ground.data }, { on := 10, ground := Ground.data }], guard := none }) (v := ?_) rfl (by kernel_rfl) (by kernel_rfl) (by kernel_rfl) (fun _ _ _ h => h) (Or.inl ⟨by rfl, ?_⟩) hHeld ?_
          rotate_left 1
          · (intro w' hSw; clear hSw; go_simp; (try with_reducible rfl))
          try simp only [Act.put, List.setIfInBounds_toArray, List.set_cons_zero, List.set_cons_succ]
          refine wpAnyH_take (i := 14) (oi := { dst := some 35, op := Op.binOp BinOp.add 9 (Operand.tmp 32) (Operand.tmp 34) 9, type := 9, pos := "mailcoachref6.go:56", after := #[{ on := 11, ground := Ground.data }, { on := 13, ground := Ground.data }], guard := none }) (v := ?_) rfl (by kernel_rfl) (by kernel_rfl) (by kernel_rfl) (fun _ _ _ h => h) (Or.inl ⟨by rfl, ?_⟩) hHeld ?_
          rotate_left 1
          · (intro w' hSw; clear hSw; go_simp; (try with_reducible rfl))
          try simp only [Act.put, List.setIfInBounds_toArray, List.set_cons_zero, List.set_cons_succ]
          refine wpAnyH_take (i := 17) (oi := { dst := some 38, op := Op.binOp BinOp.add 9 (Operand.tmp 35) (Operand.tmp 37) 9, type := 9, pos := "mailcoachref6.go:56", after := #[{ on := 14, ground := Ground.data }, { on := 16, ground := Ground.data }], guard := none }) (v := ?_) rfl (by kernel_rfl) (by kernel_rfl) (by kernel_rfl) (fun _ _ _ h => h) (Or.inl ⟨by rfl, ?_⟩) hHeld ?_
          rotate_left 1
          · (intro w' hSw; clear hSw; go_simp; (try with_reducible rfl))
          try simp only [Act.put, List.setIfInBounds_toArray, List.set_cons_zero, List.set_cons_succ]
          refine wpAnyH_take (i := 18) (oi := { dst := some 2, op := Op.assign (Operand.tmp 38), type := 9, pos := "mailcoachref6.go:56", after := #[{ on := 17, ground := Ground.data }, { on := 10, ground := Ground.chain }, { on := 0, ground := Ground.phase }, { on := 1, ground := Ground.phase }, { on := 2, ground := Ground.phase }, { on := 3, ground := Ground.phase }, { on := 4, ground := Ground.phase }, { on := 5, ground := Ground.phase }, { on := 6, ground := Ground.phase }, { on := 7, ground := Ground.phase }, { on := 8, ground := Ground.phase }, { on := 9, ground := Ground.phase }, { on := 10, ground := Ground.phase }, { on := 11, ground := Ground.phase }, { on := 12, ground := Ground.phase }, { on := 13, ground := Ground.phase }, { on := 14, ground := Ground.phase }, { on := 15, ground := Ground.phase }, { on := 16, ground := Ground.phase }, { on := 17, ground := Ground.phase }], guard := none }) (v := ?_) rfl (by kernel_rfl) (by kernel_rfl) (by kernel_rfl) (fun _ _ _ h => h) (Or.inl ⟨by rfl, ?_⟩) hHeld ?_
          rotate_left 1
          · (intro w' hSw; clear hSw; go_simp; (try with_reducible rfl))
          try simp only [Act.put, List.setIfInBounds_toArray, List.set_cons_zero, List.set_cons_succ]
          refine wpAnyH_done (by kernel_rfl) ?_ _
          have hH := Lib.hid hHeld.1.1.1
          clear hHeld
          go_wp2_with fail
          go_ret
          exact ⟨by rw [hz.out]; simp only [List.append_assoc]; rfl, hH.out⟩
      · go_simp
        have hH2 := frHold hHeld (alloc_below _ endO)
        clear hHeld
        refine hK.out _ _ hH2 (fun hHeld => ?_)
        clear hK K
        try simp only [Act.put, List.setIfInBounds_toArray, List.set_cons_zero, List.set_cons_succ]
        clear hH2
        refine wpAnyH_mono (S2 := fun wr => ((Below w.heap.size w wr ∧ w.heap.size < wr.heap.size) ∧ wr.cell? ⟨w.heap.size, 0, none⟩ = some (.int .i64 k) ∧ wr.cell? ⟨w.heap.size, 1, none⟩ = some (.int .i64 c) ∧ wr.cell? ⟨w.heap.size, 2, none⟩ = some (tx d)) ∧ wr.cell? ⟨w1.heap.size, 0, none⟩ = some (.int .u8 206)) (fun _ h => h.1) _ _ _ _ ?_
        replace hHeld := And.intro hHeld (end_new w1)
        refine wpAnyH_take (i := 16) (oi := { dst := some 37, op := Op.convert 45 9 (Operand.tmp 36), type := 9, pos := "mailcoachref6.go:56", after := #[{ on := 15, ground := Ground.data }], guard := none }) (v := ?_) rfl (by kernel_rfl) (by kernel_rfl) (by kernel_rfl) (fun _ _ _ h => h) (Or.inl ⟨by rfl, ?_⟩) hHeld ?_
        rotate_left 1
        · (intro w' hSw; have hcv := conv_end hSw.2; clear hSw; go_simp; (try with_reducible rfl))
        try simp only [Act.put, List.setIfInBounds_toArray, List.set_cons_zero, List.set_cons_succ]
        refine wpAnyH_ready (rs := [5]) (by kernel_rfl) (by simp) (AllReadyH.cons (o := { dst := some 26, op := Op.call { callee := Callee.value (Operand.func 25), args := #[Operand.tmp 25, Operand.const (Value.int IntKind.i64 2)], argTypes := #[3, 3] }, type := 9, pos := "mailcoachref6.go:56", after := #[{ on := 4, ground := Ground.data }, { on := 2, ground := Ground.chain }], guard := none }) rfl (fun K hK => ?_) AllReadyH.nil)
        go_simp
        refine (n1.out _ _ _).mono ?_
        rintro e w5 ⟨rfl, hb⟩
        have hH2 := And.intro (frHold hHeld.1 hb) (end_on hHeld.2 hb)
        clear hHeld hb
        go_wp2_with fail
        refine hK.out _ _ hH2 (fun hHeld => ?_)
        clear hK K
        try simp only [Act.put, List.setIfInBounds_toArray, List.set_cons_zero, List.set_cons_succ]
        clear hH2
        refine wpAnyH_take (i := 6) (oi := { dst := some 27, op := Op.binOp BinOp.add 9 (Operand.tmp 23) (Operand.tmp 26) 9, type := 9, pos := "mailcoachref6.go:56", after := #[{ on := 2, ground := Ground.data }, { on := 5, ground := Ground.data }], guard := none }) (v := ?_) rfl (by kernel_rfl) (by kernel_rfl) (by kernel_rfl) (fun _ _ _ h => h) (Or.inl ⟨by rfl, ?_⟩) hHeld ?_
        rotate_left 1
        · (intro w' hSw; clear hSw; go_simp; (try with_reducible rfl))
        try simp only [Act.put, List.setIfInBounds_toArray, List.set_cons_zero, List.set_cons_succ]
        refine wpAnyH_ready (rs := [10]) (by kernel_rfl) (by simp) (AllReadyH.cons (o := { dst := some 31, op := Op.call { callee := Callee.value (Operand.func 25), args := #[Operand.tmp 30, Operand.const (Value.int IntKind.i64 4)], argTypes := #[3, 3] }, type := 9, pos := "mailcoachref6.go:56", after := #[{ on := 9, ground := Ground.data }, { on := 5, ground := Ground.chain }], guard := none }) rfl (fun K hK => ?_) AllReadyH.nil)
        go_simp
        refine (n1.out _ _ _).mono ?_
        rintro e w6 ⟨rfl, hb⟩
        have hH2 := And.intro (frHold hHeld.1 hb) (end_on hHeld.2 hb)
        clear hHeld hb
        go_wp2_with fail
        refine hK.out _ _ hH2 (fun hHeld => ?_)
        clear hK K
        try simp only [Act.put, List.setIfInBounds_toArray, List.set_cons_zero, List.set_cons_succ]
        clear hH2
        refine wpAnyH_take (i := 11) (oi := { dst := some 32, op := Op.binOp BinOp.add 9 (Operand.tmp 27) (Operand.tmp 31) 9, type := 9, pos := "mailcoachref6.go:56", after := #[{ on := 6, ground := Ground.data }, { on := 10, ground := Ground.data }], guard := none }) (v := ?_) rfl (by kernel_rfl) (by kernel_rfl) (by kernel_rfl) (fun _ _ _ h => h) (Or.inl ⟨by rfl, ?_⟩) hHeld ?_
        rotate_left 1
        · (intro w' hSw; clear hSw; go_simp; (try with_reducible rfl))
        try simp only [Act.put, List.setIfInBounds_toArray, List.set_cons_zero, List.set_cons_succ]
        refine wpAnyH_take (i := 14) (oi := { dst := some 35, op := Op.binOp BinOp.add 9 (Operand.tmp 32) (Operand.tmp 34) 9, type := 9, pos := "mailcoachref6.go:56", after := #[{ on := 11, ground := Ground.data }, { on := 13, ground := Ground.data }], guard := none }) (v := ?_) rfl (by kernel_rfl) (by kernel_rfl) (by kernel_rfl) (fun _ _ _ h => h) (Or.inl ⟨by rfl, ?_⟩) hHeld ?_
        rotate_left 1
        · (intro w' hSw; clear hSw; go_simp; (try with_reducible rfl))
        try simp only [Act.put, List.setIfInBounds_toArray, List.set_cons_zero, List.set_cons_succ]
        refine wpAnyH_take (i := 17) (oi := { dst := some 38, op := Op.binOp BinOp.add 9 (Operand.tmp 35) (Operand.tmp 37) 9, type := 9, pos := "mailcoachref6.go:56", after := #[{ on := 14, ground := Ground.data }, { on := 16, ground := Ground.data }], guard := none }) (v := ?_) rfl (by kernel_rfl) (by kernel_rfl) (by kernel_rfl) (fun _ _ _ h => h) (Or.inl ⟨by rfl, ?_⟩) hHeld ?_
        rotate_left 1
        · (intro w' hSw; clear hSw; go_simp; (try with_reducible rfl))
        try simp only [Act.put, List.setIfInBounds_toArray, List.set_cons_zero, List.set_cons_succ]
        refine wpAnyH_take (i := 18) (oi := { dst := some 2, op := Op.assign (Operand.tmp 38), type := 9, pos := "mailcoachref6.go:56", after := #[{ on := 17, ground := Ground.data }, { on := 10, ground := Ground.chain }, { on := 0, ground := Ground.phase }, { on := 1, ground := Ground.phase }, { on := 2, ground := Ground.phase }, { on := 3, ground := Ground.phase }, { on := 4, ground := Ground.phase }, { on := 5, ground := Ground.phase }, { on := 6, ground := Ground.phase }, { on := 7, ground := Ground.phase }, { on := 8, ground := Ground.phase }, { on := 9, ground := Ground.phase }, { on := 10, ground := Ground.phase }, { on := 11, ground := Ground.phase }, { on := 12, ground := Ground.phase }, { on := 13, ground := Ground.phase }, { on := 14, ground := Ground.phase }, { on := 15, ground := Ground.phase }, { on := 16, ground := Ground.phase }, { on := 17, ground := Ground.phase }], guard := none }) (v := ?_) rfl (by kernel_rfl) (by kernel_rfl) (by kernel_rfl) (fun _ _ _ h => h) (Or.inl ⟨by rfl, ?_⟩) hHeld ?_
        rotate_left 1
        · (intro w' hSw; clear hSw; go_simp; (try with_reducible rfl))
        try simp only [Act.put, List.setIfInBounds_toArray, List.set_cons_zero, List.set_cons_succ]
        refine wpAnyH_done (by kernel_rfl) ?_ _
        have hH := Lib.hid hHeld.1.1.1
        clear hHeld
        go_wp2_with fail
        go_ret
        exact ⟨by rw [hz.out]; simp only [List.append_assoc]; rfl, hH.out⟩
    · go_simp
      have hH2 := frHold hHeld (alloc_below _ endO)
      clear hHeld
      refine hK.out _ _ hH2 (fun hHeld => ?_)
      clear hK K
      try simp only [Act.put, List.setIfInBounds_toArray, List.set_cons_zero, List.set_cons_succ]
      clear hH2
      refine wpAnyH_mono (S2 := fun wr => ((Below w.heap.size w wr ∧ w.heap.size < wr.heap.size) ∧ wr.cell? ⟨w.heap.size, 0, none⟩ = some (.int .i64 k) ∧ wr.cell? ⟨w.heap.size, 1, none⟩ = some (.int .i64 c) ∧ wr.cell? ⟨w.heap.size, 2, none⟩ = some (tx d)) ∧ wr.cell? ⟨w.heap.size + 1, 0, none⟩ = some (.int .u8 206)) (fun _ h => h.1) _ _ _ _ ?_
      replace hHeld := And.intro hHeld (end_first w (.cells #[.int .i64 k, .int .i64 c, tx d] 23))
      refine wpAnyH_take (i := 16) (oi := { dst := some 37, op := Op.convert 45 9 (Operand.tmp 36), type := 9, pos := "mailcoachref6.go:56", after := #[{ on := 15, ground := Ground.data }], guard := none }) (v := ?_) rfl (by kernel_rfl) (by kernel_rfl) (by kernel_rfl) (fun _ _ _ h => h) (Or.inl ⟨by rfl, ?_⟩) hHeld ?_
      rotate_left 1
      · (intro w' hSw; have hcv := conv_end hSw.2; clear hSw; go_simp; (try with_reducible rfl))
      try simp only [Act.put, List.setIfInBounds_toArray, List.set_cons_zero, List.set_cons_succ]
      refine wpAnyH_ready (rs := [2]) (by kernel_rfl) (by simp) (AllReadyH.cons (o := { dst := some 23, op := Op.call { callee := Callee.value (Operand.func 25), args := #[Operand.tmp 22, Operand.const (Value.int IntKind.i64 1)], argTypes := #[3, 3] }, type := 9, pos := "mailcoachref6.go:56", after := #[{ on := 1, ground := Ground.data }], guard := none }) rfl (fun K hK => ?_) AllReadyH.nil)
      go_simp
      refine (n1.out _ _ _).mono ?_
      rintro e w7 ⟨rfl, hb⟩
      have hH2 := And.intro (frHold hHeld.1 hb) (end_on hHeld.2 hb)
      clear hHeld hb
      go_wp2_with fail
      refine hK.out _ _ hH2 (fun hHeld => ?_)
      clear hK K
      try simp only [Act.put, List.setIfInBounds_toArray, List.set_cons_zero, List.set_cons_succ]
      clear hH2
      refine wpAnyH_ready (rs := [5]) (by kernel_rfl) (by simp) (AllReadyH.cons (o := { dst := some 26, op := Op.call { callee := Callee.value (Operand.func 25), args := #[Operand.tmp 25, Operand.const (Value.int IntKind.i64 2)], argTypes := #[3, 3] }, type := 9, pos := "mailcoachref6.go:56", after := #[{ on := 4, ground := Ground.data }, { on := 2, ground := Ground.chain }], guard := none }) rfl (fun K hK => ?_) AllReadyH.nil)
      go_simp
      refine (n1.out _ _ _).mono ?_
      rintro e w8 ⟨rfl, hb⟩
      have hH2 := And.intro (frHold hHeld.1 hb) (end_on hHeld.2 hb)
      clear hHeld hb
      go_wp2_with fail
      refine hK.out _ _ hH2 (fun hHeld => ?_)
      clear hK K
      try simp only [Act.put, List.setIfInBounds_toArray, List.set_cons_zero, List.set_cons_succ]
      clear hH2
      refine wpAnyH_take (i := 6) (oi := { dst := some 27, op := Op.binOp BinOp.add 9 (Operand.tmp 23) (Operand.tmp 26) 9, type := 9, pos := "mailcoachref6.go:56", after := #[{ on := 2, ground := Ground.data }, { on := 5, ground := Ground.data }], guard := none }) (v := ?_) rfl (by kernel_rfl) (by kernel_rfl) (by kernel_rfl) (fun _ _ _ h => h) (Or.inl ⟨by rfl, ?_⟩) hHeld ?_
      rotate_left 1
      · (intro w' hSw; clear hSw; go_simp; (try with_reducible rfl))
      try simp only [Act.put, List.setIfInBounds_toArray, List.set_cons_zero, List.set_cons_succ]
      refine wpAnyH_ready (rs := [10]) (by kernel_rfl) (by simp) (AllReadyH.cons (o := { dst := some 31, op := Op.call { callee := Callee.value (Operand.func 25), args := #[Operand.tmp 30, Operand.const (Value.int IntKind.i64 4)], argTypes := #[3, 3] }, type := 9, pos := "mailcoachref6.go:56", after := #[{ on := 9, ground := Ground.data }, { on := 5, ground := Ground.chain }], guard := none }) rfl (fun K hK => ?_) AllReadyH.nil)
      go_simp
      refine (n1.out _ _ _).mono ?_
      rintro e w9 ⟨rfl, hb⟩
      have hH2 := And.intro (frHold hHeld.1 hb) (end_on hHeld.2 hb)
      clear hHeld hb
      go_wp2_with fail
      refine hK.out _ _ hH2 (fun hHeld => ?_)
      clear hK K
      try simp only [Act.put, List.setIfInBounds_toArray, List.set_cons_zero, List.set_cons_succ]
      clear hH2
      refine wpAnyH_take (i := 11) (oi := { dst := some 32, op := Op.binOp BinOp.add 9 (Operand.tmp 27) (Operand.tmp 31) 9, type := 9, pos := "mailcoachref6.go:56", after := #[{ on := 6, ground := Ground.data }, { on := 10, ground := Ground.data }], guard := none }) (v := ?_) rfl (by kernel_rfl) (by kernel_rfl) (by kernel_rfl) (fun _ _ _ h => h) (Or.inl ⟨by rfl, ?_⟩) hHeld ?_
      rotate_left 1
      · (intro w' hSw; clear hSw; go_simp; (try with_reducible rfl))
      try simp only [Act.put, List.setIfInBounds_toArray, List.set_cons_zero, List.set_cons_succ]
      refine wpAnyH_take (i := 14) (oi := { dst := some 35, op := Op.binOp BinOp.add 9 (Operand.tmp 32) (Operand.tmp 34) 9, type := 9, pos := "mailcoachref6.go:56", after := #[{ on := 11, ground := Ground.data }, { on := 13, ground := Ground.data }], guard := none }) (v := ?_) rfl (by kernel_rfl) (by kernel_rfl) (by kernel_rfl) (fun _ _ _ h => h) (Or.inl ⟨by rfl, ?_⟩) hHeld ?_
      rotate_left 1
      · (intro w' hSw; clear hSw; go_simp; (try with_reducible rfl))
      try simp only [Act.put, List.setIfInBounds_toArray, List.set_cons_zero, List.set_cons_succ]
      refine wpAnyH_take (i := 17) (oi := { dst := some 38, op := Op.binOp BinOp.add 9 (Operand.tmp 35) (Operand.tmp 37) 9, type := 9, pos := "mailcoachref6.go:56", after := #[{ on := 14, ground := Ground.data }, { on := 16, ground := Ground.data }], guard := none }) (v := ?_) rfl (by kernel_rfl) (by kernel_rfl) (by kernel_rfl) (fun _ _ _ h => h) (Or.inl ⟨by rfl, ?_⟩) hHeld ?_
      rotate_left 1
      · (intro w' hSw; clear hSw; go_simp; (try with_reducible rfl))
      try simp only [Act.put, List.setIfInBounds_toArray, List.set_cons_zero, List.set_cons_succ]
      refine wpAnyH_take (i := 18) (oi := { dst := some 2, op := Op.assign (Operand.tmp 38), type := 9, pos := "mailcoachref6.go:56", after := #[{ on := 17, ground := Ground.data }, { on := 10, ground := Ground.chain }, { on := 0, ground := Ground.phase }, { on := 1, ground := Ground.phase }, { on := 2, ground := Ground.phase }, { on := 3, ground := Ground.phase }, { on := 4, ground := Ground.phase }, { on := 5, ground := Ground.phase }, { on := 6, ground := Ground.phase }, { on := 7, ground := Ground.phase }, { on := 8, ground := Ground.phase }, { on := 9, ground := Ground.phase }, { on := 10, ground := Ground.phase }, { on := 11, ground := Ground.phase }, { on := 12, ground := Ground.phase }, { on := 13, ground := Ground.phase }, { on := 14, ground := Ground.phase }, { on := 15, ground := Ground.phase }, { on := 16, ground := Ground.phase }, { on := 17, ground := Ground.phase }], guard := none }) (v := ?_) rfl (by kernel_rfl) (by kernel_rfl) (by kernel_rfl) (fun _ _ _ h => h) (Or.inl ⟨by rfl, ?_⟩) hHeld ?_
      rotate_left 1
      · (intro w' hSw; clear hSw; go_simp; (try with_reducible rfl))
      try simp only [Act.put, List.setIfInBounds_toArray, List.set_cons_zero, List.set_cons_succ]
      refine wpAnyH_done (by kernel_rfl) ?_ _
      have hH := Lib.hid hHeld.1.1.1
      clear hHeld
      go_wp2_with fail
      go_ret
      exact ⟨by rw [hz.out]; simp only [List.append_assoc]; rfl, hH.out⟩
end Go.Proofs.Ytjeejflmkdncpaa
