/- EntryOptions: the options made. -/
import Derived.Test.YtbhkgpbhimeniaaDoorEnK
import Derived.Test.YtbhkgpbhimeniaaDoorEnR
namespace Go.Proofs.YtbhkgpbhimeniaaDoor
open Go.RowKit
set_option linter.unusedVariables false
set_option maxRecDepth 100000

theorem wpAnyH_mono {P : Program} {md : Region.Mode} {ops : Array Oper} {Q : Exit → Act → World → Prop} {S1 S2 : World → Prop} (h : ∀ w, S2 w → S1 w) :
    ∀ (fuel : Nat) (listed : Array Bool) (a : Act) (w : World), wpAnyH P md ops Q S2 fuel listed a w → wpAnyH P md ops Q S1 fuel listed a w
  | 0, _, _, _, H => H
  | fuel + 1, _, _, _, H => ⟨H.1, fun i hi => wpOp_mono (fun a' w' h' => ⟨h _ h'.1, wpAnyH_mono h fuel _ a' w' h'.2⟩) (H.2 i hi)⟩
theorem wpAnyH_grow {P : Program} {md : Region.Mode} {ops : Array Oper} {Q : Exit → Act → World → Prop} {S1 S2 : World → Prop} {fuel : Nat} {listed : Array Bool} {a : Act} {w : World} (h : ∀ w, S2 w → S1 w) (hw : S2 w)
    (H : S2 w → wpAnyH P md ops Q S2 fuel listed a w) : wpAnyH P md ops Q S1 fuel listed a w := wpAnyH_mono h _ _ _ _ (H hw)

/-- A row of zeros. -/
structure ZRow (wr : World) (b n : Nat) : Prop where
  lt : b < wr.heap.size
  at_ : ∀ i, i < n → wr.cell? ⟨b, i, none⟩ = some (.int .u8 0)
theorem ZRow.step {w wr : World} {b n : Nat} (h : ZRow w b n) (hb : Below w.heap.size w wr) : ZRow wr b n :=
  ⟨Nat.lt_of_lt_of_le h.lt hb.size, fun i hi => (hb.cell (p := ⟨b, i, none⟩) h.lt).trans (h.at_ i hi)⟩
theorem ZRow.start (w : World) (n k : Nat) (hk : k = w.heap.size) : ZRow (w.alloc (rowOf (List.replicate n 0))) k n := by
  subst hk
  refine ⟨by simp, fun i hi => ?_⟩
  rw [rowOf, World.cell?_alloc_mark]
  show ((List.replicate n (0 : UInt8)).map _).toArray[i]? = _
  rw [List.getElem?_toArray, List.getElem?_map, List.getElem?_replicate, if_pos hi]
  rfl
theorem ZRow.conv {w : World} {b n : Nat} (h : ZRow w b n) : (convert 33 9 (.slice (some ⟨b, 0, none⟩) n n)).run Tryd.prog w = .ok (tx (List.replicate n 0)) w :=
  run_conv_bytes (by simp) fun i c hi => by
    have hlt : i < n := by simpa using (List.getElem?_eq_some_iff.1 hi).1
    rw [List.getElem?_replicate, if_pos hlt, Option.some.injEq] at hi
    subst hi
    rw [Nat.zero_add]
    exact h.at_ i hlt

def OptsAt (w wr : World) (o : Opt) (v : Value) : Prop := ∃ ob, v = .pointer (some ⟨ob, 0, none⟩) ∧ Hid (Below w.heap.size w wr ∧ OpAt wr ob o)

set_option maxHeartbeats 8000000 in
theorem options14_walk {a b z d e f : Nat} {p q r s t u : Nat} (ha : a ≤ 255) (ma : a % 3 = p) (hb : b ≤ 255) (mb : b % 3 = q) (hz : z ≤ 255) (mz : z % 3 = r) (hd : d ≤ 255) (md : d % 3 = s) (he : e ≤ 255) (me : e % 3 = t) (hf : f ≤ 255) (mf : f % 3 = u) {w : World} (hT : Most w.heap.size w) :
    Calls Tryd.prog 5 #[.int .u8 a, .int .u8 b, .int .u8 z, .int .u8 d, .int .u8 e, .int .u8 f] w fun e w' => e = .returned (.bool true) ∧ Below w.heap.size w w' := by
  have c1 := Lib.hid (known14_true w hT)
  have hW : Hid (∀ w', Below w.heap.size w w' → Most w'.heap.size w') := Lib.hid fun w' hb => hT.on hb
  have p3 : (p : Int) < 3 := by omega
  have p0 : (0 : Int) ≤ p := by omega
  have p1 : (a : Int) % 3 = p := by omega
  have q3 : (q : Int) < 3 := by omega
  have q0 : (0 : Int) ≤ q := by omega
  have q1 : (b : Int) % 3 = q := by omega
  have r3 : (r : Int) < 3 := by omega
  have r0 : (0 : Int) ≤ r := by omega
  have r1 : (z : Int) % 3 = r := by omega
  have s3 : (s : Int) < 3 := by omega
  have s0 : (0 : Int) ≤ s := by omega
  have s1 : (d : Int) % 3 = s := by omega
  have t3 : (t : Int) < 3 := by omega
  have t0 : (0 : Int) ≤ t := by omega
  have t1 : (e : Int) % 3 = t := by omega
  have u3 : (u : Int) < 3 := by omega
  have u0 : (0 : Int) ≤ u := by omega
  have u1 : (f : Int) % 3 = u := by omega
  have mk1 : ∀ W : World, (Instr.makeSlice 33 (.int .i64 (11 + (p : Int))) (.int .i64 (11 + (p : Int)))).run Tryd.prog W = .ok (.slice (some ⟨W.heap.size, 0, none⟩) (11 + p) (11 + p)) (W.alloc (rowOf (List.replicate (11 + p) 0))) := fun W => by
    have := mk_row W (11 + p) (by omega)
    rwa [show ((11 + p : Nat) : Int) = 11 + (p : Int) by omega] at this
  have mk2 : ∀ W : World, (Instr.makeSlice 33 (.int .i64 (39 + (q : Int))) (.int .i64 (39 + (q : Int)))).run Tryd.prog W = .ok (.slice (some ⟨W.heap.size, 0, none⟩) (39 + q) (39 + q)) (W.alloc (rowOf (List.replicate (39 + q) 0))) := fun W => by
    have := mk_row W (39 + q) (by omega)
    rwa [show ((39 + q : Nat) : Int) = 39 + (q : Int) by omega] at this
  have zr1 := Lib.hid (fun W k h => ZRow.start W (11 + p) k h)
  have zr2 := Lib.hid (fun W k h => ZRow.start W (39 + q) k h)
  have cz1 := Lib.hid (fun W b (h : ZRow W b (11 + p)) => h.conv)
  have cz2 := Lib.hid (fun W b (h : ZRow W b (39 + q)) => h.conv)
  have hR1 : Hid ((List.replicate (11 + p) (0 : UInt8)).length = 11 + p) := Lib.hid (by simp)
  have hR2 : Hid ((List.replicate (39 + q) (0 : UInt8)).length = 39 + q) := Lib.hid (by simp)
  generalize rowOf (List.replicate (11 + p) 0) = O1 at *
  generalize rowOf (List.replicate (39 + q) 0) = O2 at *
  generalize List.replicate (11 + p) (0 : UInt8) = R1 at *
  generalize List.replicate (39 + q) (0 : UInt8) = R2 at *
  replace hR1 : Hid (R1.length = 11 + p) := hR1
  obtain ⟨n1, hn1⟩ : ∃ n, n = 11 + p := ⟨_, rfl⟩
  obtain ⟨n2, hn2⟩ : ∃ n, n = 39 + q := ⟨_, rfl⟩
  rw [← hn1] at mk1 zr1 cz1
  rw [← hn2] at mk2 zr2 cz2
  replace hn1 := Lib.hid hn1
  replace hn2 := Lib.hid hn2
  clear hT ha ma hb mb hz mz hd md he me hf mf
  go_enter Tryd.func5, Tryd.ntmps5
  go_wp2_with fail
  refine c1.out.mono ?_
  rintro e w1 ⟨rfl, hb⟩
  have hB1 := Lib.hid hb
  clear hb c1
  go_upto_region 3 with fail
  go_cut [13] (fun v wx => OptsAt w wx ⟨R1, R2, 59 + r, 9999 + s, 2 + t, 14 + u⟩ v)
  case first =>
    have tp : (a : Int).tmod 3 = p := by rw [Int.tmod_eq_emod_of_nonneg (by omega)]; exact p1
    have up : IntKind.i64.wrap (p : Int) = p := by rw [IntKind.wrap_i64]; omega
    have vp : IntKind.i64.wrap (11 + (p : Int)) = 11 + p := by rw [IntKind.wrap_i64]; omega
    have tq : (b : Int).tmod 3 = q := by rw [Int.tmod_eq_emod_of_nonneg (by omega)]; exact q1
    have uq : IntKind.i64.wrap (q : Int) = q := by rw [IntKind.wrap_i64]; omega
    have vq : IntKind.i64.wrap (39 + (q : Int)) = 39 + q := by rw [IntKind.wrap_i64]; omega
    have tr : (z : Int).tmod 3 = r := by rw [Int.tmod_eq_emod_of_nonneg (by omega)]; exact r1
    have ur : IntKind.i64.wrap (r : Int) = r := by rw [IntKind.wrap_i64]; omega
    have vr : IntKind.i64.wrap (59 + (r : Int)) = 59 + r := by rw [IntKind.wrap_i64]; omega
    have ts : (d : Int).tmod 3 = s := by rw [Int.tmod_eq_emod_of_nonneg (by omega)]; exact s1
    have us : IntKind.i64.wrap (s : Int) = s := by rw [IntKind.wrap_i64]; omega
    have vs : IntKind.i64.wrap (9999 + (s : Int)) = 9999 + s := by rw [IntKind.wrap_i64]; omega
    have tt : (e : Int).tmod 3 = t := by rw [Int.tmod_eq_emod_of_nonneg (by omega)]; exact t1
    have ut : IntKind.i64.wrap (t : Int) = t := by rw [IntKind.wrap_i64]; omega
    have vt : IntKind.i64.wrap (2 + (t : Int)) = 2 + t := by rw [IntKind.wrap_i64]; omega
    have tu : (f : Int).tmod 3 = u := by rw [Int.tmod_eq_emod_of_nonneg (by omega)]; exact u1
    have uu : IntKind.i64.wrap (u : Int) = u := by rw [IntKind.wrap_i64]; omega
    have vu : IntKind.i64.wrap (14 + (u : Int)) = 14 + u := by rw [IntKind.wrap_i64]; omega
    refine wp_region_held_drew (S := fun wr => Below w1.drew.heap.size w1.drew wr) (by kernel_rfl) (Below.refl _ _) (fun hHeld => ?_)
    generalize hV : w1.drew = V at *
    have hbV : Hid (Below w.heap.size w V) := Lib.hid (hV ▸ bel hB1.out (drew_b _))
    clear hV hB1
    refine wpAnyH_take (i := 0) (oi := { dst := some 18, op := Op.move (Operand.tmp 0), type := 5, pos := "family.go:25", after := #[], guard := none }) (v := ?_) rfl (by kernel_rfl) (by kernel_rfl) (by kernel_rfl) (fun _ _ _ h => h) (Or.inl ⟨by rfl, ?_⟩) hHeld ?_
    rotate_left 1
    · (intro w' hSw; clear hSw; go_simp; (try with_reducible rfl))
    try simp only [Act.put, List.setIfInBounds_toArray, List.set_cons_zero, List.set_cons_succ]
    refine wpAnyH_take (i := 1) (oi := { dst := some 19, op := Op.binOp BinOp.rem 5 (Operand.tmp 18) (Operand.const (Value.int IntKind.u8 3)) 5, type := 5, pos := "family.go:25", after := #[{ on := 0, ground := Ground.data }], guard := none }) (v := ?_) rfl (by kernel_rfl) (by kernel_rfl) (by kernel_rfl) (fun _ _ _ h => h) (Or.inl ⟨by rfl, ?_⟩) hHeld ?_
    rotate_left 1
    · (intro w' hSw; clear hSw; go_simp; (try with_reducible rfl))
    try simp only [Act.put, List.setIfInBounds_toArray, List.set_cons_zero, List.set_cons_succ]
    refine wpAnyH_take (i := 2) (oi := { dst := some 20, op := Op.convert 5 3 (Operand.tmp 19), type := 3, pos := "family.go:25", after := #[{ on := 1, ground := Ground.data }], guard := none }) (v := ?_) rfl (by kernel_rfl) (by kernel_rfl) (by kernel_rfl) (fun _ _ _ h => h) (Or.inl ⟨by rfl, ?_⟩) hHeld ?_
    rotate_left 1
    · (intro w' hSw; clear hSw; go_simp; (try with_reducible rfl))
    try simp only [Act.put, List.setIfInBounds_toArray, List.set_cons_zero, List.set_cons_succ]
    refine wpAnyH_take (i := 3) (oi := { dst := some 21, op := Op.binOp BinOp.add 3 (Operand.const (Value.int IntKind.i64 11)) (Operand.tmp 20) 3, type := 3, pos := "family.go:25", after := #[{ on := 2, ground := Ground.data }], guard := none }) (v := ?_) rfl (by kernel_rfl) (by kernel_rfl) (by kernel_rfl) (fun _ _ _ h => h) (Or.inl ⟨by rfl, ?_⟩) hHeld ?_
    rotate_left 1
    · (intro w' hSw; clear hSw; go_simp; (try with_reducible rfl))
    try simp only [Act.put, List.setIfInBounds_toArray, List.set_cons_zero, List.set_cons_succ]
    refine wpAnyH_take (i := 6) (oi := { dst := some 24, op := Op.move (Operand.tmp 1), type := 5, pos := "family.go:25", after := #[], guard := none }) (v := ?_) rfl (by kernel_rfl) (by kernel_rfl) (by kernel_rfl) (fun _ _ _ h => h) (Or.inl ⟨by rfl, ?_⟩) hHeld ?_
    rotate_left 1
    · (intro w' hSw; clear hSw; go_simp; (try with_reducible rfl))
    try simp only [Act.put, List.setIfInBounds_toArray, List.set_cons_zero, List.set_cons_succ]
    refine wpAnyH_take (i := 7) (oi := { dst := some 25, op := Op.binOp BinOp.rem 5 (Operand.tmp 24) (Operand.const (Value.int IntKind.u8 3)) 5, type := 5, pos := "family.go:25", after := #[{ on := 6, ground := Ground.data }], guard := none }) (v := ?_) rfl (by kernel_rfl) (by kernel_rfl) (by kernel_rfl) (fun _ _ _ h => h) (Or.inl ⟨by rfl, ?_⟩) hHeld ?_
    rotate_left 1
    · (intro w' hSw; clear hSw; go_simp; (try with_reducible rfl))
    try simp only [Act.put, List.setIfInBounds_toArray, List.set_cons_zero, List.set_cons_succ]
    refine wpAnyH_take (i := 8) (oi := { dst := some 26, op := Op.convert 5 3 (Operand.tmp 25), type := 3, pos := "family.go:25", after := #[{ on := 7, ground := Ground.data }], guard := none }) (v := ?_) rfl (by kernel_rfl) (by kernel_rfl) (by kernel_rfl) (fun _ _ _ h => h) (Or.inl ⟨by rfl, ?_⟩) hHeld ?_
    rotate_left 1
    · (intro w' hSw; clear hSw; go_simp; (try with_reducible rfl))
    try simp only [Act.put, List.setIfInBounds_toArray, List.set_cons_zero, List.set_cons_succ]
    refine wpAnyH_take (i := 9) (oi := { dst := some 27, op := Op.binOp BinOp.add 3 (Operand.const (Value.int IntKind.i64 39)) (Operand.tmp 26) 3, type := 3, pos := "family.go:25", after := #[{ on := 8, ground := Ground.data }], guard := none }) (v := ?_) rfl (by kernel_rfl) (by kernel_rfl) (by kernel_rfl) (fun _ _ _ h => h) (Or.inl ⟨by rfl, ?_⟩) hHeld ?_
    rotate_left 1
    · (intro w' hSw; clear hSw; go_simp; (try with_reducible rfl))
    try simp only [Act.put, List.setIfInBounds_toArray, List.set_cons_zero, List.set_cons_succ]
    refine wpAnyH_take (i := 12) (oi := { dst := some 30, op := Op.move (Operand.tmp 2), type := 5, pos := "family.go:25", after := #[], guard := none }) (v := ?_) rfl (by kernel_rfl) (by kernel_rfl) (by kernel_rfl) (fun _ _ _ h => h) (Or.inl ⟨by rfl, ?_⟩) hHeld ?_
    rotate_left 1
    · (intro w' hSw; clear hSw; go_simp; (try with_reducible rfl))
    try simp only [Act.put, List.setIfInBounds_toArray, List.set_cons_zero, List.set_cons_succ]
    refine wpAnyH_take (i := 13) (oi := { dst := some 31, op := Op.binOp BinOp.rem 5 (Operand.tmp 30) (Operand.const (Value.int IntKind.u8 3)) 5, type := 5, pos := "family.go:25", after := #[{ on := 12, ground := Ground.data }], guard := none }) (v := ?_) rfl (by kernel_rfl) (by kernel_rfl) (by kernel_rfl) (fun _ _ _ h => h) (Or.inl ⟨by rfl, ?_⟩) hHeld ?_
    rotate_left 1
    · (intro w' hSw; clear hSw; go_simp; (try with_reducible rfl))
    try simp only [Act.put, List.setIfInBounds_toArray, List.set_cons_zero, List.set_cons_succ]
    refine wpAnyH_take (i := 14) (oi := { dst := some 32, op := Op.convert 5 3 (Operand.tmp 31), type := 3, pos := "family.go:25", after := #[{ on := 13, ground := Ground.data }], guard := none }) (v := ?_) rfl (by kernel_rfl) (by kernel_rfl) (by kernel_rfl) (fun _ _ _ h => h) (Or.inl ⟨by rfl, ?_⟩) hHeld ?_
    rotate_left 1
    · (intro w' hSw; clear hSw; go_simp; (try with_reducible rfl))
    try simp only [Act.put, List.setIfInBounds_toArray, List.set_cons_zero, List.set_cons_succ]
    refine wpAnyH_take (i := 15) (oi := { dst := some 33, op := Op.binOp BinOp.add 3 (Operand.const (Value.int IntKind.i64 59)) (Operand.tmp 32) 3, type := 3, pos := "family.go:25", after := #[{ on := 14, ground := Ground.data }], guard := none }) (v := ?_) rfl (by kernel_rfl) (by kernel_rfl) (by kernel_rfl) (fun _ _ _ h => h) (Or.inl ⟨by rfl, ?_⟩) hHeld ?_
    rotate_left 1
    · (intro w' hSw; clear hSw; go_simp; (try with_reducible rfl))
    try simp only [Act.put, List.setIfInBounds_toArray, List.set_cons_zero, List.set_cons_succ]
    refine wpAnyH_take (i := 16) (oi := { dst := some 34, op := Op.move (Operand.tmp 3), type := 5, pos := "family.go:25", after := #[], guard := none }) (v := ?_) rfl (by kernel_rfl) (by kernel_rfl) (by kernel_rfl) (fun _ _ _ h => h) (Or.inl ⟨by rfl, ?_⟩) hHeld ?_
    rotate_left 1
    · (intro w' hSw; clear hSw; go_simp; (try with_reducible rfl))
    try simp only [Act.put, List.setIfInBounds_toArray, List.set_cons_zero, List.set_cons_succ]
    refine wpAnyH_take (i := 17) (oi := { dst := some 35, op := Op.binOp BinOp.rem 5 (Operand.tmp 34) (Operand.const (Value.int IntKind.u8 3)) 5, type := 5, pos := "family.go:25", after := #[{ on := 16, ground := Ground.data }], guard := none }) (v := ?_) rfl (by kernel_rfl) (by kernel_rfl) (by kernel_rfl) (fun _ _ _ h => h) (Or.inl ⟨by rfl, ?_⟩) hHeld ?_
    rotate_left 1
    · (intro w' hSw; clear hSw; go_simp; (try with_reducible rfl))
    try simp only [Act.put, List.setIfInBounds_toArray, List.set_cons_zero, List.set_cons_succ]
    refine wpAnyH_take (i := 18) (oi := { dst := some 36, op := Op.convert 5 3 (Operand.tmp 35), type := 3, pos := "family.go:25", after := #[{ on := 17, ground := Ground.data }], guard := none }) (v := ?_) rfl (by kernel_rfl) (by kernel_rfl) (by kernel_rfl) (fun _ _ _ h => h) (Or.inl ⟨by rfl, ?_⟩) hHeld ?_
    rotate_left 1
    · (intro w' hSw; clear hSw; go_simp; (try with_reducible rfl))
    try simp only [Act.put, List.setIfInBounds_toArray, List.set_cons_zero, List.set_cons_succ]
    refine wpAnyH_take (i := 19) (oi := { dst := some 37, op := Op.binOp BinOp.add 3 (Operand.const (Value.int IntKind.i64 9999)) (Operand.tmp 36) 3, type := 3, pos := "family.go:25", after := #[{ on := 18, ground := Ground.data }], guard := none }) (v := ?_) rfl (by kernel_rfl) (by kernel_rfl) (by kernel_rfl) (fun _ _ _ h => h) (Or.inl ⟨by rfl, ?_⟩) hHeld ?_
    rotate_left 1
    · (intro w' hSw; clear hSw; go_simp; (try with_reducible rfl))
    try simp only [Act.put, List.setIfInBounds_toArray, List.set_cons_zero, List.set_cons_succ]
    refine wpAnyH_take (i := 20) (oi := { dst := some 38, op := Op.move (Operand.tmp 4), type := 5, pos := "family.go:25", after := #[], guard := none }) (v := ?_) rfl (by kernel_rfl) (by kernel_rfl) (by kernel_rfl) (fun _ _ _ h => h) (Or.inl ⟨by rfl, ?_⟩) hHeld ?_
    rotate_left 1
    · (intro w' hSw; clear hSw; go_simp; (try with_reducible rfl))
    try simp only [Act.put, List.setIfInBounds_toArray, List.set_cons_zero, List.set_cons_succ]
    refine wpAnyH_take (i := 21) (oi := { dst := some 39, op := Op.binOp BinOp.rem 5 (Operand.tmp 38) (Operand.const (Value.int IntKind.u8 3)) 5, type := 5, pos := "family.go:25", after := #[{ on := 20, ground := Ground.data }], guard := none }) (v := ?_) rfl (by kernel_rfl) (by kernel_rfl) (by kernel_rfl) (fun _ _ _ h => h) (Or.inl ⟨by rfl, ?_⟩) hHeld ?_
    rotate_left 1
    · (intro w' hSw; clear hSw; go_simp; (try with_reducible rfl))
    try simp only [Act.put, List.setIfInBounds_toArray, List.set_cons_zero, List.set_cons_succ]
    refine wpAnyH_take (i := 22) (oi := { dst := some 40, op := Op.convert 5 3 (Operand.tmp 39), type := 3, pos := "family.go:25", after := #[{ on := 21, ground := Ground.data }], guard := none }) (v := ?_) rfl (by kernel_rfl) (by kernel_rfl) (by kernel_rfl) (fun _ _ _ h => h) (Or.inl ⟨by rfl, ?_⟩) hHeld ?_
    rotate_left 1
    · (intro w' hSw; clear hSw; go_simp; (try with_reducible rfl))
    try simp only [Act.put, List.setIfInBounds_toArray, List.set_cons_zero, List.set_cons_succ]
    refine wpAnyH_take (i := 23) (oi := { dst := some 41, op := Op.binOp BinOp.add 3 (Operand.const (Value.int IntKind.i64 2)) (Operand.tmp 40) 3, type := 3, pos := "family.go:25", after := #[{ on := 22, ground := Ground.data }], guard := none }) (v := ?_) rfl (by kernel_rfl) (by kernel_rfl) (by kernel_rfl) (fun _ _ _ h => h) (Or.inl ⟨by rfl, ?_⟩) hHeld ?_
    rotate_left 1
    · (intro w' hSw; clear hSw; go_simp; (try with_reducible rfl))
    try simp only [Act.put, List.setIfInBounds_toArray, List.set_cons_zero, List.set_cons_succ]
    refine wpAnyH_take (i := 24) (oi := { dst := some 42, op := Op.move (Operand.tmp 5), type := 5, pos := "family.go:25", after := #[], guard := none }) (v := ?_) rfl (by kernel_rfl) (by kernel_rfl) (by kernel_rfl) (fun _ _ _ h => h) (Or.inl ⟨by rfl, ?_⟩) hHeld ?_
    rotate_left 1
    · (intro w' hSw; clear hSw; go_simp; (try with_reducible rfl))
    try simp only [Act.put, List.setIfInBounds_toArray, List.set_cons_zero, List.set_cons_succ]
    refine wpAnyH_take (i := 25) (oi := { dst := some 43, op := Op.binOp BinOp.rem 5 (Operand.tmp 42) (Operand.const (Value.int IntKind.u8 3)) 5, type := 5, pos := "family.go:25", after := #[{ on := 24, ground := Ground.data }], guard := none }) (v := ?_) rfl (by kernel_rfl) (by kernel_rfl) (by kernel_rfl) (fun _ _ _ h => h) (Or.inl ⟨by rfl, ?_⟩) hHeld ?_
    rotate_left 1
    · (intro w' hSw; clear hSw; go_simp; (try with_reducible rfl))
    try simp only [Act.put, List.setIfInBounds_toArray, List.set_cons_zero, List.set_cons_succ]
    refine wpAnyH_take (i := 26) (oi := { dst := some 44, op := Op.convert 5 3 (Operand.tmp 43), type := 3, pos := "family.go:25", after := #[{ on := 25, ground := Ground.data }], guard := none }) (v := ?_) rfl (by kernel_rfl) (by kernel_rfl) (by kernel_rfl) (fun _ _ _ h => h) (Or.inl ⟨by rfl, ?_⟩) hHeld ?_
    rotate_left 1
    · (intro w' hSw; clear hSw; go_simp; (try with_reducible rfl))
    try simp only [Act.put, List.setIfInBounds_toArray, List.set_cons_zero, List.set_cons_succ]
    refine wpAnyH_take (i := 27) (oi := { dst := some 45, op := Op.binOp BinOp.add 3 (Operand.const (Value.int IntKind.i64 14)) (Operand.tmp 44) 3, type := 3, pos := "family.go:25", after := #[{ on := 26, ground := Ground.data }], guard := none }) (v := ?_) rfl (by kernel_rfl) (by kernel_rfl) (by kernel_rfl) (fun _ _ _ h => h) (Or.inl ⟨by rfl, ?_⟩) hHeld ?_
    rotate_left 1
    · (intro w' hSw; clear hSw; go_simp; (try with_reducible rfl))
    try simp only [Act.put, List.setIfInBounds_toArray, List.set_cons_zero, List.set_cons_succ]
    refine wpAnyH_ready (rs := [4, 10, 29]) (by kernel_rfl) (by simp) (AllReadyH.cons (o := { dst := some 22, op := Op.makeSlice 33 (Operand.tmp 21) (Operand.tmp 21), type := 33, pos := "family.go:25", after := #[{ on := 3, ground := Ground.data }, { on := 3, ground := Ground.data }], guard := none }) rfl (fun K hK => ?_) (AllReadyH.cons (o := { dst := some 28, op := Op.makeSlice 33 (Operand.tmp 27) (Operand.tmp 27), type := 33, pos := "family.go:25", after := #[{ on := 9, ground := Ground.data }, { on := 9, ground := Ground.data }], guard := none }) rfl (fun K hK => ?_) (AllReadyH.cons (o := { dst := some 13, op := Op.alloc 28, type := 0, pos := "family.go:25", after := #[], guard := none }) rfl (fun K hK => ?_) AllReadyH.nil)))
    · clear hHeld
      go_simp
      refine hK.out _ _ (by repeat (first | exact Below.refl _ _ | refine bel ?_ (new_below _ _))) (fun hHeld => ?_)
      clear hK K
      try simp only [Act.put, List.setIfInBounds_toArray, List.set_cons_zero, List.set_cons_succ]
      clear hHeld
      refine wpAnyH_grow (S2 := fun wr => (Below V.heap.size V wr) ∧ ZRow wr (V.heap.size) n1) (fun _ h => h.1) (And.intro (by repeat (first | exact Below.refl _ _ | refine bel ?_ (new_below _ _))) (zr1.out _ _ (by simp))) (fun hHeld => ?_)
      refine wpAnyH_take (i := 5) (oi := { dst := some 23, op := Op.convert 33 9 (Operand.tmp 22), type := 9, pos := "family.go:25", after := #[{ on := 4, ground := Ground.data }], guard := none }) (v := ?_) rfl (by kernel_rfl) (by kernel_rfl) (by kernel_rfl) (fun _ _ _ h => h) (Or.inl ⟨by rfl, ?_⟩) hHeld ?_
      rotate_left 1
      · (intro w' hSw; have hcv := cz1.out w' _ hSw.2; clear hSw; go_simp; (try with_reducible rfl))
      try simp only [Act.put, List.setIfInBounds_toArray, List.set_cons_zero, List.set_cons_succ]
      refine wpAnyH_ready (rs := [10, 29]) (by kernel_rfl) (by simp) (AllReadyH.cons (o := { dst := some 28, op := Op.makeSlice 33 (Operand.tmp 27) (Operand.tmp 27), type := 33, pos := "family.go:25", after := #[{ on := 9, ground := Ground.data }, { on := 9, ground := Ground.data }], guard := none }) rfl (fun K hK => ?_) (AllReadyH.cons (o := { dst := some 13, op := Op.alloc 28, type := 0, pos := "family.go:25", after := #[], guard := none }) rfl (fun K hK => ?_) AllReadyH.nil))
      · clear hHeld
        go_simp
        refine hK.out _ _ (And.intro (by repeat (first | exact Below.refl _ _ | refine bel ?_ (new_below _ _))) (ZRow.step (zr1.out _ _ (by simp)) (new_below _ _))) (fun hHeld => ?_)
        clear hK K
        try simp only [Act.put, List.setIfInBounds_toArray, List.set_cons_zero, List.set_cons_succ]
        clear hHeld
        refine wpAnyH_grow (S2 := fun wr => ((Below V.heap.size V wr) ∧ ZRow wr (V.heap.size) n1) ∧ ZRow wr (V.heap.size + 1) n2) (fun _ h => h.1) (And.intro (And.intro (by repeat (first | exact Below.refl _ _ | refine bel ?_ (new_below _ _))) (ZRow.step (zr1.out _ _ (by simp)) (new_below _ _))) (zr2.out _ _ (by simp))) (fun hHeld => ?_)
        refine wpAnyH_take (i := 11) (oi := { dst := some 29, op := Op.convert 33 9 (Operand.tmp 28), type := 9, pos := "family.go:25", after := #[{ on := 10, ground := Ground.data }], guard := none }) (v := ?_) rfl (by kernel_rfl) (by kernel_rfl) (by kernel_rfl) (fun _ _ _ h => h) (Or.inl ⟨by rfl, ?_⟩) hHeld ?_
        rotate_left 1
        · (intro w' hSw; have hcv := cz2.out w' _ hSw.2; clear hSw; go_simp; (try with_reducible rfl))
        try simp only [Act.put, List.setIfInBounds_toArray, List.set_cons_zero, List.set_cons_succ]
        refine wpAnyH_take (i := 28) (oi := { dst := some 46, op := Op.build 28 #[(0, Operand.tmp 23), (1, Operand.tmp 29), (2, Operand.tmp 33), (3, Operand.tmp 37), (4, Operand.tmp 41), (5, Operand.tmp 45)], type := 28, pos := "family.go:25", after := #[{ on := 5, ground := Ground.data }, { on := 11, ground := Ground.data }, { on := 15, ground := Ground.data }, { on := 19, ground := Ground.data }, { on := 23, ground := Ground.data }, { on := 27, ground := Ground.data }], guard := none }) (v := ?_) rfl (by kernel_rfl) (by kernel_rfl) (by kernel_rfl) (fun _ _ _ h => h) (Or.inl ⟨by rfl, ?_⟩) hHeld ?_
        rotate_left 1
        · (intro w' hSw; clear hSw; go_simp; (try with_reducible rfl))
        try simp only [Act.put, List.setIfInBounds_toArray, List.set_cons_zero, List.set_cons_succ]
        refine wpAnyH_ready (rs := [29]) (by kernel_rfl) (by simp) (AllReadyH.cons (o := { dst := some 13, op := Op.alloc 28, type := 0, pos := "family.go:25", after := #[], guard := none }) rfl (fun K hK => ?_) AllReadyH.nil)
        clear hHeld
        go_simp
        refine hK.out _ _ (And.intro (And.intro (by repeat (first | exact Below.refl _ _ | refine bel ?_ (new_below _ _))) (ZRow.step (ZRow.step (zr1.out _ _ (by simp)) (new_below _ _)) (new_below _ _))) (ZRow.step (zr2.out _ _ (by simp)) (new_below _ _))) (fun hHeld => ?_)
        clear hK K
        try simp only [Act.put, List.setIfInBounds_toArray, List.set_cons_zero, List.set_cons_succ]
        refine wpAnyH_ready (rs := [30]) (by kernel_rfl) (by simp) (AllReadyH.cons (o := { dst := none, op := Op.store 28 (Operand.tmp 13) (Operand.tmp 46), type := 0, pos := "family.go:25", after := #[{ on := 29, ground := Ground.data }, { on := 28, ground := Ground.data }, { on := 0, ground := Ground.phase }, { on := 1, ground := Ground.phase }, { on := 2, ground := Ground.phase }, { on := 3, ground := Ground.phase }, { on := 4, ground := Ground.phase }, { on := 5, ground := Ground.phase }, { on := 6, ground := Ground.phase }, { on := 7, ground := Ground.phase }, { on := 8, ground := Ground.phase }, { on := 9, ground := Ground.phase }, { on := 10, ground := Ground.phase }, { on := 11, ground := Ground.phase }, { on := 12, ground := Ground.phase }, { on := 13, ground := Ground.phase }, { on := 14, ground := Ground.phase }, { on := 15, ground := Ground.phase }, { on := 16, ground := Ground.phase }, { on := 17, ground := Ground.phase }, { on := 18, ground := Ground.phase }, { on := 19, ground := Ground.phase }, { on := 20, ground := Ground.phase }, { on := 21, ground := Ground.phase }, { on := 22, ground := Ground.phase }, { on := 23, ground := Ground.phase }, { on := 24, ground := Ground.phase }, { on := 25, ground := Ground.phase }, { on := 26, ground := Ground.phase }, { on := 27, ground := Ground.phase }, { on := 28, ground := Ground.phase }, { on := 29, ground := Ground.phase }], guard := none }) rfl (fun K hK => ?_) AllReadyH.nil)
        clear hHeld
        go_simp
        refine hK.out _ _ (And.intro (And.intro (by repeat (first | exact Below.refl _ _ | refine bel ?_ (new_below _ _))) (ZRow.step (ZRow.step (zr1.out _ _ (by simp)) (new_below _ _)) (new_below _ _))) (ZRow.step (zr2.out _ _ (by simp)) (new_below _ _))) (fun hHeld => ?_)
        clear hK K
        try simp only [Act.put, List.setIfInBounds_toArray, List.set_cons_zero, List.set_cons_succ]
        refine wpAnyH_done (by kernel_rfl) ?_ _
        clear hHeld
        go_wp2_with fail
        go_meet
        case rel => exact ⟨_, rfl, Lib.hid (And.intro (bel hbV.out (by repeat (first | exact Below.refl _ _ | refine bel ?_ (new_below _ _)))) (by refine ⟨?_, ?_, ?_, ?_, ?_, ?_⟩ <;> go_simp))⟩
      · clear hHeld
        go_simp
        refine hK.out _ _ (And.intro (by repeat (first | exact Below.refl _ _ | refine bel ?_ (new_below _ _))) (ZRow.step (zr1.out _ _ (by simp)) (new_below _ _))) (fun hHeld => ?_)
        clear hK K
        try simp only [Act.put, List.setIfInBounds_toArray, List.set_cons_zero, List.set_cons_succ]
        refine wpAnyH_ready (rs := [10]) (by kernel_rfl) (by simp) (AllReadyH.cons (o := { dst := some 28, op := Op.makeSlice 33 (Operand.tmp 27) (Operand.tmp 27), type := 33, pos := "family.go:25", after := #[{ on := 9, ground := Ground.data }, { on := 9, ground := Ground.data }], guard := none }) rfl (fun K hK => ?_) AllReadyH.nil)
        clear hHeld
        go_simp
        refine hK.out _ _ (And.intro (by repeat (first | exact Below.refl _ _ | refine bel ?_ (new_below _ _))) (ZRow.step (ZRow.step (zr1.out _ _ (by simp)) (new_below _ _)) (new_below _ _))) (fun hHeld => ?_)
        clear hK K
        try simp only [Act.put, List.setIfInBounds_toArray, List.set_cons_zero, List.set_cons_succ]
        clear hHeld
        refine wpAnyH_grow (S2 := fun wr => ((Below V.heap.size V wr) ∧ ZRow wr (V.heap.size) n1) ∧ ZRow wr (V.heap.size + 1 + 1) n2) (fun _ h => h.1) (And.intro (And.intro (by repeat (first | exact Below.refl _ _ | refine bel ?_ (new_below _ _))) (ZRow.step (ZRow.step (zr1.out _ _ (by simp)) (new_below _ _)) (new_below _ _))) (zr2.out _ _ (by simp))) (fun hHeld => ?_)
        refine wpAnyH_take (i := 11) (oi := { dst := some 29, op := Op.convert 33 9 (Operand.tmp 28), type := 9, pos := "family.go:25", after := #[{ on := 10, ground := Ground.data }], guard := none }) (v := ?_) rfl (by kernel_rfl) (by kernel_rfl) (by kernel_rfl) (fun _ _ _ h => h) (Or.inl ⟨by rfl, ?_⟩) hHeld ?_
        rotate_left 1
        · (intro w' hSw; have hcv := cz2.out w' _ hSw.2; clear hSw; go_simp; (try with_reducible rfl))
        try simp only [Act.put, List.setIfInBounds_toArray, List.set_cons_zero, List.set_cons_succ]
        refine wpAnyH_take (i := 28) (oi := { dst := some 46, op := Op.build 28 #[(0, Operand.tmp 23), (1, Operand.tmp 29), (2, Operand.tmp 33), (3, Operand.tmp 37), (4, Operand.tmp 41), (5, Operand.tmp 45)], type := 28, pos := "family.go:25", after := #[{ on := 5, ground := Ground.data }, { on := 11, ground := Ground.data }, { on := 15, ground := Ground.data }, { on := 19, ground := Ground.data }, { on := 23, ground := Ground.data }, { on := 27, ground := Ground.data }], guard := none }) (v := ?_) rfl (by kernel_rfl) (by kernel_rfl) (by kernel_rfl) (fun _ _ _ h => h) (Or.inl ⟨by rfl, ?_⟩) hHeld ?_
        rotate_left 1
        · (intro w' hSw; clear hSw; go_simp; (try with_reducible rfl))
        try simp only [Act.put, List.setIfInBounds_toArray, List.set_cons_zero, List.set_cons_succ]
        refine wpAnyH_ready (rs := [30]) (by kernel_rfl) (by simp) (AllReadyH.cons (o := { dst := none, op := Op.store 28 (Operand.tmp 13) (Operand.tmp 46), type := 0, pos := "family.go:25", after := #[{ on := 29, ground := Ground.data }, { on := 28, ground := Ground.data }, { on := 0, ground := Ground.phase }, { on := 1, ground := Ground.phase }, { on := 2, ground := Ground.phase }, { on := 3, ground := Ground.phase }, { on := 4, ground := Ground.phase }, { on := 5, ground := Ground.phase }, { on := 6, ground := Ground.phase }, { on := 7, ground := Ground.phase }, { on := 8, ground := Ground.phase }, { on := 9, ground := Ground.phase }, { on := 10, ground := Ground.phase }, { on := 11, ground := Ground.phase }, { on := 12, ground := Ground.phase }, { on := 13, ground := Ground.phase }, { on := 14, ground := Ground.phase }, { on := 15, ground := Ground.phase }, { on := 16, ground := Ground.phase }, { on := 17, ground := Ground.phase }, { on := 18, ground := Ground.phase }, { on := 19, ground := Ground.phase }, { on := 20, ground := Ground.phase }, { on := 21, ground := Ground.phase }, { on := 22, ground := Ground.phase }, { on := 23, ground := Ground.phase }, { on := 24, ground := Ground.phase }, { on := 25, ground := Ground.phase }, { on := 26, ground := Ground.phase }, { on := 27, ground := Ground.phase }, { on := 28, ground := Ground.phase }, { on := 29, ground := Ground.phase }], guard := none }) rfl (fun K hK => ?_) AllReadyH.nil)
        clear hHeld
        go_simp
        refine hK.out _ _ (And.intro (And.intro (by repeat (first | exact Below.refl _ _ | refine bel ?_ (new_below _ _))) (ZRow.step (ZRow.step (zr1.out _ _ (by simp)) (new_below _ _)) (new_below _ _))) (zr2.out _ _ (by simp))) (fun hHeld => ?_)
        clear hK K
        try simp only [Act.put, List.setIfInBounds_toArray, List.set_cons_zero, List.set_cons_succ]
        refine wpAnyH_done (by kernel_rfl) ?_ _
        clear hHeld
        go_wp2_with fail
        go_meet
        case rel => exact ⟨_, rfl, Lib.hid (And.intro (bel hbV.out (by repeat (first | exact Below.refl _ _ | refine bel ?_ (new_below _ _)))) (by refine ⟨?_, ?_, ?_, ?_, ?_, ?_⟩ <;> go_simp))⟩
    · clear hHeld
      go_simp
      refine hK.out _ _ (by repeat (first | exact Below.refl _ _ | refine bel ?_ (new_below _ _))) (fun hHeld => ?_)
      clear hK K
      try simp only [Act.put, List.setIfInBounds_toArray, List.set_cons_zero, List.set_cons_succ]
      clear hHeld
      refine wpAnyH_grow (S2 := fun wr => (Below V.heap.size V wr) ∧ ZRow wr (V.heap.size) n2) (fun _ h => h.1) (And.intro (by repeat (first | exact Below.refl _ _ | refine bel ?_ (new_below _ _))) (zr2.out _ _ (by simp))) (fun hHeld => ?_)
      refine wpAnyH_take (i := 11) (oi := { dst := some 29, op := Op.convert 33 9 (Operand.tmp 28), type := 9, pos := "family.go:25", after := #[{ on := 10, ground := Ground.data }], guard := none }) (v := ?_) rfl (by kernel_rfl) (by kernel_rfl) (by kernel_rfl) (fun _ _ _ h => h) (Or.inl ⟨by rfl, ?_⟩) hHeld ?_
      rotate_left 1
      · (intro w' hSw; have hcv := cz2.out w' _ hSw.2; clear hSw; go_simp; (try with_reducible rfl))
      try simp only [Act.put, List.setIfInBounds_toArray, List.set_cons_zero, List.set_cons_succ]
      refine wpAnyH_ready (rs := [4, 29]) (by kernel_rfl) (by simp) (AllReadyH.cons (o := { dst := some 22, op := Op.makeSlice 33 (Operand.tmp 21) (Operand.tmp 21), type := 33, pos := "family.go:25", after := #[{ on := 3, ground := Ground.data }, { on := 3, ground := Ground.data }], guard := none }) rfl (fun K hK => ?_) (AllReadyH.cons (o := { dst := some 13, op := Op.alloc 28, type := 0, pos := "family.go:25", after := #[], guard := none }) rfl (fun K hK => ?_) AllReadyH.nil))
      · clear hHeld
        go_simp
        refine hK.out _ _ (And.intro (by repeat (first | exact Below.refl _ _ | refine bel ?_ (new_below _ _))) (ZRow.step (zr2.out _ _ (by simp)) (new_below _ _))) (fun hHeld => ?_)
        clear hK K
        try simp only [Act.put, List.setIfInBounds_toArray, List.set_cons_zero, List.set_cons_succ]
        clear hHeld
        refine wpAnyH_grow (S2 := fun wr => ((Below V.heap.size V wr) ∧ ZRow wr (V.heap.size) n2) ∧ ZRow wr (V.heap.size + 1) n1) (fun _ h => h.1) (And.intro (And.intro (by repeat (first | exact Below.refl _ _ | refine bel ?_ (new_below _ _))) (ZRow.step (zr2.out _ _ (by simp)) (new_below _ _))) (zr1.out _ _ (by simp))) (fun hHeld => ?_)
        refine wpAnyH_take (i := 5) (oi := { dst := some 23, op := Op.convert 33 9 (Operand.tmp 22), type := 9, pos := "family.go:25", after := #[{ on := 4, ground := Ground.data }], guard := none }) (v := ?_) rfl (by kernel_rfl) (by kernel_rfl) (by kernel_rfl) (fun _ _ _ h => h) (Or.inl ⟨by rfl, ?_⟩) hHeld ?_
        rotate_left 1
        · (intro w' hSw; have hcv := cz1.out w' _ hSw.2; clear hSw; go_simp; (try with_reducible rfl))
        try simp only [Act.put, List.setIfInBounds_toArray, List.set_cons_zero, List.set_cons_succ]
        refine wpAnyH_take (i := 28) (oi := { dst := some 46, op := Op.build 28 #[(0, Operand.tmp 23), (1, Operand.tmp 29), (2, Operand.tmp 33), (3, Operand.tmp 37), (4, Operand.tmp 41), (5, Operand.tmp 45)], type := 28, pos := "family.go:25", after := #[{ on := 5, ground := Ground.data }, { on := 11, ground := Ground.data }, { on := 15, ground := Ground.data }, { on := 19, ground := Ground.data }, { on := 23, ground := Ground.data }, { on := 27, ground := Ground.data }], guard := none }) (v := ?_) rfl (by kernel_rfl) (by kernel_rfl) (by kernel_rfl) (fun _ _ _ h => h) (Or.inl ⟨by rfl, ?_⟩) hHeld ?_
        rotate_left 1
        · (intro w' hSw; clear hSw; go_simp; (try with_reducible rfl))
        try simp only [Act.put, List.setIfInBounds_toArray, List.set_cons_zero, List.set_cons_succ]
        refine wpAnyH_ready (rs := [29]) (by kernel_rfl) (by simp) (AllReadyH.cons (o := { dst := some 13, op := Op.alloc 28, type := 0, pos := "family.go:25", after := #[], guard := none }) rfl (fun K hK => ?_) AllReadyH.nil)
        clear hHeld
        go_simp
        refine hK.out _ _ (And.intro (And.intro (by repeat (first | exact Below.refl _ _ | refine bel ?_ (new_below _ _))) (ZRow.step (ZRow.step (zr2.out _ _ (by simp)) (new_below _ _)) (new_below _ _))) (ZRow.step (zr1.out _ _ (by simp)) (new_below _ _))) (fun hHeld => ?_)
        clear hK K
        try simp only [Act.put, List.setIfInBounds_toArray, List.set_cons_zero, List.set_cons_succ]
        refine wpAnyH_ready (rs := [30]) (by kernel_rfl) (by simp) (AllReadyH.cons (o := { dst := none, op := Op.store 28 (Operand.tmp 13) (Operand.tmp 46), type := 0, pos := "family.go:25", after := #[{ on := 29, ground := Ground.data }, { on := 28, ground := Ground.data }, { on := 0, ground := Ground.phase }, { on := 1, ground := Ground.phase }, { on := 2, ground := Ground.phase }, { on := 3, ground := Ground.phase }, { on := 4, ground := Ground.phase }, { on := 5, ground := Ground.phase }, { on := 6, ground := Ground.phase }, { on := 7, ground := Ground.phase }, { on := 8, ground := Ground.phase }, { on := 9, ground := Ground.phase }, { on := 10, ground := Ground.phase }, { on := 11, ground := Ground.phase }, { on := 12, ground := Ground.phase }, { on := 13, ground := Ground.phase }, { on := 14, ground := Ground.phase }, { on := 15, ground := Ground.phase }, { on := 16, ground := Ground.phase }, { on := 17, ground := Ground.phase }, { on := 18, ground := Ground.phase }, { on := 19, ground := Ground.phase }, { on := 20, ground := Ground.phase }, { on := 21, ground := Ground.phase }, { on := 22, ground := Ground.phase }, { on := 23, ground := Ground.phase }, { on := 24, ground := Ground.phase }, { on := 25, ground := Ground.phase }, { on := 26, ground := Ground.phase }, { on := 27, ground := Ground.phase }, { on := 28, ground := Ground.phase }, { on := 29, ground := Ground.phase }], guard := none }) rfl (fun K hK => ?_) AllReadyH.nil)
        clear hHeld
        go_simp
        refine hK.out _ _ (And.intro (And.intro (by repeat (first | exact Below.refl _ _ | refine bel ?_ (new_below _ _))) (ZRow.step (ZRow.step (zr2.out _ _ (by simp)) (new_below _ _)) (new_below _ _))) (ZRow.step (zr1.out _ _ (by simp)) (new_below _ _))) (fun hHeld => ?_)
        clear hK K
        try simp only [Act.put, List.setIfInBounds_toArray, List.set_cons_zero, List.set_cons_succ]
        refine wpAnyH_done (by kernel_rfl) ?_ _
        clear hHeld
        go_wp2_with fail
        go_meet
        case rel => exact ⟨_, rfl, Lib.hid (And.intro (bel hbV.out (by repeat (first | exact Below.refl _ _ | refine bel ?_ (new_below _ _)))) (by refine ⟨?_, ?_, ?_, ?_, ?_, ?_⟩ <;> go_simp))⟩
      · clear hHeld
        go_simp
        refine hK.out _ _ (And.intro (by repeat (first | exact Below.refl _ _ | refine bel ?_ (new_below _ _))) (ZRow.step (zr2.out _ _ (by simp)) (new_below _ _))) (fun hHeld => ?_)
        clear hK K
        try simp only [Act.put, List.setIfInBounds_toArray, List.set_cons_zero, List.set_cons_succ]
        refine wpAnyH_ready (rs := [4]) (by kernel_rfl) (by simp) (AllReadyH.cons (o := { dst := some 22, op := Op.makeSlice 33 (Operand.tmp 21) (Operand.tmp 21), type := 33, pos := "family.go:25", after := #[{ on := 3, ground := Ground.data }, { on := 3, ground := Ground.data }], guard := none }) rfl (fun K hK => ?_) AllReadyH.nil)
        clear hHeld
        go_simp
        refine hK.out _ _ (And.intro (by repeat (first | exact Below.refl _ _ | refine bel ?_ (new_below _ _))) (ZRow.step (ZRow.step (zr2.out _ _ (by simp)) (new_below _ _)) (new_below _ _))) (fun hHeld => ?_)
        clear hK K
        try simp only [Act.put, List.setIfInBounds_toArray, List.set_cons_zero, List.set_cons_succ]
        clear hHeld
        refine wpAnyH_grow (S2 := fun wr => ((Below V.heap.size V wr) ∧ ZRow wr (V.heap.size) n2) ∧ ZRow wr (V.heap.size + 1 + 1) n1) (fun _ h => h.1) (And.intro (And.intro (by repeat (first | exact Below.refl _ _ | refine bel ?_ (new_below _ _))) (ZRow.step (ZRow.step (zr2.out _ _ (by simp)) (new_below _ _)) (new_below _ _))) (zr1.out _ _ (by simp))) (fun hHeld => ?_)
        refine wpAnyH_take (i := 5) (oi := { dst := some 23, op := Op.convert 33 9 (Operand.tmp 22), type := 9, pos := "family.go:25", after := #[{ on := 4, ground := Ground.data }], guard := none }) (v := ?_) rfl (by kernel_rfl) (by kernel_rfl) (by kernel_rfl) (fun _ _ _ h => h) (Or.inl ⟨by rfl, ?_⟩) hHeld ?_
        rotate_left 1
        · (intro w' hSw; have hcv := cz1.out w' _ hSw.2; clear hSw; go_simp; (try with_reducible rfl))
        try simp only [Act.put, List.setIfInBounds_toArray, List.set_cons_zero, List.set_cons_succ]
        refine wpAnyH_take (i := 28) (oi := { dst := some 46, op := Op.build 28 #[(0, Operand.tmp 23), (1, Operand.tmp 29), (2, Operand.tmp 33), (3, Operand.tmp 37), (4, Operand.tmp 41), (5, Operand.tmp 45)], type := 28, pos := "family.go:25", after := #[{ on := 5, ground := Ground.data }, { on := 11, ground := Ground.data }, { on := 15, ground := Ground.data }, { on := 19, ground := Ground.data }, { on := 23, ground := Ground.data }, { on := 27, ground := Ground.data }], guard := none }) (v := ?_) rfl (by kernel_rfl) (by kernel_rfl) (by kernel_rfl) (fun _ _ _ h => h) (Or.inl ⟨by rfl, ?_⟩) hHeld ?_
        rotate_left 1
        · (intro w' hSw; clear hSw; go_simp; (try with_reducible rfl))
        try simp only [Act.put, List.setIfInBounds_toArray, List.set_cons_zero, List.set_cons_succ]
        refine wpAnyH_ready (rs := [30]) (by kernel_rfl) (by simp) (AllReadyH.cons (o := { dst := none, op := Op.store 28 (Operand.tmp 13) (Operand.tmp 46), type := 0, pos := "family.go:25", after := #[{ on := 29, ground := Ground.data }, { on := 28, ground := Ground.data }, { on := 0, ground := Ground.phase }, { on := 1, ground := Ground.phase }, { on := 2, ground := Ground.phase }, { on := 3, ground := Ground.phase }, { on := 4, ground := Ground.phase }, { on := 5, ground := Ground.phase }, { on := 6, ground := Ground.phase }, { on := 7, ground := Ground.phase }, { on := 8, ground := Ground.phase }, { on := 9, ground := Ground.phase }, { on := 10, ground := Ground.phase }, { on := 11, ground := Ground.phase }, { on := 12, ground := Ground.phase }, { on := 13, ground := Ground.phase }, { on := 14, ground := Ground.phase }, { on := 15, ground := Ground.phase }, { on := 16, ground := Ground.phase }, { on := 17, ground := Ground.phase }, { on := 18, ground := Ground.phase }, { on := 19, ground := Ground.phase }, { on := 20, ground := Ground.phase }, { on := 21, ground := Ground.phase }, { on := 22, ground := Ground.phase }, { on := 23, ground := Ground.phase }, { on := 24, ground := Ground.phase }, { on := 25, ground := Ground.phase }, { on := 26, ground := Ground.phase }, { on := 27, ground := Ground.phase }, { on := 28, ground := Ground.phase }, { on := 29, ground := Ground.phase }], guard := none }) rfl (fun K hK => ?_) AllReadyH.nil)
        clear hHeld
        go_simp
        refine hK.out _ _ (And.intro (And.intro (by repeat (first | exact Below.refl _ _ | refine bel ?_ (new_below _ _))) (ZRow.step (ZRow.step (zr2.out _ _ (by simp)) (new_below _ _)) (new_below _ _))) (zr1.out _ _ (by simp))) (fun hHeld => ?_)
        clear hK K
        try simp only [Act.put, List.setIfInBounds_toArray, List.set_cons_zero, List.set_cons_succ]
        refine wpAnyH_done (by kernel_rfl) ?_ _
        clear hHeld
        go_wp2_with fail
        go_meet
        case rel => exact ⟨_, rfl, Lib.hid (And.intro (bel hbV.out (by repeat (first | exact Below.refl _ _ | refine bel ?_ (new_below _ _)))) (by refine ⟨?_, ?_, ?_, ?_, ?_, ?_⟩ <;> go_simp))⟩
    · clear hHeld
      go_simp
      refine hK.out _ _ (by repeat (first | exact Below.refl _ _ | refine bel ?_ (new_below _ _))) (fun hHeld => ?_)
      clear hK K
      try simp only [Act.put, List.setIfInBounds_toArray, List.set_cons_zero, List.set_cons_succ]
      refine wpAnyH_ready (rs := [4, 10]) (by kernel_rfl) (by simp) (AllReadyH.cons (o := { dst := some 22, op := Op.makeSlice 33 (Operand.tmp 21) (Operand.tmp 21), type := 33, pos := "family.go:25", after := #[{ on := 3, ground := Ground.data }, { on := 3, ground := Ground.data }], guard := none }) rfl (fun K hK => ?_) (AllReadyH.cons (o := { dst := some 28, op := Op.makeSlice 33 (Operand.tmp 27) (Operand.tmp 27), type := 33, pos := "family.go:25", after := #[{ on := 9, ground := Ground.data }, { on := 9, ground := Ground.data }], guard := none }) rfl (fun K hK => ?_) AllReadyH.nil))
      · clear hHeld
        go_simp
        refine hK.out _ _ (by repeat (first | exact Below.refl _ _ | refine bel ?_ (new_below _ _))) (fun hHeld => ?_)
        clear hK K
        try simp only [Act.put, List.setIfInBounds_toArray, List.set_cons_zero, List.set_cons_succ]
        clear hHeld
        refine wpAnyH_grow (S2 := fun wr => (Below V.heap.size V wr) ∧ ZRow wr (V.heap.size + 1) n1) (fun _ h => h.1) (And.intro (by repeat (first | exact Below.refl _ _ | refine bel ?_ (new_below _ _))) (zr1.out _ _ (by simp))) (fun hHeld => ?_)
        refine wpAnyH_take (i := 5) (oi := { dst := some 23, op := Op.convert 33 9 (Operand.tmp 22), type := 9, pos := "family.go:25", after := #[{ on := 4, ground := Ground.data }], guard := none }) (v := ?_) rfl (by kernel_rfl) (by kernel_rfl) (by kernel_rfl) (fun _ _ _ h => h) (Or.inl ⟨by rfl, ?_⟩) hHeld ?_
        rotate_left 1
        · (intro w' hSw; have hcv := cz1.out w' _ hSw.2; clear hSw; go_simp; (try with_reducible rfl))
        try simp only [Act.put, List.setIfInBounds_toArray, List.set_cons_zero, List.set_cons_succ]
        refine wpAnyH_ready (rs := [10]) (by kernel_rfl) (by simp) (AllReadyH.cons (o := { dst := some 28, op := Op.makeSlice 33 (Operand.tmp 27) (Operand.tmp 27), type := 33, pos := "family.go:25", after := #[{ on := 9, ground := Ground.data }, { on := 9, ground := Ground.data }], guard := none }) rfl (fun K hK => ?_) AllReadyH.nil)
        clear hHeld
        go_simp
        refine hK.out _ _ (And.intro (by repeat (first | exact Below.refl _ _ | refine bel ?_ (new_below _ _))) (ZRow.step (zr1.out _ _ (by simp)) (new_below _ _))) (fun hHeld => ?_)
        clear hK K
        try simp only [Act.put, List.setIfInBounds_toArray, List.set_cons_zero, List.set_cons_succ]
        clear hHeld
        refine wpAnyH_grow (S2 := fun wr => ((Below V.heap.size V wr) ∧ ZRow wr (V.heap.size + 1) n1) ∧ ZRow wr (V.heap.size + 1 + 1) n2) (fun _ h => h.1) (And.intro (And.intro (by repeat (first | exact Below.refl _ _ | refine bel ?_ (new_below _ _))) (ZRow.step (zr1.out _ _ (by simp)) (new_below _ _))) (zr2.out _ _ (by simp))) (fun hHeld => ?_)
        refine wpAnyH_take (i := 11) (oi := { dst := some 29, op := Op.convert 33 9 (Operand.tmp 28), type := 9, pos := "family.go:25", after := #[{ on := 10, ground := Ground.data }], guard := none }) (v := ?_) rfl (by kernel_rfl) (by kernel_rfl) (by kernel_rfl) (fun _ _ _ h => h) (Or.inl ⟨by rfl, ?_⟩) hHeld ?_
        rotate_left 1
        · (intro w' hSw; have hcv := cz2.out w' _ hSw.2; clear hSw; go_simp; (try with_reducible rfl))
        try simp only [Act.put, List.setIfInBounds_toArray, List.set_cons_zero, List.set_cons_succ]
        refine wpAnyH_take (i := 28) (oi := { dst := some 46, op := Op.build 28 #[(0, Operand.tmp 23), (1, Operand.tmp 29), (2, Operand.tmp 33), (3, Operand.tmp 37), (4, Operand.tmp 41), (5, Operand.tmp 45)], type := 28, pos := "family.go:25", after := #[{ on := 5, ground := Ground.data }, { on := 11, ground := Ground.data }, { on := 15, ground := Ground.data }, { on := 19, ground := Ground.data }, { on := 23, ground := Ground.data }, { on := 27, ground := Ground.data }], guard := none }) (v := ?_) rfl (by kernel_rfl) (by kernel_rfl) (by kernel_rfl) (fun _ _ _ h => h) (Or.inl ⟨by rfl, ?_⟩) hHeld ?_
        rotate_left 1
        · (intro w' hSw; clear hSw; go_simp; (try with_reducible rfl))
        try simp only [Act.put, List.setIfInBounds_toArray, List.set_cons_zero, List.set_cons_succ]
        refine wpAnyH_ready (rs := [30]) (by kernel_rfl) (by simp) (AllReadyH.cons (o := { dst := none, op := Op.store 28 (Operand.tmp 13) (Operand.tmp 46), type := 0, pos := "family.go:25", after := #[{ on := 29, ground := Ground.data }, { on := 28, ground := Ground.data }, { on := 0, ground := Ground.phase }, { on := 1, ground := Ground.phase }, { on := 2, ground := Ground.phase }, { on := 3, ground := Ground.phase }, { on := 4, ground := Ground.phase }, { on := 5, ground := Ground.phase }, { on := 6, ground := Ground.phase }, { on := 7, ground := Ground.phase }, { on := 8, ground := Ground.phase }, { on := 9, ground := Ground.phase }, { on := 10, ground := Ground.phase }, { on := 11, ground := Ground.phase }, { on := 12, ground := Ground.phase }, { on := 13, ground := Ground.phase }, { on := 14, ground := Ground.phase }, { on := 15, ground := Ground.phase }, { on := 16, ground := Ground.phase }, { on := 17, ground := Ground.phase }, { on := 18, ground := Ground.phase }, { on := 19, ground := Ground.phase }, { on := 20, ground := Ground.phase }, { on := 21, ground := Ground.phase }, { on := 22, ground := Ground.phase }, { on := 23, ground := Ground.phase }, { on := 24, ground := Ground.phase }, { on := 25, ground := Ground.phase }, { on := 26, ground := Ground.phase }, { on := 27, ground := Ground.phase }, { on := 28, ground := Ground.phase }, { on := 29, ground := Ground.phase }], guard := none }) rfl (fun K hK => ?_) AllReadyH.nil)
        clear hHeld
        go_simp
        refine hK.out _ _ (And.intro (And.intro (by repeat (first | exact Below.refl _ _ | refine bel ?_ (new_below _ _))) (ZRow.step (zr1.out _ _ (by simp)) (new_below _ _))) (zr2.out _ _ (by simp))) (fun hHeld => ?_)
        clear hK K
        try simp only [Act.put, List.setIfInBounds_toArray, List.set_cons_zero, List.set_cons_succ]
        refine wpAnyH_done (by kernel_rfl) ?_ _
        clear hHeld
        go_wp2_with fail
        go_meet
        case rel => exact ⟨_, rfl, Lib.hid (And.intro (bel hbV.out (by repeat (first | exact Below.refl _ _ | refine bel ?_ (new_below _ _)))) (by refine ⟨?_, ?_, ?_, ?_, ?_, ?_⟩ <;> go_simp))⟩
      · clear hHeld
        go_simp
        refine hK.out _ _ (by repeat (first | exact Below.refl _ _ | refine bel ?_ (new_below _ _))) (fun hHeld => ?_)
        clear hK K
        try simp only [Act.put, List.setIfInBounds_toArray, List.set_cons_zero, List.set_cons_succ]
        clear hHeld
        refine wpAnyH_grow (S2 := fun wr => (Below V.heap.size V wr) ∧ ZRow wr (V.heap.size + 1) n2) (fun _ h => h.1) (And.intro (by repeat (first | exact Below.refl _ _ | refine bel ?_ (new_below _ _))) (zr2.out _ _ (by simp))) (fun hHeld => ?_)
        refine wpAnyH_take (i := 11) (oi := { dst := some 29, op := Op.convert 33 9 (Operand.tmp 28), type := 9, pos := "family.go:25", after := #[{ on := 10, ground := Ground.data }], guard := none }) (v := ?_) rfl (by kernel_rfl) (by kernel_rfl) (by kernel_rfl) (fun _ _ _ h => h) (Or.inl ⟨by rfl, ?_⟩) hHeld ?_
        rotate_left 1
        · (intro w' hSw; have hcv := cz2.out w' _ hSw.2; clear hSw; go_simp; (try with_reducible rfl))
        try simp only [Act.put, List.setIfInBounds_toArray, List.set_cons_zero, List.set_cons_succ]
        refine wpAnyH_ready (rs := [4]) (by kernel_rfl) (by simp) (AllReadyH.cons (o := { dst := some 22, op := Op.makeSlice 33 (Operand.tmp 21) (Operand.tmp 21), type := 33, pos := "family.go:25", after := #[{ on := 3, ground := Ground.data }, { on := 3, ground := Ground.data }], guard := none }) rfl (fun K hK => ?_) AllReadyH.nil)
        clear hHeld
        go_simp
        refine hK.out _ _ (And.intro (by repeat (first | exact Below.refl _ _ | refine bel ?_ (new_below _ _))) (ZRow.step (zr2.out _ _ (by simp)) (new_below _ _))) (fun hHeld => ?_)
        clear hK K
        try simp only [Act.put, List.setIfInBounds_toArray, List.set_cons_zero, List.set_cons_succ]
        clear hHeld
        refine wpAnyH_grow (S2 := fun wr => ((Below V.heap.size V wr) ∧ ZRow wr (V.heap.size + 1) n2) ∧ ZRow wr (V.heap.size + 1 + 1) n1) (fun _ h => h.1) (And.intro (And.intro (by repeat (first | exact Below.refl _ _ | refine bel ?_ (new_below _ _))) (ZRow.step (zr2.out _ _ (by simp)) (new_below _ _))) (zr1.out _ _ (by simp))) (fun hHeld => ?_)
        refine wpAnyH_take (i := 5) (oi := { dst := some 23, op := Op.convert 33 9 (Operand.tmp 22), type := 9, pos := "family.go:25", after := #[{ on := 4, ground := Ground.data }], guard := none }) (v := ?_) rfl (by kernel_rfl) (by kernel_rfl) (by kernel_rfl) (fun _ _ _ h => h) (Or.inl ⟨by rfl, ?_⟩) hHeld ?_
        rotate_left 1
        · (intro w' hSw; have hcv := cz1.out w' _ hSw.2; clear hSw; go_simp; (try with_reducible rfl))
        try simp only [Act.put, List.setIfInBounds_toArray, List.set_cons_zero, List.set_cons_succ]
        refine wpAnyH_take (i := 28) (oi := { dst := some 46, op := Op.build 28 #[(0, Operand.tmp 23), (1, Operand.tmp 29), (2, Operand.tmp 33), (3, Operand.tmp 37), (4, Operand.tmp 41), (5, Operand.tmp 45)], type := 28, pos := "family.go:25", after := #[{ on := 5, ground := Ground.data }, { on := 11, ground := Ground.data }, { on := 15, ground := Ground.data }, { on := 19, ground := Ground.data }, { on := 23, ground := Ground.data }, { on := 27, ground := Ground.data }], guard := none }) (v := ?_) rfl (by kernel_rfl) (by kernel_rfl) (by kernel_rfl) (fun _ _ _ h => h) (Or.inl ⟨by rfl, ?_⟩) hHeld ?_
        rotate_left 1
        · (intro w' hSw; clear hSw; go_simp; (try with_reducible rfl))
        try simp only [Act.put, List.setIfInBounds_toArray, List.set_cons_zero, List.set_cons_succ]
        refine wpAnyH_ready (rs := [30]) (by kernel_rfl) (by simp) (AllReadyH.cons (o := { dst := none, op := Op.store 28 (Operand.tmp 13) (Operand.tmp 46), type := 0, pos := "family.go:25", after := #[{ on := 29, ground := Ground.data }, { on := 28, ground := Ground.data }, { on := 0, ground := Ground.phase }, { on := 1, ground := Ground.phase }, { on := 2, ground := Ground.phase }, { on := 3, ground := Ground.phase }, { on := 4, ground := Ground.phase }, { on := 5, ground := Ground.phase }, { on := 6, ground := Ground.phase }, { on := 7, ground := Ground.phase }, { on := 8, ground := Ground.phase }, { on := 9, ground := Ground.phase }, { on := 10, ground := Ground.phase }, { on := 11, ground := Ground.phase }, { on := 12, ground := Ground.phase }, { on := 13, ground := Ground.phase }, { on := 14, ground := Ground.phase }, { on := 15, ground := Ground.phase }, { on := 16, ground := Ground.phase }, { on := 17, ground := Ground.phase }, { on := 18, ground := Ground.phase }, { on := 19, ground := Ground.phase }, { on := 20, ground := Ground.phase }, { on := 21, ground := Ground.phase }, { on := 22, ground := Ground.phase }, { on := 23, ground := Ground.phase }, { on := 24, ground := Ground.phase }, { on := 25, ground := Ground.phase }, { on := 26, ground := Ground.phase }, { on := 27, ground := Ground.phase }, { on := 28, ground := Ground.phase }, { on := 29, ground := Ground.phase }], guard := none }) rfl (fun K hK => ?_) AllReadyH.nil)
        clear hHeld
        go_simp
        refine hK.out _ _ (And.intro (And.intro (by repeat (first | exact Below.refl _ _ | refine bel ?_ (new_below _ _))) (ZRow.step (zr2.out _ _ (by simp)) (new_below _ _))) (zr1.out _ _ (by simp))) (fun hHeld => ?_)
        clear hK K
        try simp only [Act.put, List.setIfInBounds_toArray, List.set_cons_zero, List.set_cons_succ]
        refine wpAnyH_done (by kernel_rfl) ?_ _
        clear hHeld
        go_wp2_with fail
        go_meet
        case rel => exact ⟨_, rfl, Lib.hid (And.intro (bel hbV.out (by repeat (first | exact Below.refl _ _ | refine bel ?_ (new_below _ _)))) (by refine ⟨?_, ?_, ?_, ?_, ?_, ?_⟩ <;> go_simp))⟩
  case rest =>
    clear mk1 mk2 zr1 zr2 cz1 cz2 hn1 hn2 hB1
    obtain ⟨ob, rfl, hO⟩ := hcut
    obtain ⟨o, ho⟩ : ∃ o : Opt, o = ⟨R1, R2, 59 + r, 9999 + s, 2 + t, 14 + u⟩ := ⟨_, rfl⟩
    rw [← ho] at hO
    obtain ⟨OK, hOK⟩ : ∃ OK : Bool, OK = decide (p < 2 ∧ q < 2 ∧ r < 2 ∧ s < 2 ∧ t < 2 ∧ u < 2) := ⟨_, rfl⟩
    have kI : Hid (isO o = OK) := Lib.hid (by
      rw [ho, hOK]
      unfold isO
      simp only [hR1.out, hR2.out]
      exact decide_eq_decide.2 (by omega))
    have kS : Hid (sameO o { o with bits := bits .xor .i64 o.bits 8 } = true) := Lib.hid (by
      refine decide_eq_true ⟨rfl, rfl, rfl, rfl, rfl, ?_⟩
      rw [ho]
      obtain rfl | rfl | rfl : u = 0 ∨ u = 1 ∨ u = 2 := by omega
      · dsimp only; decide
      · dsimp only; decide
      · dsimp only; decide)
    have kSS : Hid (sameO o o = true) := Lib.hid (decide_eq_true ⟨rfl, rfl, rfl, rfl, rfl, rfl⟩)
    have kL : Hid (if r < 2 then limitO o = o.maxLen else limitO o = 60 ∧ o.maxLen = 61) := Lib.hid (by
      rw [ho]
      by_cases h : r < 2
      · rw [if_pos h]
        show limitO _ = 59 + (r : Int)
        unfold limitO
        rw [if_pos (by constructor <;> (simp only; omega))]
      · rw [if_neg h]
        refine ⟨?_, by simp only; omega⟩
        unfold limitO
        rw [if_neg (by simp only; omega)])
    replace hOK := Lib.hid hOK
    replace ho := Lib.hid ho
    go_upto_region 4 with fail
    go_cut [14] (fun v wx => v = .bool OK ∧ wx = wc)
    case first =>
      clear kI kS kSS kL hO ho hR1 hR2 hW
      by_cases e0 : (p : Int) < 2
      rotate_left
      · obtain rfl : OK = false := by rw [hOK.out]; exact decide_eq_false (by omega)
        clear hOK
        go_wp2_with fail
        go_meet
        case rel => exact ⟨rfl, rfl⟩
      by_cases e1 : (q : Int) < 2
      rotate_left
      · obtain rfl : OK = false := by rw [hOK.out]; exact decide_eq_false (by omega)
        clear hOK
        go_wp2_with fail
        go_meet
        case rel => exact ⟨rfl, rfl⟩
      by_cases e2 : (r : Int) < 2
      rotate_left
      · obtain rfl : OK = false := by rw [hOK.out]; exact decide_eq_false (by omega)
        clear hOK
        go_wp2_with fail
        go_meet
        case rel => exact ⟨rfl, rfl⟩
      by_cases e3 : (s : Int) < 2
      rotate_left
      · obtain rfl : OK = false := by rw [hOK.out]; exact decide_eq_false (by omega)
        clear hOK
        go_wp2_with fail
        go_meet
        case rel => exact ⟨rfl, rfl⟩
      by_cases e4 : (t : Int) < 2
      rotate_left
      · obtain rfl : OK = false := by rw [hOK.out]; exact decide_eq_false (by omega)
        clear hOK
        go_wp2_with fail
        go_meet
        case rel => exact ⟨rfl, rfl⟩
      by_cases e5 : (u : Int) < 2
      rotate_left
      · obtain rfl : OK = false := by rw [hOK.out]; exact decide_eq_false (by omega)
        clear hOK
        go_wp2_with fail
        go_meet
        case rel => exact ⟨rfl, rfl⟩
      obtain rfl : OK = true := by rw [hOK.out]; exact decide_eq_true (by omega)
      clear hOK
      go_wp2_with fail
      go_meet
      case rel => exact ⟨rfl, rfl⟩
    case rest =>
      obtain ⟨rfl, rfl⟩ := hcut
      obtain ⟨hBO, k0, k1, k2, k3, k4, k5⟩ := hO.out
      obtain ⟨o2, ho2⟩ : ∃ o2 : Opt, o2 = { o with bits := bits .xor .i64 o.bits 8 } := ⟨_, rfl⟩
      obtain ⟨W7, hW7⟩ : ∃ W7, wc.alloc (.cells #[tx o.dead, tx o.deadKey, .int .i64 o.maxLen, .int .i64 o.ttl, .int .i64 o.prio, .int .i64 (bits .xor .i64 o.bits 8)] 28) = W7 := ⟨_, rfl⟩
      have h7 : Hid (Op2 w W7 ob wc.heap.size o o2) := Lib.hid (hW7 ▸ ho2 ▸ ⟨bel hBO (new_below _ _), (hO.out.2).step (new_below _ _), OpAt.start wc { o with bits := bits .xor .i64 o.bits 8 }⟩)
      rw [← ho2] at kS
      replace hW7 := Lib.hid hW7
      clear hBO hO ho2
      replace hW := Lib.hid hW.out
      have k6 : (wc.alloc (.cells #[tx o.dead, tx o.deadKey, .int .i64 o.maxLen, .int .i64 o.ttl, .int .i64 o.prio, .int .i64 o.bits] 28)).cell? ⟨ob, 5, none⟩ = some (.int .i64 o.bits) := ((new_below wc _).cell (p := ⟨ob, 5, none⟩) (World.block_lt_of_cell? wc _ k5)).trans k5
      go_upto_region 7 with fail
      rw [hW7.out]
      clear k0 k1 k2 k3 k4 k5 k6 hW7
      generalize wc.heap.size = pb at *
      have hS0 := Lib.hid (op2Hold h7.out (drew_b _))
      have cI : Hid (∀ wr, Op2 w wr ob pb o o2 → Calls Tryd.prog 10 #[opV o] wr fun e w' => e = .returned (.bool OK) ∧ Below wr.heap.size wr w') := Lib.hid fun wr h => isopts_to kI.out wr (hW.out _ h.1)
      have cS : Hid (∀ x y : Opt, sameO x y = true → ∀ wr, Calls Tryd.prog 11 #[opV x, opV y] wr fun e w' => e = .returned (.bool true) ∧ Below wr.heap.size wr w') := Lib.hid fun x y h wr => same_to h wr
      have cL : Hid (∀ wr, Calls Tryd.prog 12 #[opV o] wr fun e w' => e = .returned (.int .i64 (limitO o)) ∧ Below wr.heap.size wr w') := Lib.hid fun wr => limit_any o wr
      clear kI hOK hR1 hR2 h7 hW
      have tr : (z : Int).tmod 3 = r := by rw [Int.tmod_eq_emod_of_nonneg (by omega)]; exact r1
      by_cases hr2 : r < 2
      · have kL2 := kL.out
        rw [if_pos hr2] at kL2
        rw [kL2] at cL
        have hr3 : (r : Int) < 2 := by omega
        clear kL kL2 hr2
        go_wp2_with fail
        go_region_held3 (fun wr => Below w.heap.size w wr ∧ (wr.cell? ⟨ob, 0, none⟩ = some (tx o.dead) ∧ wr.cell? ⟨ob, 1, none⟩ = some (tx o.deadKey) ∧ wr.cell? ⟨ob, 2, none⟩ = some (.int .i64 o.maxLen) ∧ wr.cell? ⟨ob, 3, none⟩ = some (.int .i64 o.ttl) ∧ wr.cell? ⟨ob, 4, none⟩ = some (.int .i64 o.prio) ∧ wr.cell? ⟨ob, 5, none⟩ = some (.int .i64 o.bits)) ∧ (wr.cell? ⟨pb, 0, none⟩ = some (tx o2.dead) ∧ wr.cell? ⟨pb, 1, none⟩ = some (tx o2.deadKey) ∧ wr.cell? ⟨pb, 2, none⟩ = some (.int .i64 o2.maxLen) ∧ wr.cell? ⟨pb, 3, none⟩ = some (.int .i64 o2.ttl) ∧ wr.cell? ⟨pb, 4, none⟩ = some (.int .i64 o2.prio) ∧ wr.cell? ⟨pb, 5, none⟩ = some (.int .i64 o2.bits)))  (first | exact hS0.out | exact op2Hold (by assumption) hb) (first
          | (go_at_call 10; refine (cI.out _ (by assumption)).mono ?_; rintro e w'' ⟨rfl, hb⟩)
          | (go_at_call 11; refine (cS.out _ _ (by first | exact kS.out | exact kSS.out) _).mono ?_; rintro e w'' ⟨rfl, hb⟩)
          | (go_at_call 12; refine (cL.out _).mono ?_; rintro e w'' ⟨rfl, hb⟩))
        rename_i hHeld
        have fin := Lib.hid hHeld.1
        clear hHeld
        go_wp2_with fail
        go_ret
        exact ⟨ret_bool (by first | rfl | (simp only [Bool.not_eq_true', decide_eq_false_iff_not]; omega)), fin.out⟩
      · have kL2 := kL.out
        rw [if_neg hr2] at kL2
        rw [kL2.1] at cL
        have hm : ((60 : Int) == o.maxLen) = false := by rw [kL2.2]; decide
        have hr3 : ¬ (r : Int) < 2 := by omega
        clear kL kL2 hr2
        go_wp2_with fail
        go_region_held3 (fun wr => Below w.heap.size w wr ∧ (wr.cell? ⟨ob, 0, none⟩ = some (tx o.dead) ∧ wr.cell? ⟨ob, 1, none⟩ = some (tx o.deadKey) ∧ wr.cell? ⟨ob, 2, none⟩ = some (.int .i64 o.maxLen) ∧ wr.cell? ⟨ob, 3, none⟩ = some (.int .i64 o.ttl) ∧ wr.cell? ⟨ob, 4, none⟩ = some (.int .i64 o.prio) ∧ wr.cell? ⟨ob, 5, none⟩ = some (.int .i64 o.bits)) ∧ (wr.cell? ⟨pb, 0, none⟩ = some (tx o2.dead) ∧ wr.cell? ⟨pb, 1, none⟩ = some (tx o2.deadKey) ∧ wr.cell? ⟨pb, 2, none⟩ = some (.int .i64 o2.maxLen) ∧ wr.cell? ⟨pb, 3, none⟩ = some (.int .i64 o2.ttl) ∧ wr.cell? ⟨pb, 4, none⟩ = some (.int .i64 o2.prio) ∧ wr.cell? ⟨pb, 5, none⟩ = some (.int .i64 o2.bits)))  (first | exact hS0.out | exact op2Hold (by assumption) hb) (first
          | (go_at_call 10; refine (cI.out _ (by assumption)).mono ?_; rintro e w'' ⟨rfl, hb⟩)
          | (go_at_call 11; refine (cS.out _ _ (by first | exact kS.out | exact kSS.out) _).mono ?_; rintro e w'' ⟨rfl, hb⟩)
          | (go_at_call 12; refine (cL.out _).mono ?_; rintro e w'' ⟨rfl, hb⟩))
        rename_i hHeld
        have fin := Lib.hid hHeld.1
        clear hHeld
        go_wp2_with fail
        go_ret
        exact ⟨ret_bool (by first | rfl | (simp only [Bool.not_eq_true', decide_eq_false_iff_not]; omega)), fin.out⟩

theorem options14_row {a b z d e f : Int} {w : World} (hT : Most w.heap.size w) (r0 : Read Tryd.prog w 5 [.int .u8 a]) (r1 : Read Tryd.prog w 5 [.int .u8 b]) (r2 : Read Tryd.prog w 5 [.int .u8 z]) (r3 : Read Tryd.prog w 5 [.int .u8 d]) (r4 : Read Tryd.prog w 5 [.int .u8 e]) (r5 : Read Tryd.prog w 5 [.int .u8 f]) :
    Calls Tryd.prog 5 #[.int .u8 a, .int .u8 b, .int .u8 z, .int .u8 d, .int .u8 e, .int .u8 f] w fun e w' => e = .returned (.bool true) ∧ Below w.heap.size w w' := by
  have hu8 : Tryd.prog.underlying 5 = some (.int .u8) := by kernel_rfl
  have key : ∀ {x : Int}, Read Tryd.prog w 5 [.int .u8 x] → ∃ n : Nat, x = n ∧ n ≤ 255 := fun {x} r => by
    obtain ⟨y, hy, wf⟩ := r.int hu8
    simp only [List.cons.injEq, Value.int.injEq, true_and, and_true] at hy
    subst hy
    obtain ⟨h1, h2⟩ := bounds_u8 wf
    obtain ⟨n, rfl⟩ := Int.eq_ofNat_of_zero_le h1
    exact ⟨n, rfl, by omega⟩
  obtain ⟨a, rfl, ha⟩ := key r0
  obtain ⟨b, rfl, hb⟩ := key r1
  obtain ⟨z, rfl, hz⟩ := key r2
  obtain ⟨d, rfl, hd⟩ := key r3
  obtain ⟨e, rfl, he⟩ := key r4
  obtain ⟨f, rfl, hf⟩ := key r5
  exact options14_walk ha rfl hb rfl hz rfl hd rfl he rfl hf rfl hT
end Go.Proofs.YtbhkgpbhimeniaaDoor
