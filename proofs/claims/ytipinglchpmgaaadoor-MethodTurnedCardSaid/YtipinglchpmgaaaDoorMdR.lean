/- MethodTurned. -/
import Derived.Test.YtipinglchpmgaaaDoorMdQ
namespace Go.Proofs.YtipinglchpmgaaaDoor
open Go.RowKit
set_option linter.unusedVariables false

theorem box1_of {w : World} {v0 v1 v2 v3 : Value} {T : TypeId} {w' : World} (hb : Below (w.alloc (.cells #[v0, v1, v2, v3] T)).heap.size (w.alloc (.cells #[v0, v1, v2, v3] T)) w') : MonoS w w.heap.size v0 v1 v2 v3 w' := by
  have h2 := hb.size
  simp only [World.size_alloc] at h2
  refine ⟨⟨bel (new_below w _) hb, by omega⟩, ?_, ?_, ?_, ?_⟩ <;> exact (hb.cell (by simp only [World.size_alloc]; omega)).trans (by simp)
theorem readM_cases (s : List UInt8) : ∃ m en, readM s = (m, en) ∧ (en = 502 ∨ en = 540 ∨ (en = 0 ∧ isM m = true ∧ bytesM m = s)) := by
  rcases readM_err s with h | h | h
  · refine ⟨(readM s).1, 0, by rw [← h], .inr (.inr ⟨rfl, ?_⟩)⟩
    obtain ⟨h1, h2⟩ := readM_back (s := s) (m := (readM s).1) (by rw [← h])
    exact ⟨isM_iff.2 h1, by rw [bytesM_of h1, h2]⟩
  · exact ⟨zeroM, 502, h, .inl rfl⟩
  · exact ⟨zeroM, 540, h, .inr (.inl rfl)⟩

set_option maxHeartbeats 8000000 in
theorem turned8_walk {a : Meth} {sa ca na da : _} {c : Nat} (hc16 : c ≤ 65535) {n : Int} (hn : (Lit.int .u8 n).wf = true) {w : World} (hT : Kinds w.heap.size w) (ha : RdM w (aV a sa ca na da) a) :
    Calls Tryd.prog 5 #[aV a sa ca na da, .int .u16 c, .int .u8 n] w fun e w' => e = .returned (.bool true) ∧ Below w.heap.size w w' := by
  have hK : Hid (∀ w', Below w.heap.size w w' → Kinds w'.heap.size w') := Lib.hid fun w' hb => (hT.below hb).mono hb.size
  have c1 := Lib.hid (fun (w' : World) (h : Below w.heap.size w w') => known8_true w' (hK.out w' h))
  have cfa := Lib.hid (fun (w' : World) (h : Below w.heap.size w w') => few_any (ha.below h))
  have cia := Lib.hid (fun (w' : World) (h : Below w.heap.size w w') => ris_any (ha.below h))
  have hW := Lib.hid (new_below w (mO a.kind (.slice sa a.S.length ca) (.slice na a.N.length da) a.bits))
  have hA : Hid (∀ w', Below (w.alloc (mO a.kind (.slice sa a.S.length ca) (.slice na a.N.length da) a.bits)).heap.size (w.alloc (mO a.kind (.slice sa a.S.length ca) (.slice na a.N.length da) a.bits)) w' →
      MonoS w w.heap.size (.int .i64 a.kind) (.slice sa a.S.length ca) (.slice na a.N.length da) (.int .i64 a.bits) w') := Lib.hid fun w' hb => box1_of hb
  clear hT
  cases h1 : fewM a with
  | false =>
    rw [h1] at cfa
    go_enter Tryd.func5, Tryd.ntmps5
    go_wp2_with fail
    refine (c1.out _ hW.out).mono ?_
    rintro e w1 ⟨rfl, hk⟩
    obtain ⟨⟨-, l1⟩, q10, q11, q12, q13⟩ := hA.out _ hk
    replace hk := Lib.hid (bel hW.out hk)
    go_wp2_with fail
    refine (cfa.out _ hk.out).mono ?_
    rintro e w2 ⟨rfl, hk2⟩
    replace hk := Lib.hid (bel hk.out hk2)
    clear hk2
    go_wp2_with fail
    go_ret
    exact ⟨rfl, hk.out⟩
  | true =>
  rw [h1] at cfa
  clear h1
  cases hI : isM a with
  | false =>
    rw [hI] at cia
    go_enter Tryd.func5, Tryd.ntmps5
    go_wp2_with fail
    refine (c1.out _ hW.out).mono ?_
    rintro e w1 ⟨rfl, hk⟩
    obtain ⟨⟨-, l1⟩, q10, q11, q12, q13⟩ := hA.out _ hk
    replace hk := Lib.hid hk
    go_wp2_with fail
    refine (cfa.out _ (bel hW.out hk.out)).mono ?_
    rintro e w2 ⟨rfl, hk2⟩
    clear l1 q10 q11 q12 q13
    replace hk := Lib.hid (bel hk.out hk2)
    clear hk2
    obtain ⟨⟨-, l1⟩, q10, q11, q12, q13⟩ := hA.out _ hk.out
    go_wp2_with fail
    refine (cia.out _ (bel hW.out hk.out)).mono ?_
    rintro e w3 ⟨rfl, hk2⟩
    replace hk := Lib.hid (bel hk.out hk2)
    clear hk2
    go_wp2_with fail
    go_ret
    exact ⟨rfl, bel hW.out hk.out⟩
  | true =>
  rw [hI] at cia
  have hM := isM_iff.1 hI
  have hlen := rawM_len hM
  have cBa := Lib.hid (fun (w' : World) (h : Below w.heap.size w w') => rbytesM_any (ha.below h))
  rw [bytesM_of hM] at cBa
  obtain ⟨k, hk⟩ : ∃ k, k = c % (rawM a).length := ⟨_, rfl⟩
  have hkl : k < (rawM a).length := by rw [hk]; exact Nat.mod_lt _ (by omega)
  have hrem : (c : Int) % ((rawM a).length : Int) = k := by rw [hk]; simp
  have hL2 : (2 : Int) ≤ (rawM a).length := by omega
  have hk0 : (0 : Int) ≤ k := by omega
  have hk1 : (k : Int) < (rawM a).length := by omega
  have hx : (rawM a)[k]? = some (rawM a)[k] := List.getElem?_eq_getElem hkl
  generalize (rawM a)[k] = x at hx
  obtain ⟨y, hy⟩ := turn_byte x hn
  obtain ⟨m, en, hr, hcase⟩ := readM_cases ((rawM a).set k y)
  have hl2 : ((rawM a).set k y).length ≤ 100000 := by rw [List.length_set]; omega
  have cR := Lib.hid (fun (w' : World) (h : Below w.heap.size w w') => read_b hr hl2 w' (hK.out w' h))
  have cRR := Lib.hid (rread_b hr hl2)
  have cSm := Lib.hid (fun (w' : World) v v2 (h1 : RdM w' v m) (h2 : RdM w' v2 m) => rsame_any h1 h2)
  rw [sameM_self] at cSm
  have hB := Lib.hid (fun w3 => bytes_turned w3 (rawM a))
  have hBk := Lib.hid hx
  generalize hl : (rawM a).set k y = l2 at *
  generalize rawM a = L at *
  replace hl := Lib.hid hl
  clear hr hI hM hlen hkl hk hl2 hx
  go_enter Tryd.func5, Tryd.ntmps5
  go_wp2_with fail
  refine (c1.out _ hW.out).mono ?_
  rintro e w1 ⟨rfl, hk⟩
  obtain ⟨⟨-, l1⟩, q10, q11, q12, q13⟩ := hA.out _ hk
  replace hk := Lib.hid hk
  go_wp2_with fail
  refine (cfa.out _ (bel hW.out hk.out)).mono ?_
  rintro e w2 ⟨rfl, hk2⟩
  clear l1 q10 q11 q12 q13
  replace hk := Lib.hid (bel hk.out hk2)
  clear hk2
  obtain ⟨⟨-, l1⟩, q10, q11, q12, q13⟩ := hA.out _ hk.out
  go_wp2_with fail
  refine (cia.out _ (bel hW.out hk.out)).mono ?_
  rintro e w3 ⟨rfl, hk2⟩
  clear l1 q10 q11 q12 q13
  replace hk := Lib.hid (bel hk.out hk2)
  clear hk2
  obtain ⟨⟨-, l1⟩, q10, q11, q12, q13⟩ := hA.out _ hk.out
  go_wp2_with fail
  refine (cBa.out _ (bel hW.out hk.out)).mono ?_
  rintro e w4 ⟨rfl, hk2⟩
  clear l1 q10 q11 q12 q13
  have hw4 := bel (bel hW.out hk.out) hk2
  obtain ⟨cap, W, hrun, -, hB2⟩ := hB.out w4
  obtain ⟨q1, q2, hbS, hcv⟩ := hB2 k x y hBk.out
  rw [hl.out] at hcv
  replace hw4 := Lib.hid (bel hw4 hbS)
  have hc1 := hcv _ (Below.refl _ _)
  replace hcv := Lib.hid hcv
  clear hk hk2 c1 cfa cia cBa hA hB hB2 hbS hBk hl
  go_wp2_with fail
  refine (cR.out _ hw4.out).mono ?_
  rintro e w5 ⟨sx, cx, nx, dx, rfl, hx, hk⟩
  have hX := Lib.hid (MdHeld.start w5 m.kind (.slice sx m.S.length cx) (.slice nx m.N.length dx) m.bits)
  have hnew := new_below w5 (mO m.kind (.slice sx m.S.length cx) (.slice nx m.N.length dx) m.bits)
  replace hx := Lib.hid (hx.below hnew)
  replace hk := bel hk hnew
  have hc2 := hcv.out _ hk
  replace hk := Lib.hid hk
  clear hnew cR hc1 q1 q2 hrun
  go_wp2_with fail
  refine (cRR.out _).mono ?_
  rintro e w6 ⟨sy, cy, ny, dy, rfl, hy2, hk2⟩
  have hnew := new_below w6 (mO m.kind (.slice sy m.S.length cy) (.slice ny m.N.length dy) m.bits)
  have hY := Lib.hid (MdHeld.start w6 m.kind (.slice sy m.S.length cy) (.slice ny m.N.length dy) m.bits)
  replace hy2 := Lib.hid (hy2.below hnew)
  replace hk2 := bel hk2 hnew
  replace hx := Lib.hid (hx.out.below hk2)
  replace hX := Lib.hid (hX.out.step hk2)
  replace hk := Lib.hid (bel hk.out hk2)
  clear hnew cRR hc2 hk2
  have q10 := hX.out.c0
  have q11 := hX.out.c1
  have q12 := hX.out.c2
  have q13 := hX.out.c3
  have q20 := hY.out.c0
  have q21 := hY.out.c1
  have q22 := hY.out.c2
  have q23 := hY.out.c3
  go_wp2_with fail
  refine (cSm.out _ _ _ hx.out hy2.out).mono ?_
  rintro e w7 ⟨rfl, hk2⟩
  replace hx := Lib.hid (hx.out.below hk2)
  replace hX := Lib.hid (hX.out.step hk2)
  replace hk := Lib.hid (bel hk.out hk2)
  clear q10 q11 q12 q13 q20 q21 q22 q23 hY hy2 cSm hk2
  have l1 := hX.out.lt
  have q10 := hX.out.c0
  have q11 := hX.out.c1
  have q12 := hX.out.c2
  have q13 := hX.out.c3
  have Q0 : Hid (MonoS w7 w5.heap.size (.int .i64 m.kind) (.slice sx m.S.length cx) (.slice nx m.N.length dx) (.int .i64 m.bits) w7.drew) := Lib.hid ⟨⟨drewN_below w7 1, l1⟩, q10, q11, q12, q13⟩
  have hw := Lib.hid (bel hw4.out hk.out)
  have dcv : Hid (∀ wr, MonoS w7 w5.heap.size (.int .i64 m.kind) (.slice sx m.S.length cx) (.slice nx m.N.length dx) (.int .i64 m.bits) wr → _) := Lib.hid fun wr q => hcv.out wr (bel hk.out q.1.1)
  have dI : Hid (∀ wr, MonoS w7 w5.heap.size (.int .i64 m.kind) (.slice sx m.S.length cx) (.slice nx m.N.length dx) (.int .i64 m.bits) wr → _) := Lib.hid fun wr q => is_any (hK.out _ (bel hw.out q.1.1)) (hx.out.below q.1.1)
  have dB : Hid (∀ wr, MonoS w7 w5.heap.size (.int .i64 m.kind) (.slice sx m.S.length cx) (.slice nx m.N.length dx) (.int .i64 m.bits) wr → _) := Lib.hid fun wr q => bytesM_any (hK.out _ (bel hw.out q.1.1)) (hx.out.below q.1.1)
  clear hx hX hk hcv hw4 hK hW ha
  go_wp2_with fail
  rcases hcase with rfl | rfl | ⟨rfl, h1, h2⟩
  · refine wp_region_held_drew (S := fun wr => MonoS w7 w5.heap.size (.int .i64 m.kind) (.slice sx m.S.length cx) (.slice nx m.N.length dx) (.int .i64 m.bits) wr) (by kernel_rfl) Q0.out (fun hHeld => ?_)
    refine wpAnyH_take (i := 0) (oi := { dst := some 61, op := Op.move (Operand.tmp 10), type := 28, pos := "exact.go:78", after := #[], guard := none }) (v := ?_) rfl (by kernel_rfl) (by kernel_rfl) (by kernel_rfl) (fun _ _ _ h => h) (Or.inl ⟨by rfl, ?_⟩) hHeld ?_
    rotate_left 1
    · (intro w' hSw; clear hSw; go_simp; (try with_reducible rfl))
    try simp only [Act.put, List.setIfInBounds_toArray, List.set_cons_zero, List.set_cons_succ]
    refine wpAnyH_take (i := 1) (oi := { dst := some 62, op := Op.binOp BinOp.eql 28 (Operand.tmp 61) (Operand.const (Value.int IntKind.i64 502)) 28, type := 4, pos := "exact.go:78", after := #[{ on := 0, ground := Ground.data }], guard := none }) (v := ?_) rfl (by kernel_rfl) (by kernel_rfl) (by kernel_rfl) (fun _ _ _ h => h) (Or.inl ⟨by rfl, ?_⟩) hHeld ?_
    rotate_left 1
    · (intro w' hSw; clear hSw; go_simp; (try with_reducible rfl))
    try simp only [Act.put, List.setIfInBounds_toArray, List.set_cons_zero, List.set_cons_succ]
    refine wpAnyH_take (i := 2) (oi := { dst := some 63, op := Op.move (Operand.tmp 62), type := 4, pos := "exact.go:78", after := #[{ on := 1, ground := Ground.data }], guard := none }) (v := ?_) rfl (by kernel_rfl) (by kernel_rfl) (by kernel_rfl) (fun _ _ _ h => h) (Or.inl ⟨by rfl, ?_⟩) hHeld ?_
    rotate_left 1
    · (intro w' hSw; clear hSw; go_simp; (try with_reducible rfl))
    try simp only [Act.put, List.setIfInBounds_toArray, List.set_cons_zero, List.set_cons_succ]
    refine wpAnyH_take (i := 3) (oi := { dst := some 64, op := Op.move (Operand.tmp 10), type := 28, pos := "exact.go:78", after := #[{ on := 2, ground := Ground.guard }], guard := some (2, false) }) (v := undef) rfl (by kernel_rfl) (by kernel_rfl) (by kernel_rfl) (fun _ _ _ h => h) (Or.inr ⟨by rfl, rfl⟩) hHeld ?_
    try simp only [Act.put, List.setIfInBounds_toArray, List.set_cons_zero, List.set_cons_succ]
    refine wpAnyH_take (i := 4) (oi := { dst := some 65, op := Op.binOp BinOp.eql 28 (Operand.tmp 64) (Operand.const (Value.int IntKind.i64 540)) 28, type := 4, pos := "exact.go:78", after := #[{ on := 3, ground := Ground.data }, { on := 2, ground := Ground.guard }], guard := some (2, false) }) (v := undef) rfl (by kernel_rfl) (by kernel_rfl) (by kernel_rfl) (fun _ _ _ h => h) (Or.inr ⟨by rfl, rfl⟩) hHeld ?_
    try simp only [Act.put, List.setIfInBounds_toArray, List.set_cons_zero, List.set_cons_succ]
    refine wpAnyH_take (i := 5) (oi := { dst := some 66, op := Op.pick (Operand.tmp 63) (Operand.const (Value.bool true)) (Operand.tmp 65), type := 4, pos := "exact.go:78", after := #[{ on := 2, ground := Ground.data }, { on := 4, ground := Ground.data }], guard := none }) (v := ?_) rfl (by kernel_rfl) (by kernel_rfl) (by kernel_rfl) (fun _ _ _ h => h) (Or.inl ⟨by rfl, ?_⟩) hHeld ?_
    rotate_left 1
    · (intro w' hSw; clear hSw; go_simp; (try with_reducible rfl))
    try simp only [Act.put, List.setIfInBounds_toArray, List.set_cons_zero, List.set_cons_succ]
    refine wpAnyH_take (i := 6) (oi := { dst := some 67, op := Op.move (Operand.tmp 66), type := 4, pos := "exact.go:78", after := #[{ on := 5, ground := Ground.data }, { on := 2, ground := Ground.chain }], guard := none }) (v := ?_) rfl (by kernel_rfl) (by kernel_rfl) (by kernel_rfl) (fun _ _ _ h => h) (Or.inl ⟨by rfl, ?_⟩) hHeld ?_
    rotate_left 1
    · (intro w' hSw; clear hSw; go_simp; (try with_reducible rfl))
    try simp only [Act.put, List.setIfInBounds_toArray, List.set_cons_zero, List.set_cons_succ]
    refine wpAnyH_take (i := 7) (oi := { dst := some 68, op := Op.move (Operand.tmp 10), type := 28, pos := "exact.go:78", after := #[{ on := 6, ground := Ground.guard }], guard := some (6, false) }) (v := undef) rfl (by kernel_rfl) (by kernel_rfl) (by kernel_rfl) (fun _ _ _ h => h) (Or.inr ⟨by rfl, rfl⟩) hHeld ?_
    try simp only [Act.put, List.setIfInBounds_toArray, List.set_cons_zero, List.set_cons_succ]
    refine wpAnyH_take (i := 8) (oi := { dst := some 69, op := Op.binOp BinOp.eql 28 (Operand.tmp 68) (Operand.const (Value.int IntKind.i64 0)) 28, type := 4, pos := "exact.go:78", after := #[{ on := 7, ground := Ground.data }, { on := 6, ground := Ground.guard }], guard := some (6, false) }) (v := undef) rfl (by kernel_rfl) (by kernel_rfl) (by kernel_rfl) (fun _ _ _ h => h) (Or.inr ⟨by rfl, rfl⟩) hHeld ?_
    try simp only [Act.put, List.setIfInBounds_toArray, List.set_cons_zero, List.set_cons_succ]
    refine wpAnyH_take (i := 9) (oi := { dst := some 70, op := Op.move (Operand.tmp 69), type := 4, pos := "exact.go:78", after := #[{ on := 8, ground := Ground.data }, { on := 6, ground := Ground.chain }, { on := 6, ground := Ground.guard }], guard := some (6, false) }) (v := undef) rfl (by kernel_rfl) (by kernel_rfl) (by kernel_rfl) (fun _ _ _ h => h) (Or.inr ⟨by rfl, rfl⟩) hHeld ?_
    try simp only [Act.put, List.setIfInBounds_toArray, List.set_cons_zero, List.set_cons_succ]
    refine wpAnyH_take (i := 10) (oi := { dst := some 71, op := Op.load 25 (Operand.tmp 9), type := 25, pos := "exact.go:78", after := #[{ on := 9, ground := Ground.guard }], guard := some (9, true) }) (v := undef) rfl (by kernel_rfl) (by kernel_rfl) (by kernel_rfl) (fun _ _ _ h => h) (Or.inr ⟨by rfl, rfl⟩) hHeld ?_
    try simp only [Act.put, List.setIfInBounds_toArray, List.set_cons_zero, List.set_cons_succ]
    refine wpAnyH_take (i := 11) (oi := { dst := some 72, op := Op.call { callee := Callee.value (Operand.func 14), args := #[Operand.tmp 71], argTypes := #[25] }, type := 4, pos := "exact.go:78", after := #[{ on := 10, ground := Ground.data }, { on := 9, ground := Ground.chain }, { on := 9, ground := Ground.guard }], guard := some (9, true) }) (v := undef) rfl (by kernel_rfl) (by kernel_rfl) (by kernel_rfl) (fun _ _ _ h => h) (Or.inr ⟨by rfl, rfl⟩) hHeld ?_
    try simp only [Act.put, List.setIfInBounds_toArray, List.set_cons_zero, List.set_cons_succ]
    refine wpAnyH_take (i := 12) (oi := { dst := some 73, op := Op.pick (Operand.tmp 70) (Operand.tmp 72) (Operand.const (Value.bool false)), type := 4, pos := "exact.go:78", after := #[{ on := 9, ground := Ground.data }, { on := 11, ground := Ground.data }, { on := 6, ground := Ground.guard }], guard := some (6, false) }) (v := undef) rfl (by kernel_rfl) (by kernel_rfl) (by kernel_rfl) (fun _ _ _ h => h) (Or.inr ⟨by rfl, rfl⟩) hHeld ?_
    try simp only [Act.put, List.setIfInBounds_toArray, List.set_cons_zero, List.set_cons_succ]
    refine wpAnyH_take (i := 13) (oi := { dst := some 74, op := Op.move (Operand.tmp 73), type := 4, pos := "exact.go:78", after := #[{ on := 12, ground := Ground.data }, { on := 11, ground := Ground.chain }, { on := 6, ground := Ground.guard }], guard := some (6, false) }) (v := undef) rfl (by kernel_rfl) (by kernel_rfl) (by kernel_rfl) (fun _ _ _ h => h) (Or.inr ⟨by rfl, rfl⟩) hHeld ?_
    try simp only [Act.put, List.setIfInBounds_toArray, List.set_cons_zero, List.set_cons_succ]
    refine wpAnyH_take (i := 14) (oi := { dst := some 75, op := Op.load 25 (Operand.tmp 9), type := 25, pos := "exact.go:78", after := #[{ on := 13, ground := Ground.guard }], guard := some (13, true) }) (v := undef) rfl (by kernel_rfl) (by kernel_rfl) (by kernel_rfl) (fun _ _ _ h => h) (Or.inr ⟨by rfl, rfl⟩) hHeld ?_
    try simp only [Act.put, List.setIfInBounds_toArray, List.set_cons_zero, List.set_cons_succ]
    refine wpAnyH_take (i := 15) (oi := { dst := some 76, op := Op.call { callee := Callee.value (Operand.func 18), args := #[Operand.tmp 75], argTypes := #[25] }, type := 9, pos := "exact.go:78", after := #[{ on := 14, ground := Ground.data }, { on := 13, ground := Ground.chain }, { on := 13, ground := Ground.guard }], guard := some (13, true) }) (v := undef) rfl (by kernel_rfl) (by kernel_rfl) (by kernel_rfl) (fun _ _ _ h => h) (Or.inr ⟨by rfl, rfl⟩) hHeld ?_
    try simp only [Act.put, List.setIfInBounds_toArray, List.set_cons_zero, List.set_cons_succ]
    refine wpAnyH_take (i := 16) (oi := { dst := some 77, op := Op.move (Operand.tmp 7), type := 41, pos := "exact.go:78", after := #[{ on := 13, ground := Ground.guard }], guard := some (13, true) }) (v := undef) rfl (by kernel_rfl) (by kernel_rfl) (by kernel_rfl) (fun _ _ _ h => h) (Or.inr ⟨by rfl, rfl⟩) hHeld ?_
    try simp only [Act.put, List.setIfInBounds_toArray, List.set_cons_zero, List.set_cons_succ]
    refine wpAnyH_take (i := 17) (oi := { dst := some 78, op := Op.convert 41 9 (Operand.tmp 77), type := 9, pos := "exact.go:78", after := #[{ on := 16, ground := Ground.data }, { on := 13, ground := Ground.guard }], guard := some (13, true) }) (v := undef) rfl (by kernel_rfl) (by kernel_rfl) (by kernel_rfl) (fun _ _ _ h => h) (Or.inr ⟨by rfl, rfl⟩) hHeld ?_
    try simp only [Act.put, List.setIfInBounds_toArray, List.set_cons_zero, List.set_cons_succ]
    refine wpAnyH_take (i := 18) (oi := { dst := some 79, op := Op.binOp BinOp.eql 9 (Operand.tmp 76) (Operand.tmp 78) 9, type := 4, pos := "exact.go:78", after := #[{ on := 15, ground := Ground.data }, { on := 17, ground := Ground.data }, { on := 13, ground := Ground.guard }], guard := some (13, true) }) (v := undef) rfl (by kernel_rfl) (by kernel_rfl) (by kernel_rfl) (fun _ _ _ h => h) (Or.inr ⟨by rfl, rfl⟩) hHeld ?_
    try simp only [Act.put, List.setIfInBounds_toArray, List.set_cons_zero, List.set_cons_succ]
    refine wpAnyH_take (i := 19) (oi := { dst := some 80, op := Op.pick (Operand.tmp 74) (Operand.tmp 79) (Operand.const (Value.bool false)), type := 4, pos := "exact.go:78", after := #[{ on := 13, ground := Ground.data }, { on := 18, ground := Ground.data }, { on := 6, ground := Ground.guard }], guard := some (6, false) }) (v := undef) rfl (by kernel_rfl) (by kernel_rfl) (by kernel_rfl) (fun _ _ _ h => h) (Or.inr ⟨by rfl, rfl⟩) hHeld ?_
    try simp only [Act.put, List.setIfInBounds_toArray, List.set_cons_zero, List.set_cons_succ]
    refine wpAnyH_take (i := 20) (oi := { dst := some 81, op := Op.pick (Operand.tmp 67) (Operand.const (Value.bool true)) (Operand.tmp 80), type := 4, pos := "exact.go:78", after := #[{ on := 6, ground := Ground.data }, { on := 19, ground := Ground.data }], guard := none }) (v := ?_) rfl (by kernel_rfl) (by kernel_rfl) (by kernel_rfl) (fun _ _ _ h => h) (Or.inl ⟨by rfl, ?_⟩) hHeld ?_
    rotate_left 1
    · (intro w' hSw; clear hSw; go_simp; (try with_reducible rfl))
    try simp only [Act.put, List.setIfInBounds_toArray, List.set_cons_zero, List.set_cons_succ]
    refine wpAnyH_take (i := 21) (oi := { dst := some 6, op := Op.assign (Operand.tmp 81), type := 4, pos := "exact.go:78", after := #[{ on := 20, ground := Ground.data }, { on := 15, ground := Ground.chain }, { on := 0, ground := Ground.phase }, { on := 1, ground := Ground.phase }, { on := 2, ground := Ground.phase }, { on := 3, ground := Ground.phase }, { on := 4, ground := Ground.phase }, { on := 5, ground := Ground.phase }, { on := 6, ground := Ground.phase }, { on := 7, ground := Ground.phase }, { on := 8, ground := Ground.phase }, { on := 9, ground := Ground.phase }, { on := 10, ground := Ground.phase }, { on := 11, ground := Ground.phase }, { on := 12, ground := Ground.phase }, { on := 13, ground := Ground.phase }, { on := 14, ground := Ground.phase }, { on := 15, ground := Ground.phase }, { on := 16, ground := Ground.phase }, { on := 17, ground := Ground.phase }, { on := 18, ground := Ground.phase }, { on := 19, ground := Ground.phase }, { on := 20, ground := Ground.phase }], guard := none }) (v := ?_) rfl (by kernel_rfl) (by kernel_rfl) (by kernel_rfl) (fun _ _ _ h => h) (Or.inl ⟨by rfl, ?_⟩) hHeld ?_
    rotate_left 1
    · (intro w' hSw; clear hSw; go_simp; (try with_reducible rfl))
    try simp only [Act.put, List.setIfInBounds_toArray, List.set_cons_zero, List.set_cons_succ]
    refine wpAnyH_done (by kernel_rfl) ?_ _
    have hH := Lib.hid hHeld.1.1
    clear hHeld
    go_wp2_with fail
    go_ret
    exact ⟨rfl, bel hw.out hH.out⟩
  · refine wp_region_held_drew (S := fun wr => MonoS w7 w5.heap.size (.int .i64 m.kind) (.slice sx m.S.length cx) (.slice nx m.N.length dx) (.int .i64 m.bits) wr) (by kernel_rfl) Q0.out (fun hHeld => ?_)
    refine wpAnyH_take (i := 0) (oi := { dst := some 61, op := Op.move (Operand.tmp 10), type := 28, pos := "exact.go:78", after := #[], guard := none }) (v := ?_) rfl (by kernel_rfl) (by kernel_rfl) (by kernel_rfl) (fun _ _ _ h => h) (Or.inl ⟨by rfl, ?_⟩) hHeld ?_
    rotate_left 1
    · (intro w' hSw; clear hSw; go_simp; (try with_reducible rfl))
    try simp only [Act.put, List.setIfInBounds_toArray, List.set_cons_zero, List.set_cons_succ]
    refine wpAnyH_take (i := 1) (oi := { dst := some 62, op := Op.binOp BinOp.eql 28 (Operand.tmp 61) (Operand.const (Value.int IntKind.i64 502)) 28, type := 4, pos := "exact.go:78", after := #[{ on := 0, ground := Ground.data }], guard := none }) (v := ?_) rfl (by kernel_rfl) (by kernel_rfl) (by kernel_rfl) (fun _ _ _ h => h) (Or.inl ⟨by rfl, ?_⟩) hHeld ?_
    rotate_left 1
    · (intro w' hSw; clear hSw; go_simp; (try with_reducible rfl))
    try simp only [Act.put, List.setIfInBounds_toArray, List.set_cons_zero, List.set_cons_succ]
    refine wpAnyH_take (i := 2) (oi := { dst := some 63, op := Op.move (Operand.tmp 62), type := 4, pos := "exact.go:78", after := #[{ on := 1, ground := Ground.data }], guard := none }) (v := ?_) rfl (by kernel_rfl) (by kernel_rfl) (by kernel_rfl) (fun _ _ _ h => h) (Or.inl ⟨by rfl, ?_⟩) hHeld ?_
    rotate_left 1
    · (intro w' hSw; clear hSw; go_simp; (try with_reducible rfl))
    try simp only [Act.put, List.setIfInBounds_toArray, List.set_cons_zero, List.set_cons_succ]
    refine wpAnyH_take (i := 3) (oi := { dst := some 64, op := Op.move (Operand.tmp 10), type := 28, pos := "exact.go:78", after := #[{ on := 2, ground := Ground.guard }], guard := some (2, false) }) (v := ?_) rfl (by kernel_rfl) (by kernel_rfl) (by kernel_rfl) (fun _ _ _ h => h) (Or.inl ⟨by rfl, ?_⟩) hHeld ?_
    rotate_left 1
    · (intro w' hSw; clear hSw; go_simp; (try with_reducible rfl))
    try simp only [Act.put, List.setIfInBounds_toArray, List.set_cons_zero, List.set_cons_succ]
    refine wpAnyH_take (i := 4) (oi := { dst := some 65, op := Op.binOp BinOp.eql 28 (Operand.tmp 64) (Operand.const (Value.int IntKind.i64 540)) 28, type := 4, pos := "exact.go:78", after := #[{ on := 3, ground := Ground.data }, { on := 2, ground := Ground.guard }], guard := some (2, false) }) (v := ?_) rfl (by kernel_rfl) (by kernel_rfl) (by kernel_rfl) (fun _ _ _ h => h) (Or.inl ⟨by rfl, ?_⟩) hHeld ?_
    rotate_left 1
    · (intro w' hSw; clear hSw; go_simp; (try with_reducible rfl))
    try simp only [Act.put, List.setIfInBounds_toArray, List.set_cons_zero, List.set_cons_succ]
    refine wpAnyH_take (i := 5) (oi := { dst := some 66, op := Op.pick (Operand.tmp 63) (Operand.const (Value.bool true)) (Operand.tmp 65), type := 4, pos := "exact.go:78", after := #[{ on := 2, ground := Ground.data }, { on := 4, ground := Ground.data }], guard := none }) (v := ?_) rfl (by kernel_rfl) (by kernel_rfl) (by kernel_rfl) (fun _ _ _ h => h) (Or.inl ⟨by rfl, ?_⟩) hHeld ?_
    rotate_left 1
    · (intro w' hSw; clear hSw; go_simp; (try with_reducible rfl))
    try simp only [Act.put, List.setIfInBounds_toArray, List.set_cons_zero, List.set_cons_succ]
    refine wpAnyH_take (i := 6) (oi := { dst := some 67, op := Op.move (Operand.tmp 66), type := 4, pos := "exact.go:78", after := #[{ on := 5, ground := Ground.data }, { on := 2, ground := Ground.chain }], guard := none }) (v := ?_) rfl (by kernel_rfl) (by kernel_rfl) (by kernel_rfl) (fun _ _ _ h => h) (Or.inl ⟨by rfl, ?_⟩) hHeld ?_
    rotate_left 1
    · (intro w' hSw; clear hSw; go_simp; (try with_reducible rfl))
    try simp only [Act.put, List.setIfInBounds_toArray, List.set_cons_zero, List.set_cons_succ]
    refine wpAnyH_take (i := 7) (oi := { dst := some 68, op := Op.move (Operand.tmp 10), type := 28, pos := "exact.go:78", after := #[{ on := 6, ground := Ground.guard }], guard := some (6, false) }) (v := undef) rfl (by kernel_rfl) (by kernel_rfl) (by kernel_rfl) (fun _ _ _ h => h) (Or.inr ⟨by rfl, rfl⟩) hHeld ?_
    try simp only [Act.put, List.setIfInBounds_toArray, List.set_cons_zero, List.set_cons_succ]
    refine wpAnyH_take (i := 8) (oi := { dst := some 69, op := Op.binOp BinOp.eql 28 (Operand.tmp 68) (Operand.const (Value.int IntKind.i64 0)) 28, type := 4, pos := "exact.go:78", after := #[{ on := 7, ground := Ground.data }, { on := 6, ground := Ground.guard }], guard := some (6, false) }) (v := undef) rfl (by kernel_rfl) (by kernel_rfl) (by kernel_rfl) (fun _ _ _ h => h) (Or.inr ⟨by rfl, rfl⟩) hHeld ?_
    try simp only [Act.put, List.setIfInBounds_toArray, List.set_cons_zero, List.set_cons_succ]
    refine wpAnyH_take (i := 9) (oi := { dst := some 70, op := Op.move (Operand.tmp 69), type := 4, pos := "exact.go:78", after := #[{ on := 8, ground := Ground.data }, { on := 6, ground := Ground.chain }, { on := 6, ground := Ground.guard }], guard := some (6, false) }) (v := undef) rfl (by kernel_rfl) (by kernel_rfl) (by kernel_rfl) (fun _ _ _ h => h) (Or.inr ⟨by rfl, rfl⟩) hHeld ?_
    try simp only [Act.put, List.setIfInBounds_toArray, List.set_cons_zero, List.set_cons_succ]
    refine wpAnyH_take (i := 10) (oi := { dst := some 71, op := Op.load 25 (Operand.tmp 9), type := 25, pos := "exact.go:78", after := #[{ on := 9, ground := Ground.guard }], guard := some (9, true) }) (v := undef) rfl (by kernel_rfl) (by kernel_rfl) (by kernel_rfl) (fun _ _ _ h => h) (Or.inr ⟨by rfl, rfl⟩) hHeld ?_
    try simp only [Act.put, List.setIfInBounds_toArray, List.set_cons_zero, List.set_cons_succ]
    refine wpAnyH_take (i := 11) (oi := { dst := some 72, op := Op.call { callee := Callee.value (Operand.func 14), args := #[Operand.tmp 71], argTypes := #[25] }, type := 4, pos := "exact.go:78", after := #[{ on := 10, ground := Ground.data }, { on := 9, ground := Ground.chain }, { on := 9, ground := Ground.guard }], guard := some (9, true) }) (v := undef) rfl (by kernel_rfl) (by kernel_rfl) (by kernel_rfl) (fun _ _ _ h => h) (Or.inr ⟨by rfl, rfl⟩) hHeld ?_
    try simp only [Act.put, List.setIfInBounds_toArray, List.set_cons_zero, List.set_cons_succ]
    refine wpAnyH_take (i := 12) (oi := { dst := some 73, op := Op.pick (Operand.tmp 70) (Operand.tmp 72) (Operand.const (Value.bool false)), type := 4, pos := "exact.go:78", after := #[{ on := 9, ground := Ground.data }, { on := 11, ground := Ground.data }, { on := 6, ground := Ground.guard }], guard := some (6, false) }) (v := undef) rfl (by kernel_rfl) (by kernel_rfl) (by kernel_rfl) (fun _ _ _ h => h) (Or.inr ⟨by rfl, rfl⟩) hHeld ?_
    try simp only [Act.put, List.setIfInBounds_toArray, List.set_cons_zero, List.set_cons_succ]
    refine wpAnyH_take (i := 13) (oi := { dst := some 74, op := Op.move (Operand.tmp 73), type := 4, pos := "exact.go:78", after := #[{ on := 12, ground := Ground.data }, { on := 11, ground := Ground.chain }, { on := 6, ground := Ground.guard }], guard := some (6, false) }) (v := undef) rfl (by kernel_rfl) (by kernel_rfl) (by kernel_rfl) (fun _ _ _ h => h) (Or.inr ⟨by rfl, rfl⟩) hHeld ?_
    try simp only [Act.put, List.setIfInBounds_toArray, List.set_cons_zero, List.set_cons_succ]
    refine wpAnyH_take (i := 14) (oi := { dst := some 75, op := Op.load 25 (Operand.tmp 9), type := 25, pos := "exact.go:78", after := #[{ on := 13, ground := Ground.guard }], guard := some (13, true) }) (v := undef) rfl (by kernel_rfl) (by kernel_rfl) (by kernel_rfl) (fun _ _ _ h => h) (Or.inr ⟨by rfl, rfl⟩) hHeld ?_
    try simp only [Act.put, List.setIfInBounds_toArray, List.set_cons_zero, List.set_cons_succ]
    refine wpAnyH_take (i := 15) (oi := { dst := some 76, op := Op.call { callee := Callee.value (Operand.func 18), args := #[Operand.tmp 75], argTypes := #[25] }, type := 9, pos := "exact.go:78", after := #[{ on := 14, ground := Ground.data }, { on := 13, ground := Ground.chain }, { on := 13, ground := Ground.guard }], guard := some (13, true) }) (v := undef) rfl (by kernel_rfl) (by kernel_rfl) (by kernel_rfl) (fun _ _ _ h => h) (Or.inr ⟨by rfl, rfl⟩) hHeld ?_
    try simp only [Act.put, List.setIfInBounds_toArray, List.set_cons_zero, List.set_cons_succ]
    refine wpAnyH_take (i := 16) (oi := { dst := some 77, op := Op.move (Operand.tmp 7), type := 41, pos := "exact.go:78", after := #[{ on := 13, ground := Ground.guard }], guard := some (13, true) }) (v := undef) rfl (by kernel_rfl) (by kernel_rfl) (by kernel_rfl) (fun _ _ _ h => h) (Or.inr ⟨by rfl, rfl⟩) hHeld ?_
    try simp only [Act.put, List.setIfInBounds_toArray, List.set_cons_zero, List.set_cons_succ]
    refine wpAnyH_take (i := 17) (oi := { dst := some 78, op := Op.convert 41 9 (Operand.tmp 77), type := 9, pos := "exact.go:78", after := #[{ on := 16, ground := Ground.data }, { on := 13, ground := Ground.guard }], guard := some (13, true) }) (v := undef) rfl (by kernel_rfl) (by kernel_rfl) (by kernel_rfl) (fun _ _ _ h => h) (Or.inr ⟨by rfl, rfl⟩) hHeld ?_
    try simp only [Act.put, List.setIfInBounds_toArray, List.set_cons_zero, List.set_cons_succ]
    refine wpAnyH_take (i := 18) (oi := { dst := some 79, op := Op.binOp BinOp.eql 9 (Operand.tmp 76) (Operand.tmp 78) 9, type := 4, pos := "exact.go:78", after := #[{ on := 15, ground := Ground.data }, { on := 17, ground := Ground.data }, { on := 13, ground := Ground.guard }], guard := some (13, true) }) (v := undef) rfl (by kernel_rfl) (by kernel_rfl) (by kernel_rfl) (fun _ _ _ h => h) (Or.inr ⟨by rfl, rfl⟩) hHeld ?_
    try simp only [Act.put, List.setIfInBounds_toArray, List.set_cons_zero, List.set_cons_succ]
    refine wpAnyH_take (i := 19) (oi := { dst := some 80, op := Op.pick (Operand.tmp 74) (Operand.tmp 79) (Operand.const (Value.bool false)), type := 4, pos := "exact.go:78", after := #[{ on := 13, ground := Ground.data }, { on := 18, ground := Ground.data }, { on := 6, ground := Ground.guard }], guard := some (6, false) }) (v := undef) rfl (by kernel_rfl) (by kernel_rfl) (by kernel_rfl) (fun _ _ _ h => h) (Or.inr ⟨by rfl, rfl⟩) hHeld ?_
    try simp only [Act.put, List.setIfInBounds_toArray, List.set_cons_zero, List.set_cons_succ]
    refine wpAnyH_take (i := 20) (oi := { dst := some 81, op := Op.pick (Operand.tmp 67) (Operand.const (Value.bool true)) (Operand.tmp 80), type := 4, pos := "exact.go:78", after := #[{ on := 6, ground := Ground.data }, { on := 19, ground := Ground.data }], guard := none }) (v := ?_) rfl (by kernel_rfl) (by kernel_rfl) (by kernel_rfl) (fun _ _ _ h => h) (Or.inl ⟨by rfl, ?_⟩) hHeld ?_
    rotate_left 1
    · (intro w' hSw; clear hSw; go_simp; (try with_reducible rfl))
    try simp only [Act.put, List.setIfInBounds_toArray, List.set_cons_zero, List.set_cons_succ]
    refine wpAnyH_take (i := 21) (oi := { dst := some 6, op := Op.assign (Operand.tmp 81), type := 4, pos := "exact.go:78", after := #[{ on := 20, ground := Ground.data }, { on := 15, ground := Ground.chain }, { on := 0, ground := Ground.phase }, { on := 1, ground := Ground.phase }, { on := 2, ground := Ground.phase }, { on := 3, ground := Ground.phase }, { on := 4, ground := Ground.phase }, { on := 5, ground := Ground.phase }, { on := 6, ground := Ground.phase }, { on := 7, ground := Ground.phase }, { on := 8, ground := Ground.phase }, { on := 9, ground := Ground.phase }, { on := 10, ground := Ground.phase }, { on := 11, ground := Ground.phase }, { on := 12, ground := Ground.phase }, { on := 13, ground := Ground.phase }, { on := 14, ground := Ground.phase }, { on := 15, ground := Ground.phase }, { on := 16, ground := Ground.phase }, { on := 17, ground := Ground.phase }, { on := 18, ground := Ground.phase }, { on := 19, ground := Ground.phase }, { on := 20, ground := Ground.phase }], guard := none }) (v := ?_) rfl (by kernel_rfl) (by kernel_rfl) (by kernel_rfl) (fun _ _ _ h => h) (Or.inl ⟨by rfl, ?_⟩) hHeld ?_
    rotate_left 1
    · (intro w' hSw; clear hSw; go_simp; (try with_reducible rfl))
    try simp only [Act.put, List.setIfInBounds_toArray, List.set_cons_zero, List.set_cons_succ]
    refine wpAnyH_done (by kernel_rfl) ?_ _
    have hH := Lib.hid hHeld.1.1
    clear hHeld
    go_wp2_with fail
    go_ret
    exact ⟨rfl, bel hw.out hH.out⟩
  · rw [h1] at dI
    rw [h2] at dB
    refine wp_region_held_drew (S := fun wr => MonoS w7 w5.heap.size (.int .i64 m.kind) (.slice sx m.S.length cx) (.slice nx m.N.length dx) (.int .i64 m.bits) wr) (by kernel_rfl) Q0.out (fun hHeld => ?_)
    refine wpAnyH_take (i := 0) (oi := { dst := some 61, op := Op.move (Operand.tmp 10), type := 28, pos := "exact.go:78", after := #[], guard := none }) (v := ?_) rfl (by kernel_rfl) (by kernel_rfl) (by kernel_rfl) (fun _ _ _ h => h) (Or.inl ⟨by rfl, ?_⟩) hHeld ?_
    rotate_left 1
    · (intro w' hSw; clear hSw; go_simp; (try with_reducible rfl))
    try simp only [Act.put, List.setIfInBounds_toArray, List.set_cons_zero, List.set_cons_succ]
    refine wpAnyH_take (i := 1) (oi := { dst := some 62, op := Op.binOp BinOp.eql 28 (Operand.tmp 61) (Operand.const (Value.int IntKind.i64 502)) 28, type := 4, pos := "exact.go:78", after := #[{ on := 0, ground := Ground.data }], guard := none }) (v := ?_) rfl (by kernel_rfl) (by kernel_rfl) (by kernel_rfl) (fun _ _ _ h => h) (Or.inl ⟨by rfl, ?_⟩) hHeld ?_
    rotate_left 1
    · (intro w' hSw; clear hSw; go_simp; (try with_reducible rfl))
    try simp only [Act.put, List.setIfInBounds_toArray, List.set_cons_zero, List.set_cons_succ]
    refine wpAnyH_take (i := 2) (oi := { dst := some 63, op := Op.move (Operand.tmp 62), type := 4, pos := "exact.go:78", after := #[{ on := 1, ground := Ground.data }], guard := none }) (v := ?_) rfl (by kernel_rfl) (by kernel_rfl) (by kernel_rfl) (fun _ _ _ h => h) (Or.inl ⟨by rfl, ?_⟩) hHeld ?_
    rotate_left 1
    · (intro w' hSw; clear hSw; go_simp; (try with_reducible rfl))
    try simp only [Act.put, List.setIfInBounds_toArray, List.set_cons_zero, List.set_cons_succ]
    refine wpAnyH_take (i := 3) (oi := { dst := some 64, op := Op.move (Operand.tmp 10), type := 28, pos := "exact.go:78", after := #[{ on := 2, ground := Ground.guard }], guard := some (2, false) }) (v := ?_) rfl (by kernel_rfl) (by kernel_rfl) (by kernel_rfl) (fun _ _ _ h => h) (Or.inl ⟨by rfl, ?_⟩) hHeld ?_
    rotate_left 1
    · (intro w' hSw; clear hSw; go_simp; (try with_reducible rfl))
    try simp only [Act.put, List.setIfInBounds_toArray, List.set_cons_zero, List.set_cons_succ]
    refine wpAnyH_take (i := 4) (oi := { dst := some 65, op := Op.binOp BinOp.eql 28 (Operand.tmp 64) (Operand.const (Value.int IntKind.i64 540)) 28, type := 4, pos := "exact.go:78", after := #[{ on := 3, ground := Ground.data }, { on := 2, ground := Ground.guard }], guard := some (2, false) }) (v := ?_) rfl (by kernel_rfl) (by kernel_rfl) (by kernel_rfl) (fun _ _ _ h => h) (Or.inl ⟨by rfl, ?_⟩) hHeld ?_
    rotate_left 1
    · (intro w' hSw; clear hSw; go_simp; (try with_reducible rfl))
    try simp only [Act.put, List.setIfInBounds_toArray, List.set_cons_zero, List.set_cons_succ]
    refine wpAnyH_take (i := 5) (oi := { dst := some 66, op := Op.pick (Operand.tmp 63) (Operand.const (Value.bool true)) (Operand.tmp 65), type := 4, pos := "exact.go:78", after := #[{ on := 2, ground := Ground.data }, { on := 4, ground := Ground.data }], guard := none }) (v := ?_) rfl (by kernel_rfl) (by kernel_rfl) (by kernel_rfl) (fun _ _ _ h => h) (Or.inl ⟨by rfl, ?_⟩) hHeld ?_
    rotate_left 1
    · (intro w' hSw; clear hSw; go_simp; (try with_reducible rfl))
    try simp only [Act.put, List.setIfInBounds_toArray, List.set_cons_zero, List.set_cons_succ]
    refine wpAnyH_take (i := 6) (oi := { dst := some 67, op := Op.move (Operand.tmp 66), type := 4, pos := "exact.go:78", after := #[{ on := 5, ground := Ground.data }, { on := 2, ground := Ground.chain }], guard := none }) (v := ?_) rfl (by kernel_rfl) (by kernel_rfl) (by kernel_rfl) (fun _ _ _ h => h) (Or.inl ⟨by rfl, ?_⟩) hHeld ?_
    rotate_left 1
    · (intro w' hSw; clear hSw; go_simp; (try with_reducible rfl))
    try simp only [Act.put, List.setIfInBounds_toArray, List.set_cons_zero, List.set_cons_succ]
    refine wpAnyH_take (i := 7) (oi := { dst := some 68, op := Op.move (Operand.tmp 10), type := 28, pos := "exact.go:78", after := #[{ on := 6, ground := Ground.guard }], guard := some (6, false) }) (v := ?_) rfl (by kernel_rfl) (by kernel_rfl) (by kernel_rfl) (fun _ _ _ h => h) (Or.inl ⟨by rfl, ?_⟩) hHeld ?_
    rotate_left 1
    · (intro w' hSw; clear hSw; go_simp; (try with_reducible rfl))
    try simp only [Act.put, List.setIfInBounds_toArray, List.set_cons_zero, List.set_cons_succ]
    refine wpAnyH_take (i := 8) (oi := { dst := some 69, op := Op.binOp BinOp.eql 28 (Operand.tmp 68) (Operand.const (Value.int IntKind.i64 0)) 28, type := 4, pos := "exact.go:78", after := #[{ on := 7, ground := Ground.data }, { on := 6, ground := Ground.guard }], guard := some (6, false) }) (v := ?_) rfl (by kernel_rfl) (by kernel_rfl) (by kernel_rfl) (fun _ _ _ h => h) (Or.inl ⟨by rfl, ?_⟩) hHeld ?_
    rotate_left 1
    · (intro w' hSw; clear hSw; go_simp; (try with_reducible rfl))
    try simp only [Act.put, List.setIfInBounds_toArray, List.set_cons_zero, List.set_cons_succ]
    refine wpAnyH_take (i := 9) (oi := { dst := some 70, op := Op.move (Operand.tmp 69), type := 4, pos := "exact.go:78", after := #[{ on := 8, ground := Ground.data }, { on := 6, ground := Ground.chain }, { on := 6, ground := Ground.guard }], guard := some (6, false) }) (v := ?_) rfl (by kernel_rfl) (by kernel_rfl) (by kernel_rfl) (fun _ _ _ h => h) (Or.inl ⟨by rfl, ?_⟩) hHeld ?_
    rotate_left 1
    · (intro w' hSw; clear hSw; go_simp; (try with_reducible rfl))
    try simp only [Act.put, List.setIfInBounds_toArray, List.set_cons_zero, List.set_cons_succ]
    refine wpAnyH_take (i := 10) (oi := { dst := some 71, op := Op.load 25 (Operand.tmp 9), type := 25, pos := "exact.go:78", after := #[{ on := 9, ground := Ground.guard }], guard := some (9, true) }) (v := ?_) rfl (by kernel_rfl) (by kernel_rfl) (by kernel_rfl) (fun _ _ _ h => h) (Or.inl ⟨by rfl, ?_⟩) hHeld ?_
    rotate_left 1
    · (intro w' hSw; obtain ⟨_, s0, s1, s2, s3⟩ := hSw; go_simp; (try with_reducible rfl))
    try simp only [Act.put, List.setIfInBounds_toArray, List.set_cons_zero, List.set_cons_succ]
    refine wpAnyH_ready (rs := [11]) (by kernel_rfl) (by simp) (AllReadyH.cons (o := { dst := some 72, op := Op.call { callee := Callee.value (Operand.func 14), args := #[Operand.tmp 71], argTypes := #[25] }, type := 4, pos := "exact.go:78", after := #[{ on := 10, ground := Ground.data }, { on := 9, ground := Ground.chain }, { on := 9, ground := Ground.guard }], guard := some (9, true) }) rfl (fun K hK => ?_) AllReadyH.nil)
    go_simp
    refine (dI.out _ hHeld).mono ?_
    rintro e w'' ⟨rfl, hb⟩
    have hH2 := MonoS.step hHeld hb
    clear hHeld hb
    go_wp2_with fail
    refine hK.out _ _ hH2 (fun hHeld => ?_)
    clear hK K
    try simp only [Act.put, List.setIfInBounds_toArray, List.set_cons_zero, List.set_cons_succ]
    clear hH2
    refine wpAnyH_take (i := 12) (oi := { dst := some 73, op := Op.pick (Operand.tmp 70) (Operand.tmp 72) (Operand.const (Value.bool false)), type := 4, pos := "exact.go:78", after := #[{ on := 9, ground := Ground.data }, { on := 11, ground := Ground.data }, { on := 6, ground := Ground.guard }], guard := some (6, false) }) (v := ?_) rfl (by kernel_rfl) (by kernel_rfl) (by kernel_rfl) (fun _ _ _ h => h) (Or.inl ⟨by rfl, ?_⟩) hHeld ?_
    rotate_left 1
    · (intro w' hSw; clear hSw; go_simp; (try with_reducible rfl))
    try simp only [Act.put, List.setIfInBounds_toArray, List.set_cons_zero, List.set_cons_succ]
    refine wpAnyH_take (i := 13) (oi := { dst := some 74, op := Op.move (Operand.tmp 73), type := 4, pos := "exact.go:78", after := #[{ on := 12, ground := Ground.data }, { on := 11, ground := Ground.chain }, { on := 6, ground := Ground.guard }], guard := some (6, false) }) (v := ?_) rfl (by kernel_rfl) (by kernel_rfl) (by kernel_rfl) (fun _ _ _ h => h) (Or.inl ⟨by rfl, ?_⟩) hHeld ?_
    rotate_left 1
    · (intro w' hSw; clear hSw; go_simp; (try with_reducible rfl))
    try simp only [Act.put, List.setIfInBounds_toArray, List.set_cons_zero, List.set_cons_succ]
    refine wpAnyH_take (i := 14) (oi := { dst := some 75, op := Op.load 25 (Operand.tmp 9), type := 25, pos := "exact.go:78", after := #[{ on := 13, ground := Ground.guard }], guard := some (13, true) }) (v := ?_) rfl (by kernel_rfl) (by kernel_rfl) (by kernel_rfl) (fun _ _ _ h => h) (Or.inl ⟨by rfl, ?_⟩) hHeld ?_
    rotate_left 1
    · (intro w' hSw; obtain ⟨_, s0, s1, s2, s3⟩ := hSw; go_simp; (try with_reducible rfl))
    try simp only [Act.put, List.setIfInBounds_toArray, List.set_cons_zero, List.set_cons_succ]
    refine wpAnyH_take (i := 16) (oi := { dst := some 77, op := Op.move (Operand.tmp 7), type := 41, pos := "exact.go:78", after := #[{ on := 13, ground := Ground.guard }], guard := some (13, true) }) (v := ?_) rfl (by kernel_rfl) (by kernel_rfl) (by kernel_rfl) (fun _ _ _ h => h) (Or.inl ⟨by rfl, ?_⟩) hHeld ?_
    rotate_left 1
    · (intro w' hSw; clear hSw; go_simp; (try with_reducible rfl))
    try simp only [Act.put, List.setIfInBounds_toArray, List.set_cons_zero, List.set_cons_succ]
    refine wpAnyH_take (i := 17) (oi := { dst := some 78, op := Op.convert 41 9 (Operand.tmp 77), type := 9, pos := "exact.go:78", after := #[{ on := 16, ground := Ground.data }, { on := 13, ground := Ground.guard }], guard := some (13, true) }) (v := ?_) rfl (by kernel_rfl) (by kernel_rfl) (by kernel_rfl) (fun _ _ _ h => h) (Or.inl ⟨by rfl, ?_⟩) hHeld ?_
    rotate_left 1
    · (intro w' hSw; have hcv := dcv.out _ hSw; clear hSw; go_simp; (try with_reducible rfl))
    try simp only [Act.put, List.setIfInBounds_toArray, List.set_cons_zero, List.set_cons_succ]
    refine wpAnyH_ready (rs := [15]) (by kernel_rfl) (by simp) (AllReadyH.cons (o := { dst := some 76, op := Op.call { callee := Callee.value (Operand.func 18), args := #[Operand.tmp 75], argTypes := #[25] }, type := 9, pos := "exact.go:78", after := #[{ on := 14, ground := Ground.data }, { on := 13, ground := Ground.chain }, { on := 13, ground := Ground.guard }], guard := some (13, true) }) rfl (fun K hK => ?_) AllReadyH.nil)
    go_simp
    refine (dB.out _ hHeld).mono ?_
    rintro e w'' ⟨rfl, hb⟩
    have hH2 := MonoS.step hHeld hb
    clear hHeld hb
    go_wp2_with fail
    refine hK.out _ _ hH2 (fun hHeld => ?_)
    clear hK K
    try simp only [Act.put, List.setIfInBounds_toArray, List.set_cons_zero, List.set_cons_succ]
    clear hH2
    refine wpAnyH_take (i := 18) (oi := { dst := some 79, op := Op.binOp BinOp.eql 9 (Operand.tmp 76) (Operand.tmp 78) 9, type := 4, pos := "exact.go:78", after := #[{ on := 15, ground := Ground.data }, { on := 17, ground := Ground.data }, { on := 13, ground := Ground.guard }], guard := some (13, true) }) (v := ?_) rfl (by kernel_rfl) (by kernel_rfl) (by kernel_rfl) (fun _ _ _ h => h) (Or.inl ⟨by rfl, ?_⟩) hHeld ?_
    rotate_left 1
    · (intro w' hSw; clear hSw; go_simp; (try with_reducible rfl))
    try simp only [Act.put, List.setIfInBounds_toArray, List.set_cons_zero, List.set_cons_succ]
    refine wpAnyH_take (i := 19) (oi := { dst := some 80, op := Op.pick (Operand.tmp 74) (Operand.tmp 79) (Operand.const (Value.bool false)), type := 4, pos := "exact.go:78", after := #[{ on := 13, ground := Ground.data }, { on := 18, ground := Ground.data }, { on := 6, ground := Ground.guard }], guard := some (6, false) }) (v := ?_) rfl (by kernel_rfl) (by kernel_rfl) (by kernel_rfl) (fun _ _ _ h => h) (Or.inl ⟨by rfl, ?_⟩) hHeld ?_
    rotate_left 1
    · (intro w' hSw; clear hSw; go_simp; (try with_reducible rfl))
    try simp only [Act.put, List.setIfInBounds_toArray, List.set_cons_zero, List.set_cons_succ]
    refine wpAnyH_take (i := 20) (oi := { dst := some 81, op := Op.pick (Operand.tmp 67) (Operand.const (Value.bool true)) (Operand.tmp 80), type := 4, pos := "exact.go:78", after := #[{ on := 6, ground := Ground.data }, { on := 19, ground := Ground.data }], guard := none }) (v := ?_) rfl (by kernel_rfl) (by kernel_rfl) (by kernel_rfl) (fun _ _ _ h => h) (Or.inl ⟨by rfl, ?_⟩) hHeld ?_
    rotate_left 1
    · (intro w' hSw; clear hSw; go_simp; (try with_reducible rfl))
    try simp only [Act.put, List.setIfInBounds_toArray, List.set_cons_zero, List.set_cons_succ]
    refine wpAnyH_take (i := 21) (oi := { dst := some 6, op := Op.assign (Operand.tmp 81), type := 4, pos := "exact.go:78", after := #[{ on := 20, ground := Ground.data }, { on := 15, ground := Ground.chain }, { on := 0, ground := Ground.phase }, { on := 1, ground := Ground.phase }, { on := 2, ground := Ground.phase }, { on := 3, ground := Ground.phase }, { on := 4, ground := Ground.phase }, { on := 5, ground := Ground.phase }, { on := 6, ground := Ground.phase }, { on := 7, ground := Ground.phase }, { on := 8, ground := Ground.phase }, { on := 9, ground := Ground.phase }, { on := 10, ground := Ground.phase }, { on := 11, ground := Ground.phase }, { on := 12, ground := Ground.phase }, { on := 13, ground := Ground.phase }, { on := 14, ground := Ground.phase }, { on := 15, ground := Ground.phase }, { on := 16, ground := Ground.phase }, { on := 17, ground := Ground.phase }, { on := 18, ground := Ground.phase }, { on := 19, ground := Ground.phase }, { on := 20, ground := Ground.phase }], guard := none }) (v := ?_) rfl (by kernel_rfl) (by kernel_rfl) (by kernel_rfl) (fun _ _ _ h => h) (Or.inl ⟨by rfl, ?_⟩) hHeld ?_
    rotate_left 1
    · (intro w' hSw; clear hSw; go_simp; (try with_reducible rfl))
    try simp only [Act.put, List.setIfInBounds_toArray, List.set_cons_zero, List.set_cons_succ]
    refine wpAnyH_done (by kernel_rfl) ?_ _
    have hH := Lib.hid hHeld.1.1
    clear hHeld
    go_wp2_with fail
    go_ret
    exact ⟨rfl, bel hw.out hH.out⟩
end Go.Proofs.YtipinglchpmgaaaDoor
