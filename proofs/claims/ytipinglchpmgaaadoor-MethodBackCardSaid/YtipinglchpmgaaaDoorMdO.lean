/- MethodBack. -/
import Derived.Test.YtipinglchpmgaaaDoorMdM
namespace Go.Proofs.YtipinglchpmgaaaDoor
open Go.RowKit
set_option linter.unusedVariables false

theorem take_tx {L : List UInt8} (k : Nat) : (⟨L.toArray⟩ : ByteArray).extract 0 k = ⟨(L.take k).toArray⟩ := by
  rw [ByteArray.extract_mk]
  simp

/-- Two methods in memory, beside whatever is new. -/
abbrev DuoS (wb : World) (p q : Nat) (v0 v1 v2 v3 u0 u1 u2 u3 : Value) (wr : World) : Prop :=
  (Below wb.heap.size wb wr ∧ p < wr.heap.size ∧ q < wr.heap.size) ∧ wr.cell? ⟨p, 0, none⟩ = some v0 ∧ wr.cell? ⟨p, 1, none⟩ = some v1 ∧ wr.cell? ⟨p, 2, none⟩ = some v2 ∧ wr.cell? ⟨p, 3, none⟩ = some v3 ∧ wr.cell? ⟨q, 0, none⟩ = some u0 ∧ wr.cell? ⟨q, 1, none⟩ = some u1 ∧ wr.cell? ⟨q, 2, none⟩ = some u2 ∧ wr.cell? ⟨q, 3, none⟩ = some u3
theorem DuoS.step {wb : World} {p q : Nat} {v0 v1 v2 v3 u0 u1 u2 u3 : Value} {wa wc : World} (h : DuoS wb p q v0 v1 v2 v3 u0 u1 u2 u3 wa) (hk : Below wa.heap.size wa wc) : DuoS wb p q v0 v1 v2 v3 u0 u1 u2 u3 wc := by
  obtain ⟨⟨hb, l1, l2⟩, h0, h1, h2, h3, h4, h5, h6, h7⟩ := h
  exact ⟨⟨bel hb hk, Nat.lt_of_lt_of_le l1 hk.size, Nat.lt_of_lt_of_le l2 hk.size⟩, (hk.cell l1).trans h0, (hk.cell l1).trans h1, (hk.cell l1).trans h2, (hk.cell l1).trans h3, (hk.cell l2).trans h4, (hk.cell l2).trans h5, (hk.cell l2).trans h6, (hk.cell l2).trans h7⟩

set_option maxHeartbeats 8000000 in
theorem back8_walk {a b : Meth} {sa ca na da sb cb nb db : _} {more : List UInt8} {c : Nat} (hc16 : c ≤ 65535) {w : World} (hT : Kinds w.heap.size w) (ha : RdM w (aV a sa ca na da) a) (hb : RdM w (aV b sb cb nb db) b) :
    Calls Tryd.prog 4 #[aV a sa ca na da, aV b sb cb nb db, .int .u16 c, tx more] w fun e w' => e = .returned (.bool true) ∧ Below w.heap.size w w' := by
  have hK : Hid (∀ w', Below w.heap.size w w' → Kinds w'.heap.size w') := Lib.hid fun w' hb => (hT.below hb).mono hb.size
  have c1 := Lib.hid (fun (w' : World) (h : Below w.heap.size w w') => known8_true w' (hK.out w' h))
  have cfa := Lib.hid (fun (w' : World) (h : Below w.heap.size w w') => few_any (ha.below h))
  have cfb := Lib.hid (fun (w' : World) (h : Below w.heap.size w w') => few_any (hb.below h))
  have cia := Lib.hid (fun (w' : World) (h : Below w.heap.size w w') => is_any (hK.out w' h) (ha.below h))
  have hW := Lib.hid (box_below w (mO a.kind (.slice sa a.S.length ca) (.slice na a.N.length da) a.bits) (mO b.kind (.slice sb b.S.length cb) (.slice nb b.N.length db) b.bits))
  have hA : Hid (∀ w', Below ((w.alloc (mO a.kind (.slice sa a.S.length ca) (.slice na a.N.length da) a.bits)).alloc (mO b.kind (.slice sb b.S.length cb) (.slice nb b.N.length db) b.bits)).heap.size ((w.alloc (mO a.kind (.slice sa a.S.length ca) (.slice na a.N.length da) a.bits)).alloc (mO b.kind (.slice sb b.S.length cb) (.slice nb b.N.length db) b.bits)) w' →
      Box2 w (.int .i64 a.kind) (.slice sa a.S.length ca) (.slice na a.N.length da) (.int .i64 a.bits) (.int .i64 b.kind) (.slice sb b.S.length cb) (.slice nb b.N.length db) (.int .i64 b.bits) w') := Lib.hid fun w' hb => box2_of hb
  clear hT
  cases h1 : fewM a with
  | false =>
    rw [h1] at cfa
    go_enter Tryd.func4, Tryd.ntmps4
    go_wp2_with fail
    refine (c1.out _ hW.out).mono ?_
    rintro e w1 ⟨rfl, hk⟩
    obtain ⟨⟨l1, q10, q11, q12, q13⟩, l2, q20, q21, q22, q23⟩ := hA.out _ hk
    replace hk := Lib.hid (bel hW.out hk)
    go_wp2_with fail
    refine (cfa.out _ hk.out).mono ?_
    rintro e w2 ⟨rfl, hk2⟩
    replace hk := Lib.hid (bel hk.out hk2)
    clear hk2
    go_wp2_with fail
    go_ret
    exact ⟨rfl, hk.out⟩
  | true =>
  rw [h1] at cfa
  cases h2 : fewM b with
  | false =>
    rw [h2] at cfb
    go_enter Tryd.func4, Tryd.ntmps4
    go_wp2_with fail
    refine (c1.out _ hW.out).mono ?_
    rintro e w1 ⟨rfl, hk⟩
    obtain ⟨⟨l1, q10, q11, q12, q13⟩, l2, q20, q21, q22, q23⟩ := hA.out _ hk
    replace hk := Lib.hid hk
    go_wp2_with fail
    refine (cfa.out _ (bel hW.out hk.out)).mono ?_
    rintro e w2 ⟨rfl, hk2⟩
    clear l1 q10 q11 q12 q13 l2 q20 q21 q22 q23
    replace hk := Lib.hid (bel hk.out hk2)
    clear hk2
    obtain ⟨⟨l1, q10, q11, q12, q13⟩, l2, q20, q21, q22, q23⟩ := hA.out _ hk.out
    go_wp2_with fail
    refine (cfb.out _ (bel hW.out hk.out)).mono ?_
    rintro e w3 ⟨rfl, hk2⟩
    replace hk := Lib.hid (bel hk.out hk2)
    clear hk2
    go_wp2_with fail
    go_ret
    exact ⟨rfl, bel hW.out hk.out⟩
  | true =>
  rw [h2] at cfb
  clear h1 h2
  cases hI : isM a with
  | false =>
    rw [hI] at cia
    go_enter Tryd.func4, Tryd.ntmps4
    go_wp2_with fail
    refine (c1.out _ hW.out).mono ?_
    rintro e w1 ⟨rfl, hk⟩
    obtain ⟨⟨l1, q10, q11, q12, q13⟩, l2, q20, q21, q22, q23⟩ := hA.out _ hk
    replace hk := Lib.hid hk
    go_wp2_with fail
    refine (cfa.out _ (bel hW.out hk.out)).mono ?_
    rintro e w2 ⟨rfl, hk2⟩
    clear l1 q10 q11 q12 q13 l2 q20 q21 q22 q23
    replace hk := Lib.hid (bel hk.out hk2)
    clear hk2
    obtain ⟨⟨l1, q10, q11, q12, q13⟩, l2, q20, q21, q22, q23⟩ := hA.out _ hk.out
    go_wp2_with fail
    refine (cfb.out _ (bel hW.out hk.out)).mono ?_
    rintro e w3 ⟨rfl, hk2⟩
    clear l1 q10 q11 q12 q13 l2 q20 q21 q22 q23
    replace hk := Lib.hid (bel hk.out hk2)
    clear hk2
    obtain ⟨⟨l1, q10, q11, q12, q13⟩, l2, q20, q21, q22, q23⟩ := hA.out _ hk.out
    go_wp2_with fail
    refine (cia.out _ (bel hW.out hk.out)).mono ?_
    rintro e w4 ⟨rfl, hk2⟩
    replace hk := Lib.hid (bel hk.out hk2)
    clear hk2
    go_wp2_with fail
    go_ret
    exact ⟨rfl, bel hW.out hk.out⟩
  | true =>
  rw [hI] at cia
  by_cases hs : 50 < more.length
  · have hs' : (50 : Int) < more.length := by omega
    clear hI
    go_enter Tryd.func4, Tryd.ntmps4
    go_wp2_with fail
    refine (c1.out _ hW.out).mono ?_
    rintro e w1 ⟨rfl, hk⟩
    obtain ⟨⟨l1, q10, q11, q12, q13⟩, l2, q20, q21, q22, q23⟩ := hA.out _ hk
    replace hk := Lib.hid hk
    go_wp2_with fail
    refine (cfa.out _ (bel hW.out hk.out)).mono ?_
    rintro e w2 ⟨rfl, hk2⟩
    clear l1 q10 q11 q12 q13 l2 q20 q21 q22 q23
    replace hk := Lib.hid (bel hk.out hk2)
    clear hk2
    obtain ⟨⟨l1, q10, q11, q12, q13⟩, l2, q20, q21, q22, q23⟩ := hA.out _ hk.out
    go_wp2_with fail
    refine (cfb.out _ (bel hW.out hk.out)).mono ?_
    rintro e w3 ⟨rfl, hk2⟩
    clear l1 q10 q11 q12 q13 l2 q20 q21 q22 q23
    replace hk := Lib.hid (bel hk.out hk2)
    clear hk2
    obtain ⟨⟨l1, q10, q11, q12, q13⟩, l2, q20, q21, q22, q23⟩ := hA.out _ hk.out
    go_wp2_with fail
    refine (cia.out _ (bel hW.out hk.out)).mono ?_
    rintro e w4 ⟨rfl, hk2⟩
    replace hk := Lib.hid (bel hk.out hk2)
    clear hk2
    go_wp2_with fail
    go_ret
    exact ⟨rfl, bel hW.out hk.out⟩
  have hs' : ¬ (50 : Int) < more.length := by omega
  have hM := isM_iff.1 hI
  have hlen := rawM_len hM
  have cBa := Lib.hid (fun (w' : World) (h : Below w.heap.size w w') => bytesM_any (hK.out w' h) (ha.below h))
  rw [bytesM_of hM] at cBa
  have cRa := Lib.hid (fun (w' : World) (h : Below w.heap.size w w') => read_b (readM_raw hM) (by omega) w' (hK.out w' h))
  obtain ⟨k, hk⟩ : ∃ k, k = c % (rawM a).length := ⟨_, rfl⟩
  have hkl : k < (rawM a).length := by rw [hk]; exact Nat.mod_lt _ (by omega)
  have hrem : (c : Int) % ((rawM a).length : Int) = k := by rw [hk]; simp
  have ex := take_tx (L := rawM a) k
  have cRc := Lib.hid (fun (w' : World) (h : Below w.heap.size w w') => read_b (l := (rawM a).take k) (m := zeroM) (en := 502) (readM_cut hM hkl) (by rw [List.length_take]; omega) w' (hK.out w' h))
  have hadd := fun W => run_string_add_lists (P := Tryd.prog) W (rawM a) more (by omega) (by omega)
  obtain ⟨x2, g, z, hg, hgz, hmz⟩ : ∃ x2 g z, readM (rawM a ++ more) = (x2, g) ∧ (g == 0) = z ∧ more.isEmpty = z := by
    by_cases h : more = []
    · subst h
      exact ⟨a, 0, true, by rw [List.append_nil]; exact readM_raw hM, rfl, rfl⟩
    · exact ⟨zeroM, 502, false, readM_more hM h, rfl, by simpa using h⟩
  have cRm := Lib.hid (fun (w' : World) (h : Below w.heap.size w w') => read_b hg (by rw [List.length_append]; omega) w' (hK.out w' h))
  have hL2 : (2 : Int) ≤ (rawM a).length := by omega
  have hk0 : (0 : Int) ≤ k := by omega
  have hk1 : (k : Int) < (rawM a).length := by omega
  have hk2 : (k : Int) ≤ (rawM a).length := by omega
  have cib := Lib.hid (fun (w' : World) (h : Below w.heap.size w w') => is_any (hK.out w' h) (hb.below h))
  have cBb := Lib.hid (fun (w' : World) (h : Below w.heap.size w w') => bytesM_any (hK.out w' h) (hb.below h))
  have cSab := Lib.hid (fun (w' : World) (h : Below w.heap.size w w') => rsame_any (ha.below h) (hb.below h))
  have cSax := Lib.hid (fun (w' : World) v (h : Below w.heap.size w w') (hx : RdM w' v a) => rsame_any (ha.below h) hx)
  rw [sameM_self] at cSax
  have hfin : isM b = true → (bytesM b == rawM a) = sameM a b := by
    intro h
    have hB := isM_iff.1 h
    rw [bytesM_of hB]
    by_cases e : a = b
    · subst e
      rw [sameM_self, beq_self_eq_true]
    · have e1 : sameM a b = false := by
        cases h : sameM a b with
        | false => rfl
        | true => exact (e (sameM_iff.1 h)).elim
      rw [e1, beq_eq_false_iff_ne]
      exact fun h => e (rawM_inj hM hB h.symm)
  generalize isM b = IB at *
  generalize bytesM b = Lb at *
  generalize sameM a b = E at *
  generalize rawM a ++ more = LM at *
  generalize (rawM a).take k = LK at *
  generalize rawM a = L at *
  clear hg hI hM hlen hkl hk hs
  go_enter Tryd.func4, Tryd.ntmps4
  go_wp2_with fail
  refine (c1.out _ hW.out).mono ?_
  rintro e w1 ⟨rfl, hk⟩
  obtain ⟨⟨l1, q10, q11, q12, q13⟩, l2, q20, q21, q22, q23⟩ := hA.out _ hk
  replace hk := Lib.hid hk
  go_wp2_with fail
  refine (cfa.out _ (bel hW.out hk.out)).mono ?_
  rintro e w2 ⟨rfl, hk2⟩
  clear l1 q10 q11 q12 q13 l2 q20 q21 q22 q23
  replace hk := Lib.hid (bel hk.out hk2)
  clear hk2
  obtain ⟨⟨l1, q10, q11, q12, q13⟩, l2, q20, q21, q22, q23⟩ := hA.out _ hk.out
  go_wp2_with fail
  refine (cfb.out _ (bel hW.out hk.out)).mono ?_
  rintro e w3 ⟨rfl, hk2⟩
  clear l1 q10 q11 q12 q13 l2 q20 q21 q22 q23
  replace hk := Lib.hid (bel hk.out hk2)
  clear hk2
  obtain ⟨⟨l1, q10, q11, q12, q13⟩, l2, q20, q21, q22, q23⟩ := hA.out _ hk.out
  go_wp2_with fail
  refine (cia.out _ (bel hW.out hk.out)).mono ?_
  rintro e w4 ⟨rfl, hk2⟩
  clear l1 q10 q11 q12 q13 l2 q20 q21 q22 q23
  replace hk := Lib.hid (bel hk.out hk2)
  clear hk2 c1 cfa cfb cia
  obtain ⟨⟨l1, q10, q11, q12, q13⟩, l2, q20, q21, q22, q23⟩ := hA.out _ hk.out
  go_wp2_with fail
  refine (cBa.out _ (bel hW.out hk.out)).mono ?_
  rintro e w5 ⟨rfl, hk2⟩
  clear l1 q10 q11 q12 q13 l2 q20 q21 q22 q23
  replace hk := Lib.hid (bel hk.out hk2)
  clear hk2 cBa
  go_wp2_with fail
  refine (cRa.out _ (bel hW.out hk.out)).mono ?_
  rintro e w6 ⟨sx, cx, nx, dx, rfl, hx, hk2⟩
  have hX := Lib.hid (MdHeld.start w6 a.kind (.slice sx a.S.length cx) (.slice nx a.N.length dx) a.bits)
  have hnew := new_below w6 (mO a.kind (.slice sx a.S.length cx) (.slice nx a.N.length dx) a.bits)
  replace hx := Lib.hid (hx.below hnew)
  replace hk := Lib.hid (bel (bel hk.out hk2) hnew)
  clear hk2 hnew cRa
  obtain ⟨⟨l1, q10, q11, q12, q13⟩, l2, q20, q21, q22, q23⟩ := hA.out _ hk.out
  go_wp2_with fail
  refine (cSax.out _ _ (bel hW.out hk.out) hx.out).mono ?_
  rintro e w7 ⟨rfl, hk2⟩
  clear l1 q10 q11 q12 q13 l2 q20 q21 q22 q23 hx hX
  replace hk := Lib.hid (bel hk.out hk2)
  clear hk2 cSax
  go_wp2_with fail
  refine (cRc.out _ (bel hW.out hk.out)).mono ?_
  rintro e w8 ⟨s8, c8, n8, d8, rfl, -, hk2⟩
  replace hk := Lib.hid (bel (bel hk.out hk2) (new_below w8 (mO zeroM.kind (.slice s8 zeroM.S.length c8) (.slice n8 zeroM.N.length d8) zeroM.bits)))
  clear hk2 cRc
  go_wp2_with fail
  refine (cRm.out _ (bel hW.out hk.out)).mono ?_
  rintro e w9' ⟨s9, c9, n9, d9, rfl, -, hk2⟩
  replace hk := bel (bel hk.out hk2) (new_below w9' (mO x2.kind (.slice s9 x2.S.length c9) (.slice n9 x2.N.length d9) x2.bits))
  generalize hw9 : w9'.alloc (mO x2.kind (.slice s9 x2.S.length c9) (.slice n9 x2.N.length d9) x2.bits) = w9 at hk
  replace hk := Lib.hid hk
  replace hw9 := Lib.hid hw9
  clear hk2 cRm
  obtain ⟨⟨l1, q10, q11, q12, q13⟩, l2, q20, q21, q22, q23⟩ := hA.out _ hk.out
  go_wp2_with fail
  rw [hw9.out]
  have Q0 : Hid (DuoS w9 w.heap.size (w.heap.size + 1) (.int .i64 a.kind) (.slice sa a.S.length ca) (.slice na a.N.length da) (.int .i64 a.bits) (.int .i64 b.kind) (.slice sb b.S.length cb) (.slice nb b.N.length db) (.int .i64 b.bits) w9.drew) :=
    Lib.hid ⟨⟨drewN_below w9 1, l1, l2⟩, q10, q11, q12, q13, q20, q21, q22, q23⟩
  have hw := Lib.hid (bel hW.out hk.out)
  have dIb : Hid (∀ wr, DuoS w9 w.heap.size (w.heap.size + 1) (.int .i64 a.kind) (.slice sa a.S.length ca) (.slice na a.N.length da) (.int .i64 a.bits) (.int .i64 b.kind) (.slice sb b.S.length cb) (.slice nb b.N.length db) (.int .i64 b.bits) wr → _) := Lib.hid fun wr q => cib.out _ (bel hw.out q.1.1)
  have dBb : Hid (∀ wr, DuoS w9 w.heap.size (w.heap.size + 1) (.int .i64 a.kind) (.slice sa a.S.length ca) (.slice na a.N.length da) (.int .i64 a.bits) (.int .i64 b.kind) (.slice sb b.S.length cb) (.slice nb b.N.length db) (.int .i64 b.bits) wr → _) := Lib.hid fun wr q => cBb.out _ (bel hw.out q.1.1)
  have dS : Hid (∀ wr, DuoS w9 w.heap.size (w.heap.size + 1) (.int .i64 a.kind) (.slice sa a.S.length ca) (.slice na a.N.length da) (.int .i64 a.bits) (.int .i64 b.kind) (.slice sb b.S.length cb) (.slice nb b.N.length db) (.int .i64 b.bits) wr → _) := Lib.hid fun wr q => cSab.out _ (bel hw.out q.1.1)
  clear cib cBb cSab hA hk hW hK hw9 ha hb
  cases IB with
  | false =>
    refine wp_region_held_drew (S := fun wr => DuoS w9 w.heap.size (w.heap.size + 1) (.int .i64 a.kind) (.slice sa a.S.length ca) (.slice na a.N.length da) (.int .i64 a.bits) (.int .i64 b.kind) (.slice sb b.S.length cb) (.slice nb b.N.length db) (.int .i64 b.bits) wr) (by kernel_rfl) Q0.out (fun hHeld => ?_)
    refine wpAnyH_take (i := 0) (oi := { dst := some 74, op := Op.move (Operand.tmp 13), type := 28, pos := "exact.go:59", after := #[], guard := none }) (v := ?_) rfl (by kernel_rfl) (by kernel_rfl) (by kernel_rfl) (fun _ _ _ h => h) (Or.inl ⟨by rfl, ?_⟩) hHeld ?_
    rotate_left 1
    · (intro w' hSw; clear hSw; go_simp; (try with_reducible rfl))
    try simp only [Act.put, List.setIfInBounds_toArray, List.set_cons_zero, List.set_cons_succ]
    refine wpAnyH_take (i := 1) (oi := { dst := some 75, op := Op.binOp BinOp.eql 28 (Operand.tmp 74) (Operand.const (Value.int IntKind.i64 502)) 28, type := 4, pos := "exact.go:59", after := #[{ on := 0, ground := Ground.data }], guard := none }) (v := ?_) rfl (by kernel_rfl) (by kernel_rfl) (by kernel_rfl) (fun _ _ _ h => h) (Or.inl ⟨by rfl, ?_⟩) hHeld ?_
    rotate_left 1
    · (intro w' hSw; clear hSw; go_simp; (try with_reducible rfl))
    try simp only [Act.put, List.setIfInBounds_toArray, List.set_cons_zero, List.set_cons_succ]
    refine wpAnyH_take (i := 2) (oi := { dst := some 76, op := Op.move (Operand.tmp 75), type := 4, pos := "exact.go:59", after := #[{ on := 1, ground := Ground.data }], guard := none }) (v := ?_) rfl (by kernel_rfl) (by kernel_rfl) (by kernel_rfl) (fun _ _ _ h => h) (Or.inl ⟨by rfl, ?_⟩) hHeld ?_
    rotate_left 1
    · (intro w' hSw; clear hSw; go_simp; (try with_reducible rfl))
    try simp only [Act.put, List.setIfInBounds_toArray, List.set_cons_zero, List.set_cons_succ]
    refine wpAnyH_take (i := 3) (oi := { dst := some 77, op := Op.move (Operand.tmp 15), type := 28, pos := "exact.go:59", after := #[{ on := 2, ground := Ground.guard }], guard := some (2, true) }) (v := ?_) rfl (by kernel_rfl) (by kernel_rfl) (by kernel_rfl) (fun _ _ _ h => h) (Or.inl ⟨by rfl, ?_⟩) hHeld ?_
    rotate_left 1
    · (intro w' hSw; clear hSw; go_simp; (try with_reducible rfl))
    try simp only [Act.put, List.setIfInBounds_toArray, List.set_cons_zero, List.set_cons_succ]
    refine wpAnyH_take (i := 4) (oi := { dst := some 78, op := Op.binOp BinOp.eql 28 (Operand.tmp 77) (Operand.const (Value.int IntKind.i64 0)) 28, type := 4, pos := "exact.go:59", after := #[{ on := 3, ground := Ground.data }, { on := 2, ground := Ground.guard }], guard := some (2, true) }) (v := ?_) rfl (by kernel_rfl) (by kernel_rfl) (by kernel_rfl) (fun _ _ _ h => h) (Or.inl ⟨by rfl, ?_⟩) hHeld ?_
    rotate_left 1
    · (intro w' hSw; clear hSw; go_simp; (try with_reducible rfl))
    try simp only [Act.put, List.setIfInBounds_toArray, List.set_cons_zero, List.set_cons_succ]
    refine wpAnyH_take (i := 5) (oi := { dst := some 79, op := Op.move (Operand.tmp 3), type := 9, pos := "exact.go:59", after := #[{ on := 2, ground := Ground.guard }], guard := some (2, true) }) (v := ?_) rfl (by kernel_rfl) (by kernel_rfl) (by kernel_rfl) (fun _ _ _ h => h) (Or.inl ⟨by rfl, ?_⟩) hHeld ?_
    rotate_left 1
    · (intro w' hSw; clear hSw; go_simp; (try with_reducible rfl))
    try simp only [Act.put, List.setIfInBounds_toArray, List.set_cons_zero, List.set_cons_succ]
    refine wpAnyH_take (i := 6) (oi := { dst := some 80, op := Op.binOp BinOp.eql 9 (Operand.tmp 79) (Operand.const (Value.string { data := #[] })) 9, type := 4, pos := "exact.go:59", after := #[{ on := 5, ground := Ground.data }, { on := 2, ground := Ground.guard }], guard := some (2, true) }) (v := ?_) rfl (by kernel_rfl) (by kernel_rfl) (by kernel_rfl) (fun _ _ _ h => h) (Or.inl ⟨by rfl, ?_⟩) hHeld ?_
    rotate_left 1
    · (intro w' hSw; clear hSw; go_simp; (try with_reducible rfl))
    try simp only [Act.put, List.setIfInBounds_toArray, List.set_cons_zero, List.set_cons_succ]
    refine wpAnyH_take (i := 7) (oi := { dst := some 81, op := Op.binOp BinOp.eql 4 (Operand.tmp 78) (Operand.tmp 80) 4, type := 4, pos := "exact.go:59", after := #[{ on := 4, ground := Ground.data }, { on := 6, ground := Ground.data }, { on := 2, ground := Ground.guard }], guard := some (2, true) }) (v := ?_) rfl (by kernel_rfl) (by kernel_rfl) (by kernel_rfl) (fun _ _ _ h => h) (Or.inl ⟨by rfl, ?_⟩) hHeld ?_
    rotate_left 1
    · (intro w' hSw; clear hSw; go_simp; (try with_reducible rfl))
    try simp only [Act.put, List.setIfInBounds_toArray, List.set_cons_zero, List.set_cons_succ]
    refine wpAnyH_take (i := 8) (oi := { dst := some 82, op := Op.pick (Operand.tmp 76) (Operand.tmp 81) (Operand.const (Value.bool false)), type := 4, pos := "exact.go:59", after := #[{ on := 2, ground := Ground.data }, { on := 7, ground := Ground.data }], guard := none }) (v := ?_) rfl (by kernel_rfl) (by kernel_rfl) (by kernel_rfl) (fun _ _ _ h => h) (Or.inl ⟨by rfl, ?_⟩) hHeld ?_
    rotate_left 1
    · (intro w' hSw; clear hSw; go_simp; (try with_reducible rfl))
    try simp only [Act.put, List.setIfInBounds_toArray, List.set_cons_zero, List.set_cons_succ]
    refine wpAnyH_take (i := 9) (oi := { dst := some 83, op := Op.move (Operand.tmp 82), type := 4, pos := "exact.go:59", after := #[{ on := 8, ground := Ground.data }, { on := 2, ground := Ground.chain }], guard := none }) (v := ?_) rfl (by kernel_rfl) (by kernel_rfl) (by kernel_rfl) (fun _ _ _ h => h) (Or.inl ⟨by rfl, ?_⟩) hHeld ?_
    rotate_left 1
    · (intro w' hSw; clear hSw; go_simp; (try with_reducible rfl))
    try simp only [Act.put, List.setIfInBounds_toArray, List.set_cons_zero, List.set_cons_succ]
    refine wpAnyH_take (i := 10) (oi := { dst := some 84, op := Op.load 25 (Operand.tmp 5), type := 25, pos := "exact.go:59", after := #[{ on := 9, ground := Ground.guard }], guard := some (9, true) }) (v := ?_) rfl (by kernel_rfl) (by kernel_rfl) (by kernel_rfl) (fun _ _ _ h => h) (Or.inl ⟨by rfl, ?_⟩) hHeld ?_
    rotate_left 1
    · (intro w' hSw; obtain ⟨_, s0, s1, s2, s3, s4, s5, s6, s7⟩ := hSw; go_simp; (try with_reducible rfl))
    try simp only [Act.put, List.setIfInBounds_toArray, List.set_cons_zero, List.set_cons_succ]
    refine wpAnyH_ready (rs := [11]) (by kernel_rfl) (by simp) (AllReadyH.cons (o := { dst := some 85, op := Op.call { callee := Callee.value (Operand.func 14), args := #[Operand.tmp 84], argTypes := #[25] }, type := 4, pos := "exact.go:59", after := #[{ on := 10, ground := Ground.data }, { on := 9, ground := Ground.chain }, { on := 9, ground := Ground.guard }], guard := some (9, true) }) rfl (fun K hK => ?_) AllReadyH.nil)
    go_simp
    refine (dIb.out _ hHeld).mono ?_
    rintro e w'' ⟨rfl, hb⟩
    have hH2 := DuoS.step hHeld hb
    clear hHeld hb
    go_wp2_with fail
    refine hK.out _ _ hH2 (fun hHeld => ?_)
    clear hK K
    try simp only [Act.put, List.setIfInBounds_toArray, List.set_cons_zero, List.set_cons_succ]
    clear hH2
    refine wpAnyH_take (i := 12) (oi := { dst := some 86, op := Op.unOp UnOp.not 4 (Operand.tmp 85), type := 4, pos := "exact.go:59", after := #[{ on := 11, ground := Ground.data }, { on := 9, ground := Ground.guard }], guard := some (9, true) }) (v := ?_) rfl (by kernel_rfl) (by kernel_rfl) (by kernel_rfl) (fun _ _ _ h => h) (Or.inl ⟨by rfl, ?_⟩) hHeld ?_
    rotate_left 1
    · (intro w' hSw; clear hSw; go_simp; (try with_reducible rfl))
    try simp only [Act.put, List.setIfInBounds_toArray, List.set_cons_zero, List.set_cons_succ]
    refine wpAnyH_take (i := 13) (oi := { dst := some 87, op := Op.move (Operand.tmp 86), type := 4, pos := "exact.go:59", after := #[{ on := 12, ground := Ground.data }, { on := 11, ground := Ground.chain }, { on := 9, ground := Ground.guard }], guard := some (9, true) }) (v := ?_) rfl (by kernel_rfl) (by kernel_rfl) (by kernel_rfl) (fun _ _ _ h => h) (Or.inl ⟨by rfl, ?_⟩) hHeld ?_
    rotate_left 1
    · (intro w' hSw; clear hSw; go_simp; (try with_reducible rfl))
    try simp only [Act.put, List.setIfInBounds_toArray, List.set_cons_zero, List.set_cons_succ]
    refine wpAnyH_take (i := 14) (oi := { dst := some 88, op := Op.load 25 (Operand.tmp 5), type := 25, pos := "exact.go:59", after := #[{ on := 13, ground := Ground.guard }], guard := some (13, false) }) (v := undef) rfl (by kernel_rfl) (by kernel_rfl) (by kernel_rfl) (fun _ _ _ h => h) (Or.inr ⟨by rfl, rfl⟩) hHeld ?_
    try simp only [Act.put, List.setIfInBounds_toArray, List.set_cons_zero, List.set_cons_succ]
    refine wpAnyH_take (i := 15) (oi := { dst := some 89, op := Op.call { callee := Callee.value (Operand.func 18), args := #[Operand.tmp 88], argTypes := #[25] }, type := 9, pos := "exact.go:59", after := #[{ on := 14, ground := Ground.data }, { on := 13, ground := Ground.chain }, { on := 13, ground := Ground.guard }], guard := some (13, false) }) (v := undef) rfl (by kernel_rfl) (by kernel_rfl) (by kernel_rfl) (fun _ _ _ h => h) (Or.inr ⟨by rfl, rfl⟩) hHeld ?_
    try simp only [Act.put, List.setIfInBounds_toArray, List.set_cons_zero, List.set_cons_succ]
    refine wpAnyH_take (i := 16) (oi := { dst := some 90, op := Op.move (Operand.tmp 9), type := 9, pos := "exact.go:59", after := #[{ on := 13, ground := Ground.guard }], guard := some (13, false) }) (v := undef) rfl (by kernel_rfl) (by kernel_rfl) (by kernel_rfl) (fun _ _ _ h => h) (Or.inr ⟨by rfl, rfl⟩) hHeld ?_
    try simp only [Act.put, List.setIfInBounds_toArray, List.set_cons_zero, List.set_cons_succ]
    refine wpAnyH_take (i := 17) (oi := { dst := some 91, op := Op.binOp BinOp.eql 9 (Operand.tmp 89) (Operand.tmp 90) 9, type := 4, pos := "exact.go:59", after := #[{ on := 15, ground := Ground.data }, { on := 16, ground := Ground.data }, { on := 13, ground := Ground.guard }], guard := some (13, false) }) (v := undef) rfl (by kernel_rfl) (by kernel_rfl) (by kernel_rfl) (fun _ _ _ h => h) (Or.inr ⟨by rfl, rfl⟩) hHeld ?_
    try simp only [Act.put, List.setIfInBounds_toArray, List.set_cons_zero, List.set_cons_succ]
    refine wpAnyH_take (i := 18) (oi := { dst := some 92, op := Op.load 25 (Operand.tmp 4), type := 25, pos := "exact.go:59", after := #[{ on := 13, ground := Ground.guard }], guard := some (13, false) }) (v := undef) rfl (by kernel_rfl) (by kernel_rfl) (by kernel_rfl) (fun _ _ _ h => h) (Or.inr ⟨by rfl, rfl⟩) hHeld ?_
    try simp only [Act.put, List.setIfInBounds_toArray, List.set_cons_zero, List.set_cons_succ]
    refine wpAnyH_take (i := 19) (oi := { dst := some 93, op := Op.load 25 (Operand.tmp 5), type := 25, pos := "exact.go:59", after := #[{ on := 13, ground := Ground.guard }], guard := some (13, false) }) (v := undef) rfl (by kernel_rfl) (by kernel_rfl) (by kernel_rfl) (fun _ _ _ h => h) (Or.inr ⟨by rfl, rfl⟩) hHeld ?_
    try simp only [Act.put, List.setIfInBounds_toArray, List.set_cons_zero, List.set_cons_succ]
    refine wpAnyH_take (i := 20) (oi := { dst := some 94, op := Op.call { callee := Callee.value (Operand.func 17), args := #[Operand.tmp 92, Operand.tmp 93], argTypes := #[25, 25] }, type := 4, pos := "exact.go:59", after := #[{ on := 18, ground := Ground.data }, { on := 19, ground := Ground.data }, { on := 15, ground := Ground.chain }, { on := 13, ground := Ground.guard }], guard := some (13, false) }) (v := undef) rfl (by kernel_rfl) (by kernel_rfl) (by kernel_rfl) (fun _ _ _ h => h) (Or.inr ⟨by rfl, rfl⟩) hHeld ?_
    try simp only [Act.put, List.setIfInBounds_toArray, List.set_cons_zero, List.set_cons_succ]
    refine wpAnyH_take (i := 21) (oi := { dst := some 95, op := Op.binOp BinOp.eql 4 (Operand.tmp 91) (Operand.tmp 94) 4, type := 4, pos := "exact.go:59", after := #[{ on := 17, ground := Ground.data }, { on := 20, ground := Ground.data }, { on := 13, ground := Ground.guard }], guard := some (13, false) }) (v := undef) rfl (by kernel_rfl) (by kernel_rfl) (by kernel_rfl) (fun _ _ _ h => h) (Or.inr ⟨by rfl, rfl⟩) hHeld ?_
    try simp only [Act.put, List.setIfInBounds_toArray, List.set_cons_zero, List.set_cons_succ]
    refine wpAnyH_take (i := 22) (oi := { dst := some 96, op := Op.pick (Operand.tmp 87) (Operand.const (Value.bool true)) (Operand.tmp 95), type := 4, pos := "exact.go:59", after := #[{ on := 13, ground := Ground.data }, { on := 21, ground := Ground.data }, { on := 9, ground := Ground.guard }], guard := some (9, true) }) (v := ?_) rfl (by kernel_rfl) (by kernel_rfl) (by kernel_rfl) (fun _ _ _ h => h) (Or.inl ⟨by rfl, ?_⟩) hHeld ?_
    rotate_left 1
    · (intro w' hSw; clear hSw; go_simp; (try with_reducible rfl))
    try simp only [Act.put, List.setIfInBounds_toArray, List.set_cons_zero, List.set_cons_succ]
    refine wpAnyH_take (i := 23) (oi := { dst := some 97, op := Op.pick (Operand.tmp 83) (Operand.tmp 96) (Operand.const (Value.bool false)), type := 4, pos := "exact.go:59", after := #[{ on := 9, ground := Ground.data }, { on := 22, ground := Ground.data }], guard := none }) (v := ?_) rfl (by kernel_rfl) (by kernel_rfl) (by kernel_rfl) (fun _ _ _ h => h) (Or.inl ⟨by rfl, ?_⟩) hHeld ?_
    rotate_left 1
    · (intro w' hSw; clear hSw; go_simp; (try with_reducible rfl))
    try simp only [Act.put, List.setIfInBounds_toArray, List.set_cons_zero, List.set_cons_succ]
    refine wpAnyH_take (i := 24) (oi := { dst := some 8, op := Op.assign (Operand.tmp 97), type := 4, pos := "exact.go:59", after := #[{ on := 23, ground := Ground.data }, { on := 20, ground := Ground.chain }, { on := 0, ground := Ground.phase }, { on := 1, ground := Ground.phase }, { on := 2, ground := Ground.phase }, { on := 3, ground := Ground.phase }, { on := 4, ground := Ground.phase }, { on := 5, ground := Ground.phase }, { on := 6, ground := Ground.phase }, { on := 7, ground := Ground.phase }, { on := 8, ground := Ground.phase }, { on := 9, ground := Ground.phase }, { on := 10, ground := Ground.phase }, { on := 11, ground := Ground.phase }, { on := 12, ground := Ground.phase }, { on := 13, ground := Ground.phase }, { on := 14, ground := Ground.phase }, { on := 15, ground := Ground.phase }, { on := 16, ground := Ground.phase }, { on := 17, ground := Ground.phase }, { on := 18, ground := Ground.phase }, { on := 19, ground := Ground.phase }, { on := 20, ground := Ground.phase }, { on := 21, ground := Ground.phase }, { on := 22, ground := Ground.phase }, { on := 23, ground := Ground.phase }], guard := none }) (v := ?_) rfl (by kernel_rfl) (by kernel_rfl) (by kernel_rfl) (fun _ _ _ h => h) (Or.inl ⟨by rfl, ?_⟩) hHeld ?_
    rotate_left 1
    · (intro w' hSw; clear hSw; go_simp; (try with_reducible rfl))
    try simp only [Act.put, List.setIfInBounds_toArray, List.set_cons_zero, List.set_cons_succ]
    refine wpAnyH_done (by kernel_rfl) ?_ _
    have hH := Lib.hid hHeld.1.1
    clear hHeld dIb dBb dS
    go_wp2_with fail
    go_ret
    exact ⟨ret_bool (by simp), bel hw.out hH.out⟩
  | true =>
    have hfin2 := hfin rfl
    go_region_held3 (fun wr => DuoS w9 w.heap.size (w.heap.size + 1) (.int .i64 a.kind) (.slice sa a.S.length ca) (.slice na a.N.length da) (.int .i64 a.bits) (.int .i64 b.kind) (.slice sb b.S.length cb) (.slice nb b.N.length db) (.int .i64 b.bits) wr) (first | exact DuoS.step (by assumption) hb | exact Q0.out) (first
      | (go_at_call 14; refine (dIb.out _ (by assumption)).mono ?_; rintro e w'' ⟨rfl, hb⟩)
      | (go_at_call 18; refine (dBb.out _ (by assumption)).mono ?_; rintro e w'' ⟨rfl, hb⟩)
      | (go_at_call 17; refine (dS.out _ (by assumption)).mono ?_; rintro e w'' ⟨rfl, hb⟩))
    rename_i hH
    have hH := Lib.hid hH.1.1
    clear dIb dBb dS
    go_wp2_with fail
    go_ret
    exact ⟨ret_bool (by simp), bel hw.out hH.out⟩
end Go.Proofs.YtipinglchpmgaaaDoor
