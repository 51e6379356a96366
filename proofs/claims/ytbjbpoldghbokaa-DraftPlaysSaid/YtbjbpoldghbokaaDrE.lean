/- A draft: all publishes: entries, and their numbers. -/
import Derived.Test.YtbjbpoldghbokaaDrD
namespace Go.Proofs.Ytbjbpoldghbokaa
open Go.RowKit
open Go.ChangeMaps (setBlock)
set_option linter.unusedVariables false
set_option linter.unusedSectionVars false
set_option linter.unusedSimpArgs false
set_option maxRecDepth 100000

def numsV (l : List Int) : List Value := l.map (Value.int .i64)
abbrev numsO (l : List Int) : Obj := .cells (numsV l).toArray 3
theorem uNums : Try.prog.underlying 27 = some (.slice 3) := by kernel_rfl
theorem infNum : (Try.prog.info? 3).map (fun i => (i.zero, i.size, i.bytes)) = some (some (.int .i64 0), 1, 8) := by kernel_rfl
theorem numsV_app (l m : List Int) : numsV (l ++ m) = numsV l ++ numsV m := by simp [numsV]
theorem numsV_len (l : List Int) : (numsV l).length = l.length := by simp [numsV]
theorem numsV_at {l : List Int} {i : Nat} {x : Int} (h : l[i]? = some x) : (numsV l)[i]? = some (.int .i64 x) := by simp [numsV, h]
theorem numsV_one (l : List Int) : ∀ u ∈ numsV l, u.oneCell' = true := fun u hu => by
  obtain ⟨x, -, rfl⟩ := List.mem_map.1 hu
  rfl
theorem apNum : Ap Try.prog 27 3 1 8 where
  ty := by kernel_rfl
  info := by
    have h : (Try.prog.info? 3).map (fun i => (i.zero.map fun z => z.cells.size, i.size, i.bytes)) = some (some 1, 1, 8) := by kernel_rfl
    rw [Option.map_eq_some_iff] at h
    obtain ⟨i, h1, h2⟩ := h
    simp only [Prod.mk.injEq, Option.map_eq_some_iff] at h2
    obtain ⟨⟨z, h3, h4⟩, h5, h6⟩ := h2
    exact ⟨i, z, h1, h3, h5, h6, h4⟩
abbrev NumsIs (v : Value) (L : List Int) (S : List (Nat × Obj)) : Prop := SlIs 3 1 v L.length (numsV L) S
theorem NumsIs.made (t : Nat) (E : List Int) (h : E.length ≤ 100000) : NumsIs (.slice (some ⟨t, 0, none⟩) E.length E.length) E [(t, numsO E)] := SlIs.made (by rw [numsV_len, Nat.mul_one]) (by unfold maxLen; omega)
theorem made_nums (n : Nat) : (madeCells (Value.int .i64 0).cells (n * 1)).toList = numsV (List.replicate n 0) := by
  unfold madeCells numsV
  rw [Array.toList_map, Array.toList_range, Nat.mul_one, List.map_replicate]
  apply List.ext_getElem?
  intro i
  by_cases h : i < n
  · simp [h, Value.cells, Nat.mod_one]
  · simp [h, Nat.le_of_not_lt h]
theorem mk_nums (w : World) (n : Nat) (h1 : n ≤ 100000) :
    (Instr.makeSlice 27 (.int .i64 n) (.int .i64 n)).run Try.prog w = .ok (.slice (some ⟨w.heap.size, 0, none⟩) n n) (w.alloc (numsO (List.replicate n 0))) := by
  obtain ⟨i0, hi, hz0, hz1, hz2⟩ := info_parts infNum
  have h := run_make (P := Try.prog) w 27 3 i0 (.int .i64 0) uNums hi hz0 .i64 .i64 n n (by omega) (Int.le_refl _) (by rw [hz2]; omega) (by omega)
  rw [h]
  congr 2
  unfold numsO
  congr 1
  apply Array.toList_inj.1
  rw [hz1, Int.toNat_natCast, made_nums]
theorem St.numPut {B : Nat} {w0 w : World} {t : Nat} {L : List Int} {C : List (Nat × Obj)} {i : Nat} (h : St B w0 w ((t, numsO L) :: C)) (x : Int) : St B w0 (w.setCell ⟨t, i, none⟩ (.int .i64 x)) ((t, numsO (L.set i x)) :: C) := by
  have h2 := h.set0 i (.int .i64 x)
  simp only [List.setIfInBounds_toArray] at h2
  have e : (numsV L).set i (.int .i64 x) = numsV (L.set i x) := by simp [numsV, List.map_set]
  rw [e] at h2
  exact h2

section
variable {B : Nat} {w0 w w' : World} {db t u : Nat} {F F' S : List (Nat × Obj)} {P : List (Ent × Int)} {A : List (Int × Int)}
theorem DrIs.pubsAt (h : DrIs B w0 w db P A F) : ∃ a1 k1, w.cell? ⟨db, 0, none⟩ = some (.slice a1 P.length k1) ∧ ReadPu w a1 P := by
  obtain ⟨a1, k1, a2, k2, m, S1, S2, X, hP, hA, ht, hst⟩ := h
  refine ⟨a1, k1, hst.cell (b := db) List.mem_cons_self (i := 0) rfl, hP.read (X := (db, drO (.slice a1 P.length k1) (.slice a2 A.length k2) m) :: (S2 ++ (X ++ F))) (hst.perm ?_)⟩
  classical
  exact List.perm_iff_count.2 fun a => by simp only [List.count_append, List.count_cons]; omega
/-- Both rows, as far as filled. -/
abbrev fillT (P : List (Ent × Int)) (i : Nat) : Obj := ensO (fillP z0E (P.map (·.1)) i)
abbrev fillU (P : List (Ent × Int)) (i : Nat) : Obj := numsO (fillP 0 (P.map (·.2)) i)
def PubsJ (B : Nat) (w0 : World) (db : Nat) (P : List (Ent × Int)) (A : List (Int × Int)) (F : List (Nat × Obj)) (g : Nat) (a' : Act) (w' : World) : Prop :=
  ∃ i t u : Nat, i + g = P.length ∧ Fr 52 [(0, dptr db), (4, .slice (some ⟨t, 0, none⟩) P.length P.length), (5, .slice (some ⟨u, 0, none⟩) P.length P.length), (6, .int .i64 i)] a' ∧ DrIs B w0 w' db P A ((t, fillT P i) :: (u, fillU P i) :: F)
abbrev PuRow (w : World) (gb o : Nat) (x : Ent × Int) : Prop := w.cell? ⟨gb, o + 10, none⟩ = some (.int .i64 x.2) ∧ EnRow w gb o x.1
/-- Behind a round's stores. -/
theorem pubs_round {i : Nat} {x : Ent × Int} (h : DrIs B w0 w db P A ((t, fillT P i) :: (u, fillU P i) :: F)) (hx : P[i]? = some x) :
    ((∀ j, w.frozen? ⟨t, j, none⟩ = false) ∧ EnRow w t (i * 10) z0E) ∧ ((∀ j, (enPutAt w t (i * 10) x.1).frozen? ⟨u, j, none⟩ = false) ∧ (enPutAt w t (i * 10) x.1).cell? ⟨u, i, none⟩ = some (.int .i64 0)) ∧
      (∃ a1 k1, (enPutAt w t (i * 10) x.1).cell? ⟨db, 0, none⟩ = some (.slice a1 P.length k1) ∧ ReadPu (enPutAt w t (i * 10) x.1) a1 P ∧ ((enPutAt w t (i * 10) x.1).setCell ⟨u, i, none⟩ (.int .i64 x.2)).cell? ⟨db, 0, none⟩ = some (.slice a1 P.length k1) ∧ ReadPu ((enPutAt w t (i * 10) x.1).setCell ⟨u, i, none⟩ (.int .i64 x.2)) a1 P ∧ w.cell? ⟨db, 0, none⟩ = some (.slice a1 P.length k1) ∧ ReadPu w a1 P) ∧
      DrIs B w0 ((enPutAt w t (i * 10) x.1).setCell ⟨u, i, none⟩ (.int .i64 x.2)) db P A ((t, fillT P (i + 1)) :: (u, fillU P (i + 1)) :: F) := by
  have hlt := (List.getElem?_eq_some_iff.1 hx).1
  obtain ⟨a1, k1, a2, k2, m, S1, S2, X, hP, hA, ht, hst⟩ := h
  have rd : ∀ {w : World} {o o' : Obj}, St B w0 w ((db, drO (.slice a1 P.length k1) (.slice a2 A.length k2) m) :: (S1 ++ (S2 ++ (X ++ ((t, o) :: (u, o') :: F))))) → w.cell? ⟨db, 0, none⟩ = some (.slice a1 P.length k1) ∧ ReadPu w a1 P := fun {w o o'} hst =>
    ⟨hst.cell (b := db) List.mem_cons_self (i := 0) rfl, hP.read (X := (db, drO (.slice a1 P.length k1) (.slice a2 A.length k2) m) :: (S2 ++ (X ++ ((t, o) :: (u, o') :: F)))) (hst.perm (by
      classical
      exact List.perm_iff_count.2 fun a => by simp only [List.count_append, List.count_cons]; omega))⟩
  have pt : ∀ o o' : Obj, ((db, drO (.slice a1 P.length k1) (.slice a2 A.length k2) m) :: (S1 ++ (S2 ++ (X ++ ((t, o) :: (u, o') :: F))))).Perm ((t, o) :: ((db, drO (.slice a1 P.length k1) (.slice a2 A.length k2) m) :: (S1 ++ (S2 ++ (X ++ ((u, o') :: F)))))) := fun o o' => by
    classical
    exact List.perm_iff_count.2 fun a => by simp only [List.count_append, List.count_cons]; omega
  have pu : ∀ o o' : Obj, ((db, drO (.slice a1 P.length k1) (.slice a2 A.length k2) m) :: (S1 ++ (S2 ++ (X ++ ((t, o) :: (u, o') :: F))))).Perm ((u, o') :: ((db, drO (.slice a1 P.length k1) (.slice a2 A.length k2) m) :: (S1 ++ (S2 ++ (X ++ ((t, o) :: F)))))) := fun o o' => by
    classical
    exact List.perm_iff_count.2 fun a => by simp only [List.count_append, List.count_cons]; omega
  have hx1 : (P.map (·.1))[i]? = some x.1 := by simp [hx]
  have hx2 : (P.map (·.2))[i]? = some x.2 := by simp [hx]
  have hl1 : i < (P.map (·.1)).length := by simpa using hlt
  have hl2 : i < (P.map (·.2)).length := by simpa using hlt
  have h1 := hst.perm (pt _ _)
  have h2 := h1.rowPut (i := i) (by rw [fillP_len (by omega)]; exact hl1) x.1
  rw [fillP_set hx1] at h2
  have h3 := h2.perm (pt _ _).symm
  have h4 := h3.perm (pu _ _)
  have h5 := h4.numPut (i := i) x.2
  rw [fillP_set hx2] at h5
  have h6 := h5.perm (pu _ _).symm
  refine ⟨⟨fun j => h1.soft (b := t) List.mem_cons_self j, h1.rowAt List.mem_cons_self (fillP_at hl1)⟩, ⟨fun j => h4.soft (b := u) List.mem_cons_self j, h4.cell (b := u) List.mem_cons_self (by rw [List.getElem?_toArray]; exact numsV_at (fillP_at hl2))⟩, ⟨a1, k1, (rd h3).1, (rd h3).2, (rd h6).1, (rd h6).2, (rd hst).1, (rd hst).2⟩,
    a1, k1, a2, k2, m, S1, S2, X, hP, hA, ht, h6⟩

set_option maxHeartbeats 4000000 in
theorem dr_publishes (h : DrIs B w0 w db P A F) (hl : P.length ≤ 100000) :
    Calls Try.prog 10 #[dptr db] w fun r w' => ∃ t u, r = .returned (.tuple #[.slice (some ⟨t, 0, none⟩) P.length P.length, .slice (some ⟨u, 0, none⟩) P.length P.length]) ∧ DrIs B w0 w' db P A ((t, ensO (P.map (·.1))) :: (u, numsO (P.map (·.2))) :: F) := by
  have hmk1 := fun w => mk_ents w P.length hl
  have hmk2 := fun w => mk_nums w P.length hl
  have hz1 : ensO (List.replicate P.length z0E) = fillT P 0 := by unfold fillT; rw [fillP_zero, List.length_map]
  have hz2 : numsO (List.replicate P.length 0) = fillU P 0 := by unfold fillU; rw [fillP_zero, List.length_map]
  have s1 : Hid (∃ t u, Value.slice (some ⟨w.heap.size, 0, none⟩) P.length P.length = .slice (some ⟨t, 0, none⟩) P.length P.length ∧ Value.slice (some ⟨w.heap.size + 1, 0, none⟩) P.length P.length = .slice (some ⟨u, 0, none⟩) P.length P.length ∧ Hid (DrIs B w0 ((w.alloc (ensO (List.replicate P.length z0E))).alloc (numsO (List.replicate P.length 0))).drew db P A ((t, fillT P 0) :: (u, fillU P 0) :: F))) := Lib.hid (by
    refine ⟨w.heap.size, w.heap.size + 1, rfl, rfl, Lib.hid ?_⟩
    have h2 := (h.alloc (ensO (List.replicate P.length z0E))).alloc (numsO (List.replicate P.length 0))
    rw [World.size_alloc] at h2
    rw [hz1, hz2] at h2 ⊢
    exact (h2.permF (List.Perm.swap _ _ _)).grow (drew_b _))
  have s2 : Hid (∃ t u, Value.slice (some ⟨w.heap.size + 1, 0, none⟩) P.length P.length = .slice (some ⟨t, 0, none⟩) P.length P.length ∧ Value.slice (some ⟨w.heap.size, 0, none⟩) P.length P.length = .slice (some ⟨u, 0, none⟩) P.length P.length ∧ Hid (DrIs B w0 ((w.alloc (numsO (List.replicate P.length 0))).alloc (ensO (List.replicate P.length z0E))).drew db P A ((t, fillT P 0) :: (u, fillU P 0) :: F))) := Lib.hid (by
    refine ⟨w.heap.size + 1, w.heap.size, rfl, rfl, Lib.hid ?_⟩
    have h2 := (h.alloc (numsO (List.replicate P.length 0))).alloc (ensO (List.replicate P.length z0E))
    rw [World.size_alloc] at h2
    rw [hz1, hz2] at h2 ⊢
    exact h2.grow (drew_b _))
  obtain ⟨a1, k1, c1, -⟩ := h.pubsAt
  have hs0 : Hid (∀ w', Below w.heap.size w w' → w'.cell? ⟨db, 0, none⟩ = some (.slice a1 P.length k1)) := Lib.hid fun w' hb => cellUp c1 hb
  clear h hz1 hz2
  have hl3 : (P.length : Int) ≤ 100000 := by omega
  go_enter Try.func10, Try.ntmps10
  go_wp2_with fail
  refine wp_scope_ghost 0 (PubsJ B w0 db P A F) rfl ?_ ?_
  · clear s1 s2 hmk1 hmk2 c1 hs0
    rintro g a' wr ⟨i, t, u, hi, hfr, hR⟩
    obtain ⟨fr, rfl, hl'⟩ := hfr.lit
    clear hfr
    simp only [List.mem_cons, List.not_mem_nil, or_false, forall_eq_or_imp, forall_eq] at hl'
    obtain ⟨f0, f4, f5, f6⟩ := hl'
    simp only [List.range, List.range.loop, List.map, f0, f4, f5, f6]
    clear f0 f4 f5 f6
    by_cases hlt : i < P.length
    · have hx : P[i]? = some P[i] := List.getElem?_eq_getElem hlt
      generalize P[i] = x at hx
      obtain ⟨⟨ft, y0, y1, y2, y3, y4, y5, y6, y7, y8, y9⟩, ⟨fu, yu⟩, ⟨a1, k1, q1, r1, q2, r2, q0, r0⟩, hD⟩ := pubs_round (hR.grow (drew_b wr)) hx
      obtain ⟨gb, off, rfl, hrow⟩ := r0 i x hx
      obtain ⟨_, _, e1, hrow1⟩ := r1 i x hx
      cases e1
      obtain ⟨_, _, e1, hrow2⟩ := r2 i x hx
      cases e1
      have ha : wr.cell? ⟨db, 0, none⟩ = some (.slice (some ⟨gb, off, none⟩) P.length k1) := q0
      have P0 : Hid (wr.drew.cell? ⟨db, 0, none⟩ = some (.slice (some ⟨gb, off, none⟩) P.length k1) ∧ PuRow wr.drew gb (off + i * 11) x) := Lib.hid ⟨q0, hrow.2, hrow.1⟩
      have P1 : Hid ((enPutAt wr.drew t (i * 10) x.1).cell? ⟨db, 0, none⟩ = some (.slice (some ⟨gb, off, none⟩) P.length k1) ∧ PuRow (enPutAt wr.drew t (i * 10) x.1) gb (off + i * 11) x) := Lib.hid ⟨q1, hrow1.2, hrow1.1⟩
      have P2 : Hid (((enPutAt wr.drew t (i * 10) x.1).setCell ⟨u, i, none⟩ (.int .i64 x.2)).cell? ⟨db, 0, none⟩ = some (.slice (some ⟨gb, off, none⟩) P.length k1) ∧ PuRow ((enPutAt wr.drew t (i * 10) x.1).setCell ⟨u, i, none⟩ (.int .i64 x.2)) gb (off + i * 11) x) := Lib.hid ⟨q2, hrow2.2, hrow2.1⟩
      have fin : Hid (∀ a', Fr 52 [(0, dptr db), (4, .slice (some ⟨t, 0, none⟩) P.length P.length), (5, .slice (some ⟨u, 0, none⟩) P.length P.length), (6, .int .i64 ((i : Int) + 1))] a' → ∃ m, m < g ∧ PubsJ B w0 db P A F m a' ((enPutAt wr.drew t (i * 10) x.1).setCell ⟨u, i, none⟩ (.int .i64 x.2))) := Lib.hid fun a' hf =>
        ⟨g - 1, by omega, i + 1, t, u, by omega, hf, hD⟩
      have hi0 : (0 : Int) ≤ i := by omega
      have hi1 : (i : Int) < P.length := by omega
      have hiB : ((i : Int) == P.length) = false := by rw [beq_eq_false_iff_ne]; omega
      clear hR hx hi hD q0 q1 q2 r0 r1 r2 hrow hrow1 hrow2
      obtain ⟨⟨e0, e1, e2, e3, e4, e5, e6, e7, e8, e9⟩, b⟩ := x
      generalize P.length = n at *
      go_upto_region 5 with fail
      refine wp_region_held_drew (S := fun wr => wr.cell? ⟨db, 0, none⟩ = some (.slice (some ⟨gb, off, none⟩) n k1) ∧ PuRow wr gb (off + i * 11) (⟨e0, e1, e2, e3, e4, e5, e6, e7, e8, e9⟩, b)) (by kernel_rfl) P0.out (fun hHeld => ?_)
      generalize wr.drew = V at *
      refine wpAnyH_take (i := 0) (oi := { dst := some 28, op := Op.move (Operand.tmp 4), type := 26, pos := "draft.go:55", after := #[], guard := none }) (v := ?_) rfl (by kernel_rfl) (by kernel_rfl) (by kernel_rfl) (fun _ _ _ h => h) (Or.inl ⟨by rfl, ?_⟩) hHeld ?_
      rotate_left 1
      · (intro w' hSw; clear hSw; go_simp; (try with_reducible rfl))
      try simp only [Act.put, List.setIfInBounds_toArray, List.set_cons_zero, List.set_cons_succ]
      refine wpAnyH_take (i := 1) (oi := { dst := some 29, op := Op.move (Operand.tmp 6), type := 3, pos := "draft.go:55", after := #[], guard := none }) (v := ?_) rfl (by kernel_rfl) (by kernel_rfl) (by kernel_rfl) (fun _ _ _ h => h) (Or.inl ⟨by rfl, ?_⟩) hHeld ?_
      rotate_left 1
      · (intro w' hSw; clear hSw; go_simp; (try with_reducible rfl))
      try simp only [Act.put, List.setIfInBounds_toArray, List.set_cons_zero, List.set_cons_succ]
      refine wpAnyH_take (i := 2) (oi := { dst := some 30, op := Op.move (Operand.tmp 5), type := 27, pos := "draft.go:55", after := #[{ on := 21, ground := Ground.gcOnly Departure.lateStores }], guard := none }) (v := ?_) rfl (by kernel_rfl) (by kernel_rfl) (by kernel_rfl) (fun _ _ _ h => h) (Or.inl ⟨by rfl, ?_⟩) hHeld ?_
      rotate_left 1
      · (intro w' hSw; clear hSw; go_simp; (try with_reducible rfl))
      try simp only [Act.put, List.setIfInBounds_toArray, List.set_cons_zero, List.set_cons_succ]
      refine wpAnyH_take (i := 3) (oi := { dst := some 31, op := Op.move (Operand.tmp 6), type := 3, pos := "draft.go:55", after := #[{ on := 21, ground := Ground.gcOnly Departure.lateStores }], guard := none }) (v := ?_) rfl (by kernel_rfl) (by kernel_rfl) (by kernel_rfl) (fun _ _ _ h => h) (Or.inl ⟨by rfl, ?_⟩) hHeld ?_
      rotate_left 1
      · (intro w' hSw; clear hSw; go_simp; (try with_reducible rfl))
      try simp only [Act.put, List.setIfInBounds_toArray, List.set_cons_zero, List.set_cons_succ]
      refine wpAnyH_take (i := 4) (oi := { dst := some 32, op := Op.move (Operand.tmp 0), type := 24, pos := "draft.go:55", after := #[], guard := none }) (v := ?_) rfl (by kernel_rfl) (by kernel_rfl) (by kernel_rfl) (fun _ _ _ h => h) (Or.inl ⟨by rfl, ?_⟩) hHeld ?_
      rotate_left 1
      · (intro w' hSw; clear hSw; go_simp; (try with_reducible rfl))
      try simp only [Act.put, List.setIfInBounds_toArray, List.set_cons_zero, List.set_cons_succ]
      refine wpAnyH_take (i := 5) (oi := { dst := some 33, op := Op.nilCheck (Operand.tmp 32), type := 0, pos := "draft.go:55", after := #[{ on := 4, ground := Ground.data }], guard := none }) (v := ?_) rfl (by kernel_rfl) (by kernel_rfl) (by kernel_rfl) (fun _ _ _ h => h) (Or.inl ⟨by rfl, ?_⟩) hHeld ?_
      rotate_left 1
      · (intro w' hSw; clear hSw; go_simp; (try with_reducible rfl))
      try simp only [Act.put, List.setIfInBounds_toArray, List.set_cons_zero, List.set_cons_succ]
      refine wpAnyH_take (i := 6) (oi := { dst := some 34, op := Op.fieldAddr 48 (Operand.tmp 33) 0, type := 0, pos := "draft.go:55", after := #[{ on := 5, ground := Ground.data }], guard := none }) (v := ?_) rfl (by kernel_rfl) (by kernel_rfl) (by kernel_rfl) (fun _ _ _ h => h) (Or.inl ⟨by rfl, ?_⟩) hHeld ?_
      rotate_left 1
      · (intro w' hSw; clear hSw; go_simp; (try with_reducible rfl))
      try simp only [Act.put, List.setIfInBounds_toArray, List.set_cons_zero, List.set_cons_succ]
      refine wpAnyH_take (i := 7) (oi := { dst := some 35, op := Op.load 45 (Operand.tmp 34), type := 45, pos := "draft.go:55", after := #[{ on := 6, ground := Ground.data }], guard := none }) (v := ?_) rfl (by kernel_rfl) (by kernel_rfl) (by kernel_rfl) (fun _ _ _ h => h) (Or.inl ⟨by rfl, ?_⟩) hHeld ?_
      rotate_left 1
      · (intro w' hSw; obtain ⟨s0, s1, s2, s3, s4, s5, s6, s7, s8, s9, s10, s11⟩ := hSw; go_simp; (try with_reducible rfl))
      try simp only [Act.put, List.setIfInBounds_toArray, List.set_cons_zero, List.set_cons_succ]
      refine wpAnyH_take (i := 8) (oi := { dst := some 36, op := Op.move (Operand.tmp 6), type := 3, pos := "draft.go:55", after := #[], guard := none }) (v := ?_) rfl (by kernel_rfl) (by kernel_rfl) (by kernel_rfl) (fun _ _ _ h => h) (Or.inl ⟨by rfl, ?_⟩) hHeld ?_
      rotate_left 1
      · (intro w' hSw; clear hSw; go_simp; (try with_reducible rfl))
      try simp only [Act.put, List.setIfInBounds_toArray, List.set_cons_zero, List.set_cons_succ]
      refine wpAnyH_take (i := 9) (oi := { dst := some 37, op := Op.indexAddr 45 (Operand.tmp 35) (Operand.tmp 36), type := 0, pos := "draft.go:55", after := #[{ on := 7, ground := Ground.data }, { on := 8, ground := Ground.data }], guard := none }) (v := ?_) rfl (by kernel_rfl) (by kernel_rfl) (by kernel_rfl) (fun _ _ _ h => h) (Or.inl ⟨by rfl, ?_⟩) hHeld ?_
      rotate_left 1
      · (intro w' hSw; clear hSw; go_simp; (try with_reducible rfl))
      try simp only [Act.put, List.setIfInBounds_toArray, List.set_cons_zero, List.set_cons_succ]
      refine wpAnyH_take (i := 10) (oi := { dst := some 38, op := Op.fieldAddr 51 (Operand.tmp 37) 0, type := 0, pos := "draft.go:55", after := #[{ on := 9, ground := Ground.data }], guard := none }) (v := ?_) rfl (by kernel_rfl) (by kernel_rfl) (by kernel_rfl) (fun _ _ _ h => h) (Or.inl ⟨by rfl, ?_⟩) hHeld ?_
      rotate_left 1
      · (intro w' hSw; clear hSw; go_simp; (try with_reducible rfl))
      try simp only [Act.put, List.setIfInBounds_toArray, List.set_cons_zero, List.set_cons_succ]
      refine wpAnyH_take (i := 11) (oi := { dst := some 39, op := Op.load 30 (Operand.tmp 38), type := 30, pos := "draft.go:55", after := #[{ on := 10, ground := Ground.data }], guard := none }) (v := ?_) rfl (by kernel_rfl) (by kernel_rfl) (by kernel_rfl) (fun _ _ _ h => h) (Or.inl ⟨by rfl, ?_⟩) hHeld ?_
      rotate_left 1
      · (intro w' hSw; obtain ⟨s0, s1, s2, s3, s4, s5, s6, s7, s8, s9, s10, s11⟩ := hSw; go_simp; (try with_reducible rfl))
      try simp only [Act.put, List.setIfInBounds_toArray, List.set_cons_zero, List.set_cons_succ]
      refine wpAnyH_take (i := 12) (oi := { dst := some 40, op := Op.move (Operand.tmp 0), type := 24, pos := "draft.go:55", after := #[], guard := none }) (v := ?_) rfl (by kernel_rfl) (by kernel_rfl) (by kernel_rfl) (fun _ _ _ h => h) (Or.inl ⟨by rfl, ?_⟩) hHeld ?_
      rotate_left 1
      · (intro w' hSw; clear hSw; go_simp; (try with_reducible rfl))
      try simp only [Act.put, List.setIfInBounds_toArray, List.set_cons_zero, List.set_cons_succ]
      refine wpAnyH_take (i := 13) (oi := { dst := some 41, op := Op.nilCheck (Operand.tmp 40), type := 0, pos := "draft.go:55", after := #[{ on := 12, ground := Ground.data }], guard := none }) (v := ?_) rfl (by kernel_rfl) (by kernel_rfl) (by kernel_rfl) (fun _ _ _ h => h) (Or.inl ⟨by rfl, ?_⟩) hHeld ?_
      rotate_left 1
      · (intro w' hSw; clear hSw; go_simp; (try with_reducible rfl))
      try simp only [Act.put, List.setIfInBounds_toArray, List.set_cons_zero, List.set_cons_succ]
      refine wpAnyH_take (i := 14) (oi := { dst := some 42, op := Op.fieldAddr 48 (Operand.tmp 41) 0, type := 0, pos := "draft.go:55", after := #[{ on := 13, ground := Ground.data }], guard := none }) (v := ?_) rfl (by kernel_rfl) (by kernel_rfl) (by kernel_rfl) (fun _ _ _ h => h) (Or.inl ⟨by rfl, ?_⟩) hHeld ?_
      rotate_left 1
      · (intro w' hSw; clear hSw; go_simp; (try with_reducible rfl))
      try simp only [Act.put, List.setIfInBounds_toArray, List.set_cons_zero, List.set_cons_succ]
      refine wpAnyH_take (i := 15) (oi := { dst := some 43, op := Op.load 45 (Operand.tmp 42), type := 45, pos := "draft.go:55", after := #[{ on := 14, ground := Ground.data }], guard := none }) (v := ?_) rfl (by kernel_rfl) (by kernel_rfl) (by kernel_rfl) (fun _ _ _ h => h) (Or.inl ⟨by rfl, ?_⟩) hHeld ?_
      rotate_left 1
      · (intro w' hSw; obtain ⟨s0, s1, s2, s3, s4, s5, s6, s7, s8, s9, s10, s11⟩ := hSw; go_simp; (try with_reducible rfl))
      try simp only [Act.put, List.setIfInBounds_toArray, List.set_cons_zero, List.set_cons_succ]
      refine wpAnyH_take (i := 16) (oi := { dst := some 44, op := Op.move (Operand.tmp 6), type := 3, pos := "draft.go:55", after := #[], guard := none }) (v := ?_) rfl (by kernel_rfl) (by kernel_rfl) (by kernel_rfl) (fun _ _ _ h => h) (Or.inl ⟨by rfl, ?_⟩) hHeld ?_
      rotate_left 1
      · (intro w' hSw; clear hSw; go_simp; (try with_reducible rfl))
      try simp only [Act.put, List.setIfInBounds_toArray, List.set_cons_zero, List.set_cons_succ]
      refine wpAnyH_take (i := 17) (oi := { dst := some 45, op := Op.indexAddr 45 (Operand.tmp 43) (Operand.tmp 44), type := 0, pos := "draft.go:55", after := #[{ on := 15, ground := Ground.data }, { on := 16, ground := Ground.data }], guard := none }) (v := ?_) rfl (by kernel_rfl) (by kernel_rfl) (by kernel_rfl) (fun _ _ _ h => h) (Or.inl ⟨by rfl, ?_⟩) hHeld ?_
      rotate_left 1
      · (intro w' hSw; clear hSw; go_simp; (try with_reducible rfl))
      try simp only [Act.put, List.setIfInBounds_toArray, List.set_cons_zero, List.set_cons_succ]
      refine wpAnyH_take (i := 18) (oi := { dst := some 46, op := Op.fieldAddr 51 (Operand.tmp 45) 1, type := 0, pos := "draft.go:55", after := #[{ on := 17, ground := Ground.data }], guard := none }) (v := ?_) rfl (by kernel_rfl) (by kernel_rfl) (by kernel_rfl) (fun _ _ _ h => h) (Or.inl ⟨by rfl, ?_⟩) hHeld ?_
      rotate_left 1
      · (intro w' hSw; clear hSw; go_simp; (try with_reducible rfl))
      try simp only [Act.put, List.setIfInBounds_toArray, List.set_cons_zero, List.set_cons_succ]
      refine wpAnyH_take (i := 19) (oi := { dst := some 47, op := Op.load 3 (Operand.tmp 46), type := 3, pos := "draft.go:55", after := #[{ on := 18, ground := Ground.data }], guard := none }) (v := ?_) rfl (by kernel_rfl) (by kernel_rfl) (by kernel_rfl) (fun _ _ _ h => h) (Or.inl ⟨by rfl, ?_⟩) hHeld ?_
      rotate_left 1
      · (intro w' hSw; obtain ⟨s0, s1, s2, s3, s4, s5, s6, s7, s8, s9, s10, s11⟩ := hSw; go_simp; (try with_reducible rfl))
      try simp only [Act.put, List.setIfInBounds_toArray, List.set_cons_zero, List.set_cons_succ]
      refine wpAnyH_take (i := 20) (oi := { dst := some 48, op := Op.indexAddr 26 (Operand.tmp 28) (Operand.tmp 29), type := 0, pos := "draft.go:55", after := #[{ on := 0, ground := Ground.data }, { on := 1, ground := Ground.data }, { on := 0, ground := Ground.phase }, { on := 1, ground := Ground.phase }, { on := 2, ground := Ground.textOnly Departure.lateStores }, { on := 3, ground := Ground.textOnly Departure.lateStores }, { on := 4, ground := Ground.phase }, { on := 5, ground := Ground.phase }, { on := 6, ground := Ground.phase }, { on := 7, ground := Ground.phase }, { on := 8, ground := Ground.phase }, { on := 9, ground := Ground.phase }, { on := 10, ground := Ground.phase }, { on := 11, ground := Ground.phase }, { on := 12, ground := Ground.textOnly Departure.lateStores }, { on := 13, ground := Ground.textOnly Departure.lateStoresUnsure }, { on := 14, ground := Ground.textOnly Departure.lateStoresUnsure }, { on := 15, ground := Ground.phase }, { on := 16, ground := Ground.textOnly Departure.lateStores }, { on := 17, ground := Ground.textOnly Departure.lateStoresUnsure }, { on := 18, ground := Ground.textOnly Departure.lateStoresUnsure }, { on := 19, ground := Ground.phase }], guard := none }) (v := ?_) rfl (by kernel_rfl) (by kernel_rfl) (by kernel_rfl) (fun _ _ _ h => h) (Or.inl ⟨by rfl, ?_⟩) hHeld ?_
      rotate_left 1
      · (intro w' hSw; clear hSw; go_simp; (try with_reducible rfl))
      try simp only [Act.put, List.setIfInBounds_toArray, List.set_cons_zero, List.set_cons_succ]
      refine wpAnyH_ready (rs := [21]) (by kernel_rfl) (by simp) (AllReadyH.cons (o := { dst := none, op := Op.store 30 (Operand.tmp 48) (Operand.tmp 39), type := 0, pos := "draft.go:55", after := #[{ on := 20, ground := Ground.data }, { on := 11, ground := Ground.data }, { on := 0, ground := Ground.phase }, { on := 1, ground := Ground.phase }, { on := 2, ground := Ground.textOnly Departure.lateStores }, { on := 3, ground := Ground.textOnly Departure.lateStores }, { on := 4, ground := Ground.phase }, { on := 5, ground := Ground.phase }, { on := 6, ground := Ground.phase }, { on := 7, ground := Ground.phase }, { on := 8, ground := Ground.phase }, { on := 9, ground := Ground.phase }, { on := 10, ground := Ground.phase }, { on := 11, ground := Ground.phase }, { on := 12, ground := Ground.textOnly Departure.lateStores }, { on := 13, ground := Ground.textOnly Departure.lateStoresUnsure }, { on := 14, ground := Ground.textOnly Departure.lateStoresUnsure }, { on := 15, ground := Ground.phase }, { on := 16, ground := Ground.textOnly Departure.lateStores }, { on := 17, ground := Ground.textOnly Departure.lateStoresUnsure }, { on := 18, ground := Ground.textOnly Departure.lateStoresUnsure }, { on := 19, ground := Ground.phase }], guard := none }) rfl (fun K hK => ?_) AllReadyH.nil)
      clear hHeld
      go_simp
      refine hK.out _ _ P1.out (fun hHeld => ?_)
      clear hK K
      try simp only [Act.put, List.setIfInBounds_toArray, List.set_cons_zero, List.set_cons_succ]
      refine wpAnyH_take (i := 22) (oi := { dst := some 49, op := Op.indexAddr 27 (Operand.tmp 30) (Operand.tmp 31), type := 0, pos := "draft.go:55", after := #[{ on := 2, ground := Ground.data }, { on := 3, ground := Ground.data }, { on := 0, ground := Ground.phase }, { on := 1, ground := Ground.phase }, { on := 2, ground := Ground.phase }, { on := 3, ground := Ground.phase }, { on := 4, ground := Ground.phase }, { on := 5, ground := Ground.phase }, { on := 6, ground := Ground.phase }, { on := 7, ground := Ground.phase }, { on := 8, ground := Ground.phase }, { on := 9, ground := Ground.phase }, { on := 10, ground := Ground.phase }, { on := 11, ground := Ground.phase }, { on := 12, ground := Ground.phase }, { on := 13, ground := Ground.phase }, { on := 14, ground := Ground.phase }, { on := 15, ground := Ground.phase }, { on := 16, ground := Ground.phase }, { on := 17, ground := Ground.phase }, { on := 18, ground := Ground.phase }, { on := 19, ground := Ground.phase }, { on := 20, ground := Ground.phase }, { on := 21, ground := Ground.phase }], guard := none }) (v := ?_) rfl (by kernel_rfl) (by kernel_rfl) (by kernel_rfl) (fun _ _ _ h => h) (Or.inl ⟨by rfl, ?_⟩) hHeld ?_
      rotate_left 1
      · (intro w' hSw; clear hSw; go_simp; (try with_reducible rfl))
      try simp only [Act.put, List.setIfInBounds_toArray, List.set_cons_zero, List.set_cons_succ]
      refine wpAnyH_ready (rs := [23]) (by kernel_rfl) (by simp) (AllReadyH.cons (o := { dst := none, op := Op.store 3 (Operand.tmp 49) (Operand.tmp 47), type := 0, pos := "draft.go:55", after := #[{ on := 22, ground := Ground.data }, { on := 19, ground := Ground.data }, { on := 21, ground := Ground.chain }, { on := 0, ground := Ground.phase }, { on := 1, ground := Ground.phase }, { on := 2, ground := Ground.phase }, { on := 3, ground := Ground.phase }, { on := 4, ground := Ground.phase }, { on := 5, ground := Ground.phase }, { on := 6, ground := Ground.phase }, { on := 7, ground := Ground.phase }, { on := 8, ground := Ground.phase }, { on := 9, ground := Ground.phase }, { on := 10, ground := Ground.phase }, { on := 11, ground := Ground.phase }, { on := 12, ground := Ground.phase }, { on := 13, ground := Ground.phase }, { on := 14, ground := Ground.phase }, { on := 15, ground := Ground.phase }, { on := 16, ground := Ground.phase }, { on := 17, ground := Ground.phase }, { on := 18, ground := Ground.phase }, { on := 19, ground := Ground.phase }, { on := 20, ground := Ground.phase }, { on := 21, ground := Ground.phase }], guard := none }) rfl (fun K hK => ?_) AllReadyH.nil)
      clear hHeld
      go_simp
      refine hK.out _ _ P2.out (fun hHeld => ?_)
      clear hK K
      try simp only [Act.put, List.setIfInBounds_toArray, List.set_cons_zero, List.set_cons_succ]
      refine wpAnyH_done (by kernel_rfl) ?_ _
      clear hHeld
      go_wp2_with fail
      refine wp_goto ?_
      exact ⟨rfl, fin.out _ ⟨rfl, rfl, by simp⟩⟩
    · have hin : i = P.length := by omega
      subst hin
      have hR2 : DrIs B w0 wr db P A ((t, ensO (P.map (·.1))) :: (u, numsO (P.map (·.2))) :: F) := by
        have e1 : fillP z0E (P.map (·.1)) P.length = P.map (·.1) := by have := fillP_all (z := z0E) (E := P.map (·.1)); rwa [List.length_map] at this
        have e2 : fillP 0 (P.map (·.2)) P.length = P.map (·.2) := by have := fillP_all (z := (0 : Int)) (E := P.map (·.2)); rwa [List.length_map] at this
        unfold fillT fillU at hR
        rw [e1, e2] at hR
        exact hR
      obtain ⟨a1, k1, c1, -⟩ := hR.pubsAt
      have fin : Hid (∃ t' u', Ending.returned (.tuple #[.slice (some ⟨t, 0, none⟩) P.length P.length, .slice (some ⟨u, 0, none⟩) P.length P.length]) = .returned (.tuple #[.slice (some ⟨t', 0, none⟩) P.length P.length, .slice (some ⟨u', 0, none⟩) P.length P.length]) ∧ DrIs B w0 wr db P A ((t', ensO (P.map (·.1))) :: (u', numsO (P.map (·.2))) :: F)) := Lib.hid ⟨t, u, rfl, hR2⟩
      clear hR hR2 hi
      go_wp2_with fail
      simp only [Exit.jump]
      go_ret2
      exact fin.out
  · intro HJ
    go_upto_region 1 with fail
    go_cut [4, 5] (fun v4 v5 wy => ∃ t u, v4 = .slice (some ⟨t, 0, none⟩) P.length P.length ∧ v5 = .slice (some ⟨u, 0, none⟩) P.length P.length ∧ Hid (DrIs B w0 wy db P A ((t, fillT P 0) :: (u, fillU P 0) :: F)))
    case first =>
      clear HJ
      generalize (ensO (List.replicate P.length z0E)) = o1 at *
      generalize (numsO (List.replicate P.length 0)) = o2 at *
      go_region_held3 (fun wr => wr.cell? ⟨db, 0, none⟩ = some (.slice a1 P.length k1)) (first | exact hs0.out _ (by repeat (first | exact new_below _ _ | exact drew_b _ | refine bel ?_ (drew_b _) | refine bel ?_ (new_below _ _))) | go_keep) (fail)
      all_goals
        go_wp2_with fail
        go_meet
        case rel => first | exact s1.out | exact s2.out
    case rest =>
      clear s1 s2 hmk1 hmk2 c1 hs0
      obtain ⟨t, u, rfl, rfl, hD⟩ := hcut
      go_wp2_with fail
      refine wp_label ?_
      go_step
      go_step
      exact HJ P.length _ _ ⟨0, t, u, by omega, ⟨rfl, rfl, by simp⟩, hD.out⟩
end
end Go.Proofs.Ytbjbpoldghbokaa
