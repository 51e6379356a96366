/- DraftPlays: the draft, and the law's own rows beside it. -/
import Derived.Test.YtbjbpoldghbokaaDrK
import Derived.Test.YtbjbpoldghbokaaDrS
import Derived.Test.YtbjbpoldghbokaaRfS
namespace Go.Proofs.Ytbjbpoldghbokaa
open Go.RowKit
open Go.ChangeMaps (setBlock)
set_option linter.unusedVariables false
set_option linter.unusedSectionVars false
set_option linter.unusedSimpArgs false
set_option maxRecDepth 100000

abbrev stO20 (s : S20) : Obj := .cells #[.int .i64 s.1, .int .i64 s.2.1, .int .i64 s.2.2.1, .int .i64 s.2.2.2.id, .int .i64 s.2.2.2.body, .int .i64 s.2.2.2.size, tx s.2.2.2.exch, tx s.2.2.2.key, .int .i64 s.2.2.2.prio, .int .i64 s.2.2.2.ttl, .int .i64 s.2.2.2.til, .bool s.2.2.2.again, .int .i64 s.2.2.2.hops] 32
abbrev numO (x : Int) : Obj := .cells #[.int .i64 x] 3
/-- A step's cells behind its What. -/
abbrev StB (W : World) (b : Nat) (t n : Int) (e : Ent) : Prop := W.cell? ⟨b, 1, none⟩ = some (.int .i64 t) ∧ W.cell? ⟨b, 2, none⟩ = some (.int .i64 n) ∧ W.cell? ⟨b, 3, none⟩ = some (.int .i64 e.id) ∧ W.cell? ⟨b, 4, none⟩ = some (.int .i64 e.body) ∧ W.cell? ⟨b, 5, none⟩ = some (.int .i64 e.size) ∧ W.cell? ⟨b, 6, none⟩ = some (tx e.exch) ∧ W.cell? ⟨b, 7, none⟩ = some (tx e.key) ∧ W.cell? ⟨b, 8, none⟩ = some (.int .i64 e.prio) ∧ W.cell? ⟨b, 9, none⟩ = some (.int .i64 e.ttl) ∧ W.cell? ⟨b, 10, none⟩ = some (.int .i64 e.til) ∧ W.cell? ⟨b, 11, none⟩ = some (.bool e.again) ∧ W.cell? ⟨b, 12, none⟩ = some (.int .i64 e.hops)
/-- The draft holds P, A; the law's rows read E, N, L. -/
def Law20 (B : Nat) (w0 W : World) (db : Nat) (P : List (Ent × Int)) (A : List (Int × Int)) (E : List Ent) (N : List Int) (L : List (Int × Int)) (v4 v5 v6 : Value) (Y : List (Nat × Obj)) : Prop :=
  ∃ S4 S5 S6, EnsIs v4 E S4 ∧ NumsIs v5 N S5 ∧ PrsIs v6 L S6 ∧ DrIs B w0 W db P A (S4 ++ (S5 ++ (S6 ++ Y)))
section
variable {B : Nat} {w0 w w' W : World} {db q u s : Nat} {P : List (Ent × Int)} {A L : List (Int × Int)} {E : List Ent} {N : List Int} {v4 v5 v6 : Value} {Y Y' : List (Nat × Obj)} {a4 a5 a6 : Option Addr} {c4 c5 c6 : Nat} {e : Ent} {x : Int}
theorem Law20.beside (h : Law20 B w0 w db P A E N L v4 v5 v6 Y) : ∃ Z, St B w0 w (Z ++ Y) ∧ ∀ w' Y', St B w0 w' (Z ++ Y') → Law20 B w0 w' db P A E N L v4 v5 v6 Y' := by
  obtain ⟨S4, S5, S6, h4, h5, h6, hD⟩ := h
  obtain ⟨Z, z, k⟩ := hD.beside
  have e : ∀ Y : List (Nat × Obj), Z ++ (S4 ++ (S5 ++ (S6 ++ Y))) = (Z ++ (S4 ++ (S5 ++ S6))) ++ Y := fun Y => by simp
  refine ⟨Z ++ (S4 ++ (S5 ++ S6)), by rw [← e]; exact z, fun w' Y' h => ⟨S4, S5, S6, h4, h5, h6, k _ _ (by rw [e]; exact h)⟩⟩
theorem Law20.below (h : Law20 B w0 w db P A E N L v4 v5 v6 Y) : Below B w0 w := by
  obtain ⟨Z, z, -⟩ := h.beside
  exact z.below
theorem Law20.grow (h : Law20 B w0 w db P A E N L v4 v5 v6 Y) (hb : Below w.heap.size w w') : Law20 B w0 w' db P A E N L v4 v5 v6 Y := by
  obtain ⟨Z, z, k⟩ := h.beside
  exact k _ _ (z.grow hb)
theorem Law20.alloc (h : Law20 B w0 w db P A E N L v4 v5 v6 Y) (o : Obj) : Law20 B w0 (w.alloc o) db P A E N L v4 v5 v6 ((w.heap.size, o) :: Y) := by
  obtain ⟨Z, z, k⟩ := h.beside
  exact k _ _ ((z.alloc o).perm List.perm_middle.symm)
theorem Law20.sub (h : Law20 B w0 w db P A E N L v4 v5 v6 Y) (hs : Y'.Sublist Y) : Law20 B w0 w db P A E N L v4 v5 v6 Y' := by
  obtain ⟨Z, z, k⟩ := h.beside
  exact k _ _ (z.sub ((List.Sublist.refl Z).append hs))
theorem Law20.get (h : Law20 B w0 w db P A E N L v4 v5 v6 Y) {o : Obj} (hm : (q, o) ∈ Y) : w.heap[q]? = some o := by
  obtain ⟨Z, z, -⟩ := h.beside
  exact z.get (List.mem_append_right _ hm)
theorem Law20.cell (h : Law20 B w0 w db P A E N L v4 v5 v6 Y) {c : Array Value} {T : TypeId} (hm : (q, .cells c T) ∈ Y) {i : Nat} {v : Value} (hi : c[i]? = some v) : w.cell? ⟨q, i, none⟩ = some v := by
  obtain ⟨Z, z, -⟩ := h.beside
  exact z.cell (b := q) (List.mem_append_right _ hm) hi
theorem Law20.step {st : S20} (h : Law20 B w0 w db P A E N L v4 v5 v6 Y) (hm : (q, stO20 st) ∈ Y) : StB w q st.2.1 st.2.2.1 st.2.2.2 :=
  ⟨h.cell hm rfl, h.cell hm rfl, h.cell hm rfl, h.cell hm rfl, h.cell hm rfl, h.cell hm rfl, h.cell hm rfl, h.cell hm rfl, h.cell hm rfl, h.cell hm rfl, h.cell hm rfl, h.cell hm rfl⟩
/-- A call of the draft. -/
theorem Law20.call (h : Law20 B w0 w db P A E N L v4 v5 v6 Y) : ∃ F, DrIs B w0 w db P A (F ++ Y) ∧ ∀ w' P' A' Y', DrIs B w0 w' db P' A' (F ++ Y') → Law20 B w0 w' db P' A' E N L v4 v5 v6 Y' := by
  obtain ⟨S4, S5, S6, h4, h5, h6, hD⟩ := h
  have e : ∀ Y : List (Nat × Obj), S4 ++ (S5 ++ (S6 ++ Y)) = (S4 ++ (S5 ++ S6)) ++ Y := fun Y => by simp
  exact ⟨S4 ++ (S5 ++ S6), by rw [← e]; exact hD, fun w' P' A' Y' h => ⟨S4, S5, S6, h4, h5, h6, by rw [e]; exact h⟩⟩
theorem law_publish (h : Law20 B w0 w db P A E N L v4 v5 v6 Y) (hl : P.length ≤ 1000) (hf : FitT e) (n : Int) : Calls Try.prog 7 #[dptr db, enV e, .int .i64 n] w fun r w' => r = .returned (.tuple #[]) ∧ Law20 B w0 w' db (P ++ [(e, n)]) A E N L v4 v5 v6 Y := by
  obtain ⟨F, hD, k⟩ := h.call
  refine (dr_publish hD (by omega) e hf.1 hf.2 n).mono ?_
  rintro r w' ⟨rfl, h⟩
  exact ⟨rfl, k _ _ _ _ h⟩
theorem law_ack (h : Law20 B w0 w db P A E N L v4 v5 v6 Y) (hl : A.length ≤ 1000) (t n : Int) : Calls Try.prog 8 #[dptr db, .int .i64 t, .int .i64 n] w fun r w' => r = .returned (.tuple #[]) ∧ Law20 B w0 w' db P (A ++ [(t, n)]) E N L v4 v5 v6 Y := by
  obtain ⟨F, hD, k⟩ := h.call
  refine (dr_ack hD (by omega) t n).mono ?_
  rintro r w' ⟨rfl, h⟩
  exact ⟨rfl, k _ _ _ _ h⟩
theorem law_clear (h : Law20 B w0 w db P A E N L v4 v5 v6 Y) : Calls Try.prog 9 #[dptr db] w fun r w' => r = .returned (.tuple #[]) ∧ Law20 B w0 w' db [] [] [] [] [] (.slice none 0 0) (.slice none 0 0) (.slice none 0 0) Y := by
  obtain ⟨F, hD, k⟩ := h.call
  refine (dr_clear hD).mono ?_
  rintro r w' ⟨rfl, h⟩
  exact ⟨rfl, [], [], [], SlIs.nil, SlIs.nil, SlIs.nil, h.sub (List.sublist_append_right _ _)⟩
theorem law_has (h : Law20 B w0 w db P A E N L v4 v5 v6 Y) (t : Int) : Calls Try.prog 14 #[dptr db, .int .i64 t] w fun r w' => r = .returned (.bool (decide (t ∈ A.map (·.1)))) ∧ Law20 B w0 w' db P A E N L v4 v5 v6 Y := by
  obtain ⟨F, hD, k⟩ := h.call
  refine (dr_has hD t).mono ?_
  rintro r w' ⟨rfl, h⟩
  exact ⟨rfl, k _ _ _ _ h⟩
theorem law_len (h : Law20 B w0 w db P A E N L v4 v5 v6 Y) (h1 : P.length ≤ 1000) (h2 : A.length ≤ 1000) : Calls Try.prog 13 #[dptr db] w fun r w' => r = .returned (.int .i64 (P.length + A.length : Nat)) ∧ Law20 B w0 w' db P A E N L v4 v5 v6 Y := by
  obtain ⟨F, hD, k⟩ := h.call
  refine (dr_len hD (by omega) (by omega)).mono ?_
  rintro r w' ⟨rfl, h⟩
  exact ⟨rfl, k _ _ _ _ h⟩
theorem law_publishes (h : Law20 B w0 w db P A E N L v4 v5 v6 Y) (h1 : P.length ≤ 1000) : Calls Try.prog 10 #[dptr db] w fun r w' => ∃ t u, r = .returned (.tuple #[.slice (some ⟨t, 0, none⟩) P.length P.length, .slice (some ⟨u, 0, none⟩) P.length P.length]) ∧ Law20 B w0 w' db P A E N L v4 v5 v6 ((t, ensO (P.map (·.1))) :: (u, numsO (P.map (·.2))) :: Y) := by
  obtain ⟨F, hD, k⟩ := h.call
  refine (dr_publishes hD (by omega)).mono ?_
  rintro r w' ⟨t, u, rfl, h⟩
  refine ⟨t, u, rfl, k _ _ _ _ (h.permF ?_)⟩
  classical
  exact List.perm_iff_count.2 fun a => by simp only [List.count_append, List.count_cons]; omega
theorem law_acks (h : Law20 B w0 w db P A E N L v4 v5 v6 Y) (h1 : A.length ≤ 1000) : Calls Try.prog 11 #[dptr db] w fun r w' => ∃ t, r = .returned (.slice (some ⟨t, 0, none⟩) A.length A.length) ∧ Law20 B w0 w' db P A E N L v4 v5 v6 ((t, prsO A) :: Y) := by
  obtain ⟨F, hD, k⟩ := h.call
  refine (dr_acks hD (by omega)).mono ?_
  rintro r w' ⟨t, rfl, h⟩
  refine ⟨t, rfl, k _ _ _ _ (h.permF ?_)⟩
  classical
  exact List.perm_iff_count.2 fun a => by simp only [List.count_append, List.count_cons]; omega

/-! ### the law's own rows -/
abbrev lit1 (q : Nat) : Value := .slice (some ⟨q, 0, none⟩) 1 1
theorem Law20.put4 (h : Law20 B w0 w db P A E N L (.slice a4 E.length c4) v5 v6 Y) (hq : (q, enO e) ∈ Y) (hl : E.length ≤ 1000) : ∃ a' n' c' W', AppRun Try.prog 26 (.slice a4 E.length c4) (lit1 q) w (.slice a' n' c') W' ∧ n' = (E ++ [e]).length ∧ Law20 B w0 W' db P A (E ++ [e]) N L (.slice a' n' c') v5 v6 Y := by
  have hg := h.get hq
  obtain ⟨S4, S5, S6, h4, h5, h6, hD⟩ := h
  obtain ⟨Z, z, k⟩ := hD.beside
  have pm : ∀ S : List (Nat × Obj), (Z ++ (S ++ (S5 ++ (S6 ++ Y)))).Perm ((Z ++ (S5 ++ (S6 ++ Y))) ++ S) := fun S => by
    classical
    exact List.perm_iff_count.2 fun a => by simp only [List.count_append]; omega
  obtain ⟨a', c', W', S', q1, q2, q3⟩ := apE.append h4 (z.perm (pm S4)) (Reads.block (cs := ecells e) (n := 1) (size := 10) hg rfl 1) (ecells_one _) (by unfold maxLen; omega) (by omega)
  have e1 : E.length + 1 = (E ++ [e]).length := by rw [List.length_append]; rfl
  rw [e1] at q1 q2
  rw [show entsV E ++ ecells e = entsV (E ++ [e]) by simp [entsV]] at q2
  exact ⟨a', _, c', W', ⟨q1⟩, rfl, S', S5, S6, q2, h5, h6, k _ _ (q3.perm (pm S').symm)⟩
theorem Law20.put5 (h : Law20 B w0 w db P A E N L v4 (.slice a5 N.length c5) v6 Y) (hq : (q, numO x) ∈ Y) (hl : N.length ≤ 1000) : ∃ a' n' c' W', AppRun Try.prog 27 (.slice a5 N.length c5) (lit1 q) w (.slice a' n' c') W' ∧ n' = (N ++ [x]).length ∧ Law20 B w0 W' db P A E (N ++ [x]) L v4 (.slice a' n' c') v6 Y := by
  have hg := h.get hq
  obtain ⟨S4, S5, S6, h4, h5, h6, hD⟩ := h
  obtain ⟨Z, z, k⟩ := hD.beside
  have pm : ∀ S : List (Nat × Obj), (Z ++ (S4 ++ (S ++ (S6 ++ Y)))).Perm ((Z ++ (S4 ++ (S6 ++ Y))) ++ S) := fun S => by
    classical
    exact List.perm_iff_count.2 fun a => by simp only [List.count_append]; omega
  obtain ⟨a', c', W', S', q1, q2, q3⟩ := apNum.append h5 (z.perm (pm S5)) (Reads.block (cs := numsV [x]) (n := 1) (size := 1) hg rfl 1) (numsV_one _) (by unfold maxLen; omega) (by omega)
  have e1 : N.length + 1 = (N ++ [x]).length := by rw [List.length_append]; rfl
  rw [e1] at q1 q2
  rw [← numsV_app] at q2
  exact ⟨a', _, c', W', ⟨q1⟩, rfl, S4, S', S6, h4, q2, h6, k _ _ (q3.perm (pm S').symm)⟩
theorem Law20.put6 {t n : Int} (h : Law20 B w0 w db P A E N L v4 v5 (.slice a6 L.length c6) Y) (hq : (q, prO t n) ∈ Y) (hl : L.length ≤ 1000) : ∃ a' n' c' W', AppRun Try.prog 28 (.slice a6 L.length c6) (lit1 q) w (.slice a' n' c') W' ∧ n' = (L ++ [(t, n)]).length ∧ Law20 B w0 W' db P A E N (L ++ [(t, n)]) v4 v5 (.slice a' n' c') Y := by
  have hg := h.get hq
  obtain ⟨S4, S5, S6, h4, h5, h6, hD⟩ := h
  obtain ⟨Z, z, k⟩ := hD.beside
  have pm : ∀ S : List (Nat × Obj), (Z ++ (S4 ++ (S5 ++ (S ++ Y)))).Perm ((Z ++ (S4 ++ (S5 ++ Y))) ++ S) := fun S => by
    classical
    exact List.perm_iff_count.2 fun a => by simp only [List.count_append]; omega
  obtain ⟨a', c', W', S', q1, q2, q3⟩ := apPr.append h6 (z.perm (pm S6)) (Reads.block (cs := prsV [(t, n)]) (n := 1) (size := 2) hg rfl 1) (prsV_one _) (by unfold maxLen; omega) (by omega)
  have e1 : L.length + 1 = (L ++ [(t, n)]).length := by rw [List.length_append]; rfl
  rw [e1] at q1 q2
  rw [← prsV_app] at q2
  exact ⟨a', _, c', W', ⟨q1⟩, rfl, S4, S5, S', h4, h5, q2, k _ _ (q3.perm (pm S').symm)⟩

/-- Both puts, in the three orders that their literals' blocks may have. -/
structure Ord20 (B : Nat) (w0 w : World) (db : Nat) (P : List (Ent × Int)) (A L : List (Int × Int)) (E : List Ent) (N : List Int) (v4 v5 v6 : Value) (qb : Nat) (wh t x : Int) (e : Ent) (wa wb wc : World) (q r : Nat) (b4 : Option Addr) (n4 d4 : Nat) (b5 : Option Addr) (n5 d5 : Nat) (U1 U2 : World) : Prop where
  r4 : AppRun Try.prog 26 v4 (lit1 q) wa (.slice b4 n4 d4) U1
  r5 : AppRun Try.prog 27 v5 (lit1 r) wb (.slice b5 n5 d5) U2
  ka : StB wa qb t x e
  kb : StB U1 qb t x e
  kc : StB wb qb t x e
  kd : StB U2 qb t x e
  k0 : StB wc qb t x e
  l4 : n4 = (E ++ [e]).length
  l5 : n5 = (N ++ [x]).length
  fin : Law20 B w0 U2 db P A (E ++ [e]) (N ++ [x]) L (.slice b4 n4 d4) (.slice b5 n5 d5) v6 [(qb, stO20 (wh, t, x, e))]
theorem Law20.two {wh t x : Int} {e : Ent} {qb m4 m5 : Nat} (h : Law20 B w0 w db P A E N L (.slice a4 m4 c4) (.slice a5 m5 c5) v6 [(qb, stO20 (wh, t, x, e))]) (hm4 : m4 = E.length) (hm5 : m5 = N.length) (hE : E.length ≤ 1000) (hN : N.length ≤ 1000) :
    (∃ b4 n4 d4 b5 n5 d5 U1 U2, Ord20 B w0 w db P A L E N (.slice a4 m4 c4) (.slice a5 m5 c5) v6 qb wh t x e (w.alloc (enO e)) (U1.alloc (numO x)) (w.alloc (enO e)) w.heap.size U1.heap.size b4 n4 d4 b5 n5 d5 U1 U2) ∧
    (∃ b4 n4 d4 b5 n5 d5 U1 U2, Ord20 B w0 w db P A L E N (.slice a4 m4 c4) (.slice a5 m5 c5) v6 qb wh t x e ((w.alloc (enO e)).alloc (numO x)) U1 (w.alloc (enO e)) w.heap.size (w.heap.size + 1) b4 n4 d4 b5 n5 d5 U1 U2) ∧
    (∃ b4 n4 d4 b5 n5 d5 U1 U2, Ord20 B w0 w db P A L E N (.slice a4 m4 c4) (.slice a5 m5 c5) v6 qb wh t x e ((w.alloc (numO x)).alloc (enO e)) U1 (w.alloc (numO x)) (w.heap.size + 1) w.heap.size b4 n4 d4 b5 n5 d5 U1 U2) := by
  subst hm4 hm5
  refine ⟨?_, ?_, ?_⟩
  · have h1 := h.alloc (enO e)
    obtain ⟨b4, n4, d4, U1, r4, l4, h2⟩ := h1.put4 List.mem_cons_self hE
    have h3 := h2.alloc (numO x)
    obtain ⟨b5, n5, d5, U2, r5, l5, h4⟩ := h3.put5 List.mem_cons_self hN
    exact ⟨b4, n4, d4, b5, n5, d5, U1, U2, r4, r5, h1.step (st := (wh, t, x, e)) (by simp), h2.step (st := (wh, t, x, e)) (by simp), h3.step (st := (wh, t, x, e)) (by simp), h4.step (st := (wh, t, x, e)) (by simp), h1.step (st := (wh, t, x, e)) (by simp), l4, l5, h4.sub ((List.sublist_cons_self _ _).trans (List.sublist_cons_self _ _))⟩
  · have h1 := (h.alloc (enO e)).alloc (numO x)
    have h0 := h.alloc (enO e)
    rw [World.size_alloc] at h1
    obtain ⟨b4, n4, d4, U1, r4, l4, h2⟩ := h1.put4 (q := w.heap.size) (e := e) (by simp) hE
    obtain ⟨b5, n5, d5, U2, r5, l5, h4⟩ := h2.put5 (q := w.heap.size + 1) (x := x) (by simp) hN
    exact ⟨b4, n4, d4, b5, n5, d5, U1, U2, r4, r5, h1.step (st := (wh, t, x, e)) (by simp), h2.step (st := (wh, t, x, e)) (by simp), h2.step (st := (wh, t, x, e)) (by simp), h4.step (st := (wh, t, x, e)) (by simp), h0.step (st := (wh, t, x, e)) (by simp), l4, l5, h4.sub ((List.sublist_cons_self _ _).trans (List.sublist_cons_self _ _))⟩
  · have h1 := (h.alloc (numO x)).alloc (enO e)
    have h0 := h.alloc (numO x)
    rw [World.size_alloc] at h1
    obtain ⟨b4, n4, d4, U1, r4, l4, h2⟩ := h1.put4 (q := w.heap.size + 1) (e := e) (by simp) hE
    obtain ⟨b5, n5, d5, U2, r5, l5, h4⟩ := h2.put5 (q := w.heap.size) (x := x) (by simp) hN
    exact ⟨b4, n4, d4, b5, n5, d5, U1, U2, r4, r5, h1.step (st := (wh, t, x, e)) (by simp), h2.step (st := (wh, t, x, e)) (by simp), h2.step (st := (wh, t, x, e)) (by simp), h4.step (st := (wh, t, x, e)) (by simp), h0.step (st := (wh, t, x, e)) (by simp), l4, l5, h4.sub ((List.sublist_cons_self _ _).trans (List.sublist_cons_self _ _))⟩

/-! ### what is read of both -/
structure Rd20 (W : World) (u s : Nat) (a5 a6 : Option Addr) (N : List Int) (L : List (Int × Int)) : Prop where
  nums : ∀ (k : Nat) x, N[k]? = some x → W.cell? ⟨u, k, none⟩ = some (.int .i64 x) ∧ ∃ b o, a5 = some ⟨b, o, none⟩ ∧ W.cell? ⟨b, o + k, none⟩ = some (.int .i64 x)
  prs : ∀ (k : Nat) r, L[k]? = some r → (W.cell? ⟨s, k * 2, none⟩ = some (.int .i64 r.1) ∧ W.cell? ⟨s, k * 2 + 1, none⟩ = some (.int .i64 r.2)) ∧ ∃ b o, a6 = some ⟨b, o, none⟩ ∧ W.cell? ⟨b, o + k * 2, none⟩ = some (.int .i64 r.1) ∧ W.cell? ⟨b, o + k * 2 + 1, none⟩ = some (.int .i64 r.2)
theorem Law20.read {t m4 m5 : Nat} (h : Law20 B w0 w db P A E N L (.slice a4 m4 c4) (.slice a5 m5 c5) (.slice a6 L.length c6) Y) (hm4 : m4 = E.length) (hm5 : m5 = N.length) (ht : (t, ensO E) ∈ Y) (hu : (u, numsO N) ∈ Y) (hs : (s, prsO L) ∈ Y) :
    ReadEs w (some ⟨t, 0, none⟩) E ∧ ReadEs w a4 E ∧ Rd20 w u s a5 a6 N L := by
  subst hm4 hm5
  have hcu := fun (k : Nat) (x : Int) (hk : N[k]? = some x) => h.cell hu (i := k) (v := .int .i64 x) (by rw [List.getElem?_toArray]; exact numsV_at hk)
  have hcs := fun (k : Nat) (r : Int × Int) (hk : L[k]? = some r) => And.intro (h.cell hs (i := k * 2) (v := .int .i64 r.1) (by rw [List.getElem?_toArray]; exact (prsV_at hk).1)) (h.cell hs (i := k * 2 + 1) (v := .int .i64 r.2) (by rw [List.getElem?_toArray]; exact (prsV_at hk).2))
  have hct : ReadEs w (some ⟨t, 0, none⟩) E := fun i e hi => by
    obtain ⟨Z, z, -⟩ := h.beside
    have hr := z.rowAt (List.mem_append_right _ ht) hi
    exact ⟨t, 0, rfl, by rw [Nat.zero_add]; exact hr⟩
  obtain ⟨S4, S5, S6, h4, h5, h6, hD⟩ := h
  obtain ⟨Z, z, -⟩ := hD.beside
  have z4 : St B w0 w ((Z ++ (S5 ++ (S6 ++ Y))) ++ S4) := z.perm (by
    classical
    exact List.perm_iff_count.2 fun a => by simp only [List.count_append]; omega)
  have z5 : St B w0 w ((Z ++ (S4 ++ (S6 ++ Y))) ++ S5) := z.perm (by
    classical
    exact List.perm_iff_count.2 fun a => by simp only [List.count_append]; omega)
  have z6 : St B w0 w ((Z ++ (S4 ++ (S5 ++ Y))) ++ S6) := z.perm (by
    classical
    exact List.perm_iff_count.2 fun a => by simp only [List.count_append]; omega)
  refine ⟨hct, EnsIs.read h4 z4, ⟨fun k x hk => ⟨hcu k x hk, ?_⟩, fun k r hr => ⟨hcs k r hr, PrsIs.read h6 z6 k r hr⟩⟩⟩
  obtain ⟨a', c', e1, -, -, hf⟩ := SlIs.form h5
  cases e1
  obtain ⟨g, off, rfl⟩ := hf k (List.getElem?_eq_some_iff.1 hk).1
  exact ⟨g, off, rfl, SlIs.cellAt h5 z5 (numsV_at hk)⟩
end
/-- Both sides behind i steps. -/
def Pl20 (w : World) (db i : Nat) (Y : List (Nat × Obj)) (v4 v5 v6 : Value) (W : World) : Prop := ∃ P A a4 c4 a5 c5 a6 c6, v4 = .slice a4 P.length c4 ∧ v5 = .slice a5 P.length c5 ∧ v6 = .slice a6 A.length c6 ∧ P.length + A.length ≤ i ∧ Law20 w.heap.size w W db P A (P.map (·.1)) (P.map (·.2)) A v4 v5 v6 Y
end Go.Proofs.Ytbjbpoldghbokaa
