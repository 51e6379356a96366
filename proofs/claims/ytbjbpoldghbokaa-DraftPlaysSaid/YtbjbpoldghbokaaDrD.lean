/- A draft: all acks. -/
import Derived.Test.YtbjbpoldghbokaaDrC
namespace Go.Proofs.Ytbjbpoldghbokaa
open Go.RowKit
open Go.ChangeMaps (setBlock)
set_option linter.unusedVariables false
set_option linter.unusedSectionVars false
set_option linter.unusedSimpArgs false
set_option maxRecDepth 100000

/-! ### rows that are filled -/
def fillP {α : Type} (z : α) (E : List α) (i : Nat) : List α := E.take i ++ List.replicate (E.length - i) z
section
variable {α : Type} {z x : α} {E : List α} {i : Nat}
theorem fillP_zero : fillP z E 0 = List.replicate E.length z := by simp [fillP]
theorem fillP_all : fillP z E E.length = E := by simp [fillP]
theorem fillP_len (h : i ≤ E.length) : (fillP z E i).length = E.length := by
  unfold fillP
  rw [List.length_append, List.length_take, List.length_replicate]
  omega
theorem fillP_at (h : i < E.length) : (fillP z E i)[i]? = some z := by
  unfold fillP
  rw [List.getElem?_append_right (by rw [List.length_take]; omega), List.length_take, Nat.min_eq_left (by omega), Nat.sub_self, List.getElem?_replicate, if_pos (by omega)]
theorem fillP_set (h : E[i]? = some x) : (fillP z E i).set i x = fillP z E (i + 1) := by
  have hi := (List.getElem?_eq_some_iff.1 h).1
  unfold fillP
  have hl : (E.take i).length = i := by rw [List.length_take]; omega
  rw [List.set_append_right _ _ (by omega), hl, Nat.sub_self, show E.length - i = (E.length - (i + 1)) + 1 by omega, List.replicate_succ, List.set_cons_zero, List.take_add_one, h, List.append_assoc]
  rfl
end
theorem uPrs : Try.prog.underlying 28 = some (.slice 35) := by kernel_rfl
theorem infPr : (Try.prog.info? 35).map (fun i => (i.zero, i.size, i.bytes)) = some (some (.agg #[.int .i64 0, .int .i64 0]), 2, 16) := by kernel_rfl
theorem made_prs : ∀ (n : Nat), (madeCells (Value.agg #[.int .i64 0, .int .i64 0]).cells (n * 2)).toList = prsV (List.replicate n (0, 0))
  | 0 => by simp [madeCells, prsV]
  | n + 1 => by
    have ih := made_prs n
    unfold madeCells at ih ⊢
    rw [Array.toList_map, Array.toList_range] at ih ⊢
    have hz : (Value.agg #[.int .i64 0, .int .i64 0]).cells.size = 2 := rfl
    rw [show (n + 1) * 2 = n * 2 + 2 by omega, List.range_add, List.map_append, ih, List.map_map, List.replicate_succ', prsV_app]
    congr 1
    have : (fun j => (Value.agg #[.int .i64 0, .int .i64 0]).cells[j % (Value.agg #[.int .i64 0, .int .i64 0]).cells.size]!) ∘ (fun x => n * 2 + x) = fun k => (Value.agg #[.int .i64 0, .int .i64 0]).cells[k % 2]! := by
      funext k
      simp only [Function.comp_apply, hz]
      congr 1
      omega
    rw [this]
    rfl
theorem mk_prs (w : World) (n : Nat) (h1 : n ≤ 100000) :
    (Instr.makeSlice 28 (.int .i64 n) (.int .i64 n)).run Try.prog w = .ok (.slice (some ⟨w.heap.size, 0, none⟩) n n) (w.alloc (prsO (List.replicate n (0, 0)))) := by
  obtain ⟨i0, hi, hz0, hz1, hz2⟩ := info_parts infPr
  have h := run_make (P := Try.prog) w 28 35 i0 (.agg #[.int .i64 0, .int .i64 0]) uPrs hi hz0 .i64 .i64 n n (by omega) (Int.le_refl _) (by rw [hz2]; omega) (by omega)
  rw [h]
  congr 2
  unfold prsO
  congr 1
  apply Array.toList_inj.1
  rw [hz1, Int.toNat_natCast, made_prs]
abbrev prPutAt (w : World) (b o : Nat) (r : Int × Int) : World := (w.setCell ⟨b, o, none⟩ (.int .i64 r.1)).setCell ⟨b, o + 1, none⟩ (.int .i64 r.2)
theorem prs_set {L : List (Int × Int)} {i : Nat} (hi : i < L.length) (r : Int × Int) : ((prsV L).set (i * 2) (.int .i64 r.1)).set (i * 2 + 1) (.int .i64 r.2) = prsV (L.set i r) := by
  have h1 : L = L.take i ++ L[i] :: L.drop (i + 1) := by rw [← List.drop_eq_getElem_cons hi, List.take_append_drop]
  have hl : (prsV (L.take i)).length = i * 2 := by rw [prsV_len, List.length_take]; omega
  have h2 : L.set i r = L.take i ++ r :: L.drop (i + 1) := by rw [List.set_eq_take_append_cons_drop, if_pos hi]
  have h3 : prsV L = prsV (L.take i) ++ ([.int .i64 L[i].1, .int .i64 L[i].2] ++ prsV (L.drop (i + 1))) := by
    have := congrArg prsV h1
    rw [prsV_app, prsV_cons] at this
    exact this
  rw [h2, prsV_app, prsV_cons, h3, ← hl]
  have key : ∀ (A C : List Value) (k : Nat) (v : Value), (A ++ C).set (A.length + k) v = A ++ C.set k v := fun A C k v => by
    rw [List.set_append_right _ _ (Nat.le_add_right _ _), Nat.add_sub_cancel_left]
  have key0 : ∀ (A C : List Value) (v : Value), (A ++ C).set A.length v = A ++ C.set 0 v := fun A C v => key A C 0 v
  rw [key0, key]
  rfl
theorem St.prPut {B : Nat} {w0 w : World} {t : Nat} {L : List (Int × Int)} {C : List (Nat × Obj)} {i : Nat} (h : St B w0 w ((t, prsO L) :: C)) (hi : i < L.length) (r : Int × Int) : St B w0 (prPutAt w t (i * 2) r) ((t, prsO (L.set i r)) :: C) := by
  have h2 := (h.set0 (i * 2) (.int .i64 r.1)).set0 (i * 2 + 1) (.int .i64 r.2)
  simp only [List.setIfInBounds_toArray] at h2
  rw [prs_set hi r] at h2
  exact h2

section
variable {B : Nat} {w0 w w' : World} {db t : Nat} {F F' S : List (Nat × Obj)} {P : List (Ent × Int)} {A : List (Int × Int)}
/-- What a round of the walk reads. -/
theorem DrIs.acksAt (h : DrIs B w0 w db P A F) : ∃ a2 k2, w.cell? ⟨db, 1, none⟩ = some (.slice a2 A.length k2) ∧ ReadPr w a2 A := by
  obtain ⟨a1, k1, a2, k2, m, S1, S2, X, hP, hA, ht, hst⟩ := h
  refine ⟨a2, k2, hst.cell (b := db) List.mem_cons_self (i := 1) rfl, hA.read (X := (db, drO (.slice a1 P.length k1) (.slice a2 A.length k2) m) :: (S1 ++ (X ++ F))) (hst.perm ?_)⟩
  classical
  exact List.perm_iff_count.2 fun a => by simp only [List.count_append, List.count_cons]; omega
def AcksJ (B : Nat) (w0 : World) (db : Nat) (P : List (Ent × Int)) (A : List (Int × Int)) (F : List (Nat × Obj)) (t : Nat) (g : Nat) (a' : Act) (w' : World) : Prop :=
  ∃ i : Nat, i + g = A.length ∧ Fr 31 [(0, dptr db), (3, .slice (some ⟨t, 0, none⟩) A.length A.length), (4, .int .i64 i)] a' ∧ DrIs B w0 w' db P A ((t, prsO (fillP (0, 0) A i)) :: F)

set_option maxHeartbeats 2000000 in
theorem dr_acks (h : DrIs B w0 w db P A F) (hl : A.length ≤ 100000) :
    Calls Try.prog 11 #[dptr db] w fun r w' => ∃ t, r = .returned (.slice (some ⟨t, 0, none⟩) A.length A.length) ∧ DrIs B w0 w' db P A ((t, prsO A) :: F) := by
  have hmk := mk_prs w A.length hl
  have h1 := h.alloc (prsO (List.replicate A.length (0, 0)))
  rw [← fillP_zero] at h1
  replace h1 := Lib.hid h1
  obtain ⟨a2, k2, c1, -⟩ := h.acksAt
  clear h
  have hl3 : (A.length : Int) ≤ 100000 := by omega
  go_enter Try.func11, Try.ntmps11
  go_wp2_with fail
  refine wp_scope_ghost 0 (AcksJ B w0 db P A F w.heap.size) rfl ?_ ?_
  · clear h1 hmk c1
    rintro g a' wr ⟨i, hi, hfr, hR⟩
    generalize w.heap.size = t at *
    obtain ⟨fr, rfl, hl'⟩ := hfr.lit
    clear hfr
    simp only [List.mem_cons, List.not_mem_nil, or_false, forall_eq_or_imp, forall_eq] at hl'
    obtain ⟨f0, f3, f4⟩ := hl'
    simp only [List.range, List.range.loop, List.map, f0, f3, f4]
    clear f0 f3 f4
    obtain ⟨a2, k2, c1, hr⟩ := hR.acksAt
    by_cases hlt : i < A.length
    · have hx : A[i]? = some A[i] := List.getElem?_eq_getElem hlt
      generalize A[i] = x at hx
      obtain ⟨gb, off, rfl, cx, cy⟩ := hr i x hx
      obtain ⟨Z, hz, hk⟩ := hR.beside
      have hst := hz.perm List.perm_middle
      have zs := fun j => hst.soft (b := t) List.mem_cons_self j
      have z0 := hst.cell (b := t) (i := i * 2) List.mem_cons_self (by rw [List.getElem?_toArray]; exact (prsV_at (fillP_at hlt)).1)
      have z1 := hst.cell (b := t) (i := i * 2 + 1) List.mem_cons_self (by rw [List.getElem?_toArray]; exact (prsV_at (fillP_at hlt)).2)
      have fin : Hid (∀ a', Fr 31 [(0, dptr db), (3, .slice (some ⟨t, 0, none⟩) A.length A.length), (4, .int .i64 ((i : Int) + 1))] a' → ∃ m, m < g ∧ AcksJ B w0 db P A F t m a' (prPutAt wr t (i * 2) x)) := Lib.hid fun a' hf => by
        refine ⟨g - 1, by omega, i + 1, by omega, hf, ?_⟩
        have h3 := hst.prPut (i := i) (by rw [fillP_len (by omega)]; exact hlt) x
        rw [fillP_set hx] at h3
        exact hk _ _ (h3.perm List.perm_middle.symm)
      have hi0 : (0 : Int) ≤ i := by omega
      have hi1 : (i : Int) < A.length := by omega
      have hiB : ((i : Int) == A.length) = false := by rw [beq_eq_false_iff_ne]; omega
      clear hR hst hx hr hz hk hi
      generalize A.length = n at *
      go_wp2_with fail
      refine wp_goto ?_
      exact ⟨rfl, fin.out _ ⟨rfl, rfl, by simp⟩⟩
    · have hin : i = A.length := by omega
      subst hin
      rw [fillP_all] at hR
      have fin : Hid (∃ t', Ending.returned (.slice (some ⟨t, 0, none⟩) A.length A.length) = .returned (.slice (some ⟨t', 0, none⟩) A.length A.length) ∧ DrIs B w0 wr db P A ((t', prsO A) :: F)) := Lib.hid ⟨t, rfl, hR⟩
      clear hR hi hr
      go_wp2_with fail
      simp only [Exit.jump]
      go_ret
      exact fin.out
  · intro HJ
    go_wp2_with fail
    refine wp_label ?_
    go_step
    go_step
    exact HJ A.length _ _ ⟨0, by omega, ⟨rfl, rfl, by simp⟩, h1.out⟩
end
end Go.Proofs.Ytbjbpoldghbokaa
