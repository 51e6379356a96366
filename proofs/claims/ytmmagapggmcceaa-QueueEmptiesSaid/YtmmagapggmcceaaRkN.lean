/- All entries of a rack, in order. -/
import Derived.Test.YtmmagapggmcceaaRkM
namespace Go.Proofs.Ytmmagapggmcceaa
open Go.RowKit
open Go.ChangeMaps (setBlock)
set_option linter.unusedVariables false
set_option linter.unusedSectionVars false
set_option linter.unusedSimpArgs false
set_option maxRecDepth 100000

abbrev ensO (L : List Ent) : Obj := .cells (entsV L).toArray 32
theorem uEnts : Try.prog.underlying 28 = some (.slice 32) := by kernel_rfl
theorem infEnt : (Try.prog.info? 32).map (fun i => (i.zero, i.size, i.bytes)) = some (some (enV z0E), 10, 96) := by kernel_rfl
theorem made_ents : ∀ (n : Nat), (madeCells (enV z0E).cells (n * 10)).toList = entsV (List.replicate n z0E)
  | 0 => by simp [madeCells, entsV]
  | n + 1 => by
    have ih := made_ents n
    unfold madeCells at ih ⊢
    rw [Array.toList_map, Array.toList_range] at ih ⊢
    have hz : (enV z0E).cells.size = 10 := rfl
    rw [show (n + 1) * 10 = n * 10 + 10 by omega, List.range_add, List.map_append, ih, List.map_map, List.replicate_succ', entsV_app]
    congr 1
    have : (fun j => (enV z0E).cells[j % (enV z0E).cells.size]!) ∘ (fun x => n * 10 + x) = fun k => (enV z0E).cells[k % 10]! := by
      funext k
      simp only [Function.comp_apply, hz]
      congr 1
      omega
    rw [this]
    rfl
theorem mk_ents (w : World) (n : Nat) (h1 : n ≤ 100000) :
    (Instr.makeSlice 28 (.int .i64 n) (.int .i64 n)).run Try.prog w = .ok (.slice (some ⟨w.heap.size, 0, none⟩) n n) (w.alloc (ensO (List.replicate n z0E))) := by
  obtain ⟨i0, hi, hz0, hz1, hz2⟩ := info_parts infEnt
  have h := run_make (P := Try.prog) w 28 32 i0 (enV z0E) uEnts hi hz0 .i64 .i64 n n (by omega) (Int.le_refl _) (by rw [hz2]; omega) (by omega)
  rw [h]
  congr 2
  unfold ensO
  congr 1
  apply Array.toList_inj.1
  rw [hz1, Int.toNat_natCast, made_ents]

/-- An entry stored into a row. -/
abbrev enPutAt (w : World) (b o : Nat) (e : Ent) : World := (((((((((w.setCell ⟨b, o, none⟩ (.int .i64 e.id)).setCell ⟨b, o + 1, none⟩ (.int .i64 e.body)).setCell ⟨b, o + 2, none⟩ (.int .i64 e.size)).setCell ⟨b, o + 3, none⟩ (tx e.exch)).setCell ⟨b, o + 4, none⟩ (tx e.key)).setCell ⟨b, o + 5, none⟩ (.int .i64 e.prio)).setCell ⟨b, o + 6, none⟩ (.int .i64 e.ttl)).setCell ⟨b, o + 7, none⟩ (.int .i64 e.til)).setCell ⟨b, o + 8, none⟩ (.bool e.again)).setCell ⟨b, o + 9, none⟩ (.int .i64 e.hops)
theorem ents_set {L : List Ent} {i : Nat} (hi : i < L.length) (e : Ent) :
    ((((((((((entsV L).set (i * 10) (.int .i64 e.id)).set (i * 10 + 1) (.int .i64 e.body)).set (i * 10 + 2) (.int .i64 e.size)).set (i * 10 + 3) (tx e.exch)).set (i * 10 + 4) (tx e.key)).set (i * 10 + 5) (.int .i64 e.prio)).set (i * 10 + 6) (.int .i64 e.ttl)).set (i * 10 + 7) (.int .i64 e.til)).set (i * 10 + 8) (.bool e.again)).set (i * 10 + 9) (.int .i64 e.hops) = entsV (L.set i e) := by
  have h1 : L = L.take i ++ L[i] :: L.drop (i + 1) := by rw [← List.drop_eq_getElem_cons hi, List.take_append_drop]
  have hl : (entsV (L.take i)).length = i * 10 := by rw [entsV_len, List.length_take]; omega
  have h2 : L.set i e = L.take i ++ e :: L.drop (i + 1) := by rw [List.set_eq_take_append_cons_drop, if_pos hi]
  have h3 : entsV L = entsV (L.take i) ++ (ecells L[i] ++ entsV (L.drop (i + 1))) := by
    have := congrArg entsV h1
    rw [entsV_app, entsV_cons] at this
    exact this
  rw [h2, entsV_app, entsV_cons, h3, ← hl]
  have key : ∀ (A C : List Value) (k : Nat) (v : Value), (A ++ C).set (A.length + k) v = A ++ C.set k v := fun A C k v => by
    rw [List.set_append_right _ _ (Nat.le_add_right _ _), Nat.add_sub_cancel_left]
  have key0 : ∀ (A C : List Value) (v : Value), (A ++ C).set A.length v = A ++ C.set 0 v := fun A C v => key A C 0 v
  rw [key0, key, key, key, key, key, key, key, key, key]
  rfl
theorem St.rowPut {B : Nat} {w0 w : World} {t : Nat} {L : List Ent} {C : List (Nat × Obj)} {i : Nat} (h : St B w0 w ((t, ensO L) :: C)) (hi : i < L.length) (e : Ent) : St B w0 (enPutAt w t (i * 10) e) ((t, ensO (L.set i e)) :: C) := by
  have h10 := (((((((((h.set0 (i * 10) (.int .i64 e.id)).set0 (i * 10 + 1) (.int .i64 e.body)).set0 (i * 10 + 2) (.int .i64 e.size)).set0 (i * 10 + 3) (tx e.exch)).set0 (i * 10 + 4) (tx e.key)).set0 (i * 10 + 5) (.int .i64 e.prio)).set0 (i * 10 + 6) (.int .i64 e.ttl)).set0 (i * 10 + 7) (.int .i64 e.til)).set0 (i * 10 + 8) (.bool e.again)).set0 (i * 10 + 9) (.int .i64 e.hops)
  simp only [List.setIfInBounds_toArray] at h10
  rw [ents_set hi e] at h10
  exact h10
theorem St.rowAt {B : Nat} {w0 w : World} {t : Nat} {L : List Ent} {H : List (Nat × Obj)} {i : Nat} {e : Ent} (h : St B w0 w H) (hm : (t, ensO L) ∈ H) (hi : L[i]? = some e) : EnRow w t (i * 10) e := by
  have key : ∀ {k : Nat} {v : Value}, (ecells e)[k]? = some v → w.cell? ⟨t, i * 10 + k, none⟩ = some v := fun hk => h.cell hm (by rw [List.getElem?_toArray]; exact entsV_at hi hk)
  exact ⟨key (k := 0) rfl, key (k := 1) rfl, key (k := 2) rfl, key (k := 3) rfl, key (k := 4) rfl, key (k := 5) rfl, key (k := 6) rfl, key (k := 7) rfl, key (k := 8) rfl, key (k := 9) rfl⟩

section
variable {B : Nat} {w0 w : World} {rk q rb i k : Nat} {rbs : List Nat} {R : List (List Int)} {H M : List Ent} {F A : List (Nat × Obj)} {e e0 : Ent} {E : List Ent}
def fillE (E : List Ent) (i : Nat) : List Ent := E.take i ++ List.replicate (E.length - i) z0E
theorem fill_zero (E : List Ent) : fillE E 0 = List.replicate E.length z0E := by simp [fillE]
theorem fill_all (E : List Ent) : fillE E E.length = E := by simp [fillE]
theorem fill_len {E : List Ent} {i : Nat} (h : i ≤ E.length) : (fillE E i).length = E.length := by
  unfold fillE
  rw [List.length_append, List.length_take, List.length_replicate]
  omega
theorem fill_at {E : List Ent} {i : Nat} (h : i < E.length) : (fillE E i)[i]? = some z0E := by
  unfold fillE
  rw [List.getElem?_append_right (by rw [List.length_take]; omega), List.length_take, Nat.min_eq_left (by omega), Nat.sub_self, List.getElem?_replicate, if_pos (by omega)]
theorem fill_set {E : List Ent} {i : Nat} {x : Ent} (h : E[i]? = some x) : (fillE E i).set i x = fillE E (i + 1) := by
  have hi := (List.getElem?_eq_some_iff.1 h).1
  unfold fillE
  have hl : (E.take i).length = i := by rw [List.length_take]; omega
  rw [List.set_append_right _ _ (by omega), hl, Nat.sub_self, show E.length - i = (E.length - (i + 1)) + 1 by omega, List.replicate_succ, List.set_cons_zero, List.take_add_one, h, List.append_assoc]
  rfl
/-- A slice of ints reads as these. -/
def FillJ (B : Nat) (w0 : World) (rk q : Nat) (rbs : List Nat) (R : List (List Int)) (H : List Ent) (F : List (Nat × Obj)) (t : Nat) (ids : Value) (E : List Ent) (g : Nat) (a' : Act) (w' : World) : Prop :=
  ∃ i : Nat, i + g = E.length ∧ Fr 29 [(0, rptr rk), (1, ids), (5, .slice (some ⟨t, 0, none⟩) E.length E.length), (6, .int .i64 i)] a' ∧ RkAt B w0 w' rk q rbs R H ((t, ensO (fillE E i)) :: F)

set_option maxHeartbeats 2000000 in
theorem entries_any (h : RkAt B w0 w rk q rbs R H (A ++ F)) {v : Value} (hs : SlIs 3 1 v E.length (ints (E.map (·.id))) A) (hE : ∀ x ∈ E, x ∈ H) (hl : E.length ≤ 100000) :
    Calls Try.prog 42 #[rptr rk, v] w fun r w' => ∃ t, r = .returned (.slice (some ⟨t, 0, none⟩) E.length E.length) ∧ RkAt B w0 w' rk q rbs R H ((t, ensO E) :: F) := by
  obtain ⟨a, c, rfl, -, -, hfa⟩ := hs.form
  have hmk := mk_ents w E.length hl
  have h1 := h.alloc (ensO (List.replicate E.length z0E))
  rw [← fill_zero] at h1
  replace h1 := Lib.hid h1
  replace hE := Lib.hid hE
  have hIds : Hid (∀ (w' : World) (X : List (Nat × Obj)), RkAt B w0 w' rk q rbs R H (X ++ (A ++ F)) → ∀ j (x : Ent), E[j]? = some x → ∃ g off, a = some ⟨g, off, none⟩ ∧ w'.cell? ⟨g, off + j, none⟩ = some (.int .i64 x.id)) := Lib.hid fun w' X h j x hj => by
    obtain ⟨S, hst, -⟩ := h.beside
    obtain ⟨g, off, rfl⟩ := hfa j (List.getElem?_eq_some_iff.1 hj).1
    refine ⟨g, off, rfl, hs.cellAt (A := S ++ X ++ F) (hst.perm ?_) (by simp [ints, hj])⟩
    classical
    exact List.perm_iff_count.2 fun a => by simp only [List.count_append]; omega
  clear h hs hfa
  obtain ⟨n, hn⟩ : ∃ n, n = E.length := ⟨_, rfl⟩
  go_enter Try.func42, Try.ntmps42
  go_wp2_with fail
  refine wp_scope_ghost 0 (FillJ B w0 rk q rbs R H (A ++ F) w.heap.size (.slice a E.length c) E) rfl ?_ ?_
  · clear h1 hmk
    rintro g a' wr ⟨i, hi, hfr, hR⟩
    generalize w.heap.size = t at *
    obtain ⟨fr, rfl, hl'⟩ := hfr.lit
    clear hfr
    simp only [List.mem_cons, List.not_mem_nil, or_false, forall_eq_or_imp, forall_eq] at hl'
    obtain ⟨f0, f1, f5, f6⟩ := hl'
    simp only [List.range, List.range.loop, List.map, f0, f1, f5, f6]
    clear f0 f1 f5 f6
    by_cases hlt : i < E.length
    · have hx : E[i]? = some E[i] := List.getElem?_eq_getElem hlt
      generalize E[i] = x at hx
      obtain ⟨gb, off, rfl, cx⟩ := hIds.out wr [(t, ensO (fillE E i))] hR i x hx
      obtain ⟨mb, hlk, hlook⟩ := hR.look
      have hit := (hlook _ (drew_b wr)).hit x (hE.out x (List.mem_of_getElem? hx)) false
      rw [if_neg (by decide)] at hit
      have c1 := hlk.c1
      obtain ⟨S, hst, -⟩ := hR.beside
      have hmem : (t, ensO (fillE E i)) ∈ S ++ (t, ensO (fillE E i)) :: (A ++ F) := List.mem_append_right _ List.mem_cons_self
      obtain ⟨z0, z1, z2, z3, z4, z5, z6, z7, z8, z9⟩ := hst.rowAt hmem (fill_at hlt)
      have zs := fun j => hst.soft (b := t) hmem j
      have fin : Hid (∀ a', Fr 29 [(0, rptr rk), (1, .slice (some ⟨gb, off, none⟩) E.length c), (5, .slice (some ⟨t, 0, none⟩) E.length E.length), (6, .int .i64 ((i : Int) + 1))] a' → ∃ m, m < g ∧ FillJ B w0 rk q rbs R H (A ++ F) t (.slice (some ⟨gb, off, none⟩) E.length c) E m a' (enPutAt wr t (i * 10) x).drew) := Lib.hid fun a' hf => by
        refine ⟨g - 1, by omega, i + 1, by omega, hf, ?_⟩
        obtain ⟨S, h1, h2⟩ := hR.beside
        have h3 := (h1.perm List.perm_middle).rowPut (i := i) (by rw [fill_len (by omega)]; exact hlt) x
        rw [fill_set hx] at h3
        exact (h2 _ _ (h3.perm List.perm_middle.symm)).grow (drew_b _)
      have hi0 : (0 : Int) ≤ i := by omega
      have hi1 : (i : Int) < E.length := by omega
      have hiB : ((i : Int) == E.length) = false := by rw [beq_eq_false_iff_ne]; omega
      have hl3 : (E.length : Int) ≤ 100000 := by omega
      clear hR hst hx hIds hlk hlook hE hmem hi
      generalize E.length = n at *
      go_wp2_with fail
      go_still_tail 12, (by kernel_rfl)
      change wpList _ _ _ _ _ wr.drew
      go_wp2_with fail
      refine wp_goto ?_
      exact ⟨rfl, fin.out _ ⟨rfl, rfl, by simp⟩⟩
    · have hin : i = E.length := by omega
      subst hin
      rw [fill_all] at hR
      have fin : Hid (∃ t', Ending.returned (.slice (some ⟨t, 0, none⟩) E.length E.length) = .returned (.slice (some ⟨t', 0, none⟩) E.length E.length) ∧ RkAt B w0 wr rk q rbs R H ((t', ensO E) :: F)) := Lib.hid ⟨t, rfl, hR.sub ((List.sublist_append_right _ _).cons_cons _)⟩
      clear hR hIds hE hi
      go_wp2_with fail
      simp only [Exit.jump]
      go_ret
      exact fin.out
  · intro HJ
    go_wp2_with fail
    refine wp_label ?_
    go_step
    go_step
    exact HJ E.length _ _ ⟨0, by omega, ⟨rfl, rfl, by simp⟩, h1.out⟩
end
end Go.Proofs.Ytmmagapggmcceaa
