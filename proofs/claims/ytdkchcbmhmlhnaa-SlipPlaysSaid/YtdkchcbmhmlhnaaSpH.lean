/- Slips: a row of tags that are all there. -/
import Derived.Test.YtdkchcbmhmlhnaaSpC
namespace Go.Proofs.Ytdkchcbmhmlhnaa
open Go.RowKit
set_option linter.unusedVariables false
set_option linter.unusedSectionVars false
set_option linter.unusedSimpArgs false
set_option maxRecDepth 100000

abbrev slsO (L : List Slp) : Obj := .cells (slsV L).toArray 33
theorem uSlips : Try.prog.underlying 27 = some (.slice 33) := by kernel_rfl
theorem infSlip : (Try.prog.info? 33).map (fun i => (i.zero, i.size, i.bytes)) = some (some (slV z0L), 13, 128) := by kernel_rfl
theorem made_sls : ∀ (n : Nat), (madeCells (slV z0L).cells (n * 13)).toList = slsV (List.replicate n z0L)
  | 0 => by simp [madeCells, slsV]
  | n + 1 => by
    have ih := made_sls n
    unfold madeCells at ih ⊢
    rw [Array.toList_map, Array.toList_range] at ih ⊢
    have hz : (slV z0L).cells.size = 13 := rfl
    rw [show (n + 1) * 13 = n * 13 + 13 by omega, List.range_add, List.map_append, ih, List.map_map, List.replicate_succ', slsV_app]
    congr 1
    have : (fun j => (slV z0L).cells[j % (slV z0L).cells.size]!) ∘ (fun x => n * 13 + x) = fun k => (slV z0L).cells[k % 13]! := by
      funext k
      simp only [Function.comp_apply, hz]
      congr 1
      omega
    rw [this]
    rfl
theorem mk_sls (w : World) (n : Nat) (h1 : n ≤ 1000000) :
    (Instr.makeSlice 27 (.int .i64 n) (.int .i64 n)).run Try.prog w = .ok (.slice (some ⟨w.heap.size, 0, none⟩) n n) (w.alloc (slsO (List.replicate n z0L))) := by
  obtain ⟨i0, hi, hz0, hz1, hz2⟩ := info_parts infSlip
  have h := run_make (P := Try.prog) w 27 33 i0 (slV z0L) uSlips hi hz0 .i64 .i64 n n (by omega) (Int.le_refl _) (by rw [hz2]; omega) (by omega)
  rw [h]
  congr 2
  unfold slsO
  congr 1
  apply Array.toList_inj.1
  rw [hz1, Int.toNat_natCast, made_sls]

/-- A slip stored into a row. -/
abbrev slPutAt (w : World) (b o : Nat) (x : Slp) : World := ((((((((((((w.setCell ⟨b, o, none⟩ (.int .i64 x.tag)).setCell ⟨b, o + 1, none⟩ (.int .i64 x.queue)).setCell ⟨b, o + 2, none⟩ (tx x.cons)).setCell ⟨b, o + 3, none⟩ (.int .i64 x.id)).setCell ⟨b, o + 4, none⟩ (.int .i64 x.body)).setCell ⟨b, o + 5, none⟩ (.int .i64 x.size)).setCell ⟨b, o + 6, none⟩ (tx x.exch)).setCell ⟨b, o + 7, none⟩ (tx x.key)).setCell ⟨b, o + 8, none⟩ (.int .i64 x.prio)).setCell ⟨b, o + 9, none⟩ (.int .i64 x.ttl)).setCell ⟨b, o + 10, none⟩ (.int .i64 x.til)).setCell ⟨b, o + 11, none⟩ (.bool x.again)).setCell ⟨b, o + 12, none⟩ (.int .i64 x.hops)
theorem sls_set {L : List Slp} {i : Nat} (hi : i < L.length) (x : Slp) : (((((((((((((slsV L).set (i * 13) (.int .i64 x.tag)).set (i * 13 + 1) (.int .i64 x.queue)).set (i * 13 + 2) (tx x.cons)).set (i * 13 + 3) (.int .i64 x.id)).set (i * 13 + 4) (.int .i64 x.body)).set (i * 13 + 5) (.int .i64 x.size)).set (i * 13 + 6) (tx x.exch)).set (i * 13 + 7) (tx x.key)).set (i * 13 + 8) (.int .i64 x.prio)).set (i * 13 + 9) (.int .i64 x.ttl)).set (i * 13 + 10) (.int .i64 x.til)).set (i * 13 + 11) (.bool x.again)).set (i * 13 + 12) (.int .i64 x.hops) = slsV (L.set i x) := by
  have h1 : L = L.take i ++ L[i] :: L.drop (i + 1) := by rw [← List.drop_eq_getElem_cons hi, List.take_append_drop]
  have hl : (slsV (L.take i)).length = i * 13 := by rw [slsV_len, List.length_take]; omega
  have h2 : L.set i x = L.take i ++ x :: L.drop (i + 1) := by rw [List.set_eq_take_append_cons_drop, if_pos hi]
  have h3 : slsV L = slsV (L.take i) ++ (scells L[i] ++ slsV (L.drop (i + 1))) := by
    have := congrArg slsV h1
    rw [slsV_app, slsV_cons] at this
    exact this
  rw [h2, slsV_app, slsV_cons, h3, ← hl]
  have key : ∀ (A C : List Value) (k : Nat) (v : Value), (A ++ C).set (A.length + k) v = A ++ C.set k v := fun A C k v => by
    rw [List.set_append_right _ _ (Nat.le_add_right _ _), Nat.add_sub_cancel_left]
  have key0 : ∀ (A C : List Value) (v : Value), (A ++ C).set A.length v = A ++ C.set 0 v := fun A C v => key A C 0 v
  rw [key0, key, key, key, key, key, key, key, key, key, key, key, key]
  rfl
theorem St.slRowPut {B : Nat} {w0 w : World} {t : Nat} {L : List Slp} {C : List (Nat × Obj)} {i : Nat} (h : St B w0 w ((t, slsO L) :: C)) (hi : i < L.length) (x : Slp) : St B w0 (slPutAt w t (i * 13) x) ((t, slsO (L.set i x)) :: C) := by
  have h10 := ((((((((((((h.set0 (i * 13) (.int .i64 x.tag)).set0 (i * 13 + 1) (.int .i64 x.queue)).set0 (i * 13 + 2) (tx x.cons)).set0 (i * 13 + 3) (.int .i64 x.id)).set0 (i * 13 + 4) (.int .i64 x.body)).set0 (i * 13 + 5) (.int .i64 x.size)).set0 (i * 13 + 6) (tx x.exch)).set0 (i * 13 + 7) (tx x.key)).set0 (i * 13 + 8) (.int .i64 x.prio)).set0 (i * 13 + 9) (.int .i64 x.ttl)).set0 (i * 13 + 10) (.int .i64 x.til)).set0 (i * 13 + 11) (.bool x.again)).set0 (i * 13 + 12) (.int .i64 x.hops)
  simp only [List.setIfInBounds_toArray] at h10
  rw [sls_set hi x] at h10
  exact h10
theorem St.slRowAt {B : Nat} {w0 w : World} {t : Nat} {L : List Slp} {H : List (Nat × Obj)} {i : Nat} {e : Slp} (h : St B w0 w H) (hm : (t, slsO L) ∈ H) (hi : L[i]? = some e) : SlRow w t (i * 13) e := by
  have key : ∀ {k : Nat} {v : Value}, (scells e)[k]? = some v → w.cell? ⟨t, i * 13 + k, none⟩ = some v := fun hk => h.cell hm (by rw [List.getElem?_toArray]; exact slsV_at hi hk)
  exact ⟨key (k := 0) rfl, key (k := 1) rfl, key (k := 2) rfl, key (k := 3) rfl, key (k := 4) rfl, key (k := 5) rfl, key (k := 6) rfl, key (k := 7) rfl, key (k := 8) rfl, key (k := 9) rfl, key (k := 10) rfl, key (k := 11) rfl, key (k := 12) rfl⟩

section
variable {B : Nat} {w0 w : World} {sb rb i k : Nat} {l : List Row} {M : List Slp} {F A : List (Nat × Obj)} {E : List Slp} {frm to_ : Int}
def fillS (E : List Slp) (i : Nat) : List Slp := E.take i ++ List.replicate (E.length - i) z0L
theorem fillS_zero (E : List Slp) : fillS E 0 = List.replicate E.length z0L := by simp [fillS]
theorem fillS_all (E : List Slp) : fillS E E.length = E := by simp [fillS]
theorem fillS_len {E : List Slp} {i : Nat} (h : i ≤ E.length) : (fillS E i).length = E.length := by
  unfold fillS
  rw [List.length_append, List.length_take, List.length_replicate]
  omega
theorem fillS_at {E : List Slp} {i : Nat} (h : i < E.length) : (fillS E i)[i]? = some z0L := by
  unfold fillS
  rw [List.getElem?_append_right (by rw [List.length_take]; omega), List.length_take, Nat.min_eq_left (by omega), Nat.sub_self, List.getElem?_replicate, if_pos (by omega)]
theorem fillS_set {E : List Slp} {i : Nat} {x : Slp} (h : E[i]? = some x) : (fillS E i).set i x = fillS E (i + 1) := by
  have hi := (List.getElem?_eq_some_iff.1 h).1
  unfold fillS
  have hl : (E.take i).length = i := by rw [List.length_take]; omega
  rw [List.set_append_right _ _ (by omega), hl, Nat.sub_self, show E.length - i = (E.length - (i + 1)) + 1 by omega, List.replicate_succ, List.set_cons_zero, List.take_add_one, h, List.append_assoc]
  rfl
def FillR (B : Nat) (w0 : World) (sb : Nat) (l : List Row) (M : List Slp) (F : List (Nat × Obj)) (t : Nat) (frm to_ : Int) (E : List Slp) (g : Nat) (a' : Act) (w' : World) : Prop :=
  ∃ i : Nat, i + g = E.length ∧ Fr 32 [(0, gptr sb), (1, .int .i64 frm), (2, .int .i64 to_), (7, .slice (some ⟨t, 0, none⟩) E.length E.length), (8, .int .i64 i)] a' ∧ MidIs B w0 w' sb l M ((t, slsO (fillS E i)) :: F)

set_option maxHeartbeats 2000000 in
theorem row_any (h : MidIs B w0 w sb l M F) (hE : ∀ (j : Nat) (x : Slp), E[j]? = some x → x ∈ M ∧ x.tag = frm + j) (hn : to_ - frm + 1 = E.length) (hl : E.length ≤ 1000000) (h0 : 1 ≤ frm ∧ frm ≤ 1000001) :
    Calls Try.prog 35 #[gptr sb, .int .i64 frm, .int .i64 to_] w fun r w' => ∃ t, r = .returned (.slice (some ⟨t, 0, none⟩) E.length E.length) ∧ MidIs B w0 w' sb l M ((t, slsO E) :: F) := by
  have hM := h.ok
  have hmk := mk_sls w E.length hl
  have h1 := h.alloc (slsO (List.replicate E.length z0L))
  rw [← fillS_zero] at h1
  replace h1 := Lib.hid h1
  replace hE := Lib.hid hE
  replace hM := Lib.hid hM
  clear h
  obtain ⟨h0, h02⟩ := h0
  have hq0 : 0 ≤ to_ - frm + 1 := by omega
  have hq1 : to_ ≤ 2000000 := by omega
  have hq2 : frm ≤ to_ + 1 := by omega
  go_enter Try.func35, Try.ntmps35
  go_wp2_with fail
  refine wp_scope_ghost 0 (FillR B w0 sb l M F w.heap.size frm to_ E) rfl ?_ ?_
  · clear h1 hmk
    rintro g a' wr ⟨i, hi, hfr, hR⟩
    generalize w.heap.size = t at *
    obtain ⟨fr, rfl, hl'⟩ := hfr.lit
    clear hfr
    simp only [List.mem_cons, List.not_mem_nil, or_false, forall_eq_or_imp, forall_eq] at hl'
    obtain ⟨f0, f1, f2, f7, f8⟩ := hl'
    simp only [List.range, List.range.loop, List.map, f0, f1, f2, f7, f8]
    clear f0 f1 f2 f7 f8
    by_cases hlt : i < E.length
    · have hx : E[i]? = some E[i] := List.getElem?_eq_getElem hlt
      generalize E[i] = x at hx
      obtain ⟨hxm, hxt⟩ := hE.out i x hx
      obtain ⟨hm, nm, hlook⟩ := hR.look
      obtain ⟨c1, -, hh, -, -⟩ := hlook wr (Below.refl _ _)
      have hit := hh x.tag false
      rw [if_neg (by decide), getS_some hM.out hxm, hxt] at hit
      have hit2 : (Instr.lookup 52 (.map hm) (.int .i64 (frm + (i : Int))) false).run Try.prog wr = .ok (slV x) wr := hit
      obtain ⟨S, hst, -⟩ := hR.beside
      have hmem : (t, slsO (fillS E i)) ∈ S ++ (t, slsO (fillS E i)) :: F := List.mem_append_right _ List.mem_cons_self
      obtain ⟨z0, z1, z2, z3, z4, z5, z6, z7, z8, z9, z10, z11, z12⟩ := hst.slRowAt hmem (fillS_at hlt)
      have zs := fun j => hst.soft (b := t) hmem j
      have fin : Hid (∀ a', Fr 32 [(0, gptr sb), (1, .int .i64 frm), (2, .int .i64 to_), (7, .slice (some ⟨t, 0, none⟩) E.length E.length), (8, .int .i64 ((i : Int) + 1))] a' → ∃ m, m < g ∧ FillR B w0 sb l M F t frm to_ E m a' (slPutAt wr t (i * 13) x)) := Lib.hid fun a' hf => by
        refine ⟨g - 1, by omega, i + 1, by omega, hf, ?_⟩
        obtain ⟨S, h1, h2⟩ := hR.beside
        have h3 := (h1.perm List.perm_middle).slRowPut (i := i) (by rw [fillS_len (by omega)]; exact hlt) x
        rw [fillS_set hx] at h3
        exact h2 _ _ (h3.perm List.perm_middle.symm)
      have hi0 : (0 : Int) ≤ i := by omega
      have hi1 : (i : Int) < E.length := by omega
      have hiB : ((i : Int) == E.length) = false := by rw [beq_eq_false_iff_ne]; omega
      have hl3 : (E.length : Int) ≤ 1000000 := by omega
      clear hR hst hx hlook hh hit hE hmem hi hxt hxm hM
      generalize E.length = n at *
      go_wp2_with fail
      refine wp_goto ?_
      exact ⟨rfl, fin.out _ ⟨rfl, rfl, by simp⟩⟩
    · have hin : i = E.length := by omega
      subst hin
      rw [fillS_all] at hR
      have fin : Hid (∃ t', Ending.returned (.slice (some ⟨t, 0, none⟩) E.length E.length) = .returned (.slice (some ⟨t', 0, none⟩) E.length E.length) ∧ MidIs B w0 wr sb l M ((t', slsO E) :: F)) := Lib.hid ⟨t, rfl, hR⟩
      clear hR hE hi
      go_wp2_with fail
      simp only [Exit.jump]
      go_ret
      exact fin.out
  · intro HJ
    go_wp2_with fail
    refine wp_label ?_
    go_step
    go_step
    exact HJ E.length _ _ ⟨0, by omega, ⟨rfl, rfl, by simp⟩, h1.out⟩
end
end Go.Proofs.Ytdkchcbmhmlhnaa
