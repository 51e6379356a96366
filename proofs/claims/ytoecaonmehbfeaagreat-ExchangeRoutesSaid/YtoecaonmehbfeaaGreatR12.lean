/- Keys: which bindings match, Exchanges: unkey, leave, Words, the document's, Match, the document's: by a table, Names, keys; SameTexts. -/
import Derived.Test.YtoecaonmehbfeaaGreatR11
import Derived.Test.YtoecaonmehbfeaaGreatR05
import Derived.Deep.LoopGhost
import Derived.RegionTactic
import Derived.Test.YtoecaonmehbfeaaGreatR09
/- Keys: which bindings match. -/
namespace Go.Proofs.YtoecaonmehbfeaaGreat
open Go.RowKit
set_option linter.unusedVariables false
set_option maxRecDepth 100000

theorem take_zip' (rows : List Bnd) (ids : List Int) (i : Nat) : (rows.zip ids).take i = (rows.take i).zip (ids.take i) := List.take_zipWith
theorem drop_zip' (rows : List Bnd) (ids : List Int) (i : Nat) : (rows.zip ids).drop i = (rows.drop i).zip (ids.drop i) := List.drop_zipWith
def hitL (g : Bnd → Bool) (zs : List (Bnd × Int)) (i : Nat) : List Int := ((zs.take i).filter fun x => g x.1).map (·.2)
theorem hit_all (g : Bnd → Bool) (zs : List (Bnd × Int)) (i : Nat) : hitL g zs zs.length = hitL g zs i ++ ((zs.drop i).filter fun x => g x.1).map (·.2) := by
  unfold hitL
  rw [List.take_of_length_le (Nat.le_refl _), ← List.map_append, ← List.filter_append, List.take_append_drop]
theorem hit_step {g : Bnd → Bool} {zs : List (Bnd × Int)} {i : Nat} {x : Bnd × Int} (hx : zs[i]? = some x) : hitL g zs (i + 1) = hitL g zs i ++ if g x.1 then [x.2] else [] := by
  unfold hitL
  rw [take_step hx, List.map_append]
  congr 1
  split <;> rfl
theorem hit_is {g : Bnd → Bool} {zs : List (Bnd × Int)} {i : Nat} {x : Bnd × Int} {y : Int} (hn : (zs.map (·.2)).Nodup) (hx : zs[i]? = some x) (hy : (hitL g zs zs.length)[(hitL g zs i).length]? = some y) : (x.2 == y) = g x.1 := by
  obtain ⟨-, h2⟩ := nodup_ids hn hx
  rw [hit_all g zs i, List.getElem?_append_right (Nat.le_refl _), Nat.sub_self, split_at hx, List.filter_cons] at hy
  split at hy
  · rename_i hg
    rw [List.map_cons, List.getElem?_cons_zero, Option.some.injEq] at hy
    rw [hg, hy, beq_self_eq_true]
  · rename_i hg
    have hm := List.mem_of_getElem? hy
    obtain ⟨z, hz, rfl⟩ := List.mem_map.1 hm
    have hne : x.2 ≠ z.2 := fun e => h2 (e ▸ List.mem_map_of_mem (List.mem_filter.1 hz).1)
    rw [beq_eq_false_iff_ne.2 hne]
    simpa using hg
theorem hit_end {g : Bnd → Bool} {rows : List Bnd} {ids : List Int} {i : Nat} (hl : rows.length = ids.length) (h : (hitL g (rows.zip ids) (rows.zip ids).length).length ≤ (hitL g (rows.zip ids) i).length) : (rows.take i).filter g = rows.filter g := by
  rw [hit_all g (rows.zip ids) i, List.length_append, List.length_map] at h
  have h0 : ((rows.zip ids).drop i).filter (fun x => g x.1) = [] := List.eq_nil_of_length_eq_zero (by omega)
  have e : ((rows.drop i).zip (ids.drop i)).filter (fun x => g x.1) = [] := by rw [← drop_zip']; exact h0
  have e2 := zip_filter (rows := rows.drop i) (ids := ids.drop i) (by rw [List.length_drop, List.length_drop, hl]) g
  rw [e, List.map_nil] at e2
  have e3 : rows.filter g = (rows.take i).filter g ++ (rows.drop i).filter g := by rw [← List.filter_append, List.take_append_drop]
  rw [e3, ← e2, List.append_nil]
theorem hit_len {g : Bnd → Bool} {rows : List Bnd} {ids : List Int} {i : Nat} (hl : rows.length = ids.length) : (hitL g (rows.zip ids) i).length = ((rows.take i).filter g).length := by
  unfold hitL
  rw [List.length_map, take_zip', ← zip_filter (rows := rows.take i) (ids := ids.take i) (by rw [List.length_take, List.length_take, hl]) g, List.length_map]
theorem hits_wp (zs : List (Bnd × Int)) (P : Wds) : hits (zs.map wp) P = hitL (fun b => gl (wordsL b.2.2) P) zs zs.length := by
  unfold hits hitL
  rw [List.take_of_length_le (Nat.le_refl _), List.filter_map, List.map_map]
  rfl

section
variable {B : Nat} {w0 w w' : World} {F T R Q S : List (Nat × Obj)} {tb xb c c' pb : Nat} {M : Prs} {L X Y : List Pl} {p' : Pl} {k : Ky} {A rows : List Bnd} {P : List Plc} {v tv u : Value} {n : List UInt8} {keys : List (List UInt8)} {p : Bnd → Bool}

/-- What Match left. -/
structure Mtch (k : Ky) (M : Prs) (c : Nat) (l2 : List Int) (iv : Value) (T' Si : List (Nat × Obj)) : Prop where
  tree : TrIn k.tb M c T'
  ids : SlIs 3 1 iv l2.length (l2.map encI) Si
def MatAt (B : Nat) (w0 : World) (k : Ky) (u : Value) (rows : List Bnd) (l2 : List Int) (E : List (Nat × Obj)) (c : Nat) (m : Bnd → Bool) (g : Nat) (a' : Act) (w' : World) : Prop :=
  ∃ (i : Nat) (iv z : Value) (T' Si Z : List (Nat × Obj)), Mtch k (((rows.map (·.2.2)).map wordsL).zip k.ids) c l2 iv T' Si ∧ Fr 51 [(0, bpt k.kb), (1, u), (7, iv), (8, z), (9, .int .i64 i), (10, .int .i64 ((rows.take i).filter m).length)] a' ∧ i + g = rows.length ∧
    BnsIs z ((rows.take i).filter m) Z ∧ St B w0 w' ((T' ++ (Si ++ (((k.kb, .cells #[bpt k.tb, k.v] 104) :: k.S) ++ E))) ++ Z)

/-- Behind matching. -/
def MatR (B : Nat) (w0 : World) (kb : Nat) (keys : List (List UInt8)) (l : List Bnd) (c : Nat) (F : List (Nat × Obj)) (e : Ending) (w' : World) : Prop :=
  ∃ k' z Z, e = .returned z ∧ k'.kb = kb ∧ KyOk k' keys c ∧ BnsIs z l Z ∧ St B w0 w' (k'.objs ++ (Z ++ F))

set_option maxHeartbeats 4000000 in
theorem matching_any {Sr : List (Nat × Obj)} (h : KyOk k (rows.map (·.2.2)) c) (hst : St B w0 w (k.objs ++ (Sr ++ F))) (hu : BnsIs u rows Sr) (key : List UInt8) (hk : key.length ≤ 1000) (hc : c ≤ 100000) (hr : rows.length ≤ 1000) :
    Calls Tryz.prog 60 #[bpt k.kb, u, tx key] w (MatR B w0 k.kb (rows.map (·.2.2)) (rows.filter fun b => gl (wordsL b.2.2) (wordsL key)) c F) := by
  obtain ⟨m, hm⟩ : ∃ m, m = fun b : Bnd => gl (wordsL b.2.2) (wordsL key) := ⟨_, rfl⟩
  have hlen : rows.length = k.ids.length := by have := h.len; rwa [List.length_map] at this
  have hz : (rows.zip k.ids).map (·.2) = k.ids := List.map_snd_zip (by omega)
  have hnd : ((rows.zip k.ids).map (·.2)).Nodup := by rw [hz]; exact h.rise.imp (fun h => by omega)
  have hsub : (hitL m (rows.zip k.ids) (rows.zip k.ids).length).Sublist k.ids := by
    unfold hitL
    rw [List.take_of_length_le (Nat.le_refl _)]
    have := (List.filter_sublist (p := fun x : Bnd × Int => m x.1) (l := rows.zip k.ids)).map (fun x => x.2)
    rwa [hz] at this
  obtain ⟨k0, -, -, -⟩ := Ky.cells hst
  have ct := Lib.hid (trmatch_is (P := wordsL key) rfl (h.rise.sublist hsub) (fun i => by rw [zip_wp, hits_wp, ← hm]) (h.tree.is (hst.perm Ky.treeP)) hk (by omega))
  have hl2 : (hitL m (rows.zip k.ids) (rows.zip k.ids).length).length ≤ 1000 := by
    have := hsub.length_le
    omega
  rw [← hm]
  obtain ⟨au, cu, eu⟩ := hu.form
  subst eu
  obtain ⟨ai, capi, ev, -⟩ := h.form hst
  have facts : Hid (∀ (T' Si : List (Nat × Obj)) a2 cap2, SlIs 3 1 (.slice a2 (hitL m (rows.zip k.ids) (rows.zip k.ids).length).length cap2) (hitL m (rows.zip k.ids) (rows.zip k.ids).length).length ((hitL m (rows.zip k.ids) (rows.zip k.ids).length).map encI) Si → ∀ w' Z, St B w0 w' ((T' ++ (Si ++ (((k.kb, .cells #[bpt k.tb, k.v] 104) :: k.S) ++ (Sr ++ F)))) ++ Z) →
      w'.cell? ⟨k.kb, 1, none⟩ = some k.v ∧ ∀ (i : Nat) b, rows[i]? = some b → ((rows.take i).filter m).length < (hitL m (rows.zip k.ids) (rows.zip k.ids).length).length →
        ∃ b1 o1 g2 o2 g3 o3 x y, au = some ⟨b1, o1, none⟩ ∧ ai = some ⟨g2, o2, none⟩ ∧ a2 = some ⟨g3, o3, none⟩ ∧ (x == y) = m b ∧ w'.cell? ⟨b1, o1 + i * 3, none⟩ = some (tx b.1) ∧ w'.cell? ⟨b1, o1 + i * 3 + 1, none⟩ = some (tx b.2.1) ∧ w'.cell? ⟨b1, o1 + i * 3 + 2, none⟩ = some (tx b.2.2) ∧
          w'.cell? ⟨g2, o2 + i, none⟩ = some (.int .i64 x) ∧ w'.cell? ⟨g3, o3 + ((rows.take i).filter m).length, none⟩ = some (.int .i64 y)) :=
    Lib.hid fun T' Si a2 cap2 hs2 w' Z h1 => by
      have hmm : (k.kb, .cells #[bpt k.tb, k.v] 104) ∈ (T' ++ (Si ++ (((k.kb, .cells #[bpt k.tb, k.v] 104) :: k.S) ++ (Sr ++ F)))) ++ Z := by simp
      refine ⟨h1.cell (b := k.kb) (i := 1) hmm rfl, fun i b hb hlt => ?_⟩
      have hil : i < k.ids.length := by have := (List.getElem?_eq_some_iff.1 hb).1; omega
      have hx : k.ids[i]? = some (k.ids[i]'hil) := List.getElem?_eq_getElem hil
      have hy : (hitL m (rows.zip k.ids) (rows.zip k.ids).length)[((rows.take i).filter m).length]? = some ((hitL m (rows.zip k.ids) (rows.zip k.ids).length)[((rows.take i).filter m).length]'hlt) := List.getElem?_eq_getElem hlt
      have hru := hu.read (A := T' ++ (Si ++ (((k.kb, .cells #[bpt k.tb, k.v] 104) :: k.S) ++ F)) ++ Z) (h1.perm (by
        refine perm_by fun a => ?_
        simp only [List.count_append, List.count_cons, List.append_assoc, List.cons_append]
        omega))
      obtain ⟨a', cap', e, hcc⟩ := hru
      cases e
      obtain ⟨b1, o1, e1, q1, q2, q3⟩ := hcc i b hb
      have h2 : St B w0 w' ((T' ++ (Si ++ ((k.kb, .cells #[bpt k.tb, k.v] 104) :: (Sr ++ F))) ++ Z) ++ k.S) := h1.perm (by
        refine perm_by fun a => ?_
        simp only [List.count_append, List.count_cons, List.append_assoc, List.cons_append]
        omega)
      have h3 : St B w0 w' ((T' ++ ((((k.kb, .cells #[bpt k.tb, k.v] 104) :: k.S) ++ (Sr ++ F))) ++ Z) ++ Si) := h1.perm (by
        refine perm_by fun a => ?_
        simp only [List.count_append, List.count_cons, List.append_assoc, List.cons_append]
        omega)
      have hi := h.ids
      obtain ⟨a3, cap3, e2, -, -, ha3⟩ := hi.form
      rw [ev] at e2
      cases e2
      obtain ⟨g2, o2, e3⟩ := ha3 i hil
      rw [ev, e3] at hi
      obtain ⟨a4, cap4, e4, -, -, ha4⟩ := hs2.form
      cases e4
      obtain ⟨g3, o3, rfl⟩ := ha4 _ hlt
      refine ⟨b1, o1, g2, o2, g3, o3, _, _, e1, e3, rfl, ?_, q1, q2, q3, hi.cellAt h2 (by rw [List.getElem?_map, hx]; rfl), hs2.cellAt h3 (by rw [List.getElem?_map, hy]; rfl)⟩
      refine hit_is (g := m) hnd (zip_at hb hx) ?_
      rw [hit_len hlen]
      exact hy
  have fin : Hid (∀ (T' Si : List (Nat × Obj)) w' z Z, TrIn k.tb (((rows.map (·.2.2)).map wordsL).zip k.ids) c T' → BnsIs z (rows.filter m) Z → St B w0 w' ((T' ++ (Si ++ (((k.kb, .cells #[bpt k.tb, k.v] 104) :: k.S) ++ (Sr ++ F)))) ++ Z) →
      MatR B w0 k.kb (rows.map (·.2.2)) (rows.filter m) c F (.returned z) w') := Lib.hid fun T' Si w' z Z hT hz h1 => by
    refine ⟨⟨k.kb, k.tb, k.v, k.ids, k.S, T'⟩, z, Z, rfl, rfl, ⟨h.ids, h.len, h.rise, h.top, hT⟩, hz, ?_⟩
    have h2 : St B w0 w' ((((k.kb, .cells #[bpt k.tb, k.v] 104) :: (k.S ++ T')) ++ (Z ++ F)) ++ (Si ++ Sr)) := h1.perm (by
      refine perm_by fun a => ?_
      simp only [List.count_append, List.count_cons, List.append_assoc, List.cons_append]
      omega)
    exact h2.sub (List.sublist_append_left _ _)
  have he : Hid (∀ i, (hitL m (rows.zip k.ids) (rows.zip k.ids).length).length ≤ ((rows.take i).filter m).length → (rows.take i).filter m = rows.filter m) := Lib.hid fun i hi => hit_end hlen (by rw [hit_len hlen (i := i)]; exact hi)
  have hle : Hid (∀ i, ((rows.take i).filter m).length ≤ (hitL m (rows.zip k.ids) (rows.zip k.ids).length).length) := Lib.hid fun i => by
    rw [← hit_len hlen, hit_all m (rows.zip k.ids) i, List.length_append]
    omega
  obtain ⟨kb, tb, v, ids, S, T⟩ := k
  simp only at ev hlen facts fin k0 ct he hl2 hle
  subst ev
  generalize hitL m (rows.zip ids) (rows.zip ids).length = l2 at *
  replace hlen := Lib.hid hlen
  clear h hst hu hz hnd hk hc hsub
  replace hm := Lib.hid hm
  go_enter Tryz.func60, Tryz.ntmps60
  go_wp2_with fail
  refine wp_scope_ghost 0 (MatAt B w0 ⟨kb, tb, .slice ai ids.length capi, ids, S, T⟩ (.slice au rows.length cu) rows l2 (Sr ++ F) c m) rfl ?_ ?_
  · clear ct
    rintro g a' w' ⟨i, iv, z, T', Si, Z, hM, hfr, hi, hzl, hst⟩
    simp only at hM hfr hst
    obtain ⟨a2, cap2, rfl, -⟩ := hM.ids.form
    replace facts := Lib.hid (facts.out T' Si a2 cap2 hM.ids)
    replace fin := Lib.hid (fun w' z Z => fin.out T' Si w' z Z hM.tree)
    replace hM := Lib.hid hM
    obtain ⟨O, hO⟩ : ∃ O, O = (T' ++ (Si ++ (((kb, .cells #[bpt tb, .slice ai ids.length capi] 104) :: S) ++ (Sr ++ F)))) := ⟨_, rfl⟩
    rw [← hO] at hst facts fin
    replace hO := Lib.hid hO
    obtain ⟨q, rfl, hl'⟩ := hfr.lit
    clear hfr
    simp only [List.mem_cons, List.not_mem_nil, or_false, forall_eq_or_imp, forall_eq] at hl'
    obtain ⟨f0, f1, f7, f8, f9, f10⟩ := hl'
    simp only [List.range, List.range.loop, List.map, f0, f1, f7, f8, f9, f10]
    clear f0 f1 f7 f8 f9 f10
    have hi0 : (0 : Int) ≤ i := by omega
    obtain ⟨k1, hrows⟩ := facts.out w' Z hst
    have hq0 : (0 : Int) ≤ ((rows.take i).filter m).length := by omega
    have hqi : ((rows.take i).filter m).length ≤ i := filter_len_take _ _
    by_cases hlt : i < rows.length
    · have hi1 : (i : Int) < rows.length := by omega
      have hiB : ((i : Int) == rows.length) = false := by rw [beq_eq_false_iff_ne]; omega
      by_cases hq : ((rows.take i).filter m).length < l2.length
      · have hqB : ((((rows.take i).filter m).length : Int) == l2.length) = false := by rw [beq_eq_false_iff_ne]; omega
        have hq1 : (((rows.take i).filter m).length : Int) < l2.length := by omega
        have hx : rows[i]? = some rows[i] := List.getElem?_eq_getElem hlt
        generalize rows[i] = b at hx
        obtain ⟨b1, o1, g2, o2, g3, o3, x, y, rfl, rfl, rfl, hxy, q1, q2, q3, q4, q5⟩ := hrows i b hx hq
        have stp := filter_step (p := m) hx
        have hlti : i < ids.length := by have := hlen.out; omega
        have hi2 : (i : Int) < ids.length := by omega
        have dr : Hid (∀ n, St B w0 (w'.drewN n) (O ++ Z)) := Lib.hid fun n => hst.drewN n
        cases hmx : m b with
        | true =>
          rw [hmx] at stp hxy
          rw [if_pos rfl] at stp
          obtain rfl := beq_iff_eq.1 hxy
          have ap : Hid (∀ n, ∃ au' cu', z = .slice au' ((rows.take i).filter m).length cu' ∧ ∃ a4 cap4 W2, (Builtin.append_ #[28, 28] 0 #[z, .slice (some ⟨w'.heap.size, 0, none⟩) 1 1]).run Tryz.prog ((w'.drewN n).alloc (bO b)) = .ok (.slice a4 (((rows.take i).filter m).length + 1) cap4) W2 ∧
              ∀ a', Fr 51 [(0, bpt kb), (1, .slice (some ⟨b1, o1, none⟩) rows.length cu), (7, .slice (some ⟨g3, o3, none⟩) l2.length cap2), (8, .slice a4 (((rows.take i).filter m).length + 1) cap4), (9, .int .i64 ((i + 1 : Nat) : Int)), (10, .int .i64 ((((rows.take i).filter m).length + 1 : Nat) : Int))] a' →
                ∃ m', m' < g ∧ MatAt B w0 ⟨kb, tb, .slice (some ⟨g2, o2, none⟩) ids.length capi, ids, S, T⟩ (.slice (some ⟨b1, o1, none⟩) rows.length cu) rows l2 (Sr ++ F) c m m' a' W2) := Lib.hid fun n => by
            obtain ⟨a5, c5, e5⟩ := hzl.form
            obtain ⟨a4, cap4, W2, F2, hrun, hs4, hst4⟩ := bnd_append (X := O) hzl (dr.out n) b (by omega)
            refine ⟨a5, c5, e5, a4, cap4, W2, hrun, fun a' hf => ⟨g - 1, by omega, i + 1, _, _, T', Si, F2, hM.out, ?_, by omega, by rw [stp]; exact hs4, by rw [hO.out] at hst4; exact hst4⟩⟩
            rw [stp, List.length_append, List.length_singleton]
            exact hf
          obtain ⟨x1, x2, x3⟩ := b
          simp only at q1 q2 q3 ap
          clear hzl hst hrows hx hxy hmx stp facts fin he hle dr
          generalize ((rows.take i).filter m).length = q0 at *
          obtain ⟨au', cu', rfl, -⟩ := ap.out 0
          go_wp2_with fail
          go_quiet (fail)
          obtain ⟨_, _, _, a4, cap4, W2, hrun, nx⟩ := ap.out nq
          replace nx := Lib.hid nx
          clear ap
          go_wp2_with (at_builtin; refine wpList_append_go rfl (.tmp 40) (.tmp 45) 28 28 rfl _ _ rfl rfl hrun ?_)
          refine wp_goto ?_
          exact ⟨rfl, nx.out _ ⟨rfl, rfl, by simp⟩⟩
        | false =>
          rw [hmx] at stp hxy
          rw [if_neg (by decide), List.append_nil] at stp
          have nx : Hid (∀ n a', Fr 51 [(0, bpt kb), (1, .slice (some ⟨b1, o1, none⟩) rows.length cu), (7, .slice (some ⟨g3, o3, none⟩) l2.length cap2), (8, z), (9, .int .i64 ((i + 1 : Nat) : Int)), (10, .int .i64 ((rows.take i).filter m).length)] a' →
                ∃ m', m' < g ∧ MatAt B w0 ⟨kb, tb, .slice (some ⟨g2, o2, none⟩) ids.length capi, ids, S, T⟩ (.slice (some ⟨b1, o1, none⟩) rows.length cu) rows l2 (Sr ++ F) c m m' a' (w'.drewN n)) := Lib.hid fun n a' hf =>
            ⟨g - 1, by omega, i + 1, _, _, T', Si, Z, hM.out, by rw [stp]; exact hf, by omega, by rw [stp]; exact hzl, by have := dr.out n; rw [hO.out] at this; exact this⟩
          obtain ⟨au', cu', rfl⟩ := hzl.form
          obtain ⟨x1, x2, x3⟩ := b
          simp only at q1 q2 q3
          clear hzl hst hrows hx hmx stp facts fin he hle dr
          generalize ((rows.take i).filter m).length = q0 at *
          go_wp2_with fail
          go_quiet (fail)
          go_wp2_with fail
          refine wp_goto ?_
          exact ⟨rfl, nx.out _ _ ⟨rfl, rfl, by simp⟩⟩
      · have hqB : (((rows.take i).filter m).length : Int) = l2.length := by have := hle.out i; omega
        have e := he.out i (by omega)
        have hzl' := hzl
        rw [e] at hzl'
        have f := Lib.hid (fin.out _ _ _ hzl' hst)
        rw [hqB]
        obtain ⟨au', cu', rfl⟩ := hzl.form
        clear hzl hzl' hst hrows facts fin he hle e hqB hq0 hqi hq
        generalize ((rows.take i).filter m).length = q0 at *
        go_wp2_with fail
        simp only [Exit.jump]
        go_ret
        exact f.out
    · obtain rfl : i = rows.length := by omega
      rw [List.take_of_length_le (Nat.le_refl _)] at hzl
      rw [List.take_of_length_le (Nat.le_refl _)]
      have f := Lib.hid (fin.out _ _ _ hzl hst)
      obtain ⟨au', cu', rfl⟩ := hzl.form
      clear hzl hst hrows facts fin he hle hq0 hqi
      generalize (rows.filter m).length = q0 at *
      go_wp2_with fail
      simp only [Exit.jump]
      go_ret
      exact f.out
  · intro H
    clear facts fin he hle
    go_wp2_with fail
    refine ct.out.mono ?_
    rintro e w1 ⟨iv, Si, rfl, hs2, ht⟩
    obtain ⟨T', hT, h1⟩ := TrIn.of ht
    have start : Hid (∀ a', Fr 51 [(0, bpt kb), (1, .slice au rows.length cu), (7, iv), (8, .slice none 0 0), (9, .int .i64 ((0 : Nat) : Int)), (10, .int .i64 (([].filter m : List Bnd).length : Nat))] a' → MatAt B w0 ⟨kb, tb, .slice ai ids.length capi, ids, S, T⟩ (.slice au rows.length cu) rows l2 (Sr ++ F) c m rows.length a' w1) :=
      Lib.hid fun a' hf => ⟨0, iv, _, T', Si, [], ⟨hT, hs2⟩, hf, by omega, BnsIs.nil, by rw [List.append_nil]; exact h1⟩
    obtain ⟨a2, cap2, rfl, -⟩ := hs2.form
    clear hs2 ht ct hT h1
    go_wp2_with fail
    refine wp_label ?_
    go_step
    go_step
    exact H rows.length _ _ (start.out _ ⟨rfl, rfl, by simp⟩)
end
end Go.Proofs.YtoecaonmehbfeaaGreat

/- Exchanges: unkey, leave. -/
namespace Go.Proofs.YtoecaonmehbfeaaGreat
open Go.RowKit
set_option linter.unusedVariables false
set_option maxRecDepth 100000

section
variable {B : Nat} {w0 w w' : World} {F T R Q S : List (Nat × Obj)} {tb xb c c' pb : Nat} {M : Prs} {L X Y : List Pl} {p p' : Pl} {k : Ky} {A rows : List Bnd} {P : List Plc} {v tv u : Value} {n : List UInt8} {keys : List (List UInt8)} {q : Bnd → Bool}

theorem ofB_filter (A : List Bnd) (q : Bnd → Bool) (n : List UInt8) : ofB (A.filter q) n = (ofB A n).filter q := by
  unfold ofB
  rw [List.filter_filter, List.filter_filter]
  apply List.filter_congr
  intro b _
  rw [Bool.and_comm]
/-- Behind Of. -/
def OfM (B : Nat) (w0 : World) (xb : Nat) (v : Value) (L : List Pl) (R F : List (Nat × Obj)) (A rows : List Bnd) (u : Value) (w : World) : Prop :=
  ∃ S tv Q, BnsIs u rows S ∧ TaIn tv A Q ∧ St B w0 w (exO xb v tv L R Q ++ (S ++ F))
/-- Behind unkey. -/
def UnkR (B : Nat) (w0 : World) (xb : Nat) (v : Value) (X Y : List Pl) (p : Pl) (R F : List (Nat × Obj)) (A A' : List Bnd) (c : Nat) (w : World) : Prop :=
  ∃ p' tv Q, p'.b = p.b ∧ p'.d = p.d ∧ PlOk A' c p' ∧ TaIn tv A Q ∧ St B w0 w (exO xb v tv (X ++ p' :: Y) R Q ++ F)
theorem kobjs_split (hk : p.k = some k) : (exO xb v tv (X ++ p :: Y) R Q ++ F).Perm (k.objs ++ ((exO xb v tv (X ++ Y) R Q ++ F) ++ [(p.b, .cells #[tx p.d.1, .int .i64 p.d.2.1, .bool p.d.2.2, kpt p.k] 79)])) := by
  refine exO_split.trans ?_
  refine perm_by fun a => ?_
  unfold Pl.objs kobjs
  rw [hk]
  simp only [List.count_append, List.count_cons, List.append_assoc, List.cons_append, List.count_nil]
  omega

set_option maxHeartbeats 4000000 in
theorem xunkey_any {g : Nat} {cb : Array Value} (ht : TaIn tv A Q) (few : A.length ≤ 40) (hk40 : ∀ b ∈ A, b.2.2.length ≤ 40) (hp : PlOk A c p) (hc : c ≤ 100000) (hst : St B w0 w (exO xb v tv (X ++ p :: Y) R Q ++ F)) (hq : TellsS B w0 F g cb q) :
    Calls Tryz.prog 48 #[bpt xb, bpt p.b, .func (.func g) #[] cb] w fun e w' => e = .returned (.tuple #[]) ∧ UnkR B w0 xb v X Y p R F A (A.filter fun b => !q b) c w' := by
  have hpm : p ∈ X ++ p :: Y := by simp
  obtain ⟨p0, -, -, p3⟩ := hst.place hpm
  cases hkp : p.k with
  | none =>
    have e : kpt p.k = .pointer none := by rw [hkp]; rfl
    rw [e] at p3
    have fin : Hid (UnkR B w0 xb v X Y p R F A (A.filter fun b => !q b) c w) := Lib.hid ⟨p, tv, Q, rfl, rfl, ⟨hp.has, fun k hk => by rw [hkp] at hk; cases hk⟩, ht, hst⟩
    generalize p.b = pb at *
    clear hst hp ht
    go_enter Tryz.func48, Tryz.ntmps48
    go_wp2_with fail
    exact bodyPost_end (results_none rfl _ _ _) rfl ⟨rfl, fin.out⟩
  | some k =>
    have e : kpt p.k = bpt k.kb := by rw [hkp]; rfl
    rw [e] at p3
    have hky := hp.ky k hkp
    have hcell : ∀ w' tv' Q' F', St B w0 w' (exO xb v tv' (X ++ p :: Y) R Q' ++ F') → w'.cell? ⟨p.b, 0, none⟩ = some (tx p.d.1) ∧ w'.cell? ⟨p.b, 3, none⟩ = some (bpt k.kb) := fun w' tv' Q' F' h' => by
      obtain ⟨g0, -, -, g3⟩ := h'.place hpm
      rw [e] at g3
      exact ⟨g0, g3⟩
    have cof : Hid (∀ w1, St B w0 w1 (exO xb v tv (X ++ p :: Y) R Q ++ F) → Calls Tryz.prog 26 #[bpt xb, tx p.d.1] w1 fun e w' => ∃ a cap, e = .returned (.slice a (ofB A p.d.1).length cap) ∧ OfM B w0 xb v (X ++ p :: Y) R F A (ofB A p.d.1) (.slice a (ofB A p.d.1).length cap) w' ∧ (w'.cell? ⟨p.b, 0, none⟩ = some (tx p.d.1) ∧ w'.cell? ⟨p.b, 3, none⟩ = some (bpt k.kb))) := Lib.hid fun w1 h1 => by
      refine (xof_any ht few h1 p.d.1).mono ?_
      rintro e w' ⟨u, S, tv', Q', rfl, hu, ht', h2⟩
      obtain ⟨a, cap, rfl⟩ := hu.form
      exact ⟨a, cap, rfl, ⟨S, tv', Q', hu, ht', h2⟩, hcell _ _ _ _ h2⟩
    have ccut : Hid (∀ w1 u, OfM B w0 xb v (X ++ p :: Y) R F A (ofB A p.d.1) u w1 → Calls Tryz.prog 76 #[bpt k.kb, u, .func (.func g) #[] cb] w1 fun e w' => e = .returned (.tuple #[]) ∧ UnkR B w0 xb v X Y p R F A (A.filter fun b => !q b) c w' ∧ (w'.cell? ⟨p.b, 0, none⟩ = some (tx p.d.1) ∧ w'.cell? ⟨p.b, 3, none⟩ = some (bpt k.kb))) := Lib.hid fun w1 u hO => by
      obtain ⟨S, tv', Q', hu, ht', h2⟩ := hO
      have hof : (ofB A p.d.1).length ≤ 40 := Nat.le_trans (List.length_filter_le _ _) few
      have h3 : St B w0 w1 (k.objs ++ (S ++ (((exO xb v tv' (X ++ Y) R Q' ++ [(p.b, .cells #[tx p.d.1, .int .i64 p.d.2.1, .bool p.d.2.2, kpt p.k] 79)])) ++ F))) := h2.perm ((kobjs_split hkp).trans (by
        refine perm_by fun a => ?_
        simp only [List.count_append, List.count_cons, List.append_assoc, List.cons_append, List.count_nil]
        omega))
      refine (kcut_any hky h3 hu (hq.more _) (fun b hb => hk40 b (List.mem_filter.1 hb).1) hc (by omega)).mono ?_
      rintro e w' ⟨rfl, k', e1, hk', h4⟩
      have hok : PlOk (A.filter fun b => !q b) c ⟨p.b, p.d, some k'⟩ := ⟨by
        have := hp.has
        rw [hkp] at this
        exact this, fun k2 hk2 => by
          cases hk2
          unfold keysOf
          rw [ofB_filter]
          exact hk'⟩
      have h5 : St B w0 w' (exO xb v tv' (X ++ ⟨p.b, p.d, some k'⟩ :: Y) R Q' ++ F) := h4.perm (by
        refine List.Perm.trans ?_ (kobjs_split (p := ⟨p.b, p.d, some k'⟩) rfl).symm
        have e2 : kpt (some k') = kpt p.k := by rw [hkp]; unfold kpt; rw [Option.map_some, Option.map_some, e1]
        refine perm_by fun a => ?_
        simp only [e2, List.count_append, List.count_cons, List.append_assoc, List.cons_append, List.count_nil]
        omega)
      obtain ⟨g0, -, -, g3⟩ := h5.place (p := ⟨p.b, p.d, some k'⟩) (by simp)
      refine ⟨rfl, ⟨⟨p.b, p.d, some k'⟩, tv', Q', rfl, rfl, hok, ht', h5⟩, g0, ?_⟩
      have e2 : kpt (some k') = bpt k.kb := by unfold kpt; rw [Option.map_some, e1]
      rw [← e2]
      exact g3
    have hd : St B w0 w.drew (exO xb v tv (X ++ p :: Y) R Q ++ F) := hst.drew
    have hs0 := Lib.hid (hcell _ _ _ _ hd)
    clear hcell hst hp ht hky hq
    generalize hK : UnkR B w0 xb v X Y p R F A (A.filter fun b => !q b) c = U at *
    generalize p.b = pb at *
    generalize p.d.1 = pn at *
    generalize k.kb = kb at *
    go_enter Tryz.func48, Tryz.ntmps48
    go_wp2_with fail
    go_region_held3 (fun x => x.cell? ⟨pb, 0, none⟩ = some (tx pn) ∧ x.cell? ⟨pb, 3, none⟩ = some (bpt kb)) (first | exact kS | exact hs0.out) (first
      | (go_at_call 26; refine (cof.out _ (by assumption)).mono ?_; rintro e w'' ⟨a2, cap2, rfl, hO, kS⟩)
      | (go_at_call 76; refine (ccut.out _ _ (by assumption)).mono ?_; rintro e w'' ⟨rfl, hU, kS⟩))
    replace hU := Lib.hid hU
    clear hO hd cof ccut
    go_wp2_with fail
    exact bodyPost_end (results_none rfl _ _ _) rfl ⟨rfl, hU.out⟩

set_option maxHeartbeats 2000000 in
theorem xleave_any (h : ExIn L v tv R Q A c) (hst : St B w0 w (exO xb v tv L R Q ++ F)) (n : List UInt8) :
    Calls Tryz.prog 51 #[bpt xb, tx n] w fun e w' => e = .returned (.tuple #[]) ∧ ExIs B w0 w' xb (leaveX (L.map Pl.d) A n) A F c := by
  have c1 := Lib.hid (xfind_any h hst n)
  have few := h.fine.few
  rw [List.length_map] at few
  have fl := h.fine.leave n
  have hl : leaveX (L.map Pl.d) A n = match (findL L n).map Pl.d with | some p => if p.2.2 = true ∧ ofB A n = [] then dropP (L.map Pl.d) n else L.map Pl.d | none => L.map Pl.d := by
    unfold leaveX
    rw [findL_d]
    cases findL L n <;> rfl
  unfold ptrF at c1
  cases hf : findL L n with
  | none =>
    rw [hf] at c1 hl
    simp only [Option.map_none] at c1 hl
    rw [hl]
    have fin : Hid (ExIs B w0 w xb (L.map Pl.d) A F c) := Lib.hid ⟨L, v, tv, R, Q, rfl, h, hst⟩
    clear h hst fl hl hf
    go_enter Tryz.func51, Tryz.ntmps51
    go_wp2_with fail
    refine c1.out.mono ?_
    rintro e w1 ⟨rfl, rfl⟩
    go_wp2_with fail
    exact bodyPost_end (results_none rfl _ _ _) rfl ⟨rfl, fin.out⟩
  | some p =>
    rw [hf] at c1 hl
    simp only [Option.map_some] at c1 hl
    obtain ⟨hm, hn⟩ := findL_mem hf
    obtain ⟨-, -, p2, -⟩ := hst.place hm
    cases ha : p.d.2.2 with
    | false =>
      rw [ha] at p2 hl
      rw [if_neg (by simp)] at hl
      rw [hl]
      have fin : Hid (ExIs B w0 w xb (L.map Pl.d) A F c) := Lib.hid ⟨L, v, tv, R, Q, rfl, h, hst⟩
      generalize p.b = pb at *
      clear h hst fl hl hf
      go_enter Tryz.func51, Tryz.ntmps51
      go_wp2_with fail
      refine c1.out.mono ?_
      rintro e w1 ⟨rfl, rfl⟩
      go_wp2_with fail
      exact bodyPost_end (results_none rfl _ _ _) rfl ⟨rfl, fin.out⟩
    | true =>
      rw [ha] at p2 hl
      obtain ⟨X, Y, rfl⟩ := List.append_of_mem hm
      have hpb : p.b = p.b := rfl
      have cof : Hid (Calls Tryz.prog 26 #[bpt xb, tx n] w fun e w' => ∃ a cap, e = .returned (.slice a (ofB A n).length cap) ∧ OfM B w0 xb v (X ++ p :: Y) R F A (ofB A n) (.slice a (ofB A n).length cap) w') := Lib.hid (by
        refine (xof_any h.tab h.fine.rows.few hst n).mono ?_
        rintro e w' ⟨u, S, tv', Q', rfl, hu, ht', h2⟩
        obtain ⟨a, cap, rfl⟩ := hu.form
        exact ⟨a, cap, rfl, S, tv', Q', hu, ht', h2⟩)
      by_cases ho : ofB A n = []
      · rw [if_pos ⟨rfl, ho⟩] at hl
        have hdp : dropP ((X ++ p :: Y).map Pl.d) n = (X ++ Y).map Pl.d := by
          have := h.fine.once
          rw [List.map_append, List.map_cons] at this ⊢
          rw [← hn, dropP_split this, List.map_append]
        rw [hdp] at hl
        rw [hl] at fl ⊢
        have crm : Hid (∀ a w1, OfM B w0 xb v (X ++ p :: Y) R F A (ofB A n) a w1 → Calls Tryz.prog 41 #[bpt xb, bpt p.b] w1 fun e w' => e = .returned (.tuple #[]) ∧ ExIs B w0 w' xb ((X ++ Y).map Pl.d) A F c) := Lib.hid fun a w1 hO => by
          obtain ⟨S, tv', Q', hu, ht', h2⟩ := hO
          refine (xremove_any h.sl few h2).mono ?_
          rintro e w' ⟨rfl, v', R', hs', h3⟩
          refine ⟨rfl, X ++ Y, v', tv', R', Q', rfl, ⟨fl, hs', ht', fun p' hp' => h.pls p' ?_⟩, h3.sub ?_⟩
          · rcases List.mem_append.1 hp' with h' | h'
            · exact List.mem_append_left _ h'
            · exact List.mem_append_right _ (List.mem_cons_of_mem _ h')
          · exact List.Sublist.append (List.Sublist.refl _) (List.sublist_append_right _ _)
        rw [ho] at cof crm
        generalize p.b = pb at *
        clear h hst fl hl hf hm hn ho hdp
        go_enter Tryz.func51, Tryz.ntmps51
        go_wp2_with fail
        refine c1.out.mono ?_
        rintro e w1 ⟨rfl, rfl⟩
        go_wp2_with fail
        refine cof.out.mono ?_
        rintro e w2 ⟨a, cap, rfl, hO⟩
        replace crm := Lib.hid (crm.out _ _ hO)
        clear hO cof c1
        go_wp2_with fail
        refine crm.out.mono ?_
        rintro e w3 ⟨rfl, fin⟩
        replace fin := Lib.hid fin
        go_wp2_with fail
        exact bodyPost_end (results_none rfl _ _ _) rfl ⟨rfl, fin.out⟩
      · rw [if_neg (fun e => ho e.2)] at hl
        rw [hl]
        have fin : Hid (∀ u w1, OfM B w0 xb v (X ++ p :: Y) R F A (ofB A n) u w1 → ExIs B w0 w1 xb ((X ++ p :: Y).map Pl.d) A F c) := Lib.hid fun u w1 hO => by
          obtain ⟨S, tv', Q', hu, ht', h2⟩ := hO
          exact ⟨X ++ p :: Y, v, tv', R, Q', rfl, h.retab ht', h2.sub (List.Sublist.append (List.Sublist.refl _) (List.sublist_append_right _ _))⟩
        have hlB : (((ofB A n).length : Int) == 0) = false := by
          rw [beq_eq_false_iff_ne]
          have := List.length_pos_iff.2 ho
          omega
        generalize p.b = pb at *
        generalize (X ++ p :: Y).map Pl.d = P at *
        clear h hst fl hl hf hm hn
        go_enter Tryz.func51, Tryz.ntmps51
        go_wp2_with fail
        refine c1.out.mono ?_
        rintro e w1 ⟨rfl, rfl⟩
        go_wp2_with fail
        refine cof.out.mono ?_
        rintro e w2 ⟨a, cap, rfl, hO⟩
        replace fin := Lib.hid (fin.out _ _ hO)
        clear hO cof c1 ho
        generalize (ofB A n).length = q0 at *
        go_wp2_with fail
        exact bodyPost_end (results_none rfl _ _ _) rfl ⟨rfl, fin.out⟩
end
end Go.Proofs.YtoecaonmehbfeaaGreat

/- Words, the document's. -/
namespace Go.Proofs.YtoecaonmehbfeaaGreat
open Go.RowKit
set_option linter.unusedVariables false
set_option maxRecDepth 100000

/-- On the way through the key: what stood between points so far, and from where on there was none. -/
def RWords (w : World) (l : List UInt8) (v : Value) (f i : Nat) (wr : World) : Prop :=
  ∃ (done : Wds) (S : List (Nat × Obj)), f ≤ i ∧ done ++ wordsL (l.drop f) = wordsL l ∧ 46 ∉ (l.drop f).take (i - f) ∧ TssIs v done S ∧ St w.heap.size w wr S
/-- The next words are told. -/
def RNext (w : World) (l : List UInt8) (v : Value) (t : List UInt8) (wr : World) (R : Value → World → Prop) : Prop :=
  ∃ (n : Nat) (a : Option Addr) (c : Nat), v = .slice a n c ∧ ∃ (a2 : Option Addr) (c2 : Nat) (W2 : World), (Builtin.append_ #[45, 45] 0 #[v, .slice (some ⟨wr.heap.size, 0, none⟩) 1 1]).run Tryz.prog (wr.alloc (.cells #[tx t] 9)) = .ok (.slice a2 (n + 1) c2) W2 ∧ R (.slice a2 (n + 1) c2) W2

theorem RWords.count {w wr : World} {l : List UInt8} {f : Nat} {done : Wds} (h : done ++ wordsL (l.drop f) = wordsL l) : done.length ≤ l.length := by
  have h1 := congrArg List.length h
  have h2 := words_pos (l.drop f)
  have h3 := words_len l
  rw [List.length_append] at h1
  omega
theorem RWords.dot {w wr : World} {l : List UInt8} {v : Value} {f i : Nat} (h : RWords w l v f i wr) (hl : l.length ≤ 1000000) (hi : l[i]? = some 46) :
    RNext w l v ((l.drop f).take (i - f)) wr fun v2 W2 => RWords w l v2 (i + 1) (i + 1) W2 := by
  obtain ⟨done, S, h1, h2, h3, h4, h5⟩ := h
  obtain ⟨a, c, rfl⟩ := h4.form
  have hd := RWords.count (w := w) (wr := wr) h2
  obtain ⟨a2, c2, W2, F2, r1, r2, r3⟩ := h4.append (X := []) h5 ((l.drop f).take (i - f)) (by omega)
  refine ⟨_, a, c, rfl, a2, c2, W2, r1, _, F2, Nat.le_refl _, ?_, by simp, r2, r3⟩
  rw [List.append_assoc, List.singleton_append, ← words_step rfl h1 h3 hi, h2]
theorem RWords.step {w wr : World} {l : List UInt8} {v : Value} {f i : Nat} (h : RWords w l v f i wr) {c : UInt8} (hi : l[i]? = some c) (hc : c ≠ 46) : RWords w l v f (i + 1) wr := by
  obtain ⟨done, S, h1, h2, h3, h4, h5⟩ := h
  refine ⟨done, S, by omega, h2, ?_, h4, h5⟩
  rw [show i + 1 - f = (i - f) + 1 by omega, List.take_add_one, List.getElem?_drop, show f + (i - f) = i by omega, hi]
  simp only [Option.toList_some, List.mem_append, List.mem_singleton, not_or]
  exact ⟨h3, fun e => hc e.symm⟩
theorem RWords.last {w wr : World} {l : List UInt8} {v : Value} {f : Nat} (h : RWords w l v f l.length wr) (hl : l.length ≤ 1000000) :
    RNext w l v (l.drop f) wr fun v2 W2 => ReadTs W2 v2 (wordsL l) ∧ Below w.heap.size w W2 := by
  obtain ⟨done, S, h1, h2, h3, h4, h5⟩ := h
  obtain ⟨a, c, rfl⟩ := h4.form
  have hd := RWords.count (w := w) (wr := wr) h2
  rw [List.take_of_length_le (by rw [List.length_drop]; omega)] at h3
  obtain ⟨a2, c2, W2, F2, r1, r2, r3⟩ := h4.append (X := []) h5 (l.drop f) (by omega)
  refine ⟨_, a, c, rfl, a2, c2, W2, r1, ?_, r3.below⟩
  rw [words_none h3] at h2
  rw [← h2]
  refine r2.read (X := []) r3 ?_
  rw [h2]
  intro x hx
  have := words_short l x hx
  unfold maxLen
  omega

set_option maxHeartbeats 1000000 in
theorem rwords_to {l : List UInt8} (hl : l.length ≤ 1000000) (w : World) :
    Calls Tryz.prog 63 #[tx l] w fun e w' => ∃ v, e = .returned v ∧ ReadTs w' v (wordsL l) ∧ Below w.heap.size w w' := by
  have h0 : RWords w l (.slice none 0 0) 0 0 w := ⟨[], [], Nat.le_refl _, rfl, by simp, TssIs.nil, St.start w⟩
  replace h0 := Lib.hid h0
  go_enter Tryz.func63, Tryz.ntmps63
  go_wp2_with fail
  go_loopg [3, 4, 5] l.length (fun g v3 v4 v5 wr => ∃ f i : Nat, v4 = .int .i64 f ∧ v5 = .int .i64 i ∧ i + g = l.length ∧ f ≤ i ∧ Hid (RWords w l v3 f i wr))
  case atStart => exact ⟨0, 0, rfl, rfl, by omega, Nat.le_refl _, h0⟩
  case round =>
    clear h0
    obtain ⟨f, i, rfl, rfl, hi, hf, hrel⟩ := hrel
    have hf0 : (0 : Int) ≤ f := by omega
    have hfi : (f : Int) ≤ i := by omega
    have hi0 : (0 : Int) ≤ i := by omega
    by_cases hlt : i < l.length
    · have hi1 : (i : Int) < l.length := by omega
      have hx : l[i]? = some l[i] := List.getElem?_eq_getElem hlt
      by_cases hc : l[i] = 46
      · have hrd := hrel.out.dot hl (by rw [hx, hc])
        obtain ⟨n, a, c, rfl, a2, c2, W2, hrun, hR⟩ := hrd
        replace hR := Lib.hid hR
        have hcN : (((((⟨l.toArray⟩ : ByteArray)[i]'(show i < l.length from hlt)).toNat : Nat) : Int) == 46) = true := by
          show (((l[i].toNat : Nat) : Int) == 46) = true
          rw [hc]
          rfl
        have hil : (i : Int) ≤ l.length := by omega
        have ex : (⟨l.toArray⟩ : ByteArray).extract f i = ⟨((l.drop f).take (i - f)).toArray⟩ := by
          rw [ByteArray.extract_mk]
        clear hrel hx hc
        go_wp2_with (at_builtin; refine wpList_append_go rfl (.tmp 16) (.tmp 21) 45 45 rfl _ _ rfl rfl hrun ?_)
        go_roundg (l.length - (i + 1))
        case measure => omega
        case rel => exact ⟨i + 1, i + 1, by go_num, by go_num, by omega, Nat.le_refl _, hR⟩
      · have hR := Lib.hid (hrel.out.step hx hc)
        have hcN : (((((⟨l.toArray⟩ : ByteArray)[i]'(show i < l.length from hlt)).toNat : Nat) : Int) == 46) = false := by
          show (((l[i].toNat : Nat) : Int) == 46) = false
          rw [beq_eq_false_iff_ne]
          intro e
          exact hc (UInt8.toNat_inj.1 (show l[i].toNat = (46 : UInt8).toNat by have : (46 : UInt8).toNat = 46 := rfl; omega))
        clear hrel hx hc
        go_wp2_with fail
        go_roundg (l.length - (i + 1))
        case measure => omega
        case rel => exact ⟨f, i + 1, rfl, by go_num, by omega, by omega, hR⟩
    · obtain rfl : i = l.length := by omega
      obtain ⟨n, a, c, rfl, a2, c2, W2, hrun, hR⟩ := hrel.out.last hl
      replace hR := Lib.hid hR
      have ex : (⟨l.toArray⟩ : ByteArray).extract f l.length = ⟨(l.drop f).toArray⟩ := by
        rw [ByteArray.extract_mk, List.take_of_length_le (by rw [List.length_drop]; omega)]
      clear hrel
      go_wp2_with (at_builtin; refine wpList_append_go rfl (.tmp 25) (.tmp 29) 45 45 rfl _ _ rfl rfl hrun ?_)
      go_ret
      exact ⟨_, rfl, hR.out.1, hR.out.2⟩
end Go.Proofs.YtoecaonmehbfeaaGreat

/- Match, the document's: by a table. -/
namespace Go.Proofs.YtoecaonmehbfeaaGreat
open Go.RowKit
set_option linter.unusedVariables false
set_option maxRecDepth 100000

theorem uBools0 : Tryz.prog.underlying 91 = some (.slice 4) := by kernel_rfl
theorem infBool0 : (Tryz.prog.info? 4).map (fun i => (i.zero, i.size, i.bytes)) = some (some (.bool false), 1, 1) := by kernel_rfl
/-- A row of so many answers. -/
def rowB (r : Nat → Bool) (m : Nat) : Obj := .cells ((List.range m).map fun i => Value.bool (r i)).toArray 4
/-- .. of which the first k are told. -/
def part (r : Nat → Bool) (k : Nat) : Nat → Bool := fun i => decide (i < k) && r i
theorem rowB_congr {r s : Nat → Bool} {m : Nat} (h : ∀ i, i < m → r i = s i) : rowB r m = rowB s m := by
  unfold rowB
  congr 2
  apply List.map_congr_left
  intro i hi
  rw [h i (List.mem_range.1 hi)]
theorem rowB_set {r s : Nat → Bool} {m k : Nat} {v : Bool} (h : ∀ i, i < m → s i = if i = k then v else r i) : (.cells (((List.range m).map fun i => Value.bool (r i)).toArray.setIfInBounds k (.bool v)) 4 : Obj) = rowB s m := by
  unfold rowB
  congr 1
  rw [List.setIfInBounds_toArray]
  congr 1
  apply List.ext_getElem?
  intro i
  rw [List.getElem?_set]
  by_cases hi : i < m
  · by_cases e : k = i
    · subst e
      simp [hi, h k hi]
    · simp [hi, h i hi, e, Ne.symm e]
  · by_cases e : k = i
    · subst e
      simp [hi]
    · simp [hi, e]
theorem part_next (r : Nat → Bool) (k : Nat) {m : Nat} : ∀ i, i < m → part r (k + 1) i = if i = k then r k else part r k i := by
  intro i _
  unfold part
  by_cases e : i = k
  · subst e; simp
  · rw [if_neg e]
    congr 1
    apply decide_eq_decide.2
    omega
theorem part_all (r : Nat → Bool) (m : Nat) : rowB (part r m) m = rowB r m := rowB_congr fun i hi => by simp [part, hi]
theorem mk_row10 (w : World) (n : Nat) (h1 : n ≤ 1073741824) :
    (Instr.makeSlice 91 (.int .i64 ((n : Int) + 1)) (.int .i64 ((n : Int) + 1))).run Tryz.prog w = .ok (.slice (some ⟨w.heap.size, 0, none⟩) (n + 1) (n + 1)) (w.alloc (rowB (fun _ => false) (n + 1))) := by
  obtain ⟨i0, hi, hz0, hz1, hz2⟩ := info_parts infBool0
  have h := run_make (P := Tryz.prog) w 91 4 i0 (.bool false) uBools0 hi hz0 .i64 .i64 ((n + 1 : Nat) : Int) ((n + 1 : Nat) : Int) (by omega) (Int.le_refl _) (by rw [hz2]; omega) (by omega)
  rw [show ((n : Int) + 1) = ((n + 1 : Nat) : Int) by omega, h, Int.toNat_natCast]
  congr 2
  unfold rowB
  congr 1
  apply Array.toList_inj.1
  rw [hz1, Nat.mul_one, show (Value.bool false).cells = #[Value.bool false] from rfl, toList_madeCells_one]
  apply List.ext_getElem?
  intro i
  by_cases hi : i < n + 1 <;> simp [hi]

/-- Both rows. -/
def Rows2 (w wr : World) (b2 b : Nat) (s r : Nat → Bool) (m : Nat) : Prop := St w.heap.size w wr [(b2, rowB s m), (b, rowB r m)]
section
variable {w wr : World} {b2 b m : Nat} {s r : Nat → Bool}
theorem Rows2.cell2 (h : Rows2 w wr b2 b s r m) {i : Nat} (hi : i < m) : wr.cell? ⟨b2, i, none⟩ = some (.bool (s i)) := St.cell (b := b2) h List.mem_cons_self (by simp [hi])
theorem Rows2.cell1 (h : Rows2 w wr b2 b s r m) {i : Nat} (hi : i < m) : wr.cell? ⟨b, i, none⟩ = some (.bool (r i)) := St.cell (b := b) h (List.mem_cons_of_mem _ List.mem_cons_self) (by simp [hi])
theorem Rows2.soft (h : Rows2 w wr b2 b s r m) (i : Nat) : wr.frozen? ⟨b2, i, none⟩ = false := St.soft (b := b2) h List.mem_cons_self i
theorem Rows2.drew (h : Rows2 w wr b2 b s r m) : Rows2 w wr.drew b2 b s r m := St.drew h
theorem Rows2.put (h : Rows2 w wr b2 b s r m) {k : Nat} {v : Bool} {s' : Nat → Bool} (hs : ∀ i, i < m → s' i = if i = k then v else s i) : Rows2 w (wr.setCell ⟨b2, k, none⟩ (.bool v)) b2 b s' r m := by
  have := St.set0 h k (.bool v)
  rw [rowB_set hs] at this
  exact this
end

set_option maxHeartbeats 8000000 in
set_option maxRecDepth 100000 in
theorem rmatch_to {p k : List UInt8} (hp : p.length ≤ 1000000) (hk : k.length ≤ 1000000) (w : World) :
    Calls Tryz.prog 30 #[tx p, tx k] w fun e w' => e = .returned (.bool (gl (wordsL p) (wordsL k))) ∧ Below w.heap.size w w' := by
  have c1 := Lib.hid (rwords_to hp w)
  have c2 := Lib.hid (fun W => rwords_to hk W)
  have lp : (wordsL p).length ≤ 1000001 := by have := words_len p; omega
  have lk : (wordsL k).length ≤ 1000001 := by have := words_len k; omega
  generalize wordsL p = P at *
  generalize wordsL k = K at *
  clear hp hk
  go_enter Tryz.func30, Tryz.ntmps30
  go_wp2_with fail
  refine c1.out.mono ?_
  rintro e w1 ⟨v1, rfl, ⟨a, ca, rfl, r1⟩, hb1⟩
  replace hb1 := Lib.hid hb1
  replace r1 := Lib.hid r1
  go_wp2_with fail
  refine (c2.out _).mono ?_
  rintro e w2 ⟨v2, rfl, ⟨c, cc, rfl, r2⟩, hb⟩
  have hb2 := Lib.hid (bel hb1.out hb)
  replace r1 := Lib.hid (r1.out.below hb)
  replace r2 := Lib.hid r2
  clear hb c1 c2 hb1
  have hmk : ∀ W : World, _ := fun W => mk_row10 W K.length (by omega)
  have h0 : St w2.heap.size w2 (w2.alloc (rowB (fun _ => false) (K.length + 1))) [(w2.heap.size, rowB (fun _ => false) (K.length + 1))] := (St.start w2).alloc _
  have h0f := h0.soft (b := w2.heap.size) (c := _) (T := _) List.mem_cons_self 0
  have h0c : (w2.alloc (rowB (fun _ => false) (K.length + 1))).cell? ⟨w2.heap.size, 0, none⟩ = some (.bool false) := h0.cell (b := w2.heap.size) List.mem_cons_self (by simp)
  have h1 := h0.set0 0 (.bool true)
  rw [rowB_set (s := rowR P K 0) (fun i hi => by
    by_cases e : i = 0 <;> simp [rowR, e])] at h1
  replace h1 := Lib.hid h1
  clear h0
  go_wp2_with fail
  clear h0f h0c
  generalize (w2.alloc (rowB (fun _ => false) (K.length + 1))).setCell ⟨w2.heap.size, 0, none⟩ (.bool true) = w3 at *
  go_loopg [7, 8] P.length (fun g v7 v8 wr => ∃ b i : Nat, v7 = .slice (some ⟨b, 0, none⟩) (K.length + 1) (K.length + 1) ∧ v8 = .int .i64 i ∧ i + g = P.length ∧ Hid (St w2.heap.size w2 wr [(b, rowB (rowR P K i) (K.length + 1))]))
  case atStart => exact ⟨_, 0, rfl, rfl, by omega, h1⟩
  case round =>
    clear h1
    obtain ⟨b, i, rfl, rfl, hi, hst⟩ := hrel
    have hi0 : (0 : Int) ≤ i := by omega
    by_cases hlt : i < P.length
    · have hi1 : (i : Int) < P.length := by omega
      have hx : P[i]? = some P[i] := List.getElem?_eq_getElem hlt
      have hnext : rowR P K (i + 1) = nextR (rowR P K i) P[i] K := by simp [rowR, List.getD_eq_getElem?_getD, hx]
      generalize P[i] = x at hx hnext
      have hR : Rows2 w2 (wr.alloc (rowB (fun _ => false) (K.length + 1))) wr.heap.size b (part (rowR P K (i + 1)) 0) (rowR P K i) (K.length + 1) := by
        have e : rowB (part (rowR P K (i + 1)) 0) (K.length + 1) = rowB (fun _ => false) (K.length + 1) := rowB_congr fun i _ => by simp [part]
        unfold Rows2
        rw [e]
        exact hst.out.alloc _
      replace hR := Lib.hid hR
      have cx : Hid (∀ W, Below w2.heap.size w2 W → ∃ ba offa, a = some ⟨ba, offa, none⟩ ∧ W.cell? ⟨ba, offa + i, none⟩ = some (tx x)) := Lib.hid fun W hb => ((r1.out.below hb).at_ i x hx).2
      replace hnext := Lib.hid hnext
      clear hst hx
      go_wp2_with fail
      generalize wr.heap.size = b2 at *
      generalize wr.alloc (rowB (fun _ => false) (K.length + 1)) = w4 at *
      go_loopg [10] (K.length + 1) (fun g v10 wt => ∃ k : Nat, v10 = .int .i64 k ∧ k + g = K.length + 1 ∧ Hid (Rows2 w2 wt b2 b (part (rowR P K (i + 1)) k) (rowR P K i) (K.length + 1)))
      case atStart => exact ⟨0, rfl, by omega, hR⟩
      case round =>
        clear hR
        obtain ⟨k, rfl, hk, hR⟩ := hrel
        have hk0 : (0 : Int) ≤ k := by omega
        by_cases hkn : k ≤ K.length
        · have hk1 : (k : Int) ≤ K.length := by omega
          obtain ⟨ba, offa, rfl, hcx⟩ := cx.out wr hR.out.below
          have hsf := hR.out.soft k
          have put : Hid (∀ v, rowR P K (i + 1) k = v → Rows2 w2 (wr.setCell ⟨b2, k, none⟩ (.bool v)) b2 b (part (rowR P K (i + 1)) (k + 1)) (rowR P K i) (K.length + 1)) := Lib.hid fun v hv => hR.out.put (fun i hi => by rw [← hv]; exact part_next _ _ i hi)
          have hc2 : wr.cell? ⟨b2, k, none⟩ = some (.bool false) := by
            have := hR.out.cell2 (i := k) (by omega)
            rwa [part, decide_eq_false (Nat.lt_irrefl k), Bool.false_and] at this
          by_cases hh : x = [35]
          · subst hh
            have hs := hnext.out
            rw [show nextR (rowR P K i) [35] K = hashR (rowR P K i) from if_pos rfl] at hs
            have hc1 := hR.out.cell1 (i := k) (by omega)
            cases hrk : rowR P K i k with
            | true =>
              have hv := Lib.hid (put.out true (by
                rw [hs]
                cases k with
                | zero => exact hrk
                | succ k => rw [hashR, hrk, Bool.true_or]))
              rw [hrk] at hc1
              clear put hs hrk hR
              go_wp2_with fail
              go_roundg (K.length + 1 - (k + 1))
              case measure => omega
              case rel => exact ⟨k + 1, by go_num, by omega, hv⟩
            | false =>
              cases k with
              | zero =>
                have hv := Lib.hid (put.out false (by rw [hs]; exact hrk))
                rw [hrk] at hc1
                clear put hs hrk hR
                go_wp2_with fail
                go_roundg (K.length + 1 - (0 + 1))
                case measure => omega
                case rel => exact ⟨0 + 1, by go_num, by omega, hv⟩
              | succ k =>
                have hv := Lib.hid (put.out (rowR P K (i + 1) k) (by rw [hs, hashR, hrk, Bool.false_or]))
                have hc3 := hR.out.cell2 (i := k) (by omega)
                rw [part, decide_eq_true (show k < k + 1 by omega), Bool.true_and] at hc3
                rw [hrk] at hc1
                have hkk : (0 : Int) ≤ k := by omega
                have hkp : (0 : Int) < ((k + 1 : Nat) : Int) := by omega
                have hke : ((k + 1 : Nat) : Int) - 1 = k := by omega
                clear put hs hrk hR
                go_wp2_with fail
                go_roundg (K.length + 1 - (k + 1 + 1))
                case measure => omega
                case rel => exact ⟨k + 1 + 1, by go_num, by omega, hv⟩
          · have hs := hnext.out
            rw [show nextR (rowR P K i) x K = oneR (rowR P K i) x K from if_neg hh] at hs
            have hhB : (x == [35]) = false := by simpa using hh
            cases k with
            | zero =>
              have hv := Lib.hid (put.out false (by rw [hs]; rfl))
              clear put hs hR
              go_wp2_with fail
              go_region
              replace hv := Lib.hid (Rows2.drew hv.out)
              go_wp2_with fail
              go_roundg (K.length + 1 - (0 + 1))
              case measure => omega
              case rel => exact ⟨0 + 1, by go_num, by omega, hv⟩
            | succ k =>
              replace hs : rowR P K (i + 1) (k + 1) = (rowR P K i k && stands x (K.getD k [])) := congrFun hs (k + 1)
              have hc1 := hR.out.cell1 (i := k) (by omega)
              have hkk : (0 : Int) ≤ k := by omega
              have hkp : (0 : Int) < ((k + 1 : Nat) : Int) := by omega
              have hke : ((k + 1 : Nat) : Int) - 1 = k := by omega
              have hy : K[k]? = some K[k] := List.getElem?_eq_getElem (by omega)
              have hyd : K.getD k [] = K[k] := by simp [List.getD_eq_getElem?_getD, hy]
              rw [hyd] at hs
              generalize K[k] = y at hy hs
              obtain ⟨-, bc, offc, rfl, hcy⟩ := (r2.out.below hR.out.below).at_ k y hy
              cases hrk : rowR P K i k with
              | false =>
                have hv := Lib.hid (put.out false (by rw [hs, hrk, Bool.false_and]))
                rw [hrk] at hc1
                clear put hs hR hrk hy hyd hcy
                go_wp2_with fail
                go_region
                replace hv := Lib.hid (Rows2.drew hv.out)
                go_wp2_with fail
                go_roundg (K.length + 1 - (k + 1 + 1))
                case measure => omega
                case rel => exact ⟨k + 1 + 1, by go_num, by omega, hv⟩
              | true =>
                rw [hrk, Bool.true_and] at hs
                rw [hrk] at hc1
                by_cases hx42 : x = [42]
                · have hx42B : (x == [42]) = true := by simpa using hx42
                  have hv := Lib.hid (put.out true (by rw [hs, stands, hx42B, Bool.true_or]))
                  clear put hs hR hrk hy hyd
                  go_wp2_with fail
                  go_region
                  replace hv := Lib.hid (Rows2.drew hv.out)
                  go_wp2_with fail
                  go_roundg (K.length + 1 - (k + 1 + 1))
                  case measure => omega
                  case rel => exact ⟨k + 1 + 1, by go_num, by omega, hv⟩
                · have hx42B : (x == [42]) = false := by simpa using hx42
                  have hv := Lib.hid (put.out (x == y) (by rw [hs, stands, hx42B, Bool.false_or]))
                  clear put hs hR hrk hy hyd
                  go_wp2_with fail
                  go_region
                  all_goals
                    replace hv := Lib.hid (Rows2.drew hv.out)
                    go_wp2_with fail
                    go_roundg (K.length + 1 - (k + 1 + 1))
                    case measure => omega
                    case rel => exact ⟨k + 1 + 1, by go_num, by omega, hv⟩
        · obtain rfl : k = K.length + 1 := by omega
          have hst : St w2.heap.size w2 wr [(b2, rowB (rowR P K (i + 1)) (K.length + 1))] := by
            have h2 := hR.out
            unfold Rows2 at h2
            rw [part_all] at h2
            exact h2.sub (List.Sublist.cons_cons _ (List.nil_sublist _))
          replace hst := Lib.hid hst
          clear hR cx hnext
          go_wp2_with fail
          go_roundg (P.length - (i + 1))
          case measure => omega
          case rel => exact ⟨b2, i + 1, rfl, by go_num, by omega, hst⟩
    · obtain rfl : i = P.length := by omega
      have hc := hst.out.cell (b := b) List.mem_cons_self (i := K.length) (v := .bool (gl P K)) (by simp [row_last])
      have hb := Lib.hid (bel hb2.out hst.out.below)
      clear hst
      go_wp2_with fail
      go_ret
      exact ⟨rfl, hb.out⟩
end Go.Proofs.YtoecaonmehbfeaaGreat

/- Names, keys; SameTexts. -/
namespace Go.Proofs.YtoecaonmehbfeaaGreat
open Go.RowKit
set_option linter.unusedVariables false

theorem inname_any (c : UInt8) (w : World) : Calls Tryz.prog 64 #[.int .u8 c.toNat] w fun e w' => e = .returned (.bool (inNm c)) ∧ w' = w := by
  unfold inNm
  generalize c.toNat = n at *
  go_enter Tryz.func64, Tryz.ntmps64
  go_wp2_with fail
  all_goals
    go_ret
    refine ⟨ret_bool ?_, rfl⟩
    apply Bool.eq_iff_iff.2
    simp only [Bool.or_eq_true, Bool.and_eq_true, decide_eq_true_eq, beq_iff_eq]
    constructor
    all_goals
      intro _
      first | trivial | omega

theorem inNm_iff (c : UInt8) : inNm c = true ↔ (97 ≤ c.toNat ∧ c.toNat ≤ 122) ∨ (65 ≤ c.toNat ∧ c.toNat ≤ 90) ∨ (48 ≤ c.toNat ∧ c.toNat ≤ 57) ∨ c.toNat = 45 := by
  unfold inNm
  simp only [Bool.or_eq_true, decide_eq_true_eq, or_assoc]
theorem all_take {l : List UInt8} {i : Nat} {c : UInt8} (h : (l.take i).all inNm = true) (hc : l[i]? = some c) : (l.take (i + 1)).all inNm = inNm c := by
  rw [List.take_add_one, hc, List.all_append, h]
  simp
theorem isNm_bad {l : List UInt8} {i : Nat} {c : UInt8} (hc : l[i]? = some c) (h : inNm c = false) : isNm l = false := by
  have : l.all inNm = false := by
    apply Bool.eq_false_iff.2
    intro ha
    rw [List.all_eq_true] at ha
    rw [ha c (List.mem_of_getElem? hc)] at h
    cases h
  rw [isNm, this, Bool.and_false]

/-- What holds at IsName's label. -/
def NameAt (w : World) (l : List UInt8) (g : Nat) (a' : Act) (w' : World) : Prop := ∃ i : Nat, i + g = l.length ∧ 0 < l.length ∧ l.length ≤ 12 ∧ (l.take i).all inNm = true ∧ Fr 22 [(0, tx l), (3, .int .i64 i)] a' ∧ w' = w

set_option maxHeartbeats 1000000 in
theorem isname_any (l : List UInt8) (w : World) : Calls Tryz.prog 32 #[tx l] w fun e w' => e = .returned (.bool (isNm l)) ∧ w' = w := by
  have hIn := Lib.hid (fun c => inname_any c w)
  go_enter Tryz.func32, Tryz.ntmps32
  go_wp2_with fail
  refine wp_scope_ghost 0 (NameAt w l) rfl ?_ ?_
  · rintro g a' w' ⟨i, hi, hl0, hl12, ha, hfr, rfl⟩
    obtain ⟨q, rfl, hl'⟩ := hfr.lit
    clear hfr
    simp only [List.mem_cons, List.not_mem_nil, or_false, forall_eq_or_imp, forall_eq] at hl'
    obtain ⟨f0, f3⟩ := hl'
    simp only [List.range, List.range.loop, List.map, f0, f3]
    clear f0 f3
    have hi0 : (0 : Int) ≤ i := by omega
    by_cases hlt : i < l.length
    · have hx : l[i]? = some l[i] := List.getElem?_eq_getElem hlt
      have hi1 : (i : Int) < l.length := by omega
      have hne : ((i : Int) == l.length) = false := by rw [beq_eq_false_iff_ne]; omega
      have c1 := Lib.hid (hIn.out l[i])
      clear hIn
      have hg : (((⟨l.toArray⟩ : ByteArray)[i]'(show i < l.length from hlt)).toNat : Int) = (l[i].toNat : Int) := rfl
      cases hb : inNm l[i] with
      | true =>
        rw [hb] at c1
        have ha2 := all_take ha hx
        rw [hb] at ha2
        replace ha2 := Lib.hid ha2
        clear ha hx hb
        go_wp2_with fail
        refine c1.out.mono ?_
        rintro e w1 ⟨rfl, rfl⟩
        go_wp2_with fail
        refine wp_goto ?_
        refine ⟨rfl, g - 1, by omega, i + 1, by omega, hl0, hl12, ha2.out, ⟨rfl, rfl, ?_⟩, rfl⟩
        simp
      | false =>
        rw [hb] at c1
        have hf := isNm_bad hx hb
        replace hf := Lib.hid hf
        clear ha hx hb
        go_wp2_with fail
        refine c1.out.mono ?_
        rintro e w1 ⟨rfl, rfl⟩
        go_wp2_with fail
        simp only [Exit.jump]
        go_ret
        exact ⟨ret_bool hf.out.symm, rfl⟩
    · obtain rfl : i = l.length := by omega
      rw [List.take_of_length_le (Nat.le_refl _)] at ha
      have hf : isNm l = true := by rw [isNm, ha, decide_eq_true (show 1 ≤ l.length by omega), decide_eq_true hl12]; rfl
      clear hIn
      go_wp2_with fail
      simp only [Exit.jump]
      go_ret
      exact ⟨ret_bool hf.symm, rfl⟩
  · intro H
    by_cases h0 : l = []
    · subst h0
      clear H
      go_wp2_with fail
      simp only [Exit.jump]
      go_ret
      exact ⟨rfl, rfl⟩
    · have hpos : 0 < l.length := List.length_pos_iff.2 h0
      have h0B : (l == []) = false := by simpa using h0
      have h0C : l.isEmpty = false := by simpa using h0
      by_cases h12 : 12 < l.length
      · have h12' : (12 : Int) < l.length := by omega
        have hf : isNm l = false := by rw [isNm, decide_eq_false (show ¬ l.length ≤ 12 by omega), Bool.and_false, Bool.false_and]
        clear H
        go_wp2_with fail
        simp only [Exit.jump]
        go_ret
        exact ⟨ret_bool hf.symm, rfl⟩
      · have h12' : ¬ (12 : Int) < l.length := by omega
        go_wp2_with fail
        refine wp_label ?_
        go_step
        go_step
        exact H l.length _ _ ⟨0, by omega, by omega, by omega, by simp, ⟨rfl, rfl, by simp⟩, rfl⟩

set_option maxHeartbeats 1000000 in
theorem risname_any (l : List UInt8) (hl : l.length ≤ maxLen) (w : World) : Calls Tryz.prog 37 #[tx l] w fun e w' => e = .returned (.bool (isNm l)) ∧ w' = w := by
  unfold maxLen at hl
  go_enter Tryz.func37, Tryz.ntmps37
  go_wp2_with fail
  go_loopg [3] l.length (fun g v3 wr => ∃ i : Nat, v3 = .int .i64 i ∧ i + g = l.length ∧ Hid ((l.take i).all inNm = true) ∧ wr = w)
  case atStart => exact ⟨0, rfl, by omega, Lib.hid (by simp), rfl⟩
  case round =>
    obtain ⟨i, rfl, hi, ha, rfl⟩ := hrel
    have hi0 : (0 : Int) ≤ i := by omega
    by_cases hlt : i < l.length
    · have hx : l[i]? = some l[i] := List.getElem?_eq_getElem hlt
      have hi1 : (i : Int) < l.length := by omega
      have ha2 := Lib.hid (all_take ha.out hx)
      have hbad := Lib.hid (isNm_bad hx)
      clear ha hx
      have hif := inNm_iff l[i]
      have hcN : ((⟨l.toArray⟩ : ByteArray)[i]'(show i < l.length from hlt)) = l[i] := rfl
      have hint : ((l[i].toNat : Int) < 45 ∨ (45 < (l[i].toNat : Int) ∧ (l[i].toNat : Int) < 48) ∨ (57 < (l[i].toNat : Int) ∧ (l[i].toNat : Int) < 65) ∨ (90 < (l[i].toNat : Int) ∧ (l[i].toNat : Int) < 97) ∨ 122 < (l[i].toNat : Int)) ∨
          ((l[i].toNat : Int) = 45 ∨ (48 ≤ (l[i].toNat : Int) ∧ (l[i].toNat : Int) ≤ 57) ∨ (65 ≤ (l[i].toNat : Int) ∧ (l[i].toNat : Int) ≤ 90) ∨ (97 ≤ (l[i].toNat : Int) ∧ (l[i].toNat : Int) ≤ 122)) := by omega
      rcases hint with h | h
      · have hf := hbad.out (by
          cases hb : inNm l[i] with
          | false => rfl
          | true =>
            have := hif.1 hb
            omega)
        have hne : (((l[i].toNat : Nat) : Int) != 45) = true := by
          rw [bne_iff_ne]
          omega
        replace hf := Lib.hid hf
        clear hif ha2 hbad
        rcases h with h | ⟨h, h'⟩ | ⟨h, h'⟩ | ⟨h, h'⟩ | h
        all_goals
          go_wp2_with fail
          go_ret
          exact ⟨ret_bool hf.out.symm, rfl⟩
      · rw [hif.2 (by omega)] at ha2
        clear hif hbad
        rcases h with h | ⟨h, h'⟩ | ⟨h, h'⟩ | ⟨h, h'⟩
        · have hne : (((l[i].toNat : Nat) : Int) != 45) = false := by
            rw [bne_eq_false_iff_eq]
            exact h
          go_wp2_with fail
          go_roundg (l.length - (i + 1))
          case measure => omega
          case rel => exact ⟨i + 1, by go_num, by omega, ha2, rfl⟩
        all_goals
          go_wp2_with fail
          go_roundg (l.length - (i + 1))
          case measure => omega
          case rel => exact ⟨i + 1, by go_num, by omega, ha2, rfl⟩
    · obtain rfl : i = l.length := by omega
      have ha2 := ha.out
      rw [List.take_of_length_le (Nat.le_refl _)] at ha2
      have hf : isNm l = (decide ((1 : Int) ≤ l.length) && decide ((l.length : Int) ≤ 12)) := by
        rw [isNm, ha2, Bool.and_true]
        congr 1
        · apply decide_eq_decide.2; omega
        · apply decide_eq_decide.2; omega
      replace hf := Lib.hid hf
      clear ha ha2
      go_wp2_with fail
      all_goals
        go_ret
        refine ⟨ret_bool ?_, rfl⟩
        rw [hf.out]
        first
          | (rw [decide_eq_true (show (1 : Int) ≤ l.length by omega), Bool.true_and]; done)
          | (rw [decide_eq_false (show ¬ (1 : Int) ≤ l.length by omega), Bool.false_and])
theorem iskey_any (l : List UInt8) (w : World) : Calls Tryz.prog 43 #[tx l] w fun e w' => e = .returned (.bool (decide (l.length ≤ 40))) ∧ w' = w := by
  go_enter Tryz.func43, Tryz.ntmps43
  go_wp2_with fail
  go_ret
  exact ⟨ret_bool (decide_eq_decide.2 (by omega)), rfl⟩
theorem riskey_any (l : List UInt8) (w : World) : Calls Tryz.prog 46 #[tx l] w fun e w' => e = .returned (.bool (decide (l.length ≤ 40))) ∧ w' = w := by
  go_enter Tryz.func46, Tryz.ntmps46
  go_wp2_with fail
  go_ret
  exact ⟨ret_bool (decide_eq_decide.2 (by omega)), rfl⟩

end Go.Proofs.YtoecaonmehbfeaaGreat
