/- namespace Go.Proofs.YtknjamfjonapiaaGreatDoor, namespace Go.Proofs.YtknjamfjonapiaaGreatDoor, namespace Go.Proofs.YtknjamfjonapiaaGreatDoor, namespace Go.Proofs.YtknjamfjonapiaaGreatDoor, namespace Go.Proofs.YtknjamfjonapiaaGreatDoor, namespace Go.Proofs.YtknjamfjonapiaaGreatDoor, namespace Go.Proofs.YtknjamfjonapiaaGreatDoor, namespace Go.Proofs.YtknjamfjonapiaaGreatDoor, namespace Go.Proofs.YtknjamfjonapiaaGreatDoor, namespace Go.Proofs.YtknjamfjonapiaaGreatDoor, namespace Go.Proofs.YtknjamfjonapiaaGreatDoor, namespace Go.Proofs.YtknjamfjonapiaaGreatDoor, namespace Go.Proofs.YtknjamfjonapiaaGreatDoor, namespace Go.Proofs.YtknjamfjonapiaaGreatDoor, namespace Go.Proofs.YtknjamfjonapiaaGreatDoor. -/
import Derived.Test.YtknjamfjonapiaaGreatDoorY16
import Derived.Test.YtknjamfjonapiaaGreatDoorY12
import Derived.Deep.LoopGhost
import Derived.RegionTactic
import Derived.Test.YtknjamfjonapiaaGreatDoorY15
import Derived.Test.YtknjamfjonapiaaGreatDoorY01
import Derived.Test.YtknjamfjonapiaaGreatDoorY10
import Derived.Test.YtknjamfjonapiaaGreatDoorY05
import Derived.Test.YtknjamfjonapiaaGreatDoorY07
import Derived.Test.YtknjamfjonapiaaGreatDoorRows
import Derived.Deep.QuietTactic
import Derived.BigQuiet
import Derived.Deep.RegionHeld3
import Derived.Laws.MakeOwn
import Derived.IntWalk
import Derived.Lib.Hide
import Derived.Laws.Bits64b
namespace Go.Proofs.YtknjamfjonapiaaGreatDoor
open Go.RowKit
set_option linter.unusedVariables false
set_option maxRecDepth 100000
theorem take_zip' (rows : List Bnd) (ids : List Int) (i : Nat) : (rows.zip ids).take i = (rows.take i).zip (ids.take i) := List.take_zipWith
theorem drop_zip' (rows : List Bnd) (ids : List Int) (i : Nat) : (rows.zip ids).drop i = (rows.drop i).zip (ids.drop i) := List.drop_zipWith
def hitL (g : Bnd → Bool) (zs : List (Bnd × Int)) (i : Nat) : List Int := ((zs.take i).filter fun x => g x.1).map (·.2)
theorem hit_all (g : Bnd → Bool) (zs : List (Bnd × Int)) (i : Nat) : hitL g zs zs.length = hitL g zs i ++ ((zs.drop i).filter fun x => g x.1).map (·.2) := by
  unfold hitL
  rw [List.take_of_length_le (Nat.le_refl _), ← List.map_append, ← List.filter_append, List.take_append_drop]
theorem hit_is {g : Bnd → Bool} {zs : List (Bnd × Int)} {i : Nat} {x : Bnd × Int} {y : Int} (hn : (zs.map (·.2)).Nodup) (hx : zs[i]? = some x) (hy : (hitL g zs zs.length)[(hitL g zs i).length]? = some y) : (x.2 == y) = g x.1 := by
  obtain ⟨-, h2⟩ := nodup_ids hn hx
  rw [hit_all g zs i, List.getElem?_append_right (Nat.le_refl _), Nat.sub_self, split_at hx, List.filter_cons] at hy
  split at hy
  · rename_i hg
    rw [List.map_cons, List.getElem?_cons_zero, Option.some.injEq] at hy
    rw [hg, hy, beq_self_eq_true]
  · rename_i hg
    have hm := List.mem_of_getElem? hy
    obtain ⟨z, hz, rfl⟩ := List.mem_map.1 hm
    have hne : x.2 ≠ z.2 := fun e => h2 (e ▸ List.mem_map_of_mem (List.mem_filter.1 hz).1)
    rw [beq_eq_false_iff_ne.2 hne]
    simpa using hg
theorem hit_end {g : Bnd → Bool} {rows : List Bnd} {ids : List Int} {i : Nat} (hl : rows.length = ids.length) (h : (hitL g (rows.zip ids) (rows.zip ids).length).length ≤ (hitL g (rows.zip ids) i).length) : (rows.take i).filter g = rows.filter g := by
  rw [hit_all g (rows.zip ids) i, List.length_append, List.length_map] at h
  have h0 : ((rows.zip ids).drop i).filter (fun x => g x.1) = [] := List.eq_nil_of_length_eq_zero (by omega)
  have e : ((rows.drop i).zip (ids.drop i)).filter (fun x => g x.1) = [] := by rw [← drop_zip']; exact h0
  have e2 := zip_filter (rows := rows.drop i) (ids := ids.drop i) (by rw [List.length_drop, List.length_drop, hl]) g
  rw [e, List.map_nil] at e2
  have e3 : rows.filter g = (rows.take i).filter g ++ (rows.drop i).filter g := by rw [← List.filter_append, List.take_append_drop]
  rw [e3, ← e2, List.append_nil]
theorem hit_len {g : Bnd → Bool} {rows : List Bnd} {ids : List Int} {i : Nat} (hl : rows.length = ids.length) : (hitL g (rows.zip ids) i).length = ((rows.take i).filter g).length := by
  unfold hitL
  rw [List.length_map, take_zip', ← zip_filter (rows := rows.take i) (ids := ids.take i) (by rw [List.length_take, List.length_take, hl]) g, List.length_map]
theorem hits_wp (zs : List (Bnd × Int)) (P : Wds) : hits (zs.map wp) P = hitL (fun b => gl (wordsL b.2.2) P) zs zs.length := by
  unfold hits hitL
  rw [List.take_of_length_le (Nat.le_refl _), List.filter_map, List.map_map]
  rfl
section
variable {B : Nat} {w0 w w' : World} {F T R Q S : List (Nat × Obj)} {tb xb c c' pb : Nat} {M : Prs} {L X Y : List Pl} {p' : Pl} {k : Ky} {A rows : List Bnd} {P : List Plc} {v tv u : Value} {n : List UInt8} {keys : List (List UInt8)} {p : Bnd → Bool}
structure Mtch (k : Ky) (M : Prs) (c : Nat) (l2 : List Int) (iv : Value) (T' Si : List (Nat × Obj)) : Prop where
  tree : TrIn k.tb M c T'
  ids : SlIs 3 1 iv l2.length (l2.map encI) Si
def MatAt (B : Nat) (w0 : World) (k : Ky) (u : Value) (rows : List Bnd) (l2 : List Int) (E : List (Nat × Obj)) (c : Nat) (m : Bnd → Bool) (g : Nat) (a' : Act) (w' : World) : Prop :=
  ∃ (i : Nat) (iv z : Value) (T' Si Z : List (Nat × Obj)), Mtch k (((rows.map (·.2.2)).map wordsL).zip k.ids) c l2 iv T' Si ∧ Fr 51 [(0, bpt k.kb), (1, u), (7, iv), (8, z), (9, .int .i64 i), (10, .int .i64 ((rows.take i).filter m).length)] a' ∧ i + g = rows.length ∧
    BnsIs z ((rows.take i).filter m) Z ∧ St B w0 w' ((T' ++ (Si ++ (((k.kb, .cells #[bpt k.tb, k.v] 277) :: k.S) ++ E))) ++ Z)
def MatR (B : Nat) (w0 : World) (kb : Nat) (keys : List (List UInt8)) (l : List Bnd) (c : Nat) (F : List (Nat × Obj)) (e : Ending) (w' : World) : Prop :=
  ∃ k' z Z, e = .returned z ∧ k'.kb = kb ∧ KyOk k' keys c ∧ BnsIs z l Z ∧ St B w0 w' (k'.objs ++ (Z ++ F))
set_option maxHeartbeats 4000000 in
theorem matching_any {Sr : List (Nat × Obj)} (h : KyOk k (rows.map (·.2.2)) c) (hst : St B w0 w (k.objs ++ (Sr ++ F))) (hu : BnsIs u rows Sr) (key : List UInt8) (hk : key.length ≤ 1000) (hc : c ≤ 100000) (hr : rows.length ≤ 1000) :
    Calls Tryz.prog 209 #[bpt k.kb, u, tx key] w (MatR B w0 k.kb (rows.map (·.2.2)) (rows.filter fun b => gl (wordsL b.2.2) (wordsL key)) c F) := by
  obtain ⟨m, hm⟩ : ∃ m, m = fun b : Bnd => gl (wordsL b.2.2) (wordsL key) := ⟨_, rfl⟩
  have hlen : rows.length = k.ids.length := by have := h.len; rwa [List.length_map] at this
  have hz : (rows.zip k.ids).map (·.2) = k.ids := List.map_snd_zip (by omega)
  have hnd : ((rows.zip k.ids).map (·.2)).Nodup := by rw [hz]; exact h.rise.imp (fun h => by omega)
  have hsub : (hitL m (rows.zip k.ids) (rows.zip k.ids).length).Sublist k.ids := by
    unfold hitL
    rw [List.take_of_length_le (Nat.le_refl _)]
    have := (List.filter_sublist (p := fun x : Bnd × Int => m x.1) (l := rows.zip k.ids)).map (fun x => x.2)
    rwa [hz] at this
  obtain ⟨k0, -, -, -⟩ := Ky.cells hst
  have ct := Lib.hid (trmatch_is (P := wordsL key) rfl (h.rise.sublist hsub) (fun i => by rw [zip_wp, hits_wp, ← hm]) (h.tree.is (hst.perm Ky.treeP)) hk (by omega))
  have hl2 : (hitL m (rows.zip k.ids) (rows.zip k.ids).length).length ≤ 1000 := by
    have := hsub.length_le
    omega
  rw [← hm]
  obtain ⟨au, cu, eu⟩ := hu.form
  subst eu
  obtain ⟨ai, capi, ev, -⟩ := h.form hst
  have facts : Hid (∀ (T' Si : List (Nat × Obj)) a2 cap2, SlIs 3 1 (.slice a2 (hitL m (rows.zip k.ids) (rows.zip k.ids).length).length cap2) (hitL m (rows.zip k.ids) (rows.zip k.ids).length).length ((hitL m (rows.zip k.ids) (rows.zip k.ids).length).map encI) Si → ∀ w' Z, St B w0 w' ((T' ++ (Si ++ (((k.kb, .cells #[bpt k.tb, k.v] 277) :: k.S) ++ (Sr ++ F)))) ++ Z) →
      w'.cell? ⟨k.kb, 1, none⟩ = some k.v ∧ ∀ (i : Nat) b, rows[i]? = some b → ((rows.take i).filter m).length < (hitL m (rows.zip k.ids) (rows.zip k.ids).length).length →
        ∃ b1 o1 g2 o2 g3 o3 x y, au = some ⟨b1, o1, none⟩ ∧ ai = some ⟨g2, o2, none⟩ ∧ a2 = some ⟨g3, o3, none⟩ ∧ (x == y) = m b ∧ w'.cell? ⟨b1, o1 + i * 3, none⟩ = some (tx b.1) ∧ w'.cell? ⟨b1, o1 + i * 3 + 1, none⟩ = some (tx b.2.1) ∧ w'.cell? ⟨b1, o1 + i * 3 + 2, none⟩ = some (tx b.2.2) ∧
          w'.cell? ⟨g2, o2 + i, none⟩ = some (.int .i64 x) ∧ w'.cell? ⟨g3, o3 + ((rows.take i).filter m).length, none⟩ = some (.int .i64 y)) :=
    Lib.hid fun T' Si a2 cap2 hs2 w' Z h1 => by
      have hmm : (k.kb, .cells #[bpt k.tb, k.v] 277) ∈ (T' ++ (Si ++ (((k.kb, .cells #[bpt k.tb, k.v] 277) :: k.S) ++ (Sr ++ F)))) ++ Z := by simp
      refine ⟨h1.cell (b := k.kb) (i := 1) hmm rfl, fun i b hb hlt => ?_⟩
      have hil : i < k.ids.length := by have := (List.getElem?_eq_some_iff.1 hb).1; omega
      have hx : k.ids[i]? = some (k.ids[i]'hil) := List.getElem?_eq_getElem hil
      have hy : (hitL m (rows.zip k.ids) (rows.zip k.ids).length)[((rows.take i).filter m).length]? = some ((hitL m (rows.zip k.ids) (rows.zip k.ids).length)[((rows.take i).filter m).length]'hlt) := List.getElem?_eq_getElem hlt
      have hru := hu.read (A := T' ++ (Si ++ (((k.kb, .cells #[bpt k.tb, k.v] 277) :: k.S) ++ F)) ++ Z) (h1.perm (by
        refine perm_by fun a => ?_
        simp only [List.count_append, List.count_cons, List.append_assoc, List.cons_append]
        omega))
      obtain ⟨a', cap', e, hcc⟩ := hru
      cases e
      obtain ⟨b1, o1, e1, q1, q2, q3⟩ := hcc i b hb
      have h2 : St B w0 w' ((T' ++ (Si ++ ((k.kb, .cells #[bpt k.tb, k.v] 277) :: (Sr ++ F))) ++ Z) ++ k.S) := h1.perm (by
        refine perm_by fun a => ?_
        simp only [List.count_append, List.count_cons, List.append_assoc, List.cons_append]
        omega)
      have h3 : St B w0 w' ((T' ++ ((((k.kb, .cells #[bpt k.tb, k.v] 277) :: k.S) ++ (Sr ++ F))) ++ Z) ++ Si) := h1.perm (by
        refine perm_by fun a => ?_
        simp only [List.count_append, List.count_cons, List.append_assoc, List.cons_append]
        omega)
      have hi := h.ids
      obtain ⟨a3, cap3, e2, -, -, ha3⟩ := hi.form
      rw [ev] at e2
      cases e2
      obtain ⟨g2, o2, e3⟩ := ha3 i hil
      rw [ev, e3] at hi
      obtain ⟨a4, cap4, e4, -, -, ha4⟩ := hs2.form
      cases e4
      obtain ⟨g3, o3, rfl⟩ := ha4 _ hlt
      refine ⟨b1, o1, g2, o2, g3, o3, _, _, e1, e3, rfl, ?_, q1, q2, q3, hi.cellAt h2 (by rw [List.getElem?_map, hx]; rfl), hs2.cellAt h3 (by rw [List.getElem?_map, hy]; rfl)⟩
      refine hit_is (g := m) hnd (zip_at hb hx) ?_
      rw [hit_len hlen]
      exact hy
  have fin : Hid (∀ (T' Si : List (Nat × Obj)) w' z Z, TrIn k.tb (((rows.map (·.2.2)).map wordsL).zip k.ids) c T' → BnsIs z (rows.filter m) Z → St B w0 w' ((T' ++ (Si ++ (((k.kb, .cells #[bpt k.tb, k.v] 277) :: k.S) ++ (Sr ++ F)))) ++ Z) →
      MatR B w0 k.kb (rows.map (·.2.2)) (rows.filter m) c F (.returned z) w') := Lib.hid fun T' Si w' z Z hT hz h1 => by
    refine ⟨⟨k.kb, k.tb, k.v, k.ids, k.S, T'⟩, z, Z, rfl, rfl, ⟨h.ids, h.len, h.rise, h.top, hT⟩, hz, ?_⟩
    have h2 : St B w0 w' ((((k.kb, .cells #[bpt k.tb, k.v] 277) :: (k.S ++ T')) ++ (Z ++ F)) ++ (Si ++ Sr)) := h1.perm (by
      refine perm_by fun a => ?_
      simp only [List.count_append, List.count_cons, List.append_assoc, List.cons_append]
      omega)
    exact h2.sub (List.sublist_append_left _ _)
  have he : Hid (∀ i, (hitL m (rows.zip k.ids) (rows.zip k.ids).length).length ≤ ((rows.take i).filter m).length → (rows.take i).filter m = rows.filter m) := Lib.hid fun i hi => hit_end hlen (by rw [hit_len hlen (i := i)]; exact hi)
  have hle : Hid (∀ i, ((rows.take i).filter m).length ≤ (hitL m (rows.zip k.ids) (rows.zip k.ids).length).length) := Lib.hid fun i => by
    rw [← hit_len hlen, hit_all m (rows.zip k.ids) i, List.length_append]
    omega
  obtain ⟨kb, tb, v, ids, S, T⟩ := k
  simp only at ev hlen facts fin k0 ct he hl2 hle
  subst ev
  generalize hitL m (rows.zip ids) (rows.zip ids).length = l2 at *
  replace hlen := Lib.hid hlen
  clear h hst hu hz hnd hk hc hsub
  replace hm := Lib.hid hm
  go_enter Tryz.func209, Tryz.ntmps209
  go_wp2_with fail
  refine wp_scope_ghost 0 (MatAt B w0 ⟨kb, tb, .slice ai ids.length capi, ids, S, T⟩ (.slice au rows.length cu) rows l2 (Sr ++ F) c m) rfl ?_ ?_
  · clear ct
    rintro g a' w' ⟨i, iv, z, T', Si, Z, hM, hfr, hi, hzl, hst⟩
    simp only at hM hfr hst
    obtain ⟨a2, cap2, rfl, -⟩ := hM.ids.form
    replace facts := Lib.hid (facts.out T' Si a2 cap2 hM.ids)
    replace fin := Lib.hid (fun w' z Z => fin.out T' Si w' z Z hM.tree)
    replace hM := Lib.hid hM
    obtain ⟨O, hO⟩ : ∃ O, O = (T' ++ (Si ++ (((kb, .cells #[bpt tb, .slice ai ids.length capi] 277) :: S) ++ (Sr ++ F)))) := ⟨_, rfl⟩
    rw [← hO] at hst facts fin
    replace hO := Lib.hid hO
    obtain ⟨q, rfl, hl'⟩ := hfr.lit
    clear hfr
    simp only [List.mem_cons, List.not_mem_nil, or_false, forall_eq_or_imp, forall_eq] at hl'
    obtain ⟨f0, f1, f7, f8, f9, f10⟩ := hl'
    simp only [List.range, List.range.loop, List.map, f0, f1, f7, f8, f9, f10]
    clear f0 f1 f7 f8 f9 f10
    have hi0 : (0 : Int) ≤ i := by omega
    obtain ⟨k1, hrows⟩ := facts.out w' Z hst
    have hq0 : (0 : Int) ≤ ((rows.take i).filter m).length := by omega
    have hqi : ((rows.take i).filter m).length ≤ i := filter_len_take _ _
    by_cases hlt : i < rows.length
    · have hi1 : (i : Int) < rows.length := by omega
      have hiB : ((i : Int) == rows.length) = false := by rw [beq_eq_false_iff_ne]; omega
      by_cases hq : ((rows.take i).filter m).length < l2.length
      · have hqB : ((((rows.take i).filter m).length : Int) == l2.length) = false := by rw [beq_eq_false_iff_ne]; omega
        have hq1 : (((rows.take i).filter m).length : Int) < l2.length := by omega
        have hx : rows[i]? = some rows[i] := List.getElem?_eq_getElem hlt
        generalize rows[i] = b at hx
        obtain ⟨b1, o1, g2, o2, g3, o3, x, y, rfl, rfl, rfl, hxy, q1, q2, q3, q4, q5⟩ := hrows i b hx hq
        have stp := filter_step (p := m) hx
        have hlti : i < ids.length := by have := hlen.out; omega
        have hi2 : (i : Int) < ids.length := by omega
        have dr : Hid (∀ n, St B w0 (w'.drewN n) (O ++ Z)) := Lib.hid fun n => hst.drewN n
        cases hmx : m b with
        | true =>
          rw [hmx] at stp hxy
          rw [if_pos rfl] at stp
          obtain rfl := beq_iff_eq.1 hxy
          have ap : Hid (∀ n, ∃ au' cu', z = .slice au' ((rows.take i).filter m).length cu' ∧ ∃ a4 cap4 W2, (Builtin.append_ #[95, 95] 0 #[z, .slice (some ⟨w'.heap.size, 0, none⟩) 1 1]).run Tryz.prog ((w'.drewN n).alloc (bO b)) = .ok (.slice a4 (((rows.take i).filter m).length + 1) cap4) W2 ∧
              ∀ a', Fr 51 [(0, bpt kb), (1, .slice (some ⟨b1, o1, none⟩) rows.length cu), (7, .slice (some ⟨g3, o3, none⟩) l2.length cap2), (8, .slice a4 (((rows.take i).filter m).length + 1) cap4), (9, .int .i64 ((i + 1 : Nat) : Int)), (10, .int .i64 ((((rows.take i).filter m).length + 1 : Nat) : Int))] a' →
                ∃ m', m' < g ∧ MatAt B w0 ⟨kb, tb, .slice (some ⟨g2, o2, none⟩) ids.length capi, ids, S, T⟩ (.slice (some ⟨b1, o1, none⟩) rows.length cu) rows l2 (Sr ++ F) c m m' a' W2) := Lib.hid fun n => by
            obtain ⟨a5, c5, e5⟩ := hzl.form
            obtain ⟨a4, cap4, W2, F2, hrun, hs4, hst4⟩ := bnd_append (X := O) hzl (dr.out n) b (by omega)
            refine ⟨a5, c5, e5, a4, cap4, W2, hrun, fun a' hf => ⟨g - 1, by omega, i + 1, _, _, T', Si, F2, hM.out, ?_, by omega, by rw [stp]; exact hs4, by rw [hO.out] at hst4; exact hst4⟩⟩
            rw [stp, List.length_append, List.length_singleton]
            exact hf
          obtain ⟨x1, x2, x3⟩ := b
          simp only at q1 q2 q3 ap
          clear hzl hst hrows hx hxy hmx stp facts fin he hle dr
          generalize ((rows.take i).filter m).length = q0 at *
          obtain ⟨au', cu', rfl, -⟩ := ap.out 0
          go_wp2_with fail
          go_quiet (fail)
          obtain ⟨_, _, _, a4, cap4, W2, hrun, nx⟩ := ap.out nq
          replace nx := Lib.hid nx
          clear ap
          go_wp2_with (at_builtin; refine wpList_append_go rfl (.tmp 40) (.tmp 45) 95 95 rfl _ _ rfl rfl hrun ?_)
          refine wp_goto ?_
          exact ⟨rfl, nx.out _ ⟨rfl, rfl, by simp⟩⟩
        | false =>
          rw [hmx] at stp hxy
          rw [if_neg (by decide), List.append_nil] at stp
          have nx : Hid (∀ n a', Fr 51 [(0, bpt kb), (1, .slice (some ⟨b1, o1, none⟩) rows.length cu), (7, .slice (some ⟨g3, o3, none⟩) l2.length cap2), (8, z), (9, .int .i64 ((i + 1 : Nat) : Int)), (10, .int .i64 ((rows.take i).filter m).length)] a' →
                ∃ m', m' < g ∧ MatAt B w0 ⟨kb, tb, .slice (some ⟨g2, o2, none⟩) ids.length capi, ids, S, T⟩ (.slice (some ⟨b1, o1, none⟩) rows.length cu) rows l2 (Sr ++ F) c m m' a' (w'.drewN n)) := Lib.hid fun n a' hf =>
            ⟨g - 1, by omega, i + 1, _, _, T', Si, Z, hM.out, by rw [stp]; exact hf, by omega, by rw [stp]; exact hzl, by have := dr.out n; rw [hO.out] at this; exact this⟩
          obtain ⟨au', cu', rfl⟩ := hzl.form
          obtain ⟨x1, x2, x3⟩ := b
          simp only at q1 q2 q3
          clear hzl hst hrows hx hmx stp facts fin he hle dr
          generalize ((rows.take i).filter m).length = q0 at *
          go_wp2_with fail
          go_quiet (fail)
          go_wp2_with fail
          refine wp_goto ?_
          exact ⟨rfl, nx.out _ _ ⟨rfl, rfl, by simp⟩⟩
      · have hqB : (((rows.take i).filter m).length : Int) = l2.length := by have := hle.out i; omega
        have e := he.out i (by omega)
        have hzl' := hzl
        rw [e] at hzl'
        have f := Lib.hid (fin.out _ _ _ hzl' hst)
        rw [hqB]
        obtain ⟨au', cu', rfl⟩ := hzl.form
        clear hzl hzl' hst hrows facts fin he hle e hqB hq0 hqi hq
        generalize ((rows.take i).filter m).length = q0 at *
        go_wp2_with fail
        simp only [Exit.jump]
        go_ret
        exact f.out
    · obtain rfl : i = rows.length := by omega
      rw [List.take_of_length_le (Nat.le_refl _)] at hzl
      rw [List.take_of_length_le (Nat.le_refl _)]
      have f := Lib.hid (fin.out _ _ _ hzl hst)
      obtain ⟨au', cu', rfl⟩ := hzl.form
      clear hzl hst hrows facts fin he hle hq0 hqi
      generalize (rows.filter m).length = q0 at *
      go_wp2_with fail
      simp only [Exit.jump]
      go_ret
      exact f.out
  · intro H
    clear facts fin he hle
    go_wp2_with fail
    refine ct.out.mono ?_
    rintro e w1 ⟨iv, Si, rfl, hs2, ht⟩
    obtain ⟨T', hT, h1⟩ := TrIn.of ht
    have start : Hid (∀ a', Fr 51 [(0, bpt kb), (1, .slice au rows.length cu), (7, iv), (8, .slice none 0 0), (9, .int .i64 ((0 : Nat) : Int)), (10, .int .i64 (([].filter m : List Bnd).length : Nat))] a' → MatAt B w0 ⟨kb, tb, .slice ai ids.length capi, ids, S, T⟩ (.slice au rows.length cu) rows l2 (Sr ++ F) c m rows.length a' w1) :=
      Lib.hid fun a' hf => ⟨0, iv, _, T', Si, [], ⟨hT, hs2⟩, hf, by omega, BnsIs.nil, by rw [List.append_nil]; exact h1⟩
    obtain ⟨a2, cap2, rfl, -⟩ := hs2.form
    clear hs2 ht ct hT h1
    go_wp2_with fail
    refine wp_label ?_
    go_step
    go_step
    exact H rows.length _ _ (start.out _ ⟨rfl, rfl, by simp⟩)
end
end Go.Proofs.YtknjamfjonapiaaGreatDoor

namespace Go.Proofs.YtknjamfjonapiaaGreatDoor
open Go.RowKit
set_option linter.unusedVariables false
set_option maxRecDepth 100000
section
variable {B : Nat} {w0 w w' : World} {F T R Q S : List (Nat × Obj)} {tb xb c c' pb : Nat} {M : Prs} {L X Y : List Pl} {p p' : Pl} {k : Ky} {A rows : List Bnd} {P : List Plc} {v tv u : Value} {n : List UInt8} {keys : List (List UInt8)} {q : Bnd → Bool}
def OfM (B : Nat) (w0 : World) (xb : Nat) (v : Value) (L : List Pl) (R F : List (Nat × Obj)) (A rows : List Bnd) (u : Value) (w : World) : Prop :=
  ∃ S tv Q, BnsIs u rows S ∧ TaIn tv A Q ∧ St B w0 w (exO xb v tv L R Q ++ (S ++ F))
theorem kobjs_split (hk : p.k = some k) : (exO xb v tv (X ++ p :: Y) R Q ++ F).Perm (k.objs ++ ((exO xb v tv (X ++ Y) R Q ++ F) ++ [(p.b, .cells #[tx p.d.1, .int .i64 p.d.2.1, .bool p.d.2.2, kpt p.k] 217)])) := by
  refine exO_split.trans ?_
  refine perm_by fun a => ?_
  unfold Pl.objs kobjs
  rw [hk]
  simp only [List.count_append, List.count_cons, List.append_assoc, List.cons_append, List.count_nil]
  omega
end
end Go.Proofs.YtknjamfjonapiaaGreatDoor

namespace Go.Proofs.YtknjamfjonapiaaGreatDoor
open Go.RowKit
set_option linter.unusedVariables false
set_option maxRecDepth 100000
end Go.Proofs.YtknjamfjonapiaaGreatDoor

namespace Go.Proofs.YtknjamfjonapiaaGreatDoor
open Go.RowKit
set_option linter.unusedVariables false
set_option maxRecDepth 100000
def rowB (r : Nat → Bool) (m : Nat) : Obj := .cells ((List.range m).map fun i => Value.bool (r i)).toArray 4
def part (r : Nat → Bool) (k : Nat) : Nat → Bool := fun i => decide (i < k) && r i
theorem rowB_congr {r s : Nat → Bool} {m : Nat} (h : ∀ i, i < m → r i = s i) : rowB r m = rowB s m := by
  unfold rowB
  congr 2
  apply List.map_congr_left
  intro i hi
  rw [h i (List.mem_range.1 hi)]
theorem part_all (r : Nat → Bool) (m : Nat) : rowB (part r m) m = rowB r m := rowB_congr fun i hi => by simp [part, hi]
section
variable {w wr : World} {b2 b m : Nat} {s r : Nat → Bool}
end
end Go.Proofs.YtknjamfjonapiaaGreatDoor

namespace Go.Proofs.YtknjamfjonapiaaGreatDoor
open Go.RowKit
set_option linter.unusedVariables false
theorem inname_any (c : UInt8) (w : World) : Calls Tryz.prog 196 #[.int .u8 c.toNat] w fun e w' => e = .returned (.bool (inNm c)) ∧ w' = w := by
  unfold inNm
  generalize c.toNat = n at *
  go_enter Tryz.func196, Tryz.ntmps196
  go_wp2_with fail
  all_goals
    go_ret
    refine ⟨ret_bool ?_, rfl⟩
    apply Bool.eq_iff_iff.2
    simp only [Bool.or_eq_true, Bool.and_eq_true, decide_eq_true_eq, beq_iff_eq]
    constructor
    all_goals
      intro _
      first | trivial | omega
theorem all_take {l : List UInt8} {i : Nat} {c : UInt8} (h : (l.take i).all inNm = true) (hc : l[i]? = some c) : (l.take (i + 1)).all inNm = inNm c := by
  rw [List.take_add_one, hc, List.all_append, h]
  simp
theorem isNm_bad {l : List UInt8} {i : Nat} {c : UInt8} (hc : l[i]? = some c) (h : inNm c = false) : isNm l = false := by
  have : l.all inNm = false := by
    apply Bool.eq_false_iff.2
    intro ha
    rw [List.all_eq_true] at ha
    rw [ha c (List.mem_of_getElem? hc)] at h
    cases h
  rw [isNm, this, Bool.and_false]
def NameAt (w : World) (l : List UInt8) (g : Nat) (a' : Act) (w' : World) : Prop := ∃ i : Nat, i + g = l.length ∧ 0 < l.length ∧ l.length ≤ 12 ∧ (l.take i).all inNm = true ∧ Fr 22 [(0, tx l), (3, .int .i64 i)] a' ∧ w' = w
set_option maxHeartbeats 1000000 in
theorem isname_any (l : List UInt8) (w : World) : Calls Tryz.prog 135 #[tx l] w fun e w' => e = .returned (.bool (isNm l)) ∧ w' = w := by
  have hIn := Lib.hid (fun c => inname_any c w)
  go_enter Tryz.func135, Tryz.ntmps135
  go_wp2_with fail
  refine wp_scope_ghost 0 (NameAt w l) rfl ?_ ?_
  · rintro g a' w' ⟨i, hi, hl0, hl12, ha, hfr, rfl⟩
    obtain ⟨q, rfl, hl'⟩ := hfr.lit
    clear hfr
    simp only [List.mem_cons, List.not_mem_nil, or_false, forall_eq_or_imp, forall_eq] at hl'
    obtain ⟨f0, f3⟩ := hl'
    simp only [List.range, List.range.loop, List.map, f0, f3]
    clear f0 f3
    have hi0 : (0 : Int) ≤ i := by omega
    by_cases hlt : i < l.length
    · have hx : l[i]? = some l[i] := List.getElem?_eq_getElem hlt
      have hi1 : (i : Int) < l.length := by omega
      have hne : ((i : Int) == l.length) = false := by rw [beq_eq_false_iff_ne]; omega
      have c1 := Lib.hid (hIn.out l[i])
      clear hIn
      have hg : (((⟨l.toArray⟩ : ByteArray)[i]'(show i < l.length from hlt)).toNat : Int) = (l[i].toNat : Int) := rfl
      cases hb : inNm l[i] with
      | true =>
        rw [hb] at c1
        have ha2 := all_take ha hx
        rw [hb] at ha2
        replace ha2 := Lib.hid ha2
        clear ha hx hb
        go_wp2_with fail
        refine c1.out.mono ?_
        rintro e w1 ⟨rfl, rfl⟩
        go_wp2_with fail
        refine wp_goto ?_
        refine ⟨rfl, g - 1, by omega, i + 1, by omega, hl0, hl12, ha2.out, ⟨rfl, rfl, ?_⟩, rfl⟩
        simp
      | false =>
        rw [hb] at c1
        have hf := isNm_bad hx hb
        replace hf := Lib.hid hf
        clear ha hx hb
        go_wp2_with fail
        refine c1.out.mono ?_
        rintro e w1 ⟨rfl, rfl⟩
        go_wp2_with fail
        simp only [Exit.jump]
        go_ret
        exact ⟨ret_bool hf.out.symm, rfl⟩
    · obtain rfl : i = l.length := by omega
      rw [List.take_of_length_le (Nat.le_refl _)] at ha
      have hf : isNm l = true := by rw [isNm, ha, decide_eq_true (show 1 ≤ l.length by omega), decide_eq_true hl12]; rfl
      clear hIn
      go_wp2_with fail
      simp only [Exit.jump]
      go_ret
      exact ⟨ret_bool hf.symm, rfl⟩
  · intro H
    by_cases h0 : l = []
    · subst h0
      clear H
      go_wp2_with fail
      simp only [Exit.jump]
      go_ret
      exact ⟨rfl, rfl⟩
    · have hpos : 0 < l.length := List.length_pos_iff.2 h0
      have h0B : (l == []) = false := by simpa using h0
      have h0C : l.isEmpty = false := by simpa using h0
      by_cases h12 : 12 < l.length
      · have h12' : (12 : Int) < l.length := by omega
        have hf : isNm l = false := by rw [isNm, decide_eq_false (show ¬ l.length ≤ 12 by omega), Bool.and_false, Bool.false_and]
        clear H
        go_wp2_with fail
        simp only [Exit.jump]
        go_ret
        exact ⟨ret_bool hf.symm, rfl⟩
      · have h12' : ¬ (12 : Int) < l.length := by omega
        go_wp2_with fail
        refine wp_label ?_
        go_step
        go_step
        exact H l.length _ _ ⟨0, by omega, by omega, by omega, by simp, ⟨rfl, rfl, by simp⟩, rfl⟩
end Go.Proofs.YtknjamfjonapiaaGreatDoor

namespace Go.Proofs.YtknjamfjonapiaaGreatDoor
open Go.RowKit
set_option linter.unusedVariables false
set_option maxRecDepth 100000
section
variable {B : Nat} {w0 w w' : World} {F T R Q S : List (Nat × Obj)} {tb xb c c' pb : Nat} {M : Prs} {L X Y : List Pl} {p p' : Pl} {k : Ky} {A rows : List Bnd} {P : List Plc} {v tv u : Value} {n : List UInt8} {keys : List (List UInt8)} {q : Bnd → Bool}
end
end Go.Proofs.YtknjamfjonapiaaGreatDoor

namespace Go.Proofs.YtknjamfjonapiaaGreatDoor
open Go.RowKit
set_option linter.unusedVariables false
set_option maxRecDepth 100000
section
variable {B : Nat} {w0 w w' : World} {F T R Q S : List (Nat × Obj)} {tb xb c c' pb : Nat} {M : Prs} {L X Y : List Pl} {p p' : Pl} {k : Ky} {A A' rows : List Bnd} {P : List Plc} {v tv u : Value} {n : List UInt8} {keys : List (List UInt8)} {q : Bnd → Bool} {b : Bnd}
def TabM (B : Nat) (w0 : World) (xb : Nat) (v : Value) (L : List Pl) (R F : List (Nat × Obj)) (A : List Bnd) (tb : Nat) (w : World) : Prop := TbIs 273 B w0 w tb A (exO xb v (bpt tb) L R [] ++ F)
theorem TabM.of (h : TabM B w0 xb v L R F A tb w) : ∃ Q, TaIn (bpt tb) A Q ∧ St B w0 w (exO xb v (bpt tb) L R Q ++ F) := by
  obtain ⟨u, S, hu, hst⟩ := h
  exact ⟨(tb, .cells #[u] 273) :: S, .inr ⟨tb, u, S, rfl, rfl, hu⟩, hst.perm (exO_tab _)⟩
theorem xtable_is (ht : TaIn tv A Q) (hst : St B w0 w (exO xb v tv L R Q ++ F)) : Calls Tryz.prog 145 #[bpt xb] w fun e w' => ∃ tb, e = .returned (bpt tb) ∧ TabM B w0 xb v L R F A tb w' := by
  refine (xtable_any ht hst).mono ?_
  rintro e w' ⟨tb, u, S, rfl, hu, h2⟩
  exact ⟨tb, rfl, u, S, hu, h2.perm (exO_tab (Q := []) _).symm⟩
theorem TabM.cell {c : Array Value} {U : TypeId} {g : Nat} (h : TabM B w0 xb v L R F A tb w) (hm : (g, .cells c U) ∈ F) {i : Nat} {u : Value} (hi : c[i]? = some u) : w.cell? ⟨g, i, none⟩ = some u := TbIs.cell h (List.mem_append_right _ hm) hi
theorem PlOk.same (h : PlOk A c p) (e : keysOf A' p.d.1 = keysOf A p.d.1) : PlOk A' c p := ⟨h.has, fun k hk => by rw [e]; exact h.ky k hk⟩
end
end Go.Proofs.YtknjamfjonapiaaGreatDoor

namespace Go.Proofs.YtknjamfjonapiaaGreatDoor
open Go.RowKit
set_option linter.unusedVariables false
set_option maxRecDepth 100000
section
variable {B : Nat} {w0 w w' : World} {F T R Q S : List (Nat × Obj)} {tb xb c c' pb : Nat} {M : Prs} {L X Y : List Pl} {p p' : Pl} {k : Ky} {A A' rows : List Bnd} {P : List Plc} {v tv u : Value} {n : List UInt8} {keys : List (List UInt8)} {q : Bnd → Bool} {b : Bnd}
end
end Go.Proofs.YtknjamfjonapiaaGreatDoor

namespace Go.Proofs.YtknjamfjonapiaaGreatDoor
open Go.RowKit
set_option linter.unusedVariables false
set_option maxRecDepth 100000
section
variable {B : Nat} {w0 w w' : World} {F T R Q S : List (Nat × Obj)} {tb xb c c' pb : Nat} {M : Prs} {L X Y : List Pl} {p p' : Pl} {k : Ky} {A A' rows : List Bnd} {P : List Plc} {v tv u : Value} {n : List UInt8} {keys : List (List UInt8)} {q : Bnd → Bool} {b : Bnd}
theorem same_names (e : p'.d = p.d) : (X ++ p' :: Y).map Pl.d = (X ++ p :: Y).map Pl.d := by rw [List.map_append, List.map_cons, e, List.map_append, List.map_cons]
theorem same_blocks (e : p'.b = p.b) : (X ++ p' :: Y).map (fun p => bpt p.b) = (X ++ p :: Y).map fun p => bpt p.b := by rw [List.map_append, List.map_cons, e, List.map_append, List.map_cons]
theorem same_length : (X ++ p' :: Y).length = (X ++ p :: Y).length := by rw [List.length_append, List.length_cons, List.length_append, List.length_cons]
end
end Go.Proofs.YtknjamfjonapiaaGreatDoor

namespace Go.Proofs.YtknjamfjonapiaaGreatDoor
open Go.RowKit
section
variable {P : Program} {a : Act} {w : World} {Q : Exit → Act → World → Prop}
def two (l0 l1 : Nat) (J0 J1 : Nat → Act → World → Prop) (l : Nat) (a : Act) (w : World) : Prop := (l = l0 ∧ ∃ n, J0 n a w) ∨ (l = l1 ∧ ∃ n, J1 n a w)
end
end Go.Proofs.YtknjamfjonapiaaGreatDoor

namespace Go.Proofs.YtknjamfjonapiaaGreatDoor
open Go.RowKit
set_option linter.unusedVariables false
set_option maxRecDepth 100000
section
variable {B : Nat} {w0 w w' : World} {F T R Q S : List (Nat × Obj)} {tb xb c c' pb qb : Nat} {M : Prs} {L X Y : List Pl} {p p' : Pl} {k : Ky} {A A' rows : List Bnd} {P : List Plc} {v tv u : Value} {n x : List UInt8} {keys l : List (List UInt8)} {q : Bnd → Bool} {b : Bnd}
end
end Go.Proofs.YtknjamfjonapiaaGreatDoor

namespace Go.Proofs.YtknjamfjonapiaaGreatDoor
open Go.RowKit
set_option linter.unusedVariables false
set_option maxRecDepth 100000
section
variable {B : Nat} {w0 w w' : World} {F F' T R Q S : List (Nat × Obj)} {tb xb c c' pb qb : Nat} {M : Prs} {L X Y : List Pl} {p p' : Pl} {k : Ky} {A A' rows : List Bnd} {P : List Plc} {v tv u : Value} {n x : List UInt8} {keys l : List (List UInt8)} {q : Bnd → Bool} {b : Bnd}
theorem ExIs.sub (h : ExIs B w0 w xb P A F c) (hs : F'.Sublist F) : ExIs B w0 w xb P A F' c := by
  obtain ⟨L, v, tv, R, Q, e, h1, h2⟩ := h
  exact ⟨L, v, tv, R, Q, e, h1, h2.sub ((List.Sublist.refl _).append hs)⟩
theorem ExIs.permF (h : ExIs B w0 w xb P A F c) (hs : F.Perm F') : ExIs B w0 w xb P A F' c := by
  obtain ⟨L, v, tv, R, Q, e, h1, h2⟩ := h
  exact ⟨L, v, tv, R, Q, e, h1, h2.perm (hs.append_left _)⟩
theorem ExIs.grow (h : ExIs B w0 w xb P A F c) (hb : Below w.heap.size w w') : ExIs B w0 w' xb P A F c := by
  obtain ⟨L, v, tv, R, Q, e, h1, h2⟩ := h
  exact ⟨L, v, tv, R, Q, e, h1, h2.grow hb⟩
theorem ExIs.mono (h : ExIs B w0 w xb P A F c) (hc : c ≤ c') : ExIs B w0 w xb P A F c' := by
  obtain ⟨L, v, tv, R, Q, e, h1, h2⟩ := h
  exact ⟨L, v, tv, R, Q, e, h1.mono hc, h2⟩
theorem ExIs.below (h : ExIs B w0 w xb P A F c) : Below B w0 w := by
  obtain ⟨L, v, tv, R, Q, e, h1, h2⟩ := h
  exact h2.below
theorem ExIs.fine (h : ExIs B w0 w xb P A F c) : FineX P A := by
  obtain ⟨L, v, tv, R, Q, e, h1, h2⟩ := h
  rw [← e]
  exact h1.fine
theorem ExIs.cell {cs : Array Value} {U : TypeId} {g : Nat} (h : ExIs B w0 w xb P A F c) (hm : (g, .cells cs U) ∈ F) {i : Nat} {u : Value} (hi : cs[i]? = some u) : w.cell? ⟨g, i, none⟩ = some u := by
  obtain ⟨L, v, tv, R, Q, e, h1, h2⟩ := h
  exact h2.cell (b := g) (List.mem_append_right _ hm) hi
theorem ExIs.alloc (h : ExIs B w0 w xb P A F c) (o : Obj) : ExIs B w0 (w.alloc o) xb P A ((w.heap.size, o) :: F) c := by
  obtain ⟨L, v, tv, R, Q, e, h1, h2⟩ := h
  exact ⟨L, v, tv, R, Q, e, h1, (h2.alloc o).perm List.perm_middle.symm⟩
theorem ExIs.beside (h : ExIs B w0 w xb P A F c) : ∃ O, St B w0 w (O ++ F) ∧ ∀ w' F', St B w0 w' (O ++ F') → ExIs B w0 w' xb P A F' c := by
  obtain ⟨L, v, tv, R, Q, e, h1, h2⟩ := h
  exact ⟨_, h2, fun w' F' h3 => ⟨L, v, tv, R, Q, e, h1, h3⟩⟩
theorem has_is (h : ExIs B w0 w xb P A F c) (n : List UInt8) : Calls Tryz.prog 64 #[bpt xb, tx n] w fun e w' => e = .returned (.bool (hasX P n)) ∧ w' = w := by
  obtain ⟨L, v, tv, R, Q, rfl, h1, h2⟩ := h
  exact xhas_any h1 h2 n
theorem exof_is (h : ExIs B w0 w xb P A F c) (n : List UInt8) : Calls Tryz.prog 162 #[bpt xb, tx n] w fun e w' => ∃ u S, e = .returned u ∧ BnsIs u (ofB A n) S ∧ ExIs B w0 w' xb P A (S ++ F) c := by
  obtain ⟨L, v, tv, R, Q, rfl, h1, h2⟩ := h
  refine (xof_any h1.tab h1.fine.rows.few h2 n).mono ?_
  rintro e w' ⟨u, S, tv', Q', rfl, hu, ht, h3⟩
  exact ⟨u, S, rfl, hu, L, v, tv', R, Q', rfl, h1.retab ht, h3⟩
theorem fits1 (key : List UInt8) : fitsK 1 key = fun b => b.2.2 == key := by funext b; simp [fitsK]
theorem fits2 (key : List UInt8) : fitsK 2 key = fun b => true := by funext b; simp [fitsK]
theorem fits3 (key : List UInt8) : fitsK 3 key = fun b => gl (wordsL b.2.2) (wordsL key) := by funext b; simp [fitsK]
theorem route1 (A : List Bnd) (n key : List UInt8) : routeL 1 A n key = onceL [] ((A.filter fun b => b.1 == n && b.2.2 == key).map (·.2.1)) := by
  rw [routeL, fits1, ← filter_and]
  rfl
theorem route2 (A : List Bnd) (n key : List UInt8) : routeL 2 A n key = onceL [] ((ofB A n).map (·.2.1)) := by
  rw [routeL, fits2]
  congr 2
  exact List.filter_eq_self.2 fun _ _ => rfl
theorem route3 (A : List Bnd) (n key : List UInt8) : routeL 3 A n key = onceL [] (((ofB A n).filter fun b => gl (wordsL b.2.2) (wordsL key)).map (·.2.1)) := by rw [routeL, fits3]
def RouR (B : Nat) (w0 : World) (xb : Nat) (P : List Plc) (A : List Bnd) (F : List (Nat × Obj)) (c : Nat) (l : List (List UInt8)) (u : Value) (w' : World) : Prop := ∃ S, TssIs u l S ∧ ExIs B w0 w' xb P A (S ++ F) c
def MatM (B : Nat) (w0 : World) (xb : Nat) (P : List Plc) (A : List Bnd) (F : List (Nat × Obj)) (c : Nat) (rows : List Bnd) (u : Value) (w' : World) : Prop := ∃ S, BnsIs u rows S ∧ ExIs B w0 w' xb P A (S ++ F) c
theorem MatM.queues (h : MatM B w0 xb P A F c rows u w) (hr : ∀ b ∈ rows, b ∈ A) (hl : rows.length ≤ 40) : Calls Tryz.prog 208 #[u] w fun e w' => ∃ u, e = .returned u ∧ RouR B w0 xb P A F c (onceL [] (rows.map (·.2.1))) u w' ∧ Below w.heap.size w w' := by
  obtain ⟨S, hu, hE⟩ := h
  have hf := hE.fine.rows.fit
  obtain ⟨O, h1, back⟩ := hE.beside
  have hrd := hu.read (A := O ++ F) (h1.perm (by
    refine perm_by fun a => ?_
    simp only [List.count_append]
    omega))
  refine (queues_any hrd (by omega) (fun b hb => (hf b (hr b hb)).max.2.1)).mono ?_
  rintro e w' ⟨u2, S2, rfl, hu2, h2⟩
  refine ⟨u2, rfl, ⟨S2, hu2, back _ _ (((h1.join h2).sub (H' := O ++ F ++ S2) ?_).perm ?_)⟩, h2.below⟩
  · exact List.Sublist.append (List.Sublist.append (List.Sublist.refl _) (List.sublist_append_right _ _)) (List.Sublist.refl _)
  · refine perm_by fun a => ?_
    simp only [List.count_append]
    omega
set_option maxHeartbeats 4000000 in
theorem route_is (h : ExIs B w0 w xb P A F c) (ex key : List UInt8) (hk : key.length ≤ 1000) (hc : c ≤ 100000) :
    Calls Tryz.prog 148 #[bpt xb, tx ex, tx key] w fun e w' => ∃ u, e = .returned (.tuple #[u, .bool (routeX P A ex key).2]) ∧ RouR B w0 xb P A F c (routeX P A ex key).1 u w' := by
  have hall := Lib.hid h
  obtain ⟨L, v, tv, R, Q, rfl, h, hst⟩ := h
  have few := h.fine.few
  rw [List.length_map] at few
  by_cases hn : ex = []
  · have e : routeX (L.map Pl.d) A ex key = ([key], true) := by rw [routeX, if_pos hn]
    rw [e]
    subst hn
    have c1 := Lib.hid (clone_any key w (by omega))
    have fin : Hid (∀ w1, Below w.heap.size w w1 → RouR B w0 xb (L.map Pl.d) A F c [key] (.slice (some ⟨w1.heap.size, 0, none⟩) 1 1) (w1.alloc (.cells #[tx key] 9))) := Lib.hid fun w1 hb =>
      ⟨[(w1.heap.size, .cells #[tx key] 9)], SlIs.made (cs := [tx key]) rfl (by unfold maxLen; omega), (hall.out.grow hb).alloc _⟩
    clear h hst e
    go_enter Tryz.func148, Tryz.ntmps148
    go_wp2_with fail
    refine c1.out.mono ?_
    rintro e w1 ⟨rfl, hb⟩
    replace fin := Lib.hid (fin.out _ hb)
    clear hb
    go_wp2_with fail
    go_ret2
    exact ⟨_, rfl, fin.out⟩
  have h0B : (ex == []) = false := by simpa using hn
  have h0C : ex.isEmpty = false := by simpa using hn
  have c1 := Lib.hid (xfind_any h hst ex)
  unfold ptrF at c1
  cases hp : findL L ex with
  | none =>
    have e : routeX (L.map Pl.d) A ex key = ([], false) := by rw [routeX, if_neg hn, findL_d, hp]; rfl
    rw [e]
    rw [hp] at c1
    simp only [Option.map_none] at c1
    have fin : Hid (RouR B w0 xb (L.map Pl.d) A F c [] (.slice none 0 0) w) := Lib.hid ⟨[], TssIs.nil, hall.out⟩
    clear h hst e hall
    go_enter Tryz.func148, Tryz.ntmps148
    go_wp2_with fail
    refine c1.out.mono ?_
    rintro e w1 ⟨rfl, rfl⟩
    go_wp2_with fail
    go_ret2
    exact ⟨_, rfl, fin.out⟩
  | some p =>
    rw [hp] at c1
    simp only [Option.map_some] at c1
    obtain ⟨hm, hpn⟩ := findL_mem hp
    obtain ⟨-, p1, -, p3⟩ := hst.place hm
    have e : routeX (L.map Pl.d) A ex key = (routeL p.d.2.1 A ex key, true) := by rw [routeX, if_neg hn, findL_d, hp]; rfl
    rw [e]
    have hkd := h.fine.each p.d (List.mem_map_of_mem hm)
    have hof : (ofB A ex).length ≤ 40 := Nat.le_trans (List.length_filter_le _ _) h.fine.rows.few
    have hofm : ∀ b ∈ ofB A ex, b ∈ A := fun b hb => (List.mem_filter.1 hb).1
    obtain ⟨Xl, Yl, rfl⟩ := List.append_of_mem hm
    have hpok := h.pls p hm
    by_cases hk1 : p.d.2.1 = 1
    · rw [hk1] at p1 ⊢
      rw [route1]
      have ctab := Lib.hid (xtable_is h.tab hst)
      have ckey : Hid (∀ tb w1, TabM B w0 xb v (Xl ++ p :: Yl) R F A tb w1 → Calls Tryz.prog 207 #[bpt tb, tx ex, tx key] w1 fun e w' => ∃ u, e = .returned u ∧ RouR B w0 xb ((Xl ++ p :: Yl).map Pl.d) A F c (onceL [] ((A.filter fun b => b.1 == ex && b.2.2 == key).map (·.2.1))) u w') := Lib.hid fun tb w1 hT => by
        refine (keyed_is hT (by have := h.fine.rows.few; omega) h.fine.rows.fit ex key rfl).mono ?_
        rintro e w' ⟨u, S, rfl, hu, h2⟩
        have hT2 : TabM B w0 xb v (Xl ++ p :: Yl) R (F ++ S) A tb w' := by
          unfold TabM
          rw [← List.append_assoc]
          exact h2
        obtain ⟨Q', ht', h3⟩ := hT2.of
        exact ⟨u, rfl, S, hu, ExIs.permF ⟨_, v, bpt tb, R, Q', rfl, h.retab ht', h3⟩ List.perm_append_comm⟩
      generalize onceL [] ((A.filter fun b => b.1 == ex && b.2.2 == key).map (·.2.1)) = l2 at *
      generalize p.b = pb at *
      generalize (Xl ++ p :: Yl).map Pl.d = P at *
      clear h hst e hall hpok hm hp hofm hof hkd
      go_enter Tryz.func148, Tryz.ntmps148
      go_wp2_with fail
      refine c1.out.mono ?_
      rintro e w1 ⟨rfl, rfl⟩
      go_wp2_with fail
      refine ctab.out.mono ?_
      rintro e w2 ⟨tb, rfl, hT⟩
      replace ckey := Lib.hid (ckey.out _ _ hT)
      clear hT ctab c1
      go_wp2_with fail
      refine ckey.out.mono ?_
      rintro e w3 ⟨u, rfl, S, hu, hE⟩
      have fin : Hid (RouR B w0 xb P A F c l2 u w3) := Lib.hid ⟨S, hu, hE⟩
      obtain ⟨au, cu, rfl⟩ := hu.form
      generalize l2.length = q0 at *
      clear hu hE ckey
      go_wp2_with fail
      go_ret2
      exact ⟨_, rfl, fin.out⟩
    · by_cases hk2 : p.d.2.1 = 2
      · rw [hk2] at p1 ⊢
        rw [route2]
        have cof : Hid (Calls Tryz.prog 162 #[bpt xb, tx ex] w fun e w' => ∃ a cap, e = .returned (.slice a (ofB A ex).length cap) ∧ MatM B w0 xb ((Xl ++ p :: Yl).map Pl.d) A F c (ofB A ex) (.slice a (ofB A ex).length cap) w') := Lib.hid (by
          refine (exof_is hall.out ex).mono ?_
          rintro e w' ⟨u, S, rfl, hu, hE⟩
          obtain ⟨a, cap, rfl⟩ := hu.form
          exact ⟨a, cap, rfl, S, hu, hE⟩)
        have cqu := Lib.hid (fun u w1 (hM : MatM B w0 xb ((Xl ++ p :: Yl).map Pl.d) A F c (ofB A ex) u w1) => hM.queues hofm hof)
        generalize onceL [] ((ofB A ex).map (·.2.1)) = l2 at *
        generalize p.b = pb at *
        generalize (Xl ++ p :: Yl).map Pl.d = P at *
        clear h hst e hall hpok hm hp hofm hof hkd
        go_enter Tryz.func148, Tryz.ntmps148
        go_wp2_with fail
        refine c1.out.mono ?_
        rintro e w1 ⟨rfl, rfl⟩
        go_wp2_with fail
        refine cof.out.mono ?_
        rintro e w2 ⟨a, cap, rfl, hM⟩
        replace cqu := Lib.hid (cqu.out _ _ hM)
        clear hM cof c1
        go_wp2_with fail
        refine cqu.out.mono ?_
        rintro e w3 ⟨u, rfl, ⟨S, hu, hE⟩, -⟩
        have fin : Hid (RouR B w0 xb P A F c l2 u w3) := Lib.hid ⟨S, hu, hE⟩
        obtain ⟨au, cu, rfl⟩ := hu.form
        generalize l2.length = q0 at *
        clear hu hE cqu
        go_wp2_with fail
        go_ret2
        exact ⟨_, rfl, fin.out⟩
      · have hk3 : p.d.2.1 = 3 := by omega
        rw [hk3] at p1 ⊢
        rw [route3]
        obtain ⟨k, hkk⟩ : ∃ k, p.k = some k := by
          have := hpok.has
          rw [hk3] at this
          exact Option.isSome_iff_exists.1 this
        have ekp : kpt p.k = bpt k.kb := by rw [hkk]; rfl
        rw [ekp] at p3
        have hcell : ∀ w' tv' Q' F', St B w0 w' (exO xb v tv' (Xl ++ p :: Yl) R Q' ++ F') → w'.cell? ⟨p.b, 3, none⟩ = some (bpt k.kb) := fun w' tv' Q' F' h' => by
          have := (h'.place hm).2.2.2
          rwa [ekp] at this
        have cof : Hid (∀ w1, St B w0 w1 (exO xb v tv (Xl ++ p :: Yl) R Q ++ F) → Calls Tryz.prog 162 #[bpt xb, tx ex] w1 fun e w' => ∃ a cap, e = .returned (.slice a (ofB A ex).length cap) ∧ OfM B w0 xb v (Xl ++ p :: Yl) R F A (ofB A ex) (.slice a (ofB A ex).length cap) w' ∧ w'.cell? ⟨p.b, 3, none⟩ = some (bpt k.kb)) := Lib.hid fun w1 h1 => by
          refine (xof_any h.tab h.fine.rows.few h1 ex).mono ?_
          rintro e w' ⟨u, S, tv', Q', rfl, hu, ht', h2⟩
          obtain ⟨a, cap, rfl⟩ := hu.form
          exact ⟨a, cap, rfl, ⟨S, tv', Q', hu, ht', h2⟩, hcell _ _ _ _ h2⟩
        have cmat : Hid (∀ w1 u, OfM B w0 xb v (Xl ++ p :: Yl) R F A (ofB A ex) u w1 → Calls Tryz.prog 209 #[bpt k.kb, u, tx key] w1 fun e w' => ∃ z, e = .returned z ∧ MatM B w0 xb ((Xl ++ p :: Yl).map Pl.d) A F c ((ofB A ex).filter fun b => gl (wordsL b.2.2) (wordsL key)) z w' ∧ w'.cell? ⟨p.b, 3, none⟩ = some (bpt k.kb)) := Lib.hid fun w1 u hO => by
          obtain ⟨S, tv', Q', hu, ht', h2⟩ := hO
          have hky := hpok.ky k hkk
          unfold keysOf at hky
          rw [hpn] at hky
          have h3 : St B w0 w1 (k.objs ++ (S ++ (((exO xb v tv' (Xl ++ Yl) R Q' ++ [(p.b, .cells #[tx p.d.1, .int .i64 p.d.2.1, .bool p.d.2.2, kpt p.k] 217)])) ++ F))) := h2.perm ((kobjs_split hkk).trans (by
            refine perm_by fun a => ?_
            simp only [List.count_append, List.count_cons, List.append_assoc, List.count_nil]
            omega))
          refine (matching_any hky h3 hu key hk hc (by omega)).mono ?_
          rintro e w' ⟨k', z, Z, rfl, e1, hk', hz, h4⟩
          have hok : PlOk A c ⟨p.b, p.d, some k'⟩ := ⟨by
            have := hpok.has
            rw [hkk] at this
            exact this, fun k2 hk2 => by
              cases hk2
              unfold keysOf
              dsimp only
              rw [hpn]
              exact hk'⟩
          have h5 : St B w0 w' (exO xb v tv' (Xl ++ ⟨p.b, p.d, some k'⟩ :: Yl) R Q' ++ (Z ++ F)) := h4.perm (by
            refine List.Perm.trans ?_ (kobjs_split (p := ⟨p.b, p.d, some k'⟩) rfl).symm
            have e2 : kpt (some k') = kpt p.k := by rw [hkk]; unfold kpt; rw [Option.map_some, Option.map_some, e1]
            refine perm_by fun a => ?_
            simp only [e2, List.count_append, List.count_cons, List.append_assoc, List.count_nil]
            omega)
          obtain ⟨-, -, -, g3⟩ := h5.place (p := ⟨p.b, p.d, some k'⟩) (by simp)
          have e2 : kpt (some k') = bpt k.kb := by unfold kpt; rw [Option.map_some, e1]
          rw [e2] at g3
          refine ⟨z, rfl, ⟨Z, hz, Xl ++ ⟨p.b, p.d, some k'⟩ :: Yl, v, tv', R, Q', same_names (p' := ⟨p.b, p.d, some k'⟩) rfl, ⟨by rw [same_names (p := p) (p' := ⟨p.b, p.d, some k'⟩) rfl]; exact h.fine, by rw [same_blocks (p := p) (p' := ⟨p.b, p.d, some k'⟩) rfl, same_length (p := p) (p' := ⟨p.b, p.d, some k'⟩)]; exact h.sl, ht', fun p2 hp2 => ?_⟩, h5⟩, g3⟩
          rcases List.mem_append.1 hp2 with h' | h'
          · exact h.pls p2 (List.mem_append_left _ h')
          · rcases List.mem_cons.1 h' with rfl | h'
            · exact hok
            · exact h.pls p2 (List.mem_append_right _ (List.mem_cons_of_mem _ h'))
        have cqu := Lib.hid (fun u w1 (hM : MatM B w0 xb ((Xl ++ p :: Yl).map Pl.d) A F c ((ofB A ex).filter fun b => gl (wordsL b.2.2) (wordsL key)) u w1) => hM.queues (fun b hb => hofm b (List.mem_filter.1 hb).1) (Nat.le_trans (List.length_filter_le _ _) hof))
        have cqu2 : Hid (∀ u w1, MatM B w0 xb ((Xl ++ p :: Yl).map Pl.d) A F c ((ofB A ex).filter fun b => gl (wordsL b.2.2) (wordsL key)) u w1 → w1.cell? ⟨p.b, 3, none⟩ = some (bpt k.kb) → Calls Tryz.prog 208 #[u] w1 fun e w' => (∃ a q cap, e = .returned (.slice a q cap) ∧ RouR B w0 xb ((Xl ++ p :: Yl).map Pl.d) A F c (onceL [] (((ofB A ex).filter fun b => gl (wordsL b.2.2) (wordsL key)).map (·.2.1))) (.slice a q cap) w' ∧ w'.cell? ⟨p.b, 3, none⟩ = some (bpt k.kb))) := Lib.hid fun u w1 hM hc1 => by
          refine (cqu.out u w1 hM).mono ?_
          rintro e w' ⟨u2, rfl, ⟨S, hu, hE⟩, hb⟩
          obtain ⟨a, cap, rfl⟩ := hu.form
          exact ⟨a, _, cap, rfl, ⟨S, hu, hE⟩, cellOn (c := (p.b, 3)) hc1 hb⟩
        have hd : St B w0 w.drew (exO xb v tv (Xl ++ p :: Yl) R Q ++ F) := hst.drew
        have hs0 := Lib.hid (hcell _ _ _ _ hd)
        generalize onceL [] (((ofB A ex).filter fun b => gl (wordsL b.2.2) (wordsL key)).map (·.2.1)) = l2 at *
        generalize p.b = pb at *
        generalize (Xl ++ p :: Yl).map Pl.d = P at *
        generalize k.kb = kb at *
        clear h hst e hall hpok hm hp hofm hof hkd hcell cqu
        go_enter Tryz.func148, Tryz.ntmps148
        go_wp2_with fail
        refine c1.out.mono ?_
        rintro e w1 ⟨rfl, rfl⟩
        go_wp2_with fail
        go_region_held3 (fun x => x.cell? ⟨pb, 3, none⟩ = some (bpt kb)) (first | exact kS | exact hs0.out) (first
          | (go_at_call 162; refine (cof.out _ (by assumption)).mono ?_; rintro e w'' ⟨a2, cap2, rfl, hO, kS⟩)
          | (go_at_call 209; refine (cmat.out _ _ (by assumption)).mono ?_; rintro e w'' ⟨z, rfl, hM, kS⟩)
          | (go_at_call 208; refine (cqu2.out _ _ (by assumption) (by assumption)).mono ?_; rintro e w'' ⟨a3, q3, cap3, rfl, hR, kS⟩))
        replace hR := Lib.hid hR
        clear hO hM hd cof cmat cqu2
        go_wp2_with fail
        go_ret2
        exact ⟨_, rfl, hR.out⟩
end
end Go.Proofs.YtknjamfjonapiaaGreatDoor

namespace Go.Proofs.YtknjamfjonapiaaGreatDoor
open Go.RowKit
open Go.ChangeMaps (setBlock)
set_option linter.unusedVariables false
set_option linter.unusedSectionVars false
set_option linter.unusedSimpArgs false
set_option maxRecDepth 100000
abbrev againE (e : Ent) : Ent := { e with again := true }
section
variable {B : Nat} {w0 w w' : World} {qb rk b k l : Nat} {o : Opt} {M L : List Ent} {F F' S Y : List (Nat × Obj)} {e e0 : Ent}
theorem take_ret (h : QuIs B w0 w qb o M ((k, enO z0E) :: F)) (x : Ent) : EnAt w k z0E ∧ (∀ i, w.frozen? ⟨k, i, none⟩ = false) ∧ EnAt (enPut w k x) k x ∧ QuIs B w0 (enPut w k x) qb o M F := by
  have h1 := h.enPut (e := x)
  exact ⟨(h.at_block (k := k) (e := z0E) List.mem_cons_self).1, (h.at_block (k := k) (e := z0E) List.mem_cons_self).2, (h1.at_block (k := k) (e := x) List.mem_cons_self).1, h1.sub (List.sublist_cons_self _ _)⟩
theorem first_form (M : List Ent) : ∃ x b, firstV M = .tuple #[enV x, .bool b] := by
  cases M with
  | nil => exact ⟨_, _, rfl⟩
  | cons e M => exact ⟨_, _, rfl⟩
set_option maxHeartbeats 1000000 in
theorem qu_take (h : QuIs B w0 w qb o M F) : Calls Tryz.prog 83 #[rptr qb] w fun r w' => r = .returned (firstV M) ∧ QuIs B w0 w' qb o M.tail F := by
  have cr := Lib.hid (ready_any (h.alloc (enO z0E)))
  obtain ⟨x, b, hx⟩ := first_form M
  have ct : Hid (∀ W rk, QuAt B w0 W qb rk o M ((w.heap.size, enO z0E) :: F) → Calls Tryz.prog 150 #[rptr rk] W fun r w' => r = .returned (.tuple #[enV x, .bool b]) ∧ QuIs B w0 w' qb o M.tail ((w.heap.size, enO z0E) :: F)) := Lib.hid fun W rk h => by
    refine (rk_take h).mono ?_
    rintro r w' ⟨rfl, h'⟩
    exact ⟨by rw [hx], .inr ⟨_, h'⟩⟩
  rw [hx]
  clear h hx
  go_enter Tryz.func83, Tryz.ntmps83
  go_wp2_with fail
  refine cr.out.mono ?_
  rintro r w1 ⟨rk, rfl, h1⟩
  have ct1 := Lib.hid (ct.out _ _ h1)
  clear cr ct h1
  go_wp2_with fail
  refine ct1.out.mono ?_
  rintro r w2 ⟨rfl, h2⟩
  obtain ⟨⟨z0, z1, z2, z3, z4, z5, z6, z7, z8, z9⟩, zs, finE, fin⟩ := take_ret h2 x
  replace finE := Lib.hid finE
  replace fin := Lib.hid fin
  clear ct1 h2
  go_wp2_with fail
  exact bodyPost_ret (ret_entry2 rfl rfl rfl finE.out rfl) rfl ⟨rfl, fin.out⟩
end
end Go.Proofs.YtknjamfjonapiaaGreatDoor

namespace Go.Proofs.YtknjamfjonapiaaGreatDoor
open Go.RowKit
set_option linter.unusedVariables false
set_option linter.unusedSectionVars false
set_option linter.unusedSimpArgs false
set_option maxRecDepth 100000
def gcells (x : Gst) : List Value := [.int .i64 x.conn, .int .i64 x.chan, tx x.tag, .int .i64 x.most, .bool x.noack, .bool x.sole]
def gssV (L : List Gst) : List Value := L.flatMap gcells
theorem gssV_cons (x : Gst) (L : List Gst) : gssV (x :: L) = gcells x ++ gssV L := rfl
theorem gssV_app (L M : List Gst) : gssV (L ++ M) = gssV L ++ gssV M := by simp [gssV]
theorem gcells_len (x : Gst) : (gcells x).length = 6 := rfl
theorem gssV_len : ∀ (L : List Gst), (gssV L).length = L.length * 6
  | [] => rfl
  | e :: L => by rw [gssV_cons, List.length_append, gcells_len, gssV_len L, List.length_cons]; omega
theorem gssV_at : ∀ {L : List Gst} {i : Nat} {e : Gst}, L[i]? = some e → ∀ {k : Nat} {v : Value}, (gcells e)[k]? = some v → (gssV L)[i * 6 + k]? = some v
  | [], _, _, h, _, _, _ => by simp at h
  | f :: L, 0, e, h, k, v, hk => by
    simp at h
    subst h
    have := (List.getElem?_eq_some_iff.1 hk).1
    rw [gssV_cons, Nat.zero_mul, Nat.zero_add, List.getElem?_append_left this]
    exact hk
  | f :: L, i + 1, e, h, k, v, hk => by
    rw [gssV_cons, List.getElem?_append_right (by rw [gcells_len]; omega), gcells_len, show (i + 1) * 6 + k - 6 = i * 6 + k by omega]
    exact gssV_at (by simpa using h) hk
theorem gcells_one (e : Gst) : ∀ u ∈ gcells e, u.oneCell' = true := fun u hu => by
  unfold gcells at hu
  simp only [List.mem_cons, List.not_mem_nil, or_false] at hu
  rcases hu with rfl | rfl | rfl | rfl | rfl | rfl <;> rfl
theorem gssV_one (L : List Gst) : ∀ u ∈ gssV L, u.oneCell' = true := fun u hu => by
  obtain ⟨e, -, h⟩ := List.mem_flatMap.1 hu
  exact gcells_one e u h
theorem gssV_take (N : List Gst) (i : Nat) : (gssV N).take (i * 6) = gssV (N.take i) := by
  rcases Nat.le_total i N.length with hi | hi
  · have h3 := congrArg gssV (List.take_append_drop i N)
    rw [gssV_app] at h3
    rw [← h3, List.take_append_of_le_length (by rw [gssV_len, List.length_take]; omega), List.take_of_length_le (by rw [gssV_len, List.length_take]; omega)]
  · rw [List.take_of_length_le (by rw [gssV_len]; omega), List.take_of_length_le hi]
theorem gssV_drop (N : List Gst) (i : Nat) : (gssV N).drop (i * 6) = gssV (N.drop i) := by
  rcases Nat.le_total i N.length with hi | hi
  · have h3 := congrArg gssV (List.take_append_drop i N)
    rw [gssV_app] at h3
    rw [← h3, List.drop_append_of_le_length (by rw [gssV_len, List.length_take]; omega), List.drop_of_length_le (by rw [gssV_len, List.length_take]; omega), List.nil_append]
  · rw [List.drop_of_length_le (by rw [gssV_len]; omega), List.drop_of_length_le hi]; rfl
abbrev GsRow (w : World) (b o : Nat) (x : Gst) : Prop := w.cell? ⟨b, o, none⟩ = some (.int .i64 x.conn) ∧ w.cell? ⟨b, o + 1, none⟩ = some (.int .i64 x.chan) ∧ w.cell? ⟨b, o + 2, none⟩ = some (tx x.tag) ∧ w.cell? ⟨b, o + 3, none⟩ = some (.int .i64 x.most) ∧ w.cell? ⟨b, o + 4, none⟩ = some (.bool x.noack) ∧ w.cell? ⟨b, o + 5, none⟩ = some (.bool x.sole)
theorem GsRow.below {w w' : World} {b o : Nat} {e : Gst} (h : GsRow w b o e) (hb : Below w.heap.size w w') : GsRow w' b o e := by
  obtain ⟨h0, h1, h2, h3, h4, h5⟩ := h
  exact ⟨cellUp h0 hb, cellUp h1 hb, cellUp h2 hb, cellUp h3 hb, cellUp h4 hb, cellUp h5 hb⟩
def ReadGs (w : World) (a : Option Addr) (L : List Gst) : Prop := ∀ i e, L[i]? = some e → ∃ b off, a = some ⟨b, off, none⟩ ∧ GsRow w b (off + i * 6) e
theorem ReadGs.below {w w' : World} {a : Option Addr} {L : List Gst} (h : ReadGs w a L) (hb : Below w.heap.size w w') : ReadGs w' a L := fun i e hi => by
  obtain ⟨b, off, ha, hr⟩ := h i e hi
  exact ⟨b, off, ha, hr.below hb⟩
theorem ReadGs.nil (w : World) (a : Option Addr) : ReadGs w a [] := fun i e hi => by simp at hi
theorem apG : Ap Tryz.prog 86 77 6 48 where
  ty := by kernel_rfl
  info := by
    have h : (Tryz.prog.info? 77).map (fun i => (i.zero.map fun z => z.cells.size, i.size, i.bytes)) = some (some 6, 6, 48) := by kernel_rfl
    rw [Option.map_eq_some_iff] at h
    obtain ⟨i, h1, h2⟩ := h
    simp only [Prod.mk.injEq, Option.map_eq_some_iff] at h2
    obtain ⟨⟨z, h3, h4⟩, h5, h6⟩ := h2
    exact ⟨i, z, h1, h3, h5, h6, h4⟩
abbrev GssIs (v : Value) (L : List Gst) (S : List (Nat × Obj)) : Prop := SlIs 77 6 v L.length (gssV L) S
theorem GssIs.nil : GssIs (.slice none 0 0) [] [] := SlIs.nil
section
variable {B : Nat} {w0 w : World} {S X Y F H : List (Nat × Obj)} {a : Option Addr} {b c c' k : Nat} {L M : List Gst} {v : Value} {x y : Gst}
theorem GssIs.form (hs : GssIs v L S) : ∃ a c, v = .slice a L.length c := by
  obtain ⟨a, c, e, -⟩ := SlIs.form hs
  exact ⟨a, c, e⟩
theorem GssIs.read (hs : GssIs (.slice a L.length c) L S) (hst : St B w0 w (X ++ S)) : ReadGs w a L := fun i e hi => by
  obtain ⟨a', c', e1, -, -, h⟩ := SlIs.form hs
  cases e1
  obtain ⟨g, off, rfl⟩ := h i (List.getElem?_eq_some_iff.1 hi).1
  refine ⟨g, off, rfl, SlIs.cellAt hs hst (gssV_at hi (k := 0) rfl), SlIs.cellAt hs hst (gssV_at hi (k := 1) rfl), SlIs.cellAt hs hst (gssV_at hi (k := 2) rfl), SlIs.cellAt hs hst (gssV_at hi (k := 3) rfl), SlIs.cellAt hs hst (gssV_at hi (k := 4) rfl), SlIs.cellAt hs hst (gssV_at hi (k := 5) rfl)⟩
theorem gss_push (hs : GssIs (.slice a L.length c) L S) (hst : St B w0 w (X ++ S)) (e : Gst) (hl : L.length ≤ 2000000) :
    ∃ a' c' W S', (Builtin.append_ #[86, 86] 0 #[.slice a L.length c, .slice (some ⟨w.heap.size, 0, none⟩) 1 1]).run Tryz.prog (w.alloc (gsO e)) = .ok (.slice a' (L ++ [e]).length c') W ∧
      GssIs (.slice a' (L ++ [e]).length c') (L ++ [e]) S' ∧ St B w0 W (X ++ S') := by
  have hst1 := hst.alloc (gsO e)
  have hb := hst1.get (b := w.heap.size) (o := gsO e) List.mem_cons_self
  obtain ⟨a', c', W, S', q1, q2, q3⟩ := apG.append (A := (w.heap.size, gsO e) :: X) hs hst1 (Reads.block (cs := gcells e) (n := 1) (size := 6) hb rfl 1) (gcells_one _) (by unfold maxLen; omega) (by omega)
  have e1 : L.length + 1 = (L ++ [e]).length := by rw [List.length_append]; rfl
  rw [e1] at q1 q2
  rw [show gssV L ++ gcells e = gssV (L ++ [e]) by simp [gssV]] at q2
  exact ⟨a', c', W, S', q1, q2, q3.sub (List.sublist_cons_self _ _)⟩
abbrev GsAt (w : World) (b : Nat) (x : Gst) : Prop := w.cell? ⟨b, 0, none⟩ = some (.int .i64 x.conn) ∧ w.cell? ⟨b, 1, none⟩ = some (.int .i64 x.chan) ∧ w.cell? ⟨b, 2, none⟩ = some (tx x.tag) ∧ w.cell? ⟨b, 3, none⟩ = some (.int .i64 x.most) ∧ w.cell? ⟨b, 4, none⟩ = some (.bool x.noack) ∧ w.cell? ⟨b, 5, none⟩ = some (.bool x.sole)
theorem GsAt.below {w' : World} (h : GsAt w b x) (hb : Below w.heap.size w w') : GsAt w' b x := by
  obtain ⟨h0, h1, h2, h3, h4, h5⟩ := h
  exact ⟨cellUp h0 hb, cellUp h1 hb, cellUp h2 hb, cellUp h3 hb, cellUp h4 hb, cellUp h5 hb⟩
theorem St.gsAt (h : St B w0 w H) (m : (b, gsO x) ∈ H) : GsAt w b x := ⟨h.cell m rfl, h.cell m rfl, h.cell m rfl, h.cell m rfl, h.cell m rfl, h.cell m rfl⟩
end
end Go.Proofs.YtknjamfjonapiaaGreatDoor

namespace Go.Proofs.YtknjamfjonapiaaGreatDoor
open Go.RowKit
abbrev bptr (b : Nat) : Value := .pointer (some ⟨b, 0, none⟩)
def TabAt (w : World) : Prop := ∀ j, j < 64 → w.cell? ⟨1, j, none⟩ = some (.int .u8 (Lib.deBruijn64tab.getD j 0))
set_option maxHeartbeats 1000000 in
theorem bitOf_any (i : Nat) (w : World) (h : (i : Int) ≤ 9223372036854775807) :
    Calls Tryz.prog 310 #[.int .i64 i] w fun e w' => e = .returned (.int .u64 ((2 ^ (i % 64) : Nat) : Int)) ∧ w = w' := by
  have hp := pow_lt_64 (i % 64) (Nat.mod_lt _ (by decide))
  have e : Hid (IntKind.u64.wrap (2 ^ (i % 64)) = ((2 ^ (i % 64) : Nat) : Int)) := by
    refine Lib.hid ?_
    rw [IntKind.wrap_u64]
    have : ((2 : Int) ^ (i % 64)) = ((2 ^ (i % 64) : Nat) : Int) := by push_cast; rfl
    rw [this]
    generalize 2 ^ (i % 64) = q at hp ⊢
    omega
  clear hp
  go_enter Tryz.func310, Tryz.ntmps310
  go_wp2
  go_ret
  exact ⟨by simp [e.out], rfl⟩
end Go.Proofs.YtknjamfjonapiaaGreatDoor
