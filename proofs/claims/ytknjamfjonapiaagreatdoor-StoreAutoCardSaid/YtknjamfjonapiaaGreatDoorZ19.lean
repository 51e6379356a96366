import Derived.Test.YtknjamfjonapiaaGreatDoorZ18
import Derived.Test.YtknjamfjonapiaaGreatDoorZ13
import Derived.Deep.LoopGhost
import Derived.RegionTactic
import Derived.Test.YtknjamfjonapiaaGreatDoorZ16
namespace Go.Proofs.YtknjamfjonapiaaGreatDoor
open Go.RowKit
set_option linter.unusedVariables false
set_option maxRecDepth 100000
def wp (x : Bnd × Int) : Wds × Int := (wordsL x.1.2.2, x.2)
theorem zip_wp (rows : List Bnd) (ids : List Int) : ((rows.map (·.2.2)).map wordsL).zip ids = (rows.zip ids).map wp := by
 rw [List.map_map, List.zip_map_left]
 rfl
def midL (p : Bnd → Bool) (zs : List (Bnd × Int)) (i : Nat) : List (Bnd × Int) := ((zs.take i).filter fun x => !p x.1) ++ zs.drop i
theorem split_at {α : Type} {zs : List α} {i : Nat} {x : α} (hx : zs[i]? = some x) : zs.drop i = x :: zs.drop (i + 1) := by
 have hl := (List.getElem?_eq_some_iff.1 hx).1
 rw [List.drop_eq_getElem_cons hl]
 congr 1
 exact (List.getElem?_eq_some_iff.1 hx).2
theorem take_step {α : Type} {zs : List α} {i : Nat} {x : α} (hx : zs[i]? = some x) (p : α → Bool) : (zs.take (i + 1)).filter p = (zs.take i).filter p ++ if p x then [x] else [] := by
 rw [List.take_add_one, hx, Option.toList_some, List.filter_append]
 congr 1
 simp only [List.filter_cons, List.filter_nil]
theorem mid_keep {p : Bnd → Bool} {zs : List (Bnd × Int)} {i : Nat} {x : Bnd × Int} (hx : zs[i]? = some x) (hp : p x.1 = false) : midL p zs (i + 1) = midL p zs i := by
 unfold midL
 rw [split_at hx, take_step hx, hp]
 simp
theorem nodup_ids {zs : List (Bnd × Int)} {i : Nat} {x : Bnd × Int} (hn : (zs.map (·.2)).Nodup) (hx : zs[i]? = some x) : x.2 ∉ (zs.take i).map (·.2) ∧ x.2 ∉ (zs.drop (i + 1)).map (·.2) := by
 have e : zs = zs.take i ++ x :: zs.drop (i + 1) := by
  have := (List.take_append_drop i zs).symm
  rwa [split_at hx] at this
 rw [e, List.map_append, List.map_cons, List.nodup_append, List.nodup_cons] at hn
 exact ⟨fun h => hn.2.2 _ h _ List.mem_cons_self rfl, hn.2.1.1⟩
theorem mid_drop {p : Bnd → Bool} {zs : List (Bnd × Int)} {i : Nat} {x : Bnd × Int} (hn : (zs.map (·.2)).Nodup) (hx : zs[i]? = some x) (hp : p x.1 = true) : cutM ((midL p zs i).map wp) (wp x) = (midL p zs (i + 1)).map wp ∧ wp x ∈ (midL p zs i).map wp := by
 obtain ⟨h1, h2⟩ := nodup_ids hn hx
 unfold midL
 rw [split_at hx, take_step hx, hp]
 simp only [Bool.not_true, Bool.false_eq_true, if_false, List.append_nil, List.map_append, List.map_cons]
 refine ⟨?_, by simp⟩
 unfold cutM
 rw [List.filter_append, List.filter_cons]
 simp only [ne_eq, not_true_eq_false, decide_false, Bool.false_eq_true, if_false]
 congr 1
 ·refine List.filter_eq_self.2 fun y hy => ?_
  obtain ⟨z, hz, rfl⟩ := List.mem_map.1 hy
  have : wp z ≠ wp x := fun e => h1 (by
   have e2 : (wp z).2 = (wp x).2 := congrArg Prod.snd e
   change z.2 = x.2 at e2
   rw [← e2]
   exact List.mem_map_of_mem (List.mem_filter.1 hz).1)
  simpa using this
 ·refine List.filter_eq_self.2 fun y hy => ?_
  obtain ⟨z, hz, rfl⟩ := List.mem_map.1 hy
  have : wp z ≠ wp x := fun e => h2 (by
   have e2 : (wp z).2 = (wp x).2 := congrArg Prod.snd e
   change z.2 = x.2 at e2
   rw [← e2]
   exact List.mem_map_of_mem hz)
  simpa using this
def leftL (p : Bnd → Bool) (zs : List (Bnd × Int)) (i : Nat) : List Int := ((zs.take i).filter fun x => !p x.1).map (·.2)
theorem left_keep {p : Bnd → Bool} {zs : List (Bnd × Int)} {i : Nat} {x : Bnd × Int} (hx : zs[i]? = some x) (hp : p x.1 = false) : leftL p zs (i + 1) = leftL p zs i ++ [x.2] := by
 unfold leftL
 rw [take_step hx, hp]
 simp
theorem left_drop {p : Bnd → Bool} {zs : List (Bnd × Int)} {i : Nat} {x : Bnd × Int} (hx : zs[i]? = some x) (hp : p x.1 = true) : leftL p zs (i + 1) = leftL p zs i := by
 unfold leftL
 rw [take_step hx, hp]
 simp
theorem left_len (p : Bnd → Bool) (zs : List (Bnd × Int)) (i : Nat) : (leftL p zs i).length ≤ i := by
 unfold leftL
 rw [List.length_map]
 exact Nat.le_trans (List.length_filter_le _ _) (by rw [List.length_take]; omega)
theorem zip_filter {rows : List Bnd} {ids : List Int} (h : rows.length = ids.length) (q : Bnd → Bool) : ((rows.zip ids).filter fun x => q x.1).map (·.1) = rows.filter q := by
 have e : (rows.zip ids).map (fun x => x.1) = rows := List.map_fst_zip (by omega)
 have h2 := List.filter_map (p := q) (f := fun x : Bnd × Int => x.1) (l := rows.zip ids)
 rw [e] at h2
 rw [h2]
 rfl
theorem zip_at {rows : List Bnd} {ids : List Int} {i : Nat} {b : Bnd} {x : Int} (h1 : rows[i]? = some b) (h2 : ids[i]? = some x) : (rows.zip ids)[i]? = some (b, x) := by
 rw [List.getElem?_zip_eq_some]
 exact ⟨h1, h2⟩
section
variable {B : Nat} {w0 w w' : World} {F T R Q S : List (Nat × Obj)} {tb xb c c' pb : Nat} {M : Prs} {L X Y : List Pl} {p' : Pl} {k : Ky} {A rows : List Bnd} {P : List Plc} {v tv u : Value} {n : List UInt8} {keys : List (List UInt8)} {p : Bnd → Bool}
structure TellsS (B : Nat) (w0 : World) (F : List (Nat × Obj)) (g : Nat) (cb : Array Value) (p : Bnd → Bool) : Prop where
 go : ∀ args w, (callFunc g args).run Tryz.prog w = .ok (.enter g args) w
 is : ∀ w1 H, St B w0 w1 (H ++ F) → ∀ b : Bnd, Calls Tryz.prog g (#[bV b] ++ cb) w1 fun e w2 => e = .returned (.bool (p b)) ∧ Below w1.heap.size w1 w2
theorem TellsS.more {g : Nat} {cb : Array Value} (h : TellsS B w0 F g cb p) (S : List (Nat × Obj)) : TellsS B w0 (S ++ F) g cb p :=
 ⟨h.go, fun w1 H hst => h.is w1 (H ++ S) (by rw [List.append_assoc]; exact hst)⟩
theorem dropqC_any {q : Nat} {x : List UInt8} (hq : w.cell? ⟨q, 0, none⟩ = some (tx x)) (b : Bnd) : Calls Tryz.prog 194 #[bV b, bpt q] w fun e w2 => e = .returned (.bool (b.2.1 == x)) ∧ Below w.heap.size w w2 := by
 obtain ⟨b1, b2, b3⟩ := b
 have hb := Lib.hid (new_below w (bO (b1, b2, b3)))
 have hq2 := cellOn (c := (q, 0)) hq hb.out
 go_enter Tryz.func194, Tryz.ntmps194
 go_wp2_with fail
 go_ret
 exact ⟨rfl, hb.out⟩
theorem tells_dropq {q : Nat} {x : List UInt8} (hm : (q, .cells #[tx x] 9) ∈ F) : TellsS B w0 F 194 #[bpt q] (fun b => b.2.1 == x) :=
 ⟨goesIn Tryz.func194 (by kernel_rfl) rfl, fun w1 H hst b => dropqC_any (hst.cell (b := q) (i := 0) (List.mem_append_right _ hm) rfl) b⟩
def KutAt (B : Nat) (w0 : World) (k : Ky) (u fv : Value) (rows : List Bnd) (Sr F : List (Nat × Obj)) (c : Nat) (p : Bnd → Bool) (g : Nat) (a' : Act) (w' : World) : Prop :=
 ∃ (i : Nat) (z : Value) (Z T' : List (Nat × Obj)), Fr 53 [(0, bpt k.kb), (1, u), (2, fv), (6, z), (7, .int .i64 i)] a' ∧ i + g = rows.length ∧ SlIs 3 1 z (leftL p (rows.zip k.ids) i).length ((leftL p (rows.zip k.ids) i).map encI) Z ∧
  TrIn k.tb ((midL p (rows.zip k.ids) i).map wp) c T' ∧ St B w0 w' (T' ++ ((((k.kb, .cells #[bpt k.tb, k.v] 277) :: k.S) ++ Z) ++ (Sr ++ F)))
set_option maxHeartbeats 4000000 in
theorem kcut_any {g : Nat} {cb : Array Value} {Sr : List (Nat × Obj)} (h : KyOk k (rows.map (·.2.2)) c) (hst : St B w0 w (k.objs ++ (Sr ++ F))) (hu : BnsIs u rows Sr) (hp : TellsS B w0 F g cb p) (hk : ∀ b ∈ rows, b.2.2.length ≤ 40) (hc : c ≤ 100000) (hr : rows.length ≤ 1000) :
  Calls Tryz.prog 221 #[bpt k.kb, u, .func (.func g) #[] cb] w fun e w' => e = .returned (.tuple #[]) ∧ KyR B w0 k.kb ((rows.filter fun b => !p b).map (·.2.2)) c F w' := by
 have hlen : rows.length = k.ids.length := by have := h.len; rwa [List.length_map] at this
 obtain ⟨eg, his⟩ := hp.more Sr
 have hg := Lib.hid his
 obtain ⟨a, cap, eu⟩ := hu.form
 subst eu
 obtain ⟨ai, capi, ev, -⟩ := h.form hst
 have hz : (rows.zip k.ids).map (·.2) = k.ids := List.map_snd_zip (by omega)
 have hnd : ((rows.zip k.ids).map (·.2)).Nodup := by rw [hz]; exact h.rise.imp (fun h => by omega)
 have facts : Hid (∀ w' T' Z, St B w0 w' (T' ++ ((((k.kb, .cells #[bpt k.tb, k.v] 277) :: k.S) ++ Z) ++ (Sr ++ F))) → (w'.cell? ⟨k.kb, 0, none⟩ = some (bpt k.tb) ∧ w'.cell? ⟨k.kb, 1, none⟩ = some k.v ∧ w'.frozen? ⟨k.kb, 1, none⟩ = false) ∧
   ∀ (i : Nat) b, rows[i]? = some b → ∃ b1 o1 g2 o2 x, a = some ⟨b1, o1, none⟩ ∧ ai = some ⟨g2, o2, none⟩ ∧ k.ids[i]? = some x ∧ w'.cell? ⟨b1, o1 + i * 3, none⟩ = some (tx b.1) ∧ w'.cell? ⟨b1, o1 + i * 3 + 1, none⟩ = some (tx b.2.1) ∧ w'.cell? ⟨b1, o1 + i * 3 + 2, none⟩ = some (tx b.2.2) ∧ w'.cell? ⟨g2, o2 + i, none⟩ = some (.int .i64 x)) :=
  Lib.hid fun w' T' Z h1 => by
   have hm : (k.kb, .cells #[bpt k.tb, k.v] 277) ∈ T' ++ ((((k.kb, .cells #[bpt k.tb, k.v] 277) :: k.S) ++ Z) ++ (Sr ++ F)) := by simp
   refine ⟨⟨h1.cell (b := k.kb) (i := 0) hm rfl, h1.cell (b := k.kb) (i := 1) hm rfl, h1.soft (b := k.kb) hm 1⟩, fun i b hb => ?_⟩
   have hil : i < k.ids.length := by have := (List.getElem?_eq_some_iff.1 hb).1; omega
   have hx : k.ids[i]? = some (k.ids[i]'hil) := List.getElem?_eq_getElem hil
   have hru := hu.read (A := T' ++ (((k.kb, .cells #[bpt k.tb, k.v] 277) :: k.S) ++ Z) ++ F) (h1.perm (by
    refine perm_by fun a => ?_
    simp only [List.count_append, List.count_cons, List.append_assoc, List.cons_append]
    omega))
   obtain ⟨a', cap', e, hc⟩ := hru
   cases e
   obtain ⟨b1, o1, e1, q1, q2, q3⟩ := hc i b hb
   have h2 : St B w0 w' ((T' ++ ((k.kb, .cells #[bpt k.tb, k.v] 277) :: Z) ++ (Sr ++ F)) ++ k.S) := h1.perm (by
    refine perm_by fun a => ?_
    simp only [List.count_append, List.count_cons, List.append_assoc, List.cons_append]
    omega)
   have hi := h.ids
   obtain ⟨a2, cap2, e2, -, -, ha2⟩ := hi.form
   rw [ev] at e2
   cases e2
   obtain ⟨g2, o2, e3⟩ := ha2 i (List.getElem?_eq_some_iff.1 hx).1
   rw [ev, e3] at hi
   exact ⟨b1, o1, g2, o2, _, e1, e3, hx, q1, q2, q3, hi.cellAt h2 (by rw [List.getElem?_map, hx]; rfl)⟩
 have start : Hid (∀ a', Fr 53 [(0, bpt k.kb), (1, .slice a rows.length cap), (2, .func (.func g) #[] cb), (6, .slice none 0 0), (7, .int .i64 ((0 : Nat) : Int))] a' → KutAt B w0 k (.slice a rows.length cap) (.func (.func g) #[] cb) rows Sr F c p rows.length a' w) := Lib.hid fun a' hf => by
  refine ⟨0, _, [], k.T, hf, by omega, by simpa [leftL] using SlIs.nil, ?_, ?_⟩
  ·have ht := h.tree
   rw [zip_wp] at ht
   simpa [midL] using ht
  ·refine hst.perm (Ky.treeP.trans (List.Perm.of_eq ?_))
   simp
 have tr : Hid (∀ i T' Z w', TrIn k.tb ((midL p (rows.zip k.ids) i).map wp) c T' → St B w0 w' (T' ++ ((((k.kb, .cells #[bpt k.tb, k.v] 277) :: k.S) ++ Z) ++ (Sr ++ F))) → ∀ b x, rows[i]? = some b → k.ids[i]? = some x → p b = true →
   Calls Tryz.prog 261 #[np k.tb, tx b.2.2, .int .i64 x] w' fun e w2 => e = .returned (.bool true) ∧ ∃ T2, TrIn k.tb ((midL p (rows.zip k.ids) (i + 1)).map wp) c T2 ∧ St B w0 w2 (T2 ++ ((((k.kb, .cells #[bpt k.tb, k.v] 277) :: k.S) ++ Z) ++ (Sr ++ F)))) :=
  Lib.hid fun i T' Z w' hT h1 b x hb hx hpb => by
   obtain ⟨m1, m2⟩ := mid_drop (p := p) hnd (zip_at hb hx) hpb
   have hkb := hk b (List.mem_of_getElem? hb)
   have hml : (midL p (rows.zip k.ids) i).length ≤ 2000 := by
    unfold midL
    have e1 := List.length_filter_le (fun x : Bnd × Int => !p x.1) ((rows.zip k.ids).take i)
    rw [List.length_append, List.length_drop]
    rw [List.length_take, List.length_zip] at e1
    rw [List.length_zip]
    omega
   refine (tdrop_is (P := wordsL b.2.2) (k := x) rfl m1 (decide_eq_true m2) (hT.is h1) (by omega) (by omega) (by rw [List.length_map]; omega)).mono ?_
   rintro e w2 ⟨rfl, h2⟩
   obtain ⟨T2, g1, g2⟩ := TrIn.of h2
   exact ⟨rfl, T2, g1, g2⟩
 have fin : Hid (∀ i z Z T' w', rows.length ≤ i → SlIs 3 1 z (leftL p (rows.zip k.ids) i).length ((leftL p (rows.zip k.ids) i).map encI) Z → TrIn k.tb ((midL p (rows.zip k.ids) i).map wp) c T' → St B w0 w' (T' ++ ((((k.kb, .cells #[bpt k.tb, k.v] 277) :: k.S) ++ Z) ++ (Sr ++ F))) →
   KyR B w0 k.kb ((rows.filter fun b => !p b).map (·.2.2)) c F (w'.setCell ⟨k.kb, 1, none⟩ z)) := Lib.hid fun i z Z T' w' hi hz' hT h1 => by
  have hzl : (rows.zip k.ids).length ≤ i := by rw [List.length_zip]; omega
  have e1 : leftL p (rows.zip k.ids) i = ((rows.zip k.ids).filter fun x => !p x.1).map (·.2) := by unfold leftL; rw [List.take_of_length_le hzl]
  have e2 : midL p (rows.zip k.ids) i = (rows.zip k.ids).filter fun x => !p x.1 := by unfold midL; rw [List.take_of_length_le hzl, List.drop_of_length_le hzl, List.append_nil]
  have e3 : (rows.filter fun b => !p b) = ((rows.zip k.ids).filter fun x => !p x.1).map (·.1) := (zip_filter hlen (fun b => !p b)).symm
  have hsub : (((rows.zip k.ids).filter fun x => !p x.1).map (·.2)).Sublist k.ids := by
   have := (List.filter_sublist (p := fun x : Bnd × Int => !p x.1) (l := rows.zip k.ids)).map (fun x => x.2)
   rwa [hz] at this
  have h2 : St B w0 w' ((k.kb, .cells #[bpt k.tb, k.v] 277) :: ((Z ++ T') ++ (k.S ++ (Sr ++ F)))) := h1.perm (by
   refine perm_by fun a => ?_
   simp only [List.count_append, List.count_cons, List.append_assoc, List.cons_append]
   omega)
  have h3 := h2.set0 1 z
  rw [e1] at hz'
  rw [e2] at hT
  refine ⟨⟨k.kb, k.tb, z, ((rows.zip k.ids).filter fun x => !p x.1).map (·.2), Z, T'⟩, rfl, ⟨hz', ?_, h.rise.sublist hsub, fun i hi => h.top i (hsub.subset hi), ?_⟩, ?_⟩
  ·rw [e3, List.length_map, List.length_map, List.length_map]
  ·rw [e3]
   have : (((rows.zip k.ids).filter fun x => !p x.1).map wp) = (((((rows.zip k.ids).filter fun x => !p x.1).map (·.1)).map (·.2.2)).map wordsL).zip (((rows.zip k.ids).filter fun x => !p x.1).map (·.2)) := by
    rw [List.map_map, List.map_map, List.zip_map']
    rfl
   rw [← this]
   exact hT
  ·refine St.sub (H' := (k.kb, .cells #[bpt k.tb, z] 277) :: ((Z ++ T') ++ F)) h3 ?_
   refine List.Sublist.cons_cons _ (List.Sublist.append (List.Sublist.refl _) ?_)
   exact (List.sublist_append_right Sr F).trans (List.sublist_append_right k.S _)
 obtain ⟨kb, tb, v, ids, S, T⟩ := k
 simp only at ev hlen facts start tr fin
 subst ev
 replace hlen := Lib.hid hlen
 clear h hst hu hz hnd his hk hc
 go_enter Tryz.func221, Tryz.ntmps221
 go_wp2_with fail
 refine wp_scope_ghost 0 (KutAt B w0 ⟨kb, tb, .slice ai ids.length capi, ids, S, T⟩ (.slice a rows.length cap) (.func (.func g) #[] cb) rows Sr F c p) rfl ?_ ?_
 ·clear start
  rintro n a' w' ⟨i, z, Z, T', hfr, hi, hzl, hT, h1⟩
  simp only at hzl hT h1 hfr
  obtain ⟨q, rfl, hl'⟩ := hfr.lit
  clear hfr
  simp only [List.mem_cons, List.not_mem_nil, or_false, forall_eq_or_imp, forall_eq] at hl'
  obtain ⟨f0, f1, f2, f6, f7⟩ := hl'
  simp only [List.range, List.range.loop, List.map, f0, f1, f2, f6, f7]
  clear f0 f1 f2 f6 f7
  have hi0 : (0 : Int) ≤ i := by omega
  obtain ⟨⟨k0, k1, kf⟩, hrows⟩ := facts.out _ _ _ h1
  by_cases hlt : i < rows.length
  ·have hi1 : (i : Int) < rows.length := by omega
   have hiB : ((i : Int) == rows.length) = false := by rw [beq_eq_false_iff_ne]; omega
   have hx : rows[i]? = some rows[i] := List.getElem?_eq_getElem hlt
   generalize rows[i] = b at hx
   obtain ⟨b1, o1, g2, o2, x, rfl, rfl, hxi, q1, q2, q3, q4⟩ := hrows i b hx
   have hlti : i < ids.length := by have := hlen.out; omega
   have hi2 : (i : Int) < ids.length := by omega
   have cc := Lib.hid (hg.out w' (T' ++ (((kb, .cells #[bpt tb, .slice (some ⟨g2, o2, none⟩) ids.length capi] 277) :: S) ++ Z)) (by rw [List.append_assoc]; exact h1) b)
   cases hpx : p b with
   | true =>
    rw [hpx] at cc
    have nxt : Hid (∀ w2, Below w'.heap.size w' w2 → (w2.cell? ⟨kb, 0, none⟩ = some (bpt tb) ∧ w2.cell? ⟨kb, 1, none⟩ = some (.slice (some ⟨g2, o2, none⟩) ids.length capi) ∧ w2.cell? ⟨b1, o1 + i * 3 + 2, none⟩ = some (tx b.2.2) ∧ w2.cell? ⟨g2, o2 + i, none⟩ = some (.int .i64 x)) ∧
      Calls Tryz.prog 261 #[np tb, tx b.2.2, .int .i64 x] w2.drew fun e w3 => e = .returned (.bool true) ∧ ∀ a', Fr 53 [(0, bpt kb), (1, .slice (some ⟨b1, o1, none⟩) rows.length cap), (2, .func (.func g) #[] cb), (6, z), (7, .int .i64 ((i + 1 : Nat) : Int))] a' → ∃ m, m < n ∧ KutAt B w0 ⟨kb, tb, .slice (some ⟨g2, o2, none⟩) ids.length capi, ids, S, T⟩ (.slice (some ⟨b1, o1, none⟩) rows.length cap) (.func (.func g) #[] cb) rows Sr F c p m a' w3) := Lib.hid fun w2 hb => by
     refine ⟨⟨cellOn (c := (kb, 0)) k0 hb, cellOn (c := (kb, 1)) k1 hb, cellOn (c := (b1, _)) q3 hb, cellOn (c := (g2, _)) q4 hb⟩, ?_⟩
     refine (tr.out i T' Z w2.drew hT (h1.grow hb).drew b x hx hxi hpx).mono ?_
     rintro e w3 ⟨rfl, T2, hT2, h3⟩
     refine ⟨rfl, fun a' hf => ⟨n - 1, by omega, i + 1, z, Z, T2, hf, by omega, ?_, hT2, h3⟩⟩
     rw [left_drop (zip_at hx hxi) hpx]
     exact hzl
    obtain ⟨au, cu, rfl, -⟩ := hzl.form
    obtain ⟨x1, x2, x3⟩ := b
    simp only at q1 q2 q3 nxt
    generalize (leftL p (rows.zip ids) i).length = q0 at *
    clear hzl hT h1 hrows hx hpx facts tr fin hg hxi k0 k1 q4
    go_wp2_with fail
    refine cc.out.mono ?_
    rintro e w2 ⟨rfl, hb⟩
    obtain ⟨⟨k0, k1, r3, r4⟩, ct⟩ := nxt.out w2 hb
    replace ct := Lib.hid ct
    clear cc nxt hb q1 q2 q3
    go_wp2_with fail
    go_still_tail 16, (by kernel_rfl)
    change wpList _ _ _ _ _ w2.drew
    generalize w2.drew = w4 at *
    go_wp2_with fail
    refine ct.out.mono ?_
    rintro e w3 ⟨rfl, nx⟩
    replace nx := Lib.hid nx
    clear ct
    go_wp2_with fail
    refine wp_goto ?_
    exact ⟨rfl, nx.out _ ⟨rfl, rfl, by simp⟩⟩
   | false =>
    rw [hpx] at cc
    have nxt : Hid (∀ w2, Below w'.heap.size w' w2 → (w2.cell? ⟨kb, 1, none⟩ = some (.slice (some ⟨g2, o2, none⟩) ids.length capi) ∧ w2.cell? ⟨g2, o2 + i, none⟩ = some (.int .i64 x)) ∧
      ∃ au cu, z = .slice au (leftL p (rows.zip ids) i).length cu ∧ ∃ a2 cap2 W2, (Builtin.append_ #[259, 259] 0 #[z, .slice (some ⟨w2.heap.size, 0, none⟩) 1 1]).run Tryz.prog (w2.alloc (.cells #[.int .i64 x] 3)) = .ok (.slice a2 ((leftL p (rows.zip ids) i).length + 1) cap2) W2 ∧
      ∀ a', Fr 53 [(0, bpt kb), (1, .slice (some ⟨b1, o1, none⟩) rows.length cap), (2, .func (.func g) #[] cb), (6, .slice a2 ((leftL p (rows.zip ids) i).length + 1) cap2), (7, .int .i64 ((i + 1 : Nat) : Int))] a' → ∃ m, m < n ∧ KutAt B w0 ⟨kb, tb, .slice (some ⟨g2, o2, none⟩) ids.length capi, ids, S, T⟩ (.slice (some ⟨b1, o1, none⟩) rows.length cap) (.func (.func g) #[] cb) rows Sr F c p m a' W2) := Lib.hid fun w2 hb => by
     refine ⟨⟨cellOn (c := (kb, 1)) k1 hb, cellOn (c := (g2, _)) q4 hb⟩, ?_⟩
     have h2 : St B w0 w2 ((T' ++ (((kb, .cells #[bpt tb, .slice (some ⟨g2, o2, none⟩) ids.length capi] 277) :: S) ++ (Sr ++ F))) ++ Z) := (h1.grow hb).perm (by
      refine perm_by fun a => ?_
      simp only [List.count_append, List.count_cons, List.append_assoc, List.cons_append]
      omega)
     obtain ⟨au, cu, e, a2, cap2, W2, Z2, hr2, s2, h3⟩ := ints_push hzl h2 x (by have := left_len p (rows.zip ids) i; omega)
     refine ⟨au, cu, e, a2, cap2, W2, by rw [e]; exact hr2, fun a' hf => ⟨n - 1, by omega, i + 1, _, Z2, T', hf, by omega, ?_, ?_, h3.perm ?_⟩⟩
     ·simp only
      rw [left_keep (zip_at hx hxi) hpx]
      rw [List.length_append, List.length_singleton]
      rw [List.length_append, List.length_singleton] at s2
      exact s2
     ·simp only
      rw [mid_keep (zip_at hx hxi) hpx]
      exact hT
     ·refine perm_by fun a => ?_
      simp only [List.count_append, List.count_cons, List.append_assoc, List.cons_append]
      omega
    obtain ⟨x1, x2, x3⟩ := b
    simp only at q1 q2 q3 nxt
    clear hzl hT h1 hrows hx hpx facts tr fin hg hxi k0 k1 q4
    generalize (leftL p (rows.zip ids) i).length = q0 at *
    go_wp2_with fail
    refine cc.out.mono ?_
    rintro e w2 ⟨rfl, hb⟩
    obtain ⟨⟨k1, r4⟩, au, cu, rfl, a2, cap2, W2, hrun, nx⟩ := nxt.out w2 hb
    replace nx := Lib.hid nx
    clear cc nxt hb q1 q2 q3
    go_wp2_with (at_builtin; refine wpList_append_go rfl (.tmp 8) (.tmp 16) 259 259 rfl _ _ rfl rfl hrun ?_)
    refine wp_goto ?_
    exact ⟨rfl, nx.out _ ⟨rfl, rfl, by simp⟩⟩
  ·obtain rfl : i = rows.length := by omega
   have f := Lib.hid (fin.out _ _ _ _ _ (Nat.le_refl _) hzl hT h1)
   obtain ⟨au, cu, rfl, -⟩ := hzl.form
   generalize (leftL p (rows.zip ids) rows.length).length = q0 at *
   clear hzl hT h1 hrows facts tr fin hg
   go_wp2_with fail
   simp only [Exit.jump]
   exact bodyPost_ret (results_none rfl _ _ _) rfl ⟨rfl, f.out⟩
 ·intro H
  go_wp2_with fail
  refine wp_label ?_
  go_step
  go_step
  exact H rows.length _ _ (start.out _ ⟨rfl, rfl, by simp⟩)
end
theorem take_zip' (rows : List Bnd) (ids : List Int) (i : Nat) : (rows.zip ids).take i = (rows.take i).zip (ids.take i) := List.take_zipWith
theorem drop_zip' (rows : List Bnd) (ids : List Int) (i : Nat) : (rows.zip ids).drop i = (rows.drop i).zip (ids.drop i) := List.drop_zipWith
def hitL (g : Bnd → Bool) (zs : List (Bnd × Int)) (i : Nat) : List Int := ((zs.take i).filter fun x => g x.1).map (·.2)
theorem hit_all (g : Bnd → Bool) (zs : List (Bnd × Int)) (i : Nat) : hitL g zs zs.length = hitL g zs i ++ ((zs.drop i).filter fun x => g x.1).map (·.2) := by
 unfold hitL
 rw [List.take_of_length_le (Nat.le_refl _), ← List.map_append, ← List.filter_append, List.take_append_drop]
theorem hit_is {g : Bnd → Bool} {zs : List (Bnd × Int)} {i : Nat} {x : Bnd × Int} {y : Int} (hn : (zs.map (·.2)).Nodup) (hx : zs[i]? = some x) (hy : (hitL g zs zs.length)[(hitL g zs i).length]? = some y) : (x.2 == y) = g x.1 := by
 obtain ⟨-, h2⟩ := nodup_ids hn hx
 rw [hit_all g zs i, List.getElem?_append_right (Nat.le_refl _), Nat.sub_self, split_at hx, List.filter_cons] at hy
 split at hy
 ·rename_i hg
  rw [List.map_cons, List.getElem?_cons_zero, Option.some.injEq] at hy
  rw [hg, hy, beq_self_eq_true]
 ·rename_i hg
  have hm := List.mem_of_getElem? hy
  obtain ⟨z, hz, rfl⟩ := List.mem_map.1 hm
  have hne : x.2 ≠ z.2 := fun e => h2 (e ▸ List.mem_map_of_mem (List.mem_filter.1 hz).1)
  rw [beq_eq_false_iff_ne.2 hne]
  simpa using hg
theorem hit_end {g : Bnd → Bool} {rows : List Bnd} {ids : List Int} {i : Nat} (hl : rows.length = ids.length) (h : (hitL g (rows.zip ids) (rows.zip ids).length).length ≤ (hitL g (rows.zip ids) i).length) : (rows.take i).filter g = rows.filter g := by
 rw [hit_all g (rows.zip ids) i, List.length_append, List.length_map] at h
 have h0 : ((rows.zip ids).drop i).filter (fun x => g x.1) = [] := List.eq_nil_of_length_eq_zero (by omega)
 have e : ((rows.drop i).zip (ids.drop i)).filter (fun x => g x.1) = [] := by rw [← drop_zip']; exact h0
 have e2 := zip_filter (rows := rows.drop i) (ids := ids.drop i) (by rw [List.length_drop, List.length_drop, hl]) g
 rw [e, List.map_nil] at e2
 have e3 : rows.filter g = (rows.take i).filter g ++ (rows.drop i).filter g := by rw [← List.filter_append, List.take_append_drop]
 rw [e3, ← e2, List.append_nil]
theorem hit_len {g : Bnd → Bool} {rows : List Bnd} {ids : List Int} {i : Nat} (hl : rows.length = ids.length) : (hitL g (rows.zip ids) i).length = ((rows.take i).filter g).length := by
 unfold hitL
 rw [List.length_map, take_zip', ← zip_filter (rows := rows.take i) (ids := ids.take i) (by rw [List.length_take, List.length_take, hl]) g, List.length_map]
theorem hits_wp (zs : List (Bnd × Int)) (P : Wds) : hits (zs.map wp) P = hitL (fun b => gl (wordsL b.2.2) P) zs zs.length := by
 unfold hits hitL
 rw [List.take_of_length_le (Nat.le_refl _), List.filter_map, List.map_map]
 rfl
section
variable {B : Nat} {w0 w w' : World} {F T R Q S : List (Nat × Obj)} {tb xb c c' pb : Nat} {M : Prs} {L X Y : List Pl} {p' : Pl} {k : Ky} {A rows : List Bnd} {P : List Plc} {v tv u : Value} {n : List UInt8} {keys : List (List UInt8)} {p : Bnd → Bool}
structure Mtch (k : Ky) (M : Prs) (c : Nat) (l2 : List Int) (iv : Value) (T' Si : List (Nat × Obj)) : Prop where
 tree : TrIn k.tb M c T'
 ids : SlIs 3 1 iv l2.length (l2.map encI) Si
def MatAt (B : Nat) (w0 : World) (k : Ky) (u : Value) (rows : List Bnd) (l2 : List Int) (E : List (Nat × Obj)) (c : Nat) (m : Bnd → Bool) (g : Nat) (a' : Act) (w' : World) : Prop :=
 ∃ (i : Nat) (iv z : Value) (T' Si Z : List (Nat × Obj)), Mtch k (((rows.map (·.2.2)).map wordsL).zip k.ids) c l2 iv T' Si ∧ Fr 51 [(0, bpt k.kb), (1, u), (7, iv), (8, z), (9, .int .i64 i), (10, .int .i64 ((rows.take i).filter m).length)] a' ∧ i + g = rows.length ∧
  BnsIs z ((rows.take i).filter m) Z ∧ St B w0 w' ((T' ++ (Si ++ (((k.kb, .cells #[bpt k.tb, k.v] 277) :: k.S) ++ E))) ++ Z)
def MatR (B : Nat) (w0 : World) (kb : Nat) (keys : List (List UInt8)) (l : List Bnd) (c : Nat) (F : List (Nat × Obj)) (e : Ending) (w' : World) : Prop :=
 ∃ k' z Z, e = .returned z ∧ k'.kb = kb ∧ KyOk k' keys c ∧ BnsIs z l Z ∧ St B w0 w' (k'.objs ++ (Z ++ F))
set_option maxHeartbeats 4000000 in
theorem matching_any {Sr : List (Nat × Obj)} (h : KyOk k (rows.map (·.2.2)) c) (hst : St B w0 w (k.objs ++ (Sr ++ F))) (hu : BnsIs u rows Sr) (key : List UInt8) (hk : key.length ≤ 1000) (hc : c ≤ 100000) (hr : rows.length ≤ 1000) :
  Calls Tryz.prog 209 #[bpt k.kb, u, tx key] w (MatR B w0 k.kb (rows.map (·.2.2)) (rows.filter fun b => gl (wordsL b.2.2) (wordsL key)) c F) := by
 obtain ⟨m, hm⟩ : ∃ m, m = fun b : Bnd => gl (wordsL b.2.2) (wordsL key) := ⟨_, rfl⟩
 have hlen : rows.length = k.ids.length := by have := h.len; rwa [List.length_map] at this
 have hz : (rows.zip k.ids).map (·.2) = k.ids := List.map_snd_zip (by omega)
 have hnd : ((rows.zip k.ids).map (·.2)).Nodup := by rw [hz]; exact h.rise.imp (fun h => by omega)
 have hsub : (hitL m (rows.zip k.ids) (rows.zip k.ids).length).Sublist k.ids := by
  unfold hitL
  rw [List.take_of_length_le (Nat.le_refl _)]
  have := (List.filter_sublist (p := fun x : Bnd × Int => m x.1) (l := rows.zip k.ids)).map (fun x => x.2)
  rwa [hz] at this
 obtain ⟨k0, -, -, -⟩ := Ky.cells hst
 have ct := Lib.hid (trmatch_is (P := wordsL key) rfl (h.rise.sublist hsub) (fun i => by rw [zip_wp, hits_wp, ← hm]) (h.tree.is (hst.perm Ky.treeP)) hk (by omega))
 have hl2 : (hitL m (rows.zip k.ids) (rows.zip k.ids).length).length ≤ 1000 := by
  have := hsub.length_le
  omega
 rw [← hm]
 obtain ⟨au, cu, eu⟩ := hu.form
 subst eu
 obtain ⟨ai, capi, ev, -⟩ := h.form hst
 have facts : Hid (∀ (T' Si : List (Nat × Obj)) a2 cap2, SlIs 3 1 (.slice a2 (hitL m (rows.zip k.ids) (rows.zip k.ids).length).length cap2) (hitL m (rows.zip k.ids) (rows.zip k.ids).length).length ((hitL m (rows.zip k.ids) (rows.zip k.ids).length).map encI) Si → ∀ w' Z, St B w0 w' ((T' ++ (Si ++ (((k.kb, .cells #[bpt k.tb, k.v] 277) :: k.S) ++ (Sr ++ F)))) ++ Z) →
   w'.cell? ⟨k.kb, 1, none⟩ = some k.v ∧ ∀ (i : Nat) b, rows[i]? = some b → ((rows.take i).filter m).length < (hitL m (rows.zip k.ids) (rows.zip k.ids).length).length →
    ∃ b1 o1 g2 o2 g3 o3 x y, au = some ⟨b1, o1, none⟩ ∧ ai = some ⟨g2, o2, none⟩ ∧ a2 = some ⟨g3, o3, none⟩ ∧ (x == y) = m b ∧ w'.cell? ⟨b1, o1 + i * 3, none⟩ = some (tx b.1) ∧ w'.cell? ⟨b1, o1 + i * 3 + 1, none⟩ = some (tx b.2.1) ∧ w'.cell? ⟨b1, o1 + i * 3 + 2, none⟩ = some (tx b.2.2) ∧
     w'.cell? ⟨g2, o2 + i, none⟩ = some (.int .i64 x) ∧ w'.cell? ⟨g3, o3 + ((rows.take i).filter m).length, none⟩ = some (.int .i64 y)) :=
  Lib.hid fun T' Si a2 cap2 hs2 w' Z h1 => by
   have hmm : (k.kb, .cells #[bpt k.tb, k.v] 277) ∈ (T' ++ (Si ++ (((k.kb, .cells #[bpt k.tb, k.v] 277) :: k.S) ++ (Sr ++ F)))) ++ Z := by simp
   refine ⟨h1.cell (b := k.kb) (i := 1) hmm rfl, fun i b hb hlt => ?_⟩
   have hil : i < k.ids.length := by have := (List.getElem?_eq_some_iff.1 hb).1; omega
   have hx : k.ids[i]? = some (k.ids[i]'hil) := List.getElem?_eq_getElem hil
   have hy : (hitL m (rows.zip k.ids) (rows.zip k.ids).length)[((rows.take i).filter m).length]? = some ((hitL m (rows.zip k.ids) (rows.zip k.ids).length)[((rows.take i).filter m).length]'hlt) := List.getElem?_eq_getElem hlt
   have hru := hu.read (A := T' ++ (Si ++ (((k.kb, .cells #[bpt k.tb, k.v] 277) :: k.S) ++ F)) ++ Z) (h1.perm (by
    refine perm_by fun a => ?_
    simp only [List.count_append, List.count_cons, List.append_assoc, List.cons_append]
    omega))
   obtain ⟨a', cap', e, hcc⟩ := hru
   cases e
   obtain ⟨b1, o1, e1, q1, q2, q3⟩ := hcc i b hb
   have h2 : St B w0 w' ((T' ++ (Si ++ ((k.kb, .cells #[bpt k.tb, k.v] 277) :: (Sr ++ F))) ++ Z) ++ k.S) := h1.perm (by
    refine perm_by fun a => ?_
    simp only [List.count_append, List.count_cons, List.append_assoc, List.cons_append]
    omega)
   have h3 : St B w0 w' ((T' ++ ((((k.kb, .cells #[bpt k.tb, k.v] 277) :: k.S) ++ (Sr ++ F))) ++ Z) ++ Si) := h1.perm (by
    refine perm_by fun a => ?_
    simp only [List.count_append, List.count_cons, List.append_assoc, List.cons_append]
    omega)
   have hi := h.ids
   obtain ⟨a3, cap3, e2, -, -, ha3⟩ := hi.form
   rw [ev] at e2
   cases e2
   obtain ⟨g2, o2, e3⟩ := ha3 i hil
   rw [ev, e3] at hi
   obtain ⟨a4, cap4, e4, -, -, ha4⟩ := hs2.form
   cases e4
   obtain ⟨g3, o3, rfl⟩ := ha4 _ hlt
   refine ⟨b1, o1, g2, o2, g3, o3, _, _, e1, e3, rfl, ?_, q1, q2, q3, hi.cellAt h2 (by rw [List.getElem?_map, hx]; rfl), hs2.cellAt h3 (by rw [List.getElem?_map, hy]; rfl)⟩
   refine hit_is (g := m) hnd (zip_at hb hx) ?_
   rw [hit_len hlen]
   exact hy
 have fin : Hid (∀ (T' Si : List (Nat × Obj)) w' z Z, TrIn k.tb (((rows.map (·.2.2)).map wordsL).zip k.ids) c T' → BnsIs z (rows.filter m) Z → St B w0 w' ((T' ++ (Si ++ (((k.kb, .cells #[bpt k.tb, k.v] 277) :: k.S) ++ (Sr ++ F)))) ++ Z) →
   MatR B w0 k.kb (rows.map (·.2.2)) (rows.filter m) c F (.returned z) w') := Lib.hid fun T' Si w' z Z hT hz h1 => by
  refine ⟨⟨k.kb, k.tb, k.v, k.ids, k.S, T'⟩, z, Z, rfl, rfl, ⟨h.ids, h.len, h.rise, h.top, hT⟩, hz, ?_⟩
  have h2 : St B w0 w' ((((k.kb, .cells #[bpt k.tb, k.v] 277) :: (k.S ++ T')) ++ (Z ++ F)) ++ (Si ++ Sr)) := h1.perm (by
   refine perm_by fun a => ?_
   simp only [List.count_append, List.count_cons, List.append_assoc, List.cons_append]
   omega)
  exact h2.sub (List.sublist_append_left _ _)
 have he : Hid (∀ i, (hitL m (rows.zip k.ids) (rows.zip k.ids).length).length ≤ ((rows.take i).filter m).length → (rows.take i).filter m = rows.filter m) := Lib.hid fun i hi => hit_end hlen (by rw [hit_len hlen (i := i)]; exact hi)
 have hle : Hid (∀ i, ((rows.take i).filter m).length ≤ (hitL m (rows.zip k.ids) (rows.zip k.ids).length).length) := Lib.hid fun i => by
  rw [← hit_len hlen, hit_all m (rows.zip k.ids) i, List.length_append]
  omega
 obtain ⟨kb, tb, v, ids, S, T⟩ := k
 simp only at ev hlen facts fin k0 ct he hl2 hle
 subst ev
 generalize hitL m (rows.zip ids) (rows.zip ids).length = l2 at *
 replace hlen := Lib.hid hlen
 clear h hst hu hz hnd hk hc hsub
 replace hm := Lib.hid hm
 go_enter Tryz.func209, Tryz.ntmps209
 go_wp2_with fail
 refine wp_scope_ghost 0 (MatAt B w0 ⟨kb, tb, .slice ai ids.length capi, ids, S, T⟩ (.slice au rows.length cu) rows l2 (Sr ++ F) c m) rfl ?_ ?_
 ·clear ct
  rintro g a' w' ⟨i, iv, z, T', Si, Z, hM, hfr, hi, hzl, hst⟩
  simp only at hM hfr hst
  obtain ⟨a2, cap2, rfl, -⟩ := hM.ids.form
  replace facts := Lib.hid (facts.out T' Si a2 cap2 hM.ids)
  replace fin := Lib.hid (fun w' z Z => fin.out T' Si w' z Z hM.tree)
  replace hM := Lib.hid hM
  obtain ⟨O, hO⟩ : ∃ O, O = (T' ++ (Si ++ (((kb, .cells #[bpt tb, .slice ai ids.length capi] 277) :: S) ++ (Sr ++ F)))) := ⟨_, rfl⟩
  rw [← hO] at hst facts fin
  replace hO := Lib.hid hO
  obtain ⟨q, rfl, hl'⟩ := hfr.lit
  clear hfr
  simp only [List.mem_cons, List.not_mem_nil, or_false, forall_eq_or_imp, forall_eq] at hl'
  obtain ⟨f0, f1, f7, f8, f9, f10⟩ := hl'
  simp only [List.range, List.range.loop, List.map, f0, f1, f7, f8, f9, f10]
  clear f0 f1 f7 f8 f9 f10
  have hi0 : (0 : Int) ≤ i := by omega
  obtain ⟨k1, hrows⟩ := facts.out w' Z hst
  have hq0 : (0 : Int) ≤ ((rows.take i).filter m).length := by omega
  have hqi : ((rows.take i).filter m).length ≤ i := filter_len_take _ _
  by_cases hlt : i < rows.length
  ·have hi1 : (i : Int) < rows.length := by omega
   have hiB : ((i : Int) == rows.length) = false := by rw [beq_eq_false_iff_ne]; omega
   by_cases hq : ((rows.take i).filter m).length < l2.length
   ·have hqB : ((((rows.take i).filter m).length : Int) == l2.length) = false := by rw [beq_eq_false_iff_ne]; omega
    have hq1 : (((rows.take i).filter m).length : Int) < l2.length := by omega
    have hx : rows[i]? = some rows[i] := List.getElem?_eq_getElem hlt
    generalize rows[i] = b at hx
    obtain ⟨b1, o1, g2, o2, g3, o3, x, y, rfl, rfl, rfl, hxy, q1, q2, q3, q4, q5⟩ := hrows i b hx hq
    have stp := filter_step (p := m) hx
    have hlti : i < ids.length := by have := hlen.out; omega
    have hi2 : (i : Int) < ids.length := by omega
    have dr : Hid (∀ n, St B w0 (w'.drewN n) (O ++ Z)) := Lib.hid fun n => hst.drewN n
    cases hmx : m b with
    | true =>
     rw [hmx] at stp hxy
     rw [if_pos rfl] at stp
     obtain rfl := beq_iff_eq.1 hxy
     have ap : Hid (∀ n, ∃ au' cu', z = .slice au' ((rows.take i).filter m).length cu' ∧ ∃ a4 cap4 W2, (Builtin.append_ #[95, 95] 0 #[z, .slice (some ⟨w'.heap.size, 0, none⟩) 1 1]).run Tryz.prog ((w'.drewN n).alloc (bO b)) = .ok (.slice a4 (((rows.take i).filter m).length + 1) cap4) W2 ∧
       ∀ a', Fr 51 [(0, bpt kb), (1, .slice (some ⟨b1, o1, none⟩) rows.length cu), (7, .slice (some ⟨g3, o3, none⟩) l2.length cap2), (8, .slice a4 (((rows.take i).filter m).length + 1) cap4), (9, .int .i64 ((i + 1 : Nat) : Int)), (10, .int .i64 ((((rows.take i).filter m).length + 1 : Nat) : Int))] a' →
        ∃ m', m' < g ∧ MatAt B w0 ⟨kb, tb, .slice (some ⟨g2, o2, none⟩) ids.length capi, ids, S, T⟩ (.slice (some ⟨b1, o1, none⟩) rows.length cu) rows l2 (Sr ++ F) c m m' a' W2) := Lib.hid fun n => by
      obtain ⟨a5, c5, e5⟩ := hzl.form
      obtain ⟨a4, cap4, W2, F2, hrun, hs4, hst4⟩ := bnd_append (X := O) hzl (dr.out n) b (by omega)
      refine ⟨a5, c5, e5, a4, cap4, W2, hrun, fun a' hf => ⟨g - 1, by omega, i + 1, _, _, T', Si, F2, hM.out, ?_, by omega, by rw [stp]; exact hs4, by rw [hO.out] at hst4; exact hst4⟩⟩
      rw [stp, List.length_append, List.length_singleton]
      exact hf
     obtain ⟨x1, x2, x3⟩ := b
     simp only at q1 q2 q3 ap
     clear hzl hst hrows hx hxy hmx stp facts fin he hle dr
     generalize ((rows.take i).filter m).length = q0 at *
     obtain ⟨au', cu', rfl, -⟩ := ap.out 0
     go_wp2_with fail
     go_quiet (fail)
     obtain ⟨_, _, _, a4, cap4, W2, hrun, nx⟩ := ap.out nq
     replace nx := Lib.hid nx
     clear ap
     go_wp2_with (at_builtin; refine wpList_append_go rfl (.tmp 40) (.tmp 45) 95 95 rfl _ _ rfl rfl hrun ?_)
     refine wp_goto ?_
     exact ⟨rfl, nx.out _ ⟨rfl, rfl, by simp⟩⟩
    | false =>
     rw [hmx] at stp hxy
     rw [if_neg (by decide), List.append_nil] at stp
     have nx : Hid (∀ n a', Fr 51 [(0, bpt kb), (1, .slice (some ⟨b1, o1, none⟩) rows.length cu), (7, .slice (some ⟨g3, o3, none⟩) l2.length cap2), (8, z), (9, .int .i64 ((i + 1 : Nat) : Int)), (10, .int .i64 ((rows.take i).filter m).length)] a' →
        ∃ m', m' < g ∧ MatAt B w0 ⟨kb, tb, .slice (some ⟨g2, o2, none⟩) ids.length capi, ids, S, T⟩ (.slice (some ⟨b1, o1, none⟩) rows.length cu) rows l2 (Sr ++ F) c m m' a' (w'.drewN n)) := Lib.hid fun n a' hf =>
      ⟨g - 1, by omega, i + 1, _, _, T', Si, Z, hM.out, by rw [stp]; exact hf, by omega, by rw [stp]; exact hzl, by have := dr.out n; rw [hO.out] at this; exact this⟩
     obtain ⟨au', cu', rfl⟩ := hzl.form
     obtain ⟨x1, x2, x3⟩ := b
     simp only at q1 q2 q3
     clear hzl hst hrows hx hmx stp facts fin he hle dr
     generalize ((rows.take i).filter m).length = q0 at *
     go_wp2_with fail
     go_quiet (fail)
     go_wp2_with fail
     refine wp_goto ?_
     exact ⟨rfl, nx.out _ _ ⟨rfl, rfl, by simp⟩⟩
   ·have hqB : (((rows.take i).filter m).length : Int) = l2.length := by have := hle.out i; omega
    have e := he.out i (by omega)
    have hzl' := hzl
    rw [e] at hzl'
    have f := Lib.hid (fin.out _ _ _ hzl' hst)
    rw [hqB]
    obtain ⟨au', cu', rfl⟩ := hzl.form
    clear hzl hzl' hst hrows facts fin he hle e hqB hq0 hqi hq
    generalize ((rows.take i).filter m).length = q0 at *
    go_wp2_with fail
    simp only [Exit.jump]
    go_ret
    exact f.out
  ·obtain rfl : i = rows.length := by omega
   rw [List.take_of_length_le (Nat.le_refl _)] at hzl
   rw [List.take_of_length_le (Nat.le_refl _)]
   have f := Lib.hid (fin.out _ _ _ hzl hst)
   obtain ⟨au', cu', rfl⟩ := hzl.form
   clear hzl hst hrows facts fin he hle hq0 hqi
   generalize (rows.filter m).length = q0 at *
   go_wp2_with fail
   simp only [Exit.jump]
   go_ret
   exact f.out
 ·intro H
  clear facts fin he hle
  go_wp2_with fail
  refine ct.out.mono ?_
  rintro e w1 ⟨iv, Si, rfl, hs2, ht⟩
  obtain ⟨T', hT, h1⟩ := TrIn.of ht
  have start : Hid (∀ a', Fr 51 [(0, bpt kb), (1, .slice au rows.length cu), (7, iv), (8, .slice none 0 0), (9, .int .i64 ((0 : Nat) : Int)), (10, .int .i64 (([].filter m : List Bnd).length : Nat))] a' → MatAt B w0 ⟨kb, tb, .slice ai ids.length capi, ids, S, T⟩ (.slice au rows.length cu) rows l2 (Sr ++ F) c m rows.length a' w1) :=
   Lib.hid fun a' hf => ⟨0, iv, _, T', Si, [], ⟨hT, hs2⟩, hf, by omega, BnsIs.nil, by rw [List.append_nil]; exact h1⟩
  obtain ⟨a2, cap2, rfl, -⟩ := hs2.form
  clear hs2 ht ct hT h1
  go_wp2_with fail
  refine wp_label ?_
  go_step
  go_step
  exact H rows.length _ _ (start.out _ ⟨rfl, rfl, by simp⟩)
end
section
variable {B : Nat} {w0 w w' : World} {F T R Q S : List (Nat × Obj)} {tb xb c c' pb : Nat} {M : Prs} {L X Y : List Pl} {p p' : Pl} {k : Ky} {A rows : List Bnd} {P : List Plc} {v tv u : Value} {n : List UInt8} {keys : List (List UInt8)} {q : Bnd → Bool}
theorem ofB_filter (A : List Bnd) (q : Bnd → Bool) (n : List UInt8) : ofB (A.filter q) n = (ofB A n).filter q := by
 unfold ofB
 rw [List.filter_filter, List.filter_filter]
 apply List.filter_congr
 intro b _
 rw [Bool.and_comm]
def OfM (B : Nat) (w0 : World) (xb : Nat) (v : Value) (L : List Pl) (R F : List (Nat × Obj)) (A rows : List Bnd) (u : Value) (w : World) : Prop :=
 ∃ S tv Q, BnsIs u rows S ∧ TaIn tv A Q ∧ St B w0 w (exO xb v tv L R Q ++ (S ++ F))
def UnkR (B : Nat) (w0 : World) (xb : Nat) (v : Value) (X Y : List Pl) (p : Pl) (R F : List (Nat × Obj)) (A A' : List Bnd) (c : Nat) (w : World) : Prop :=
 ∃ p' tv Q, p'.b = p.b ∧ p'.d = p.d ∧ PlOk A' c p' ∧ TaIn tv A Q ∧ St B w0 w (exO xb v tv (X ++ p' :: Y) R Q ++ F)
theorem kobjs_split (hk : p.k = some k) : (exO xb v tv (X ++ p :: Y) R Q ++ F).Perm (k.objs ++ ((exO xb v tv (X ++ Y) R Q ++ F) ++ [(p.b, .cells #[tx p.d.1, .int .i64 p.d.2.1, .bool p.d.2.2, kpt p.k] 217)])) := by
 refine exO_split.trans ?_
 refine perm_by fun a => ?_
 unfold Pl.objs kobjs
 rw [hk]
 simp only [List.count_append, List.count_cons, List.append_assoc, List.cons_append, List.count_nil]
 omega
set_option maxHeartbeats 4000000 in
theorem xunkey_any {g : Nat} {cb : Array Value} (ht : TaIn tv A Q) (few : A.length ≤ 40) (hk40 : ∀ b ∈ A, b.2.2.length ≤ 40) (hp : PlOk A c p) (hc : c ≤ 100000) (hst : St B w0 w (exO xb v tv (X ++ p :: Y) R Q ++ F)) (hq : TellsS B w0 F g cb q) :
  Calls Tryz.prog 171 #[bpt xb, bpt p.b, .func (.func g) #[] cb] w fun e w' => e = .returned (.tuple #[]) ∧ UnkR B w0 xb v X Y p R F A (A.filter fun b => !q b) c w' := by
 have hpm : p ∈ X ++ p :: Y := by simp
 obtain ⟨p0, -, -, p3⟩ := hst.place hpm
 cases hkp : p.k with
 | none =>
  have e : kpt p.k = .pointer none := by rw [hkp]; rfl
  rw [e] at p3
  have fin : Hid (UnkR B w0 xb v X Y p R F A (A.filter fun b => !q b) c w) := Lib.hid ⟨p, tv, Q, rfl, rfl, ⟨hp.has, fun k hk => by rw [hkp] at hk; cases hk⟩, ht, hst⟩
  generalize p.b = pb at *
  clear hst hp ht
  go_enter Tryz.func171, Tryz.ntmps171
  go_wp2_with fail
  exact bodyPost_end (results_none rfl _ _ _) rfl ⟨rfl, fin.out⟩
 | some k =>
  have e : kpt p.k = bpt k.kb := by rw [hkp]; rfl
  rw [e] at p3
  have hky := hp.ky k hkp
  have hcell : ∀ w' tv' Q' F', St B w0 w' (exO xb v tv' (X ++ p :: Y) R Q' ++ F') → w'.cell? ⟨p.b, 0, none⟩ = some (tx p.d.1) ∧ w'.cell? ⟨p.b, 3, none⟩ = some (bpt k.kb) := fun w' tv' Q' F' h' => by
   obtain ⟨g0, -, -, g3⟩ := h'.place hpm
   rw [e] at g3
   exact ⟨g0, g3⟩
  have cof : Hid (∀ w1, St B w0 w1 (exO xb v tv (X ++ p :: Y) R Q ++ F) → Calls Tryz.prog 162 #[bpt xb, tx p.d.1] w1 fun e w' => ∃ a cap, e = .returned (.slice a (ofB A p.d.1).length cap) ∧ OfM B w0 xb v (X ++ p :: Y) R F A (ofB A p.d.1) (.slice a (ofB A p.d.1).length cap) w' ∧ (w'.cell? ⟨p.b, 0, none⟩ = some (tx p.d.1) ∧ w'.cell? ⟨p.b, 3, none⟩ = some (bpt k.kb))) := Lib.hid fun w1 h1 => by
   refine (xof_any ht few h1 p.d.1).mono ?_
   rintro e w' ⟨u, S, tv', Q', rfl, hu, ht', h2⟩
   obtain ⟨a, cap, rfl⟩ := hu.form
   exact ⟨a, cap, rfl, ⟨S, tv', Q', hu, ht', h2⟩, hcell _ _ _ _ h2⟩
  have ccut : Hid (∀ w1 u, OfM B w0 xb v (X ++ p :: Y) R F A (ofB A p.d.1) u w1 → Calls Tryz.prog 221 #[bpt k.kb, u, .func (.func g) #[] cb] w1 fun e w' => e = .returned (.tuple #[]) ∧ UnkR B w0 xb v X Y p R F A (A.filter fun b => !q b) c w' ∧ (w'.cell? ⟨p.b, 0, none⟩ = some (tx p.d.1) ∧ w'.cell? ⟨p.b, 3, none⟩ = some (bpt k.kb))) := Lib.hid fun w1 u hO => by
   obtain ⟨S, tv', Q', hu, ht', h2⟩ := hO
   have hof : (ofB A p.d.1).length ≤ 40 := Nat.le_trans (List.length_filter_le _ _) few
   have h3 : St B w0 w1 (k.objs ++ (S ++ (((exO xb v tv' (X ++ Y) R Q' ++ [(p.b, .cells #[tx p.d.1, .int .i64 p.d.2.1, .bool p.d.2.2, kpt p.k] 217)])) ++ F))) := h2.perm ((kobjs_split hkp).trans (by
    refine perm_by fun a => ?_
    simp only [List.count_append, List.count_cons, List.append_assoc, List.cons_append, List.count_nil]
    omega))
   refine (kcut_any hky h3 hu (hq.more _) (fun b hb => hk40 b (List.mem_filter.1 hb).1) hc (by omega)).mono ?_
   rintro e w' ⟨rfl, k', e1, hk', h4⟩
   have hok : PlOk (A.filter fun b => !q b) c ⟨p.b, p.d, some k'⟩ := ⟨by
    have := hp.has
    rw [hkp] at this
    exact this, fun k2 hk2 => by
     cases hk2
     unfold keysOf
     rw [ofB_filter]
     exact hk'⟩
   have h5 : St B w0 w' (exO xb v tv' (X ++ ⟨p.b, p.d, some k'⟩ :: Y) R Q' ++ F) := h4.perm (by
    refine List.Perm.trans ?_ (kobjs_split (p := ⟨p.b, p.d, some k'⟩) rfl).symm
    have e2 : kpt (some k') = kpt p.k := by rw [hkp]; unfold kpt; rw [Option.map_some, Option.map_some, e1]
    refine perm_by fun a => ?_
    simp only [e2, List.count_append, List.count_cons, List.append_assoc, List.cons_append, List.count_nil]
    omega)
   obtain ⟨g0, -, -, g3⟩ := h5.place (p := ⟨p.b, p.d, some k'⟩) (by simp)
   refine ⟨rfl, ⟨⟨p.b, p.d, some k'⟩, tv', Q', rfl, rfl, hok, ht', h5⟩, g0, ?_⟩
   have e2 : kpt (some k') = bpt k.kb := by unfold kpt; rw [Option.map_some, e1]
   rw [← e2]
   exact g3
  have hd : St B w0 w.drew (exO xb v tv (X ++ p :: Y) R Q ++ F) := hst.drew
  have hs0 := Lib.hid (hcell _ _ _ _ hd)
  clear hcell hst hp ht hky hq
  generalize hK : UnkR B w0 xb v X Y p R F A (A.filter fun b => !q b) c = U at *
  generalize p.b = pb at *
  generalize p.d.1 = pn at *
  generalize k.kb = kb at *
  go_enter Tryz.func171, Tryz.ntmps171
  go_wp2_with fail
  go_region_held3 (fun x => x.cell? ⟨pb, 0, none⟩ = some (tx pn) ∧ x.cell? ⟨pb, 3, none⟩ = some (bpt kb)) (first | exact kS | exact hs0.out) (first
   | (go_at_call 162; refine (cof.out _ (by assumption)).mono ?_; rintro e w'' ⟨a2, cap2, rfl, hO, kS⟩)
   | (go_at_call 221; refine (ccut.out _ _ (by assumption)).mono ?_; rintro e w'' ⟨rfl, hU, kS⟩))
  replace hU := Lib.hid hU
  clear hO hd cof ccut
  go_wp2_with fail
  exact bodyPost_end (results_none rfl _ _ _) rfl ⟨rfl, hU.out⟩
set_option maxHeartbeats 2000000 in
theorem xleave_any (h : ExIn L v tv R Q A c) (hst : St B w0 w (exO xb v tv L R Q ++ F)) (n : List UInt8) :
  Calls Tryz.prog 174 #[bpt xb, tx n] w fun e w' => e = .returned (.tuple #[]) ∧ ExIs B w0 w' xb (leaveX (L.map Pl.d) A n) A F c := by
 have c1 := Lib.hid (xfind_any h hst n)
 have few := h.fine.few
 rw [List.length_map] at few
 have fl := h.fine.leave n
 have hl : leaveX (L.map Pl.d) A n = match (findL L n).map Pl.d with | some p => if p.2.2 = true ∧ ofB A n = [] then dropP (L.map Pl.d) n else L.map Pl.d | none => L.map Pl.d := by
  unfold leaveX
  rw [findL_d]
  cases findL L n <;> rfl
 unfold ptrF at c1
 cases hf : findL L n with
 | none =>
  rw [hf] at c1 hl
  simp only [Option.map_none] at c1 hl
  rw [hl]
  have fin : Hid (ExIs B w0 w xb (L.map Pl.d) A F c) := Lib.hid ⟨L, v, tv, R, Q, rfl, h, hst⟩
  clear h hst fl hl hf
  go_enter Tryz.func174, Tryz.ntmps174
  go_wp2_with fail
  refine c1.out.mono ?_
  rintro e w1 ⟨rfl, rfl⟩
  go_wp2_with fail
  exact bodyPost_end (results_none rfl _ _ _) rfl ⟨rfl, fin.out⟩
 | some p =>
  rw [hf] at c1 hl
  simp only [Option.map_some] at c1 hl
  obtain ⟨hm, hn⟩ := findL_mem hf
  obtain ⟨-, -, p2, -⟩ := hst.place hm
  cases ha : p.d.2.2 with
  | false =>
   rw [ha] at p2 hl
   rw [if_neg (by simp)] at hl
   rw [hl]
   have fin : Hid (ExIs B w0 w xb (L.map Pl.d) A F c) := Lib.hid ⟨L, v, tv, R, Q, rfl, h, hst⟩
   generalize p.b = pb at *
   clear h hst fl hl hf
   go_enter Tryz.func174, Tryz.ntmps174
   go_wp2_with fail
   refine c1.out.mono ?_
   rintro e w1 ⟨rfl, rfl⟩
   go_wp2_with fail
   exact bodyPost_end (results_none rfl _ _ _) rfl ⟨rfl, fin.out⟩
  | true =>
   rw [ha] at p2 hl
   obtain ⟨X, Y, rfl⟩ := List.append_of_mem hm
   have hpb : p.b = p.b := rfl
   have cof : Hid (Calls Tryz.prog 162 #[bpt xb, tx n] w fun e w' => ∃ a cap, e = .returned (.slice a (ofB A n).length cap) ∧ OfM B w0 xb v (X ++ p :: Y) R F A (ofB A n) (.slice a (ofB A n).length cap) w') := Lib.hid (by
    refine (xof_any h.tab h.fine.rows.few hst n).mono ?_
    rintro e w' ⟨u, S, tv', Q', rfl, hu, ht', h2⟩
    obtain ⟨a, cap, rfl⟩ := hu.form
    exact ⟨a, cap, rfl, S, tv', Q', hu, ht', h2⟩)
   by_cases ho : ofB A n = []
   ·rw [if_pos ⟨rfl, ho⟩] at hl
    have hdp : dropP ((X ++ p :: Y).map Pl.d) n = (X ++ Y).map Pl.d := by
     have := h.fine.once
     rw [List.map_append, List.map_cons] at this ⊢
     rw [← hn, dropP_split this, List.map_append]
    rw [hdp] at hl
    rw [hl] at fl ⊢
    have crm : Hid (∀ a w1, OfM B w0 xb v (X ++ p :: Y) R F A (ofB A n) a w1 → Calls Tryz.prog 164 #[bpt xb, bpt p.b] w1 fun e w' => e = .returned (.tuple #[]) ∧ ExIs B w0 w' xb ((X ++ Y).map Pl.d) A F c) := Lib.hid fun a w1 hO => by
     obtain ⟨S, tv', Q', hu, ht', h2⟩ := hO
     refine (xremove_any h.sl few h2).mono ?_
     rintro e w' ⟨rfl, v', R', hs', h3⟩
     refine ⟨rfl, X ++ Y, v', tv', R', Q', rfl, ⟨fl, hs', ht', fun p' hp' => h.pls p' ?_⟩, h3.sub ?_⟩
     ·rcases List.mem_append.1 hp' with h' | h'
      ·exact List.mem_append_left _ h'
      ·exact List.mem_append_right _ (List.mem_cons_of_mem _ h')
     ·exact List.Sublist.append (List.Sublist.refl _) (List.sublist_append_right _ _)
    rw [ho] at cof crm
    generalize p.b = pb at *
    clear h hst fl hl hf hm hn ho hdp
    go_enter Tryz.func174, Tryz.ntmps174
    go_wp2_with fail
    refine c1.out.mono ?_
    rintro e w1 ⟨rfl, rfl⟩
    go_wp2_with fail
    refine cof.out.mono ?_
    rintro e w2 ⟨a, cap, rfl, hO⟩
    replace crm := Lib.hid (crm.out _ _ hO)
    clear hO cof c1
    go_wp2_with fail
    refine crm.out.mono ?_
    rintro e w3 ⟨rfl, fin⟩
    replace fin := Lib.hid fin
    go_wp2_with fail
    exact bodyPost_end (results_none rfl _ _ _) rfl ⟨rfl, fin.out⟩
   ·rw [if_neg (fun e => ho e.2)] at hl
    rw [hl]
    have fin : Hid (∀ u w1, OfM B w0 xb v (X ++ p :: Y) R F A (ofB A n) u w1 → ExIs B w0 w1 xb ((X ++ p :: Y).map Pl.d) A F c) := Lib.hid fun u w1 hO => by
     obtain ⟨S, tv', Q', hu, ht', h2⟩ := hO
     exact ⟨X ++ p :: Y, v, tv', R, Q', rfl, h.retab ht', h2.sub (List.Sublist.append (List.Sublist.refl _) (List.sublist_append_right _ _))⟩
    have hlB : (((ofB A n).length : Int) == 0) = false := by
     rw [beq_eq_false_iff_ne]
     have := List.length_pos_iff.2 ho
     omega
    generalize p.b = pb at *
    generalize (X ++ p :: Y).map Pl.d = P at *
    clear h hst fl hl hf hm hn
    go_enter Tryz.func174, Tryz.ntmps174
    go_wp2_with fail
    refine c1.out.mono ?_
    rintro e w1 ⟨rfl, rfl⟩
    go_wp2_with fail
    refine cof.out.mono ?_
    rintro e w2 ⟨a, cap, rfl, hO⟩
    replace fin := Lib.hid (fin.out _ _ hO)
    clear hO cof c1 ho
    generalize (ofB A n).length = q0 at *
    go_wp2_with fail
    exact bodyPost_end (results_none rfl _ _ _) rfl ⟨rfl, fin.out⟩
end

def rowB (r : Nat → Bool) (m : Nat) : Obj := .cells ((List.range m).map fun i => Value.bool (r i)).toArray 4
def part (r : Nat → Bool) (k : Nat) : Nat → Bool := fun i => decide (i < k) && r i
theorem rowB_congr {r s : Nat → Bool} {m : Nat} (h : ∀ i, i < m → r i = s i) : rowB r m = rowB s m := by
 unfold rowB
 congr 2
 apply List.map_congr_left
 intro i hi
 rw [h i (List.mem_range.1 hi)]
theorem part_all (r : Nat → Bool) (m : Nat) : rowB (part r m) m = rowB r m := rowB_congr fun i hi => by simp [part, hi]
section
variable {w wr : World} {b2 b m : Nat} {s r : Nat → Bool}
end
theorem inname_any (c : UInt8) (w : World) : Calls Tryz.prog 196 #[.int .u8 c.toNat] w fun e w' => e = .returned (.bool (inNm c)) ∧ w' = w := by
 unfold inNm
 generalize c.toNat = n at *
 go_enter Tryz.func196, Tryz.ntmps196
 go_wp2_with fail
 all_goals
  go_ret
  refine ⟨ret_bool ?_, rfl⟩
  apply Bool.eq_iff_iff.2
  simp only [Bool.or_eq_true, Bool.and_eq_true, decide_eq_true_eq, beq_iff_eq]
  constructor
  all_goals
   intro _
   first | trivial | omega
theorem all_take {l : List UInt8} {i : Nat} {c : UInt8} (h : (l.take i).all inNm = true) (hc : l[i]? = some c) : (l.take (i + 1)).all inNm = inNm c := by
 rw [List.take_add_one, hc, List.all_append, h]
 simp
theorem isNm_bad {l : List UInt8} {i : Nat} {c : UInt8} (hc : l[i]? = some c) (h : inNm c = false) : isNm l = false := by
 have : l.all inNm = false := by
  apply Bool.eq_false_iff.2
  intro ha
  rw [List.all_eq_true] at ha
  rw [ha c (List.mem_of_getElem? hc)] at h
  cases h
 rw [isNm, this, Bool.and_false]
def NameAt (w : World) (l : List UInt8) (g : Nat) (a' : Act) (w' : World) : Prop := ∃ i : Nat, i + g = l.length ∧ 0 < l.length ∧ l.length ≤ 12 ∧ (l.take i).all inNm = true ∧ Fr 22 [(0, tx l), (3, .int .i64 i)] a' ∧ w' = w
set_option maxHeartbeats 1000000 in
theorem isname_any (l : List UInt8) (w : World) : Calls Tryz.prog 135 #[tx l] w fun e w' => e = .returned (.bool (isNm l)) ∧ w' = w := by
 have hIn := Lib.hid (fun c => inname_any c w)
 go_enter Tryz.func135, Tryz.ntmps135
 go_wp2_with fail
 refine wp_scope_ghost 0 (NameAt w l) rfl ?_ ?_
 ·rintro g a' w' ⟨i, hi, hl0, hl12, ha, hfr, rfl⟩
  obtain ⟨q, rfl, hl'⟩ := hfr.lit
  clear hfr
  simp only [List.mem_cons, List.not_mem_nil, or_false, forall_eq_or_imp, forall_eq] at hl'
  obtain ⟨f0, f3⟩ := hl'
  simp only [List.range, List.range.loop, List.map, f0, f3]
  clear f0 f3
  have hi0 : (0 : Int) ≤ i := by omega
  by_cases hlt : i < l.length
  ·have hx : l[i]? = some l[i] := List.getElem?_eq_getElem hlt
   have hi1 : (i : Int) < l.length := by omega
   have hne : ((i : Int) == l.length) = false := by rw [beq_eq_false_iff_ne]; omega
   have c1 := Lib.hid (hIn.out l[i])
   clear hIn
   have hg : (((⟨l.toArray⟩ : ByteArray)[i]'(show i < l.length from hlt)).toNat : Int) = (l[i].toNat : Int) := rfl
   cases hb : inNm l[i] with
   | true =>
    rw [hb] at c1
    have ha2 := all_take ha hx
    rw [hb] at ha2
    replace ha2 := Lib.hid ha2
    clear ha hx hb
    go_wp2_with fail
    refine c1.out.mono ?_
    rintro e w1 ⟨rfl, rfl⟩
    go_wp2_with fail
    refine wp_goto ?_
    refine ⟨rfl, g - 1, by omega, i + 1, by omega, hl0, hl12, ha2.out, ⟨rfl, rfl, ?_⟩, rfl⟩
    simp
   | false =>
    rw [hb] at c1
    have hf := isNm_bad hx hb
    replace hf := Lib.hid hf
    clear ha hx hb
    go_wp2_with fail
    refine c1.out.mono ?_
    rintro e w1 ⟨rfl, rfl⟩
    go_wp2_with fail
    simp only [Exit.jump]
    go_ret
    exact ⟨ret_bool hf.out.symm, rfl⟩
  ·obtain rfl : i = l.length := by omega
   rw [List.take_of_length_le (Nat.le_refl _)] at ha
   have hf : isNm l = true := by rw [isNm, ha, decide_eq_true (show 1 ≤ l.length by omega), decide_eq_true hl12]; rfl
   clear hIn
   go_wp2_with fail
   simp only [Exit.jump]
   go_ret
   exact ⟨ret_bool hf.symm, rfl⟩
 ·intro H
  by_cases h0 : l = []
  ·subst h0
   clear H
   go_wp2_with fail
   simp only [Exit.jump]
   go_ret
   exact ⟨rfl, rfl⟩
  ·have hpos : 0 < l.length := List.length_pos_iff.2 h0
   have h0B : (l == []) = false := by simpa using h0
   have h0C : l.isEmpty = false := by simpa using h0
   by_cases h12 : 12 < l.length
   ·have h12' : (12 : Int) < l.length := by omega
    have hf : isNm l = false := by rw [isNm, decide_eq_false (show ¬ l.length ≤ 12 by omega), Bool.and_false, Bool.false_and]
    clear H
    go_wp2_with fail
    simp only [Exit.jump]
    go_ret
    exact ⟨ret_bool hf.symm, rfl⟩
   ·have h12' : ¬ (12 : Int) < l.length := by omega
    go_wp2_with fail
    refine wp_label ?_
    go_step
    go_step
    exact H l.length _ _ ⟨0, by omega, by omega, by omega, by simp, ⟨rfl, rfl, by simp⟩, rfl⟩
theorem iskey_any (l : List UInt8) (w : World) : Calls Tryz.prog 144 #[tx l] w fun e w' => e = .returned (.bool (decide (l.length ≤ 40))) ∧ w' = w := by
 go_enter Tryz.func144, Tryz.ntmps144
 go_wp2_with fail
 go_ret
 exact ⟨ret_bool (decide_eq_decide.2 (by omega)), rfl⟩
end Go.Proofs.YtknjamfjonapiaaGreatDoor
