import Derived.Test.YtknjamfjonapiaaGreatDoorY20
import Derived.Test.YtknjamfjonapiaaGreatDoorY17
import Derived.Test.YtknjamfjonapiaaGreatDoorY05
import Derived.Test.YtknjamfjonapiaaGreatDoorY10
import Derived.Test.YtknjamfjonapiaaGreatDoorY19
import Derived.Test.YtknjamfjonapiaaGreatDoorY09
namespace Go.Proofs.YtknjamfjonapiaaGreatDoor
open Go.RowKit
set_option linter.unusedVariables false
set_option linter.unusedSectionVars false
set_option linter.unusedSimpArgs false
set_option maxRecDepth 100000
theorem ret_entry4 {P : Program} {fn : Func} {a a1 a2 a3 d : Nat} {v1 v2 v3 : Int} {tmps : Array Value} {w : World} {e : Ent} (hr : fn.results = #[.cell a 51, .tmp a1, .tmp a2, .tmp a3]) (h0 : tmps[a]? = some (.pointer (some ⟨d, 0, none⟩))) (h1 : tmps[a1]? = some (.int .i64 v1)) (h2 : tmps[a2]? = some (.int .i64 v2)) (h3 : tmps[a3]? = some (.int .i64 v3)) (q : EnAt w d e) (hP : P = Tryz.prog) :
  (results fn tmps).run P w = .ok (.tuple #[enV e, .int .i64 v1, .int .i64 v2, .int .i64 v3]) w := by
 subst hP
 obtain ⟨q0, q1, q2, q3, q4, q5, q6, q7, q8, q9⟩ := q
 simp [results, hr, go_sem, h0, h1, h2, h3, q0, q1, q2, q3, q4, q5, q6, q7, q8, q9]
section
variable {qT : Bool} {B : Nat} {w0 w w' : World} {sb slb xb pb qb gb c c' i k b : Nat} {bs : List Nat} {S S' : Sto} {L : List Pq} {xv v : Value} {d d' : Plq} {R SX SS F F' Z : List (Nat × Obj)} {o : Opt} {M : List Ent} {G : List Gst} {T : Nat} {n : List UInt8} {q z bt : Int} {e e0 : Ent}
theorem StoIs.putE (h : StoIs qT B w0 w sb bs S ((k, enO e0) :: F) c) : StoIs qT B w0 (enPut w k e) sb bs S ((k, enO e) :: F) c := by
 obtain ⟨O, h1, -, h2⟩ := h.beside
 exact h2 _ _ (((h1.perm List.perm_middle).enPut (e := e)).perm List.perm_middle.symm)
theorem StoIs.enAt (h : StoIs qT B w0 w sb bs S F c) (hm : (k, enO e) ∈ F) : EnAt w k e ∧ ∀ i, w.frozen? ⟨k, i, none⟩ = false := by
 obtain ⟨O, hs, -⟩ := h.beside
 exact ⟨hs.enAt (List.mem_append_right _ hm), fun i => hs.soft (List.mem_append_right _ hm) i⟩
theorem StoIs.ret_e (h : StoIs qT B w0 w sb bs S ((k, enO e0) :: F) c) (x : Ent) : EnAt w k e0 ∧ (∀ i, w.frozen? ⟨k, i, none⟩ = false) ∧ EnAt (enPut w k x) k x ∧ StoIs qT B w0 (enPut w k x) sb bs S F c := by
 have h1 := h.enAt List.mem_cons_self
 have h2 := h.putE (e := x)
 exact ⟨h1.1, h1.2, (h2.enAt List.mem_cons_self).1, h2.sub (List.sublist_cons_self _ _)⟩
theorem cell_enPut {a : Addr} {v : Value} (h : w.cell? a = some v) (hn : k ≠ a.block) : (enPut w k e).cell? a = some v := by
 have e : (enPut w k e).cell? a = w.cell? a := by
  repeat rw [World.cell?_setCell_far _ _ _ _ (by exact hn)]
 rw [e]
 exact h
theorem enAt_enPut {x : Ent} (h : EnAt w b x) (hn : k ≠ b) : EnAt (enPut w k e) b x := by
 obtain ⟨q0, q1, q2, q3, q4, q5, q6, q7, q8, q9⟩ := h
 exact ⟨cell_enPut q0 hn, cell_enPut q1 hn, cell_enPut q2 hn, cell_enPut q3 hn, cell_enPut q4 hn, cell_enPut q5 hn, cell_enPut q6 hn, cell_enPut q7 hn, cell_enPut q8 hn, cell_enPut q9 hn⟩
theorem StoIs.lt {x : Obj} (h : StoIs qT B w0 w sb bs S F c) (hm : (k, x) ∈ F) : k < w.heap.size := by
 obtain ⟨O, hs, -⟩ := h.beside
 exact St.lt (o := x) hs (List.mem_append_right _ hm)
theorem StoIs.ne {x : Obj} (h : StoIs qT B w0 w sb bs S F c) (hm : (k, x) ∈ F) (hb : bs[i]? = some pb) : k ≠ pb := by
 obtain ⟨L, slb, xv, v, R, SX, SS, h1, h2⟩ := h
 rw [← h1.blks, List.getElem?_map, Option.map_eq_some_iff] at hb
 obtain ⟨p, hp, rfl⟩ := hb
 have hn := h2.nodup
 rw [List.map_append, List.nodup_append] at hn
 refine fun e => hn.2.2 p.b (List.mem_map.2 ⟨(p.b, pqO p.d p.qb p.gb), ?_, rfl⟩) k (List.mem_map.2 ⟨_, hm, rfl⟩) e.symm
 refine List.mem_cons_of_mem _ (List.mem_append_right _ (List.mem_append_right _ (List.mem_append_right _ ?_)))
 exact List.mem_flatMap.2 ⟨p, List.mem_of_getElem? hp, List.mem_cons_self⟩
theorem set_get {α : Type} {l : List α} {i : Nat} {x y : α} (h : l[i]? = some x) : (l.set i y)[i]? = some y := by
 rw [List.getElem?_set_self (List.getElem?_eq_some_iff.1 h).1]
theorem setM_get {M : List Ent} (hi : S.L[i]? = some d) : (S.setM i d M).L[i]? = some { d with M := M } := set_get hi
theorem pl_take (h : StoIs qT B w0 w sb bs S F c) (hi : S.L[i]? = some d) (hb : bs[i]? = some pb) : ∃ qb, w.cell? ⟨pb, 3, none⟩ = some (rptr qb) ∧ Calls Tryz.prog 83 #[rptr qb] w fun r w' => r = .returned (firstV d.M) ∧ (w'.cell? ⟨pb, 1, none⟩ = some (.int .i64 d.num) ∧ w'.cell? ⟨pb, 3, none⟩ = some (rptr qb)) ∧ StoIs qT B w0 w' sb bs (S.setM i d d.M.tail) F c := by
 obtain ⟨pb', qb, gb, h1, h2, ⟨Z, h3, h4⟩, -⟩ := h.place hi
 rw [hb] at h1
 obtain rfl := Option.some.inj h1
 refine ⟨qb, h2.c3, (qu_take h3).mono ?_⟩
 rintro r w' ⟨rfl, h5⟩
 obtain ⟨h6, h7⟩ := h4 _ _ _ h5
 exact ⟨rfl, ⟨h6.c1, h6.c3⟩, h7⟩
theorem pl_len (h : StoIs qT B w0 w sb bs S F c) (hi : S.L[i]? = some d) (hb : bs[i]? = some pb) (h3 : w.cell? ⟨pb, 3, none⟩ = some (rptr qb)) : Calls Tryz.prog 73 #[rptr qb] w fun r w' => r = .returned (.int .i64 d.M.length) ∧ (w'.cell? ⟨pb, 1, none⟩ = some (.int .i64 d.num) ∧ w'.cell? ⟨pb, 3, none⟩ = some (rptr qb)) ∧ StoIs qT B w0 w' sb bs S F c := by
 obtain ⟨pb', qb', gb, h1, h2, ⟨Z, h4, h5⟩, -⟩ := h.place hi
 rw [hb] at h1
 obtain rfl := Option.some.inj h1
 have e := h2.c3
 rw [h3] at e
 cases e
 refine (qu_len h4).mono ?_
 rintro r w' ⟨rfl, h6⟩
 obtain ⟨h7, h8⟩ := h5 _ _ _ h6
 rw [setM_same hi] at h8
 exact ⟨rfl, ⟨h7.c1, h7.c3⟩, h8⟩
set_option maxHeartbeats 4000000 in
theorem st_take (h : StoIs qT B w0 w sb bs S F c) (n : List UInt8) (q : Int) {S' : Sto} {e : Ent} {a1 a2 a3 : Int} (hS : S.take n q = (S', e, a1, a2, a3)) :
  Calls Tryz.prog 32 #[bpt sb, tx n, .int .i64 q] w fun r w' => r = .returned (.tuple #[enV e, .int .i64 a1, .int .i64 a2, .int .i64 a3]) ∧ StoIs qT B w0 w' sb bs S' F c := by
 have h0 := h.alloc (enO z0E)
 unfold Sto.take at hS
 rcases open_ways S n q with ⟨y, ho, hy⟩ | ⟨i, d, ho, e1, hi, e2, -⟩
 ·rw [ho] at hS
  simp only [Prod.mk.injEq] at hS
  obtain ⟨rfl, rfl, rfl, rfl, rfl⟩ := hS
  have co := Lib.hid (st_open_no h0 ho)
  have hret := Lib.hid (fun w' (h' : StoIs qT B w0 w' sb bs S ((w.heap.size, enO z0E) :: F) c) => h'.ret_e z0E)
  have hyb : (y != 0) = true := by rcases hy with rfl | rfl <;> rfl
  clear h h0 ho hy
  go_enter Tryz.func32, Tryz.ntmps32
  go_wp2_with fail
  refine co.out.mono ?_
  rintro r w1 ⟨rfl, hx⟩
  obtain ⟨⟨z0, z1, z2, z3, z4, z5, z6, z7, z8, z9⟩, zs, finE, fin⟩ := hret.out w1 hx
  replace finE := Lib.hid finE
  replace fin := Lib.hid fin
  clear co hx hret
  go_wp2_with fail
  exact bodyPost_ret (ret_entry4 (e := z0E) rfl rfl rfl rfl rfl finE.out rfl) rfl ⟨rfl, fin.out⟩
 ·rw [ho] at hS
  simp only at hS
  obtain ⟨pb, hpb⟩ := h.blk hi
  have co := Lib.hid (st_open_yes h0 ho hpb)
  have ct := Lib.hid (fun w1 (h' : StoIs qT B w0 w1 sb bs S ((w.heap.size, enO z0E) :: F) c) => pl_take h' hi hpb)
  cases hM : d.M with
  | nil =>
   rw [hM] at hS ct
   simp only [Prod.mk.injEq] at hS
   obtain ⟨rfl, rfl, rfl, rfl, rfl⟩ := hS
   have e3 : S.setM i d [] = S := by rw [← hM]; exact setM_same hi
   simp only [List.tail_nil, e3] at ct
   have hfv : firstV [] = .tuple #[enV z0E, .bool false] := rfl
   have hret := Lib.hid (fun w' (h' : StoIs qT B w0 w' sb bs S ((w.heap.size, enO z0E) :: F) c) => ((h'.alloc (enO z0E)).permF (List.Perm.swap _ _ _)).ret_e z0E)
   have hsub := Lib.hid (fun w' (h' : StoIs qT B w0 w' sb bs S ((w'.heap.size, enO z0E) :: F) c) => h'.sub (List.sublist_cons_self _ _))
   clear h h0 ho e1 e2 hi hpb hM e3
   go_enter Tryz.func32, Tryz.ntmps32
   go_wp2_with fail
   refine co.out.mono ?_
   rintro r w1 ⟨rfl, hx⟩
   obtain ⟨qb, k3, ct1⟩ := ct.out w1 hx
   replace ct1 := Lib.hid ct1
   clear co hx ct
   go_wp2_with fail
   refine ct1.out.mono ?_
   rintro r w2 ⟨rfl, ⟨k1, k4⟩, h2⟩
   rw [hfv]
   obtain ⟨⟨z0, z1, z2, z3, z4, z5, z6, z7, z8, z9⟩, zs, finE, fin⟩ := hret.out w2 h2
   replace finE := Lib.hid finE
   replace fin := Lib.hid (fin.sub (List.sublist_cons_self _ _))
   clear ct1 h2 hret hfv k3
   go_wp2_with fail
   exact bodyPost_ret (ret_entry4 (e := z0E) rfl rfl rfl rfl rfl finE.out rfl) rfl ⟨rfl, fin.out⟩
  | cons x M =>
   rw [hM] at hS ct
   simp only [Prod.mk.injEq] at hS
   obtain ⟨rfl, rfl, rfl, rfl, rfl⟩ := hS
   simp only [List.tail_cons] at ct
   have hfv : firstV (x :: M) = .tuple #[enV x, .bool true] := rfl
   have hg := setM_get (M := M) hi
   have hne : Hid (∀ W, StoIs qT B w0 W sb bs (S.setM i d M) ((w.heap.size, enO z0E) :: F) c → w.heap.size ≠ pb) := Lib.hid fun W h' => h'.ne List.mem_cons_self hpb
   have hret := Lib.hid (fun eb w' (h' : StoIs qT B w0 w' sb bs (S.setM i d M) ((w.heap.size, enO z0E) :: (eb, enO x) :: F) c) => h'.ret_e x)
   have hal := Lib.hid (fun w' (h' : StoIs qT B w0 w' sb bs (S.setM i d M) ((w.heap.size, enO z0E) :: F) c) => ((h'.alloc (enO x)).permF (List.Perm.swap _ _ _)).grow (drew_b _))
   have cl : Hid (∀ eb W qb, W.cell? ⟨pb, 3, none⟩ = some (rptr qb) → StoIs qT B w0 W sb bs (S.setM i d M) ((w.heap.size, enO z0E) :: (eb, enO x) :: F) c → Calls Tryz.prog 73 #[rptr qb] W fun r w' => r = .returned (.int .i64 M.length) ∧ StoIs qT B w0 w' sb bs (S.setM i d M) ((w.heap.size, enO z0E) :: (eb, enO x) :: F) c ∧
     (w'.cell? ⟨pb, 3, none⟩ = some (rptr qb) ∧ w'.cell? ⟨pb, 1, none⟩ = some (.int .i64 d.num) ∧ EnAt w' eb x) ∧ (EnAt w' w.heap.size z0E ∧ ∀ i, w'.frozen? ⟨w.heap.size, i, none⟩ = false)) := Lib.hid fun eb W qb h3 h' => (pl_len h' hg hpb h3).mono (by
    rintro r w' ⟨rfl, ⟨k1, k3⟩, h2⟩
    exact ⟨rfl, h2, ⟨k3, k1, (h2.enAt (List.mem_cons_of_mem _ List.mem_cons_self)).1⟩, h2.enAt List.mem_cons_self⟩)
   generalize M.length = ml at *
   generalize d.num = num at *
   generalize S.setM i d M = S2 at *
   clear h h0 ho e1 e2 hi hpb hM hg
   go_enter Tryz.func32, Tryz.ntmps32
   go_wp2_with fail
   refine co.out.mono ?_
   rintro r w1 ⟨rfl, hx⟩
   obtain ⟨qb, k3, ct1⟩ := ct.out w1 hx
   replace ct1 := Lib.hid ct1
   clear co hx ct
   go_wp2_with fail
   refine ct1.out.mono ?_
   rintro r w2 ⟨rfl, ⟨k1, k4⟩, h2⟩
   rw [hfv]
   have hO := hal.out w2 h2
   have hn1 := hne.out w2 h2
   have hn2 : w.heap.size ≠ w2.heap.size := Nat.ne_of_lt (h2.lt List.mem_cons_self)
   obtain ⟨W2, hW⟩ : ∃ W2, W2 = w2.alloc (enO x) := ⟨_, rfl⟩
   obtain ⟨eb, heb⟩ : ∃ eb, eb = w2.heap.size := ⟨_, rfl⟩
   have hs0 : Hid ((w2.alloc (enO x)).drew.cell? ⟨pb, 3, none⟩ = some (rptr qb) ∧ (w2.alloc (enO x)).drew.cell? ⟨pb, 1, none⟩ = some (.int .i64 num) ∧ EnAt (w2.alloc (enO x)).drew w2.heap.size x) :=
    Lib.hid ⟨cellUp (cellUp k4 (new_below _ _)) (drew_b _), cellUp (cellUp k1 (new_below _ _)) (drew_b _), (hO.enAt (List.mem_cons_of_mem _ List.mem_cons_self)).1⟩
   have hks : Hid (∀ W, (W.cell? ⟨pb, 3, none⟩ = some (rptr qb) ∧ W.cell? ⟨pb, 1, none⟩ = some (.int .i64 num) ∧ EnAt W w2.heap.size x) → ((enPut W w.heap.size x).cell? ⟨pb, 3, none⟩ = some (rptr qb) ∧ (enPut W w.heap.size x).cell? ⟨pb, 1, none⟩ = some (.int .i64 num) ∧ EnAt (enPut W w.heap.size x) w2.heap.size x)) :=
    Lib.hid fun W ⟨a, b, c⟩ => ⟨cell_enPut a hn1, cell_enPut b hn1, enAt_enPut c hn2⟩
   replace hret := Lib.hid (hret.out w2.heap.size)
   replace cl := Lib.hid (fun W => cl.out w2.heap.size W qb)
   rw [← hW, ← heb] at hs0 hO
   rw [← heb] at hks hret cl
   replace hW := Lib.hid hW
   replace heb := Lib.hid heb
   clear ct1 h2 hal hfv k3 k1 k4 hne hn1 hn2
   go_upto_region 7 with fail
   rw [← hW.out, ← heb.out]
   clear hW heb
   go_region_held3 (fun X => X.cell? ⟨pb, 3, none⟩ = some (rptr qb) ∧ X.cell? ⟨pb, 1, none⟩ = some (.int .i64 num) ∧ X.cell? ⟨eb, 0, none⟩ = some (.int .i64 x.id) ∧ X.cell? ⟨eb, 1, none⟩ = some (.int .i64 x.body) ∧ X.cell? ⟨eb, 2, none⟩ = some (.int .i64 x.size) ∧ X.cell? ⟨eb, 3, none⟩ = some (tx x.exch) ∧ X.cell? ⟨eb, 4, none⟩ = some (tx x.key) ∧ X.cell? ⟨eb, 5, none⟩ = some (.int .i64 x.prio) ∧ X.cell? ⟨eb, 6, none⟩ = some (.int .i64 x.ttl) ∧ X.cell? ⟨eb, 7, none⟩ = some (.int .i64 x.til) ∧ X.cell? ⟨eb, 8, none⟩ = some (.bool x.again) ∧ X.cell? ⟨eb, 9, none⟩ = some (.int .i64 x.hops)) (first | with_reducible exact kS | with_reducible exact hs0.out | with_reducible exact hks.out _ kS)
    ((go_at_call 73; refine (cl.out _ hs0.out.1 (by assumption)).mono ?_; rintro r w'' ⟨rfl, hL, kS, ⟨⟨z0, z1, z2, z3, z4, z5, z6, z7, z8, z9⟩, zs⟩⟩))
   obtain ⟨-, -, finE, fin⟩ := hret.out _ hL
   replace finE := Lib.hid finE
   replace fin := Lib.hid (fin.sub (List.sublist_cons_self _ _))
   clear hL kS hs0 hks cl hret hO
   go_wp2_with fail
   exact bodyPost_ret (ret_entry4 (e := x) rfl rfl rfl rfl rfl finE.out rfl) rfl ⟨rfl, fin.out⟩
end
end Go.Proofs.YtknjamfjonapiaaGreatDoor
namespace Go.Proofs.YtknjamfjonapiaaGreatDoor
open Go.RowKit
set_option linter.unusedVariables false
set_option linter.unusedSectionVars false
set_option linter.unusedSimpArgs false
set_option maxRecDepth 100000
section
variable {qT : Bool} {B : Nat} {w0 w w' : World} {sb slb xb pb qb gb c c' i k b : Nat} {bs : List Nat} {S S' : Sto} {L : List Pq} {xv v : Value} {d d' : Plq} {R SX SS F F' Z : List (Nat × Obj)} {o : Opt} {M : List Ent} {G : List Gst} {T : Nat} {n : List UInt8} {q z bt : Int} {e e0 : Ent} {g : Gst}
theorem StoIs.gsAt (h : StoIs qT B w0 w sb bs S F c) (hm : (k, gsO g) ∈ F) : GsAt w k g :=
 ⟨h.cell hm rfl, h.cell hm rfl, h.cell hm rfl, h.cell hm rfl, h.cell hm rfl, h.cell hm rfl⟩
theorem setG_same (hi : S.L[i]? = some d) : S.setG i d d.G d.T = S := by
 unfold Sto.setG
 obtain ⟨hl, rfl⟩ := List.getElem?_eq_some_iff.1 hi
 rw [List.set_getElem_self]
theorem StoIs.placeG (h : StoIs qT B w0 w sb bs S F c) (hi : S.L[i]? = some d) (hb : bs[i]? = some pb) : ∃ gb Z, w.cell? ⟨pb, 4, none⟩ = some (gup gb) ∧ GuIsX qT B w0 w gb d.G d.T (Z ++ F) ∧
  ∀ w' G T F', GuIsX qT B w0 w' gb G T (Z ++ F') → w'.cell? ⟨pb, 4, none⟩ = some (gup gb) ∧ StoIs qT B w0 w' sb bs (S.setG i d G T) F' c := by
 obtain ⟨pb', qb, gb, h1, h2, -, ⟨Z, h3, h4⟩⟩ := h.place hi
 rw [hb] at h1
 obtain rfl := Option.some.inj h1
 exact ⟨gb, Z, h2.c4, h3, fun w' G T F' h' => ⟨(h4 w' G T F' h').1.c4, (h4 w' G T F' h').2⟩⟩
theorem pl_sole (h : StoIs qT B w0 w sb bs S F c) (hi : S.L[i]? = some d) (hb : bs[i]? = some pb) (hc : w.cell? ⟨pb, 4, none⟩ = some (gup gb)) {s : Bool} (hs : soleG d.G = s) :
  Calls Tryz.prog 86 #[gup gb] w fun r w' => r = .returned (.bool s) ∧ w'.cell? ⟨pb, 4, none⟩ = some (gup gb) ∧ StoIs qT B w0 w' sb bs S F c := by
 obtain ⟨gb', Z, h1, h2, h3⟩ := h.placeG hi hb
 rw [hc] at h1
 cases h1
 refine (gu_sole h2 hs).mono ?_
 rintro r w' ⟨rfl, h4⟩
 have := h3 _ _ _ _ h4
 rw [setG_same hi] at this
 exact ⟨rfl, this⟩
theorem pl_glen (h : StoIs qT B w0 w sb bs S F c) (hi : S.L[i]? = some d) (hb : bs[i]? = some pb) (hc : w.cell? ⟨pb, 4, none⟩ = some (gup gb)) {m : Nat} (hm : d.G.length = m) :
  Calls Tryz.prog 72 #[gup gb] w fun r w' => r = .returned (.int .i64 m) ∧ w'.cell? ⟨pb, 4, none⟩ = some (gup gb) ∧ StoIs qT B w0 w' sb bs S F c := by
 obtain ⟨gb', Z, h1, h2, h3⟩ := h.placeG hi hb
 rw [hc] at h1
 cases h1
 refine (gu_len h2).mono ?_
 rintro r w' ⟨rfl, h4⟩
 have := h3 _ _ _ _ h4
 rw [setG_same hi] at this
 exact ⟨by rw [hm], this⟩
set_option maxHeartbeats 4000000 in
theorem st_consume (h : StoIs qT B w0 w sb bs S F c) (n : List UInt8) (g : Gst) (hf : g.tag.length ≤ 140737488351232) (hl : ∀ p ∈ S.L, p.G.length < 60000) {S' : Sto} {z : Int} (hS : S.consume n g = (S', z)) :
  Calls Tryz.prog 35 #[bpt sb, tx n, gsV g] w fun r w' => r = .returned (.int .i64 z) ∧ StoIs qT B w0 w' sb bs S' F c := by
 have h0 := h.alloc (gsO g)
 unfold Sto.consume at hS
 have hsub : Hid (∀ w' S', StoIs qT B w0 w' sb bs S' ((w.heap.size, gsO g) :: F) c → StoIs qT B w0 w' sb bs S' F c) := Lib.hid fun w' S' h' => h'.sub (List.sublist_cons_self _ _)
 rcases open_ways S n g.conn with ⟨y, ho, hy⟩ | ⟨i, d, ho, e1, hi, e2, -⟩
 ·rw [ho] at hS
  simp only [Prod.mk.injEq] at hS
  obtain ⟨rfl, rfl⟩ := hS
  have co := Lib.hid (st_open_no h0 ho)
  have hyb : (y != 0) = true := by rcases hy with rfl | rfl <;> rfl
  clear h h0 ho hy hl hf
  go_enter Tryz.func35, Tryz.ntmps35
  go_wp2_with fail
  refine co.out.mono ?_
  rintro r w1 ⟨rfl, hx⟩
  have fin := Lib.hid (hsub.out _ _ hx)
  clear co hx hsub
  go_wp2_with fail
  go_ret
  exact ⟨rfl, fin.out⟩
 ·rw [ho] at hS
  simp only at hS
  obtain ⟨pb, hpb⟩ := h.blk hi
  have co := Lib.hid (st_open_yes h0 ho hpb)
  have hlen := hl d (List.mem_of_getElem? hi)
  have see : Hid (∀ w1, StoIs qT B w0 w1 sb bs S ((w.heap.size, gsO g) :: F) c → (∃ gb, w1.cell? ⟨pb, 4, none⟩ = some (gup gb) ∧ Calls Tryz.prog 86 #[gup gb] w1 fun r w' => r = .returned (.bool (soleG d.G)) ∧ w'.cell? ⟨pb, 4, none⟩ = some (gup gb) ∧ w'.cell? ⟨w.heap.size, 5, none⟩ = some (.bool g.sole) ∧ StoIs qT B w0 w' sb bs S ((w.heap.size, gsO g) :: F) c)) := Lib.hid fun w1 h' => by
   obtain ⟨gb, Z, h1, -⟩ := h'.placeG hi hpb
   refine ⟨gb, h1, (pl_sole h' hi hpb h1 rfl).mono ?_⟩
   rintro r w' ⟨rfl, k4, h2⟩
   exact ⟨rfl, k4, h2.cell List.mem_cons_self rfl, h2⟩
  have see2 : Hid (∀ w1 gb, w1.cell? ⟨pb, 4, none⟩ = some (gup gb) → StoIs qT B w0 w1 sb bs S ((w.heap.size, gsO g) :: F) c → Calls Tryz.prog 72 #[gup gb] w1 fun r w' => r = .returned (.int .i64 d.G.length) ∧ w'.cell? ⟨pb, 4, none⟩ = some (gup gb) ∧ StoIs qT B w0 w' sb bs S ((w.heap.size, gsO g) :: F) c) := Lib.hid fun w1 gb h1 h' => pl_glen h' hi hpb h1 rfl
  have hcell := Lib.hid (fun w1 (h' : StoIs qT B w0 w1 sb bs S ((w.heap.size, gsO g) :: F) c) => h'.gsAt (g := g) List.mem_cons_self)
  have add : Hid (∀ w1 gb ok S', addOkG d.G g = ok → S.setG i d (addG d.G g) d.T = S' → w1.cell? ⟨pb, 4, none⟩ = some (gup gb) → StoIs qT B w0 w1 sb bs S ((w.heap.size, gsO g) :: F) c → Calls Tryz.prog 87 #[gup gb, gsV g] w1 fun r w' => r = .returned (.bool ok) ∧ StoIs qT B w0 w' sb bs S' ((w.heap.size, gsO g) :: F) c ∧ (w'.cell? ⟨pb, 4, none⟩ = some (gup gb) ∧ GsAt w' w.heap.size g)) := Lib.hid fun w1 gb ok S' hok hS' h1 h' => by
   obtain ⟨gb', Z, k1, k2, k3⟩ := h'.placeG hi hpb
   rw [h1] at k1
   cases k1
   refine (gu_add k2 hf hlen hok rfl).mono ?_
   rintro r w' ⟨rfl, h4⟩
   have k5 := k3 _ _ _ _ h4
   rw [hS'] at k5
   exact ⟨rfl, k5.2, k5.1, k5.2.gsAt (g := g) List.mem_cons_self⟩
  have hok1 : addOkG d.G g = false → S.setG i d (addG d.G g) d.T = S := fun hk => by
   rw [show addG d.G g = d.G by unfold addG; rw [hk]; rfl, setG_same hi]
  generalize hso : soleG d.G = so at *
  generalize hml : d.G.length = ml at *
  cases so with
  | true =>
   rw [if_pos (.inl rfl)] at hS
   obtain ⟨rfl, rfl⟩ := Prod.mk.inj hS
   clear h h0 ho hl hf e1 e2 hi hpb hlen see2 hcell add hok1 hml hso hS
   go_enter Tryz.func35, Tryz.ntmps35
   go_wp2_with fail
   refine co.out.mono ?_
   rintro r w1 ⟨rfl, hx⟩
   obtain ⟨gb, k4, cs⟩ := see.out w1 hx
   replace cs := Lib.hid cs
   clear co hx see
   go_wp2_with fail
   refine cs.out.mono ?_
   rintro r w2 ⟨rfl, k4', k5, h2⟩
   have fin := Lib.hid (hsub.out _ _ h2)
   clear cs h2 hsub
   go_wp2_with fail
   go_ret
   exact ⟨rfl, fin.out⟩
  | false =>
   by_cases hA : g.sole = true ∧ 0 < ml
   ·rw [if_pos (.inr hA)] at hS
    obtain ⟨rfl, rfl⟩ := Prod.mk.inj hS
    obtain ⟨hA1, hA2⟩ := hA
    rw [hA1] at see
    have hA3 : (0 : Int) < ml := by omega
    clear h h0 ho hl hf e1 e2 hi hpb hlen hcell add hok1 hml hso hS hA2 hA1
    go_enter Tryz.func35, Tryz.ntmps35
    go_wp2_with fail
    refine co.out.mono ?_
    rintro r w1 ⟨rfl, hx⟩
    obtain ⟨gb, k4, cs⟩ := see.out w1 hx
    replace cs := Lib.hid cs
    clear co hx see
    go_wp2_with fail
    refine cs.out.mono ?_
    rintro r w2 ⟨rfl, k4', k5, h2⟩
    have cl := Lib.hid (see2.out _ _ k4' h2)
    clear cs h2 see2
    go_wp2_with fail
    refine cl.out.mono ?_
    rintro r w3 ⟨rfl, k6, h3⟩
    have fin := Lib.hid (hsub.out _ _ h3)
    clear cl h3 hsub
    go_wp2_with fail
    go_ret
    exact ⟨rfl, fin.out⟩
   ·rw [if_neg (by rintro (h | h); cases h; exact hA h)] at hS
    have hw : g.sole = false ∨ (g.sole = true ∧ ml = 0) := by
     cases hg : g.sole with
     | false => exact .inl rfl
     | true => exact .inr ⟨rfl, by rw [hg] at hA; simp at hA; omega⟩
    cases hok : addOkG d.G g with
    | false =>
     rw [hok, if_neg (by decide)] at hS
     obtain ⟨rfl, rfl⟩ := Prod.mk.inj hS
     have ca := Lib.hid (fun w1 gb => add.out w1 gb false S hok (hok1 hok))
     rcases hw with hg | ⟨hg, hm⟩
     ·rw [hg] at see
      clear h h0 ho hl hf e1 e2 hi hpb hlen add hok1 hml hso hS hA hok see2 hg
      go_enter Tryz.func35, Tryz.ntmps35
      go_wp2_with fail
      refine co.out.mono ?_
      rintro r w1 ⟨rfl, hx⟩
      obtain ⟨gb, k4, cs⟩ := see.out w1 hx
      replace cs := Lib.hid cs
      clear co hx see
      go_wp2_with fail
      refine cs.out.mono ?_
      rintro r w2 ⟨rfl, k4', k5, h2⟩
      have h3 := h2.grow (drew_b w2)
      have hs0 : Hid (w2.drew.cell? ⟨pb, 4, none⟩ = some (gup gb) ∧ GsAt w2.drew w.heap.size g) := Lib.hid ⟨k4', hcell.out _ h3⟩
      clear cs h2 k4 hcell
      generalize w.heap.size = nb at *
      go_wp2_with fail
      go_region_held3 (fun X => X.cell? ⟨pb, 4, none⟩ = some (gup gb) ∧ X.cell? ⟨nb, 0, none⟩ = some (.int .i64 g.conn) ∧ X.cell? ⟨nb, 1, none⟩ = some (.int .i64 g.chan) ∧ X.cell? ⟨nb, 2, none⟩ = some (tx g.tag) ∧ X.cell? ⟨nb, 3, none⟩ = some (.int .i64 g.most) ∧ X.cell? ⟨nb, 4, none⟩ = some (.bool g.noack) ∧ X.cell? ⟨nb, 5, none⟩ = some (.bool g.sole)) (first | with_reducible exact kS | with_reducible exact hs0.out)
       ((go_at_call 87; refine (ca.out _ _ hs0.out.1 (by assumption)).mono ?_; rintro r w'' ⟨rfl, hL, kS⟩))
      have fin := Lib.hid (hsub.out _ _ hL)
      clear hL kS hs0 hsub ca h3
      go_wp2_with fail
      go_ret
      exact ⟨rfl, fin.out⟩
     ·rw [hg] at see
      subst hm
      clear h h0 ho hl hf e1 e2 hi hpb hlen add hok1 hml hso hS hA hok hg
      go_enter Tryz.func35, Tryz.ntmps35
      go_wp2_with fail
      refine co.out.mono ?_
      rintro r w1 ⟨rfl, hx⟩
      obtain ⟨gb, k4, cs⟩ := see.out w1 hx
      replace cs := Lib.hid cs
      clear co hx see
      go_wp2_with fail
      refine cs.out.mono ?_
      rintro r w2 ⟨rfl, k4', k5, h2⟩
      have cl := Lib.hid (see2.out _ _ k4' h2)
      clear cs h2 see2 k4
      go_wp2_with fail
      refine cl.out.mono ?_
      rintro r w3 ⟨rfl, k6, h2⟩
      have h3 := h2.grow (drew_b w3)
      have hs0 : Hid (w3.drew.cell? ⟨pb, 4, none⟩ = some (gup gb) ∧ GsAt w3.drew w.heap.size g) := Lib.hid ⟨k6, hcell.out _ h3⟩
      clear cl h2 hcell
      generalize w.heap.size = nb at *
      go_wp2_with fail
      go_region_held3 (fun X => X.cell? ⟨pb, 4, none⟩ = some (gup gb) ∧ X.cell? ⟨nb, 0, none⟩ = some (.int .i64 g.conn) ∧ X.cell? ⟨nb, 1, none⟩ = some (.int .i64 g.chan) ∧ X.cell? ⟨nb, 2, none⟩ = some (tx g.tag) ∧ X.cell? ⟨nb, 3, none⟩ = some (.int .i64 g.most) ∧ X.cell? ⟨nb, 4, none⟩ = some (.bool g.noack) ∧ X.cell? ⟨nb, 5, none⟩ = some (.bool g.sole)) (first | with_reducible exact kS | with_reducible exact hs0.out)
       ((go_at_call 87; refine (ca.out _ _ hs0.out.1 (by assumption)).mono ?_; rintro r w'' ⟨rfl, hL, kS⟩))
      have fin := Lib.hid (hsub.out _ _ hL)
      clear hL kS hs0 hsub ca h3
      go_wp2_with fail
      go_ret
      exact ⟨rfl, fin.out⟩
    | true =>
     rw [hok, if_pos rfl] at hS
     obtain ⟨rfl, rfl⟩ := Prod.mk.inj hS
     have ca := Lib.hid (fun w1 gb => add.out w1 gb true _ hok rfl)
     generalize S.setG i d (addG d.G g) d.T = S2 at *
     rcases hw with hg | ⟨hg, hm⟩
     ·rw [hg] at see
      clear h h0 ho hl hf e1 e2 hi hpb hlen add hok1 hml hso hS hA hok see2 hg
      go_enter Tryz.func35, Tryz.ntmps35
      go_wp2_with fail
      refine co.out.mono ?_
      rintro r w1 ⟨rfl, hx⟩
      obtain ⟨gb, k4, cs⟩ := see.out w1 hx
      replace cs := Lib.hid cs
      clear co hx see
      go_wp2_with fail
      refine cs.out.mono ?_
      rintro r w2 ⟨rfl, k4', k5, h2⟩
      have h3 := h2.grow (drew_b w2)
      have hs0 : Hid (w2.drew.cell? ⟨pb, 4, none⟩ = some (gup gb) ∧ GsAt w2.drew w.heap.size g) := Lib.hid ⟨k4', hcell.out _ h3⟩
      clear cs h2 k4 hcell
      generalize w.heap.size = nb at *
      go_wp2_with fail
      go_region_held3 (fun X => X.cell? ⟨pb, 4, none⟩ = some (gup gb) ∧ X.cell? ⟨nb, 0, none⟩ = some (.int .i64 g.conn) ∧ X.cell? ⟨nb, 1, none⟩ = some (.int .i64 g.chan) ∧ X.cell? ⟨nb, 2, none⟩ = some (tx g.tag) ∧ X.cell? ⟨nb, 3, none⟩ = some (.int .i64 g.most) ∧ X.cell? ⟨nb, 4, none⟩ = some (.bool g.noack) ∧ X.cell? ⟨nb, 5, none⟩ = some (.bool g.sole)) (first | with_reducible exact kS | with_reducible exact hs0.out)
       ((go_at_call 87; refine (ca.out _ _ hs0.out.1 (by assumption)).mono ?_; rintro r w'' ⟨rfl, hL, kS⟩))
      have fin := Lib.hid (hsub.out _ _ hL)
      clear hL kS hs0 hsub ca h3
      go_wp2_with fail
      go_ret
      exact ⟨rfl, fin.out⟩
     ·rw [hg] at see
      subst hm
      clear h h0 ho hl hf e1 e2 hi hpb hlen add hok1 hml hso hS hA hok hg
      go_enter Tryz.func35, Tryz.ntmps35
      go_wp2_with fail
      refine co.out.mono ?_
      rintro r w1 ⟨rfl, hx⟩
      obtain ⟨gb, k4, cs⟩ := see.out w1 hx
      replace cs := Lib.hid cs
      clear co hx see
      go_wp2_with fail
      refine cs.out.mono ?_
      rintro r w2 ⟨rfl, k4', k5, h2⟩
      have cl := Lib.hid (see2.out _ _ k4' h2)
      clear cs h2 see2 k4
      go_wp2_with fail
      refine cl.out.mono ?_
      rintro r w3 ⟨rfl, k6, h2⟩
      have h3 := h2.grow (drew_b w3)
      have hs0 : Hid (w3.drew.cell? ⟨pb, 4, none⟩ = some (gup gb) ∧ GsAt w3.drew w.heap.size g) := Lib.hid ⟨k6, hcell.out _ h3⟩
      clear cl h2 hcell
      generalize w.heap.size = nb at *
      go_wp2_with fail
      go_region_held3 (fun X => X.cell? ⟨pb, 4, none⟩ = some (gup gb) ∧ X.cell? ⟨nb, 0, none⟩ = some (.int .i64 g.conn) ∧ X.cell? ⟨nb, 1, none⟩ = some (.int .i64 g.chan) ∧ X.cell? ⟨nb, 2, none⟩ = some (tx g.tag) ∧ X.cell? ⟨nb, 3, none⟩ = some (.int .i64 g.most) ∧ X.cell? ⟨nb, 4, none⟩ = some (.bool g.noack) ∧ X.cell? ⟨nb, 5, none⟩ = some (.bool g.sole)) (first | with_reducible exact kS | with_reducible exact hs0.out)
       ((go_at_call 87; refine (ca.out _ _ hs0.out.1 (by assumption)).mono ?_; rintro r w'' ⟨rfl, hL, kS⟩))
      have fin := Lib.hid (hsub.out _ _ hL)
      clear hL kS hs0 hsub ca h3
      go_wp2_with fail
      go_ret
      exact ⟨rfl, fin.out⟩
end
end Go.Proofs.YtknjamfjonapiaaGreatDoor
namespace Go.Proofs.YtknjamfjonapiaaGreatDoor
open Go.RowKit
set_option linter.unusedVariables false
set_option linter.unusedSectionVars false
set_option maxRecDepth 100000
theorem uPqs : Tryz.prog.underlying 90 = some (.slice 131) := by kernel_rfl
theorem infPqs : (Tryz.prog.info? 131).map (fun i => (i.zero, i.size, i.bytes)) = some (some (.pointer none), 1, 8) := by kernel_rfl
section
variable {B : Nat} {w0 w w' : World} {F R S X : List (Nat × Obj)} {g off n cap i j : Nat} {v : Value} {xs : List Value} {bs : List Nat} {a : Option Addr}
theorem apQ : Ap Tryz.prog 90 131 1 8 := ⟨uPqs, by
 obtain ⟨i0, hi0, hz0, hz1, hz2⟩ := info_parts infPqs
 exact ⟨i0, _, hi0, hz0, hz1, hz2, rfl⟩⟩
theorem bpts_one (bs : List Nat) : ∀ u ∈ bs.map bpt, u.oneCell' = true := fun u hu => by
 obtain ⟨b, -, rfl⟩ := List.mem_map.1 hu
 rfl
def CloneQ (B : Nat) (w0 : World) (X : List (Nat × Obj)) (bs : List Nat) (e : Ending) (w' : World) : Prop := ∃ a c S', e = .returned (.slice a bs.length c) ∧ SlIs 131 1 (.slice a bs.length c) bs.length (bs.map bpt) S' ∧ St B w0 w' (X ++ S')
set_option maxHeartbeats 1000000 in
theorem cloneq_any {s : Value} (hs : SlIs 131 1 s bs.length (bs.map bpt) S) (hst : St B w0 w (X ++ S)) (hn : bs.length ≤ 100000) :
  Calls Tryz.prog 125 #[s] w (CloneQ B w0 (X ++ S) bs) := by
 have hst1 := hst.alloc (.cells #[] 131)
 have hst2 := hst1.perm (H' := (X ++ S) ++ [(w.heap.size, .cells #[] 131)]) (List.perm_append_singleton _ _).symm
 have hrd := SlIs.reads (A := (w.heap.size, .cells #[] 131) :: X) hs hst1
 have hemp : SlIs 131 1 (.slice (some ⟨w.heap.size, 0, none⟩) 0 0) 0 [] [(w.heap.size, .cells #[] 131)] := SlIs.made rfl (by unfold maxLen; omega)
 obtain ⟨a2, c2, W2, F2, hr2, hs2, hst3⟩ := apQ.append hemp hst2 hrd (bpts_one bs) (by unfold maxLen; omega) (by omega)
 rw [Nat.zero_add] at hr2 hs2
 rw [List.nil_append] at hs2
 have fin : CloneQ B w0 (X ++ S) bs (.returned (.slice a2 bs.length c2)) W2 := ⟨a2, c2, F2, rfl, hs2, hst3⟩
 have fin0 : s = .slice none 0 0 → CloneQ B w0 (X ++ S) bs (.returned (.slice none 0 0)) w := fun e => by
  subst e
  obtain ⟨a, cap, e, -⟩ := SlIs.form hs
  cases bs with
  | nil => exact ⟨none, 0, [], rfl, SlIs.nil, by simpa using hst⟩
  | cons y M => cases e
 obtain ⟨a, cap, rfl, hc1, hc2, ha⟩ := SlIs.form hs
 replace fin := Lib.hid fin
 replace fin0 := Lib.hid fin0
 have hq := fun w => Lib.run_eql_slice_nil (P := Tryz.prog) w 90 131 a bs.length cap 0 0 uPqs
 have hnil : a = none → (Value.slice a bs.length cap) = .slice none 0 0 := fun e => by
  subst e
  obtain ⟨_, ⟨h, _⟩ | ⟨_, _, _, _, h, _⟩⟩ := hs
  ·exact h
  ·cases h
 replace hnil := Lib.hid hnil
 clear hs hst hst1 hst2 hrd hemp hs2 hst3 hc1 hc2 ha
 cases a with
 | none =>
  have h := hnil.out rfl
  simp only [Value.slice.injEq, true_and] at h
  obtain ⟨h1, rfl⟩ := h
  obtain rfl : bs = [] := List.eq_nil_of_length_eq_zero h1
  simp only [List.length_nil] at *
  clear hnil fin hr2
  go_enter Tryz.func125, Tryz.ntmps125
  go_wp2_with fail
  go_ret
  exact fin0.out trivial
 | some ad =>
  clear hnil fin0
  go_enter Tryz.func125, Tryz.ntmps125
  go_wp2_with (refine wpList_append_go rfl (.tmp 5) (.tmp 6) 90 90 rfl _ _ rfl rfl hr2 ?_)
  go_ret
  exact fin.out
end
end Go.Proofs.YtknjamfjonapiaaGreatDoor
namespace Go.Proofs.YtknjamfjonapiaaGreatDoor
open Go.RowKit
set_option linter.unusedVariables false
set_option linter.unusedSectionVars false
set_option linter.unusedSimpArgs false
set_option maxRecDepth 100000
def EachJ (sb : Nat) (fv : Value) (bs : List Nat) (J : List (Nat × Obj) → Nat → World → Prop) (g : Nat) (a' : Act) (w' : World) : Prop :=
 ∃ (i cp : Nat) (a : Option Addr) (Y : List (Nat × Obj)), i + g = bs.length ∧ Fr 23 [(0, bpt sb), (1, fv), (4, .slice a bs.length cp), (5, .int .i64 i)] a' ∧ SlIs 131 1 (.slice a bs.length cp) bs.length (bs.map bpt) Y ∧ J Y i w'
section
variable {qT : Bool} {B : Nat} {w0 w w' : World} {sb slb xb pb qb gb c c' i k b : Nat} {bs : List Nat} {S S' : Sto} {L : List Pq} {xv v : Value} {d d' : Plq} {R SX SS F F' Z : List (Nat × Obj)} {o : Opt} {M : List Ent} {G : List Gst} {T : Nat} {n : List UInt8} {q z bt : Int} {e e0 : Ent} {g : Gst}
set_option maxHeartbeats 2000000 in
theorem seach_any {g : Nat} {cb : Array Value} {J : List (Nat × Obj) → Nat → World → Prop} (hgo : ∀ args w, (callFunc g args).run Tryz.prog w = .ok (.enter g args) w) (h : StoIs qT B w0 w sb bs S F c)
  (h0 : ∀ Y w', StoIs qT B w0 w' sb bs S (Y ++ F) c → J Y 0 w')
  (hr : ∀ Y i w', J Y i w' → ∃ O, St B w0 w' (O ++ Y))
  (hs : ∀ Y (i b : Nat) w', bs[i]? = some b → J Y i w' → Calls Tryz.prog g (#[bpt b] ++ cb) w' fun e w2 => e = noneV ∧ J Y (i + 1) w2) :
  Calls Tryz.prog 66 #[bpt sb, .func (.func g) #[] cb] w fun e w' => e = noneV ∧ ∃ Y, J Y bs.length w' := by
 have hlen : bs.length ≤ 8 := by rw [h.len]; exact h.fine.few
 obtain ⟨L, slb, xv, v, R, SX, SS, h1, h2⟩ := h
 have hp : ∀ Y, ((stoO sb slb xv v S L R SX SS ++ F) ++ Y).Perm (stoO sb slb xv v S L R SX SS ++ (Y ++ F)) := fun Y => perm_by fun a => by simp only [List.count_append]; omega
 have h3 : St B w0 w ((((sb, soO slb xv v S) :: (SX ++ (SS ++ pqsO L))) ++ F) ++ R) := h2.perm (perm_by fun a => by simp only [stoO, List.count_append, List.count_cons]; omega)
 have c2 := (h2.seeS (List.mem_append_left _ List.mem_cons_self)).c2
 have cc : Hid (Calls Tryz.prog 125 #[v] w fun e w' => ∃ a cp Y, e = .returned (.slice a bs.length cp) ∧ SlIs 131 1 (.slice a bs.length cp) bs.length (bs.map bpt) Y ∧ J Y 0 w') := Lib.hid ((cloneq_any h1.sl h3 (by omega)).mono (by
  rintro e w' ⟨a, cp, Y, rfl, hsl, hst⟩
  refine ⟨a, cp, Y, rfl, hsl, h0 Y w' ⟨L, slb, xv, v, R, SX, SS, h1, hst.perm (perm_by fun a => ?_)⟩⟩
  simp only [stoO, List.count_append, List.count_cons]; omega))
 obtain ⟨av, cv, rfl, -⟩ := h1.sl.form
 replace hs := Lib.hid hs
 replace hr := Lib.hid hr
 clear h0 h1 h2 h3 hp
 go_enter Tryz.func66, Tryz.ntmps66
 go_wp2_with fail
 refine wp_scope_ghost 0 (EachJ sb (.func (.func g) #[] cb) bs J) rfl ?_ ?_
 ·clear cc c2
  rintro m a' w' ⟨i, cp, a, Y, hi, hfr, hsl, hJ⟩
  obtain ⟨q, rfl, hl'⟩ := hfr.lit
  clear hfr
  simp only [List.mem_cons, List.not_mem_nil, or_false, forall_eq_or_imp, forall_eq] at hl'
  obtain ⟨f0, f1, f4, f5⟩ := hl'
  simp only [List.range, List.range.loop, List.map, f0, f1, f4, f5]
  clear f0 f1 f4 f5
  have hrow : ∀ (j : Nat) b, bs[j]? = some b → ∃ g off, a = some ⟨g, off, none⟩ ∧ w'.cell? ⟨g, off + j, none⟩ = some (bpt b) := fun j b hb => by
   obtain ⟨O, hO⟩ := hr.out Y i w' hJ
   obtain ⟨a', cap', e, -, -, ha⟩ := hsl.form
   cases e
   have hl := (List.getElem?_eq_some_iff.1 hb).1
   obtain ⟨g, off, rfl⟩ := ha j hl
   exact ⟨g, off, rfl, hsl.cellAt hO (by rw [List.getElem?_map, hb]; rfl)⟩
  have hi0 : (0 : Int) ≤ i := by omega
  by_cases hlt : i < bs.length
  ·have hx : bs[i]? = some bs[i] := List.getElem?_eq_getElem hlt
   generalize bs[i] = b at hx
   have hi1 : (i : Int) < bs.length := by omega
   have hne : ((i : Int) == bs.length) = false := by rw [beq_eq_false_iff_ne]; omega
   obtain ⟨g1, o1, rfl, k1⟩ := hrow i b hx
   have cc := Lib.hid (hs.out Y i b w' hx hJ)
   have nxt : Hid (∀ w2 a', J Y (i + 1) w2 → Fr 23 [(0, bpt sb), (1, .func (.func g) #[] cb), (4, .slice (some ⟨g1, o1, none⟩) bs.length cp), (5, .int .i64 ((i + 1 : Nat) : Int))] a' → ∃ k, k < m ∧ EachJ sb (.func (.func g) #[] cb) bs J k a' w2) :=
    Lib.hid fun w2 a' hJ2 hf => ⟨m - 1, by omega, i + 1, cp, _, Y, by omega, hf, hsl, hJ2⟩
   clear hx hrow hs hJ hsl hr
   go_wp2_with fail
   refine cc.out.mono ?_
   rintro e w2 ⟨rfl, hJ2⟩
   replace nxt := Lib.hid (fun a' => nxt.out w2 a' hJ2)
   clear cc hJ2 k1
   go_wp2_with fail
   refine wp_goto ?_
   exact ⟨rfl, nxt.out _ ⟨rfl, rfl, by simp⟩⟩
  ·obtain rfl : i = bs.length := by omega
   have fin : Hid (∃ Y, J Y bs.length w') := Lib.hid ⟨Y, hJ⟩
   clear hrow hs hJ hsl hr
   go_wp2_with fail
   simp only [Exit.jump]
   exact bodyPost_ret (results_none rfl _ _ _) rfl ⟨rfl, fin.out⟩
 ·intro H
  clear hs hr
  go_wp2_with fail
  refine cc.out.mono ?_
  rintro e w1 ⟨a, cp, Y, rfl, hsl, hJ⟩
  replace hJ := Lib.hid hJ
  replace hsl := Lib.hid hsl
  clear cc c2
  go_wp2_with fail
  refine wp_label ?_
  go_step
  go_step
  exact H bs.length _ _ ⟨0, cp, a, Y, by omega, ⟨rfl, rfl, by simp⟩, hsl.out, hJ.out⟩
def EnsR (qT : Bool) (B : Nat) (w0 : World) (sb : Nat) (bs : List Nat) (S : Sto) (F : List (Nat × Obj)) (c : Nat) (l : List Ent) (r : Ending) (w' : World) : Prop :=
 ∃ a cp Y, r = .returned (.slice a l.length cp) ∧ EnsIs (.slice a l.length cp) l Y ∧ StoIs qT B w0 w' sb bs S (Y ++ F) c
set_option maxHeartbeats 1000000 in
theorem st_ready (h : StoIs qT B w0 w sb bs S F c) (n : List UInt8) : Calls Tryz.prog 20 #[bpt sb, tx n] w (EnsR qT B w0 sb bs S F c (S.readyOf n)) := by
 have cn := Lib.hid (named_any h n)
 unfold Sto.readyOf
 rcases idx_at S n with ⟨e1, e2⟩ | ⟨i, d, e1, hi, e2, -⟩
 ·rw [e2]
  rw [e1, ptrQ_none] at cn
  have fin : Hid (∀ w', Below w.heap.size w w' → EnsR qT B w0 sb bs S F c [] (.returned (.slice none 0 0)) w') := Lib.hid fun w' hb => ⟨none, 0, [], rfl, EnsIs.nil, h.grow hb⟩
  simp only
  clear e1 e2 h
  go_enter Tryz.func20, Tryz.ntmps20
  go_wp2_with fail
  refine cn.out.mono ?_
  rintro e w1 ⟨rfl, hb⟩
  replace fin := Lib.hid (fin.out w1 hb)
  clear cn hb
  go_wp2_with fail
  go_ret
  exact fin.out
 ·rw [e2]
  obtain ⟨pb, hpb⟩ := h.blk hi
  rw [e1, ptrQ_some hpb] at cn
  have see : Hid (∀ w1, Below w.heap.size w w1 → ∃ qb, w1.cell? ⟨pb, 3, none⟩ = some (rptr qb) ∧ Calls Tryz.prog 69 #[rptr qb] w1 (EnsR qT B w0 sb bs S F c d.M)) := Lib.hid fun w1 hb => by
   obtain ⟨pb', qb, gb, h1, h2, ⟨Z, h3, h4⟩, -⟩ := (h.grow hb).place hi
   rw [hpb] at h1
   obtain rfl := Option.some.inj h1
   refine ⟨qb, h2.c3, (qu_all h3).mono ?_⟩
   rintro r w' ⟨a, cp, Y, rfl, hs, h5⟩
   have h6 := (h4 _ _ (Y ++ F) (h5.permF (perm_by fun a => by simp only [List.count_append]; omega))).2
   rw [setM_same hi] at h6
   exact ⟨a, cp, Y, rfl, hs, h6⟩
  simp only
  generalize d.M = M at *
  clear e1 e2 h hi hpb
  go_enter Tryz.func20, Tryz.ntmps20
  go_wp2_with fail
  refine cn.out.mono ?_
  rintro e w1 ⟨rfl, hb⟩
  obtain ⟨qb, k3, ca⟩ := see.out w1 hb
  replace ca := Lib.hid ca
  clear cn hb see
  go_wp2_with fail
  refine ca.out.mono ?_
  rintro e w2 ⟨a, cp, Y, rfl, hs, h2⟩
  have fin : Hid (EnsR qT B w0 sb bs S F c M (.returned (.slice a M.length cp)) w2) := Lib.hid ⟨a, cp, Y, rfl, hs, h2⟩
  clear ca hs h2
  go_wp2_with fail
  go_ret
  exact fin.out
def GssR (qT : Bool) (B : Nat) (w0 : World) (sb : Nat) (bs : List Nat) (S : Sto) (F : List (Nat × Obj)) (c : Nat) (l : List Gst) (r : Ending) (w' : World) : Prop :=
 ∃ a cp Y, r = .returned (.slice a l.length cp) ∧ GssIs (.slice a l.length cp) l Y ∧ StoIs qT B w0 w' sb bs S (Y ++ F) c
set_option maxHeartbeats 1000000 in
theorem st_guests (h : StoIs qT B w0 w sb bs S F c) (n : List UInt8) : Calls Tryz.prog 40 #[bpt sb, tx n] w (GssR qT B w0 sb bs S F c (S.guestsOf n)) := by
 have cn := Lib.hid (named_any h n)
 unfold Sto.guestsOf
 rcases idx_at S n with ⟨e1, e2⟩ | ⟨i, d, e1, hi, e2, -⟩
 ·rw [e2]
  rw [e1, ptrQ_none] at cn
  have fin : Hid (∀ w', Below w.heap.size w w' → GssR qT B w0 sb bs S F c [] (.returned (.slice none 0 0)) w') := Lib.hid fun w' hb => ⟨none, 0, [], rfl, SlIs.nil, h.grow hb⟩
  simp only
  clear e1 e2 h
  go_enter Tryz.func40, Tryz.ntmps40
  go_wp2_with fail
  refine cn.out.mono ?_
  rintro e w1 ⟨rfl, hb⟩
  replace fin := Lib.hid (fin.out w1 hb)
  clear cn hb
  go_wp2_with fail
  go_ret
  exact fin.out
 ·rw [e2]
  obtain ⟨pb, hpb⟩ := h.blk hi
  rw [e1, ptrQ_some hpb] at cn
  have see : Hid (∀ w1, Below w.heap.size w w1 → ∃ gb, w1.cell? ⟨pb, 4, none⟩ = some (gup gb) ∧ Calls Tryz.prog 97 #[gup gb] w1 (GssR qT B w0 sb bs S F c d.G)) := Lib.hid fun w1 hb => by
   obtain ⟨gb, Z, h1, h2, h3⟩ := (h.grow hb).placeG hi hpb
   refine ⟨gb, h1, (gu_all h2).mono ?_⟩
   rintro r w' ⟨a, cp, Y, rfl, hs, h5⟩
   have h6 := (h3 _ _ _ (Y ++ F) (h5.permF (perm_by fun a => by simp only [List.count_append]; omega))).2
   rw [setG_same hi] at h6
   exact ⟨a, cp, Y, rfl, hs, h6⟩
  simp only
  generalize d.G = M at *
  clear e1 e2 h hi hpb
  go_enter Tryz.func40, Tryz.ntmps40
  go_wp2_with fail
  refine cn.out.mono ?_
  rintro e w1 ⟨rfl, hb⟩
  obtain ⟨qb, k3, ca⟩ := see.out w1 hb
  replace ca := Lib.hid ca
  clear cn hb see
  go_wp2_with fail
  refine ca.out.mono ?_
  rintro e w2 ⟨a, cp, Y, rfl, hs, h2⟩
  have fin : Hid (GssR qT B w0 sb bs S F c M (.returned (.slice a M.length cp)) w2) := Lib.hid ⟨a, cp, Y, rfl, hs, h2⟩
  clear ca hs h2
  go_wp2_with fail
  go_ret
  exact fin.out
theorem StoIs.setB {cs : Array Value} {U : TypeId} {fr : Nat × Nat} {X Y : List (Nat × Obj)} (h : StoIs qT B w0 w sb bs S (X ++ (b, .cells cs U fr) :: Y) c) (i : Nat) (u : Value) : StoIs qT B w0 (w.setCell ⟨b, i, none⟩ u) sb bs S (X ++ (b, .cells (cs.setIfInBounds i u) U fr) :: Y) c :=
 ((h.permF List.perm_middle).setF i u).permF List.perm_middle.symm
def NamesJ (qT : Bool) (B : Nat) (w0 : World) (sb : Nat) (bs : List Nat) (S : Sto) (F : List (Nat × Obj)) (c nb : Nat) (Y : List (Nat × Obj)) (i : Nat) (w' : World) : Prop :=
 ∃ u Z, TssIs u ((S.L.take i).map (·.name)) Z ∧ StoIs qT B w0 w' sb bs S ((nb, .cells #[u] 47) :: (Z ++ (Y ++ F))) c
set_option maxHeartbeats 2000000 in
theorem names_one {nb : Nat} {Y : List (Nat × Obj)} (hb : bs[i]? = some pb) (hlen : bs.length = S.L.length) (h : NamesJ qT B w0 sb bs S F c nb Y i w) :
  Calls Tryz.prog 67 #[bpt pb, bpt nb] w fun e w2 => e = noneV ∧ NamesJ qT B w0 sb bs S F c nb Y (i + 1) w2 := by
 obtain ⟨u, Z, hu, h1⟩ := h
 have hil : i < S.L.length := by have := (List.getElem?_eq_some_iff.1 hb).1; omega
 have hd : S.L[i]? = some S.L[i] := List.getElem?_eq_getElem hil
 generalize S.L[i] = d at hd
 have hfew := h1.fine.few
 obtain ⟨qb, gb, hs⟩ := h1.seeP hb hd
 have k0 := hs.c0
 have kn : w.cell? ⟨nb, 0, none⟩ = some u := h1.cell List.mem_cons_self rfl
 have h2 := h1.grow (drew_b w)
 obtain ⟨O, o1, -, o2⟩ := h2.beside
 have hpm : ∀ (v : Value) Z, (O ++ ((nb, Obj.cells #[v] 47 (0, 0)) :: (Z ++ (Y ++ F)))).Perm ((O ++ ((nb, .cells #[v] 47) :: (Y ++ F))) ++ Z) := fun v Z => perm_by fun a => by
  simp only [List.count_append, List.count_cons]; omega
 have e1 : ((S.L.take i).map (·.name)) ++ [d.name] = (S.L.take (i + 1)).map (·.name) := by
  rw [List.take_add_one, hd, List.map_append]; rfl
 obtain ⟨a2, c2, W2, Z2, hrun, hu2, hst2⟩ := TssIs.append (X := O ++ ((nb, .cells #[u] 47) :: (Y ++ F))) hu (o1.perm (hpm u Z)) d.name (by rw [List.length_map, List.length_take]; omega)
 rw [e1] at hu2
 have hst3 := hst2.perm (hpm u Z2).symm
 have hS := o2 _ _ hst3
 have f1 := hS.soft (b := nb) List.mem_cons_self 0
 have k1 : W2.cell? ⟨nb, 0, none⟩ = some u := hS.cell List.mem_cons_self rfl
 have fin : Hid (NamesJ qT B w0 sb bs S F c nb Y (i + 1) (W2.setCell ⟨nb, 0, none⟩ (.slice a2 (((S.L.take i).map (·.name)).length + 1) c2))) := Lib.hid ⟨_, Z2, hu2, hS.setF 0 _⟩
 obtain ⟨au, cu, rfl⟩ := hu.form
 have d2 : (w.alloc (.cells #[tx d.name] 9)).drew.cell? ⟨nb, 0, none⟩ = some (.slice au (((S.L.take i).map (·.name)).length) cu) := (h2.alloc (.cells #[tx d.name] 9)).cell (b := nb) (List.mem_cons_of_mem _ List.mem_cons_self) rfl
 have run2 : AppRun Tryz.prog 47 (.slice au (((S.L.take i).map (·.name)).length) cu) (.slice (some ⟨w.heap.size, 0, none⟩) 1 1) ((w.alloc (.cells #[tx d.name] 9)).drew) (.slice a2 (((S.L.take i).map (·.name)).length + 1) c2) W2 := ⟨hrun⟩
 have d0 : w.drew.cell? ⟨pb, 0, none⟩ = some (tx d.name) := k0
 have dn : w.drew.cell? ⟨nb, 0, none⟩ = some (.slice au (((S.L.take i).map (·.name)).length) cu) := kn
 generalize ((S.L.take i).map (·.name)).length = q0 at *
 generalize d.name = m at *
 generalize q0 + 1 = q1 at *
 clear hrun k0 kn hS hst3 hst2 hu2 hpm o1 o2 h2 h1 hs hu e1 hfew hd hil hlen hb
 go_enter Tryz.func67, Tryz.ntmps67
 go_wp2_with fail
 go_region_law (refine step_app (.tmp 3) (.tmp 8) 47 run2 rfl rfl (by simp [Act.eval]) (by simp [Act.eval]) ?_)
 all_goals
  clear run2 d0 dn d2 f1 k1
  go_wp2_with fail
  exact bodyPost_end (results_none rfl _ _ _) rfl ⟨rfl, fin.out⟩
set_option maxHeartbeats 2000000 in
theorem st_names (h : StoIs qT B w0 w sb bs S F c) : Calls Tryz.prog 19 #[bpt sb] w fun e w' => ∃ u Z, e = .returned u ∧ TssIs u (S.L.map (·.name)) Z ∧ StoIs qT B w0 w' sb bs S (Z ++ F) c := by
 have h1 := h.alloc (.cells #[.slice none 0 0] 47)
 have hlen := h.len
 have hgo : ∀ (args : Array Value) (w : World), (callFunc 67 args).run Tryz.prog w = .ok (.enter 67 args) w := fun args w => by kernel_rfl
 have h0 : ∀ Y w', StoIs qT B w0 w' sb bs S (Y ++ ((w.heap.size, .cells #[.slice none 0 0] 47) :: F)) c → NamesJ qT B w0 sb bs S F c w.heap.size Y 0 w' := fun Y w' h' => ⟨_, [], TssIs.nil, h'.permF List.perm_middle⟩
 have hr : ∀ Y i w', NamesJ qT B w0 sb bs S F c w.heap.size Y i w' → ∃ O, St B w0 w' (O ++ Y) := by
  rintro Y i w' ⟨u, Z, hu, h'⟩
  obtain ⟨O, o1, -⟩ := h'.beside
  have hp : (O ++ ((w.heap.size, Obj.cells #[u] 47 (0, 0)) :: (Z ++ (Y ++ F)))).Perm ((O ++ ((w.heap.size, .cells #[u] 47) :: (Z ++ F))) ++ Y) := perm_by fun a => by simp only [List.count_append, List.count_cons]; omega
  exact ⟨_, o1.perm hp⟩
 have hs : ∀ Y (i b : Nat) w', bs[i]? = some b → NamesJ qT B w0 sb bs S F c w.heap.size Y i w' → Calls Tryz.prog 67 (#[bpt b] ++ #[bpt w.heap.size]) w' fun e w2 => e = noneV ∧ NamesJ qT B w0 sb bs S F c w.heap.size Y (i + 1) w2 := fun Y i b w' hb hJ => names_one hb hlen hJ
 have ce0 := seach_any (g := 67) (cb := #[bpt w.heap.size]) (J := NamesJ qT B w0 sb bs S F c w.heap.size) hgo h1 h0 hr hs
 have ce : Hid (Calls Tryz.prog 66 #[bpt sb, .func (.func 67) #[] #[bpt w.heap.size]] (w.alloc (.cells #[.slice none 0 0] 47)) fun e w' => e = noneV ∧ ∃ u Z, w'.cell? ⟨w.heap.size, 0, none⟩ = some u ∧ TssIs u (S.L.map (·.name)) Z ∧ StoIs qT B w0 w' sb bs S (Z ++ F) c) := by
  refine Lib.hid (ce0.mono ?_)
  rintro e w' ⟨rfl, Y, u, Z, hu, h'⟩
  rw [hlen, List.take_of_length_le (Nat.le_refl _)] at hu
  exact ⟨rfl, u, Z, h'.cell List.mem_cons_self rfl, hu, h'.sub ((List.Sublist.append (List.Sublist.refl Z) (List.sublist_append_right Y F)).cons _)⟩
 clear h h1 hlen ce0 h0 hr hs hgo
 generalize S.L.map (·.name) = l at *
 go_enter Tryz.func19, Tryz.ntmps19
 go_wp2_with fail
 refine ce.out.mono ?_
 rintro e w1 ⟨rfl, u, Z, k0, hu, h1⟩
 have fin : Hid (∃ u' Z, Ending.returned u = .returned u' ∧ TssIs u' l Z ∧ StoIs qT B w0 w1 sb bs S (Z ++ F) c) := Lib.hid ⟨u, Z, rfl, hu, h1⟩
 obtain ⟨au, cu, rfl⟩ := hu.form
 clear ce hu h1
 go_wp2_with fail
 go_ret
 exact fin.out
end
end Go.Proofs.YtknjamfjonapiaaGreatDoor
namespace Go.Proofs.YtknjamfjonapiaaGreatDoor
open Go.RowKit
set_option linter.unusedVariables false
set_option linter.unusedSectionVars false
set_option linter.unusedSimpArgs false
set_option maxRecDepth 100000
section
variable {qT : Bool} {B : Nat} {w0 w w' : World} {sb slb xb pb qb gb c c' i k b : Nat} {bs : List Nat} {S S' : Sto} {L : List Pq} {xv v : Value} {d d' : Plq} {R SX SS F F' Z : List (Nat × Obj)} {o : Opt} {M : List Ent} {G : List Gst} {T : Nat} {n : List UInt8} {q z bt : Int} {e e0 : Ent} {g : Gst}
theorem StoIs.reads {a : Option Addr} {cp : Nat} {Y : List (Nat × Obj)} (h : StoIs qT B w0 w sb bs S F c) (hs : EnsIs (.slice a M.length cp) M Y) (hp : F.Perm (F' ++ Y)) : ReadEs w a M := by
 obtain ⟨O, o1, -⟩ := h.beside
 refine hs.read (X := O ++ F') (o1.perm ?_)
 rw [List.append_assoc]
 exact hp.append_left O
theorem FineS.out (h : FineS S) (i : Nat) {P : List Plc} {A : List Bnd} (hf : FineX P A) : FineS { S with L := S.L.eraseIdx i, P := P, A := A } := by
 have hs := List.eraseIdx_sublist S.L i
 exact ⟨Nat.le_trans hs.length_le h.few, (hs.map _).nodup h.once, (hs.map _).nodup h.nums, fun p hp => h.top p (hs.subset hp), h.num0, fun p hp => h.each p (hs.subset hp), hf⟩
theorem StoIs.blocks (h : StoIs qT B w0 w sb bs S F c) : bs.Nodup ∧ ∀ b ∈ bs, ∃ c, w.heap[b]? = some (.cells c 135 (0, 0)) := by
 obtain ⟨L, slb, xv, v, R, SX, SS, h1, h2⟩ := h
 rw [← h1.blks]
 have hm : ∀ p ∈ L, (p.b, pqO p.d p.qb p.gb) ∈ stoO sb slb xv v S L R SX SS ++ F := fun p hp => List.mem_append_left _ (List.mem_cons_of_mem _ (List.mem_append_right _ (List.mem_append_right _ (List.mem_append_right _ (List.mem_flatMap.2 ⟨p, hp, List.mem_cons_self⟩)))))
 refine ⟨?_, fun b hb => ?_⟩
 ·have hn := h2.nodup
  have hsub : (L.map Pq.b).Sublist ((stoO sb slb xv v S L R SX SS ++ F).map (·.1)) := by
   have h3 : (L.map Pq.b).Sublist ((pqsO L).map (·.1)) := by
    clear hm h1 h2 hn
    unfold pqsO
    induction L with
    | nil => exact List.Sublist.refl _
    | cons p L ih =>
     rw [List.map_cons, List.flatMap_cons, List.map_append]
     exact (List.Sublist.append (List.singleton_sublist.2 (List.mem_map.2 ⟨(p.b, pqO p.d p.qb p.gb), List.mem_cons_self, rfl⟩) : [p.b].Sublist (p.objs.map (·.1))) ih)
   refine h3.trans (List.Sublist.map _ ?_)
   unfold stoO
   exact (((List.sublist_append_right SS (pqsO L)).trans (List.sublist_append_right SX _)).trans (List.sublist_append_right R _)).cons _ |>.trans (List.sublist_append_left _ F)
  exact hsub.nodup hn
 ·obtain ⟨p, hp, rfl⟩ := List.mem_map.1 hb
  exact ⟨_, h2.get (hm p hp)⟩
end
end Go.Proofs.YtknjamfjonapiaaGreatDoor
namespace Go.Proofs.YtknjamfjonapiaaGreatDoor
open Go.RowKit
set_option linter.unusedVariables false
set_option maxRecDepth 100000
def measL (o : Opt) : List Int := [o.maxLen, o.ttl, o.prio, o.bits, (o.dead.length : Int), (o.deadKey.length : Int)]
theorem measures_any (o : Opt) (w : World) : Calls Tryz.prog 197 #[opV o] w fun r w' => r = .returned (.agg #[.int .i64 o.maxLen, .int .i64 o.ttl, .int .i64 o.prio, .int .i64 o.bits, .int .i64 o.dead.length, .int .i64 o.deadKey.length]) ∧ Below w.heap.size w w' := by
 go_enter Tryz.func197, Tryz.ntmps197
 go_wp2_with fail
 refine bodyPost_ret (v := .agg #[.int .i64 o.maxLen, .int .i64 o.ttl, .int .i64 o.prio, .int .i64 o.bits, .int .i64 o.dead.length, .int .i64 o.deadKey.length]) (by simp [results, Tryz.results197, go_sem]) rfl ⟨rfl, by repeat (first | exact Below.refl _ _ | refine bel ?_ (new_below _ _))⟩
def restOk (o : Opt) (j : Nat) : Bool := (((measL o).zip mostL).drop j).all fun p => decide (0 ≤ p.1) && decide (p.1 ≤ p.2)
theorem restOk_all (o : Opt) : restOk o 0 = isO o := by
 unfold restOk isO measL mostL
 simp only [List.zip_cons_cons, List.zip_nil_right, List.drop_zero, List.all_cons, List.all_nil, Bool.and_true]
 rw [Bool.eq_iff_iff]
 simp only [Bool.and_eq_true, decide_eq_true_eq]
 omega
theorem restOk_step (o : Opt) {j : Nat} (h : j < 6) : restOk o j = (decide (0 ≤ (measL o).getD j 0) && decide ((measL o).getD j 0 ≤ mostL.getD j 0) && restOk o (j + 1)) := by
 obtain rfl | rfl | rfl | rfl | rfl | rfl : j = 0 ∨ j = 1 ∨ j = 2 ∨ j = 3 ∨ j = 4 ∨ j = 5 := by omega
 all_goals rfl
def OptsJ (w : World) (o : Opt) (g : Nat) (a' : Act) (wr : World) : Prop :=
 ∃ (j nb : Nat), j + g = 6 ∧ Fr 24 [(3, .pointer (some ⟨nb, 0, none⟩)), (4, .int .i64 j)] a' ∧ restOk o j = isO o ∧ Below w.heap.size w wr ∧ ∀ k, k < 6 → wr.cell? ⟨nb, k, none⟩ = some (.int .i64 ((measL o).getD k 0))
set_option maxHeartbeats 1000000 in
theorem isopts_any (o : Opt) (w : World) (hT : Most w.heap.size w) : Calls Tryz.prog 136 #[opV o] w fun r w' => r = .returned (.bool (isO o)) ∧ Below w.heap.size w w' := by
 have hW : Hid (∀ w', Below w.heap.size w w' → Most w'.heap.size w') := Lib.hid fun w' hb => hT.on hb
 have c1 := Lib.hid (measures_any o)
 have h0 := Lib.hid (new_below w (opO o))
 clear hT
 go_enter Tryz.func136, Tryz.ntmps136
 go_wp2_with fail
 refine wp_scope_ghost 0 (OptsJ w o) rfl ?_ ?_
 ·rintro g a' wr ⟨j, nb, hj, hfr, hacc, hB, hc⟩
  obtain ⟨f, rfl, hl'⟩ := hfr.lit
  clear hfr c1 h0
  simp only [List.mem_cons, List.not_mem_nil, or_false, forall_eq_or_imp, forall_eq] at hl'
  obtain ⟨f3, f4⟩ := hl'
  simp only [List.range, List.range.loop, List.map, f3, f4]
  clear f3 f4
  have fin := Lib.hid hB
  have finN := Lib.hid (fun n => bel hB (drewN_below _ n))
  by_cases h6 : j = 6
  ·subst h6
   have e : Hid (true = isO o) := Lib.hid hacc
   clear hacc hc hW
   go_wp2_with fail
   simp only [Exit.jump]
   go_ret
   exact ⟨ret_bool e.out, fin.out⟩
  ·have hlt : j < 6 := by omega
   have q0 := hc j hlt
   have q1 := (hW.out _ hB).2 j hlt
   have hst := restOk_step o hlt
   have hcN := Lib.hid hc
   generalize (measL o).getD j 0 = x at *
   generalize mostL.getD j 0 = y at *
   have hj0 : (0 : Int) ≤ j := by omega
   have hj6 : (j : Int) < 6 := by omega
   have hne : ((j : Int) == 6) = false := by rw [beq_eq_false_iff_ne]; omega
   clear hc hW hB
   by_cases h1 : x < 0
   ·have e : Hid (false = isO o) := Lib.hid (by rw [← hacc, hst, decide_eq_false (show ¬ 0 ≤ x by omega)]; rfl)
    clear hacc hst
    go_wp2_with fail
    go_quiet (fail)
    go_wp2_with fail
    simp only [Exit.jump]
    go_ret
    exact ⟨ret_bool e.out, finN.out _⟩
   ·by_cases h2 : x > y
    ·have e : Hid (false = isO o) := Lib.hid (by rw [← hacc, hst, decide_eq_false (show ¬ x ≤ y by omega), Bool.and_false]; rfl)
     clear hacc hst
     go_wp2_with fail
     go_quiet (fail)
     go_wp2_with fail
     simp only [Exit.jump]
     go_ret
     exact ⟨ret_bool e.out, finN.out _⟩
    ·have e : Hid (restOk o (j + 1) = isO o) := Lib.hid (by rw [← hacc, hst, decide_eq_true (show x ≤ y by omega), decide_eq_true (show 0 ≤ x by omega)]; rfl)
     clear hacc hst
     go_wp2_with fail
     go_quiet (fail)
     go_wp2_with fail
     refine wp_goto ?_
     exact ⟨rfl, g - 1, by omega, j + 1, nb, by omega, ⟨rfl, rfl, by simp⟩, e.out, finN.out _, hcN.out⟩
 ·intro H
  go_wp2_with fail
  refine (c1.out _).mono ?_
  rintro r w1 ⟨rfl, hb⟩
  have hb1 := Lib.hid (bel h0.out hb)
  clear hb
  go_wp2_with fail
  refine wp_label ?_
  go_step
  go_step
  refine H _ _ _ ⟨0, _, Nat.zero_add 6, ⟨rfl, rfl, by simp; rfl⟩, restOk_all o, bel hb1.out (new_below _ _), fun k hk => ?_⟩
  obtain rfl | rfl | rfl | rfl | rfl | rfl : k = 0 ∨ k = 1 ∨ k = 2 ∨ k = 3 ∨ k = 4 ∨ k = 5 := by omega
  all_goals simp [measL]
end Go.Proofs.YtknjamfjonapiaaGreatDoor
namespace Go.Proofs.YtknjamfjonapiaaGreatDoor
open Go.RowKit
set_option linter.unusedVariables false
set_option maxRecDepth 100000
theorem lasting_any (o : Opt) (w : World) : Calls Tryz.prog 198 #[opV o] w fun r w' => r = .returned (opV (lastO o)) ∧ Below w.heap.size w w' := by
 have hb := Lib.hid (bel (new_below w (opO (lastO o))) (new_below _ (opO (lastO o))))
 go_enter Tryz.func198, Tryz.ntmps198
 go_wp2_with fail
 exact bodyPost_ret (v := opV (lastO o)) (by simp [results, Tryz.results198, go_sem, lastO, lastB]) rfl ⟨rfl, hb.out⟩
end Go.Proofs.YtknjamfjonapiaaGreatDoor
