import Derived.Test.YtknjamfjonapiaaGreatDoorY22
namespace Go.Proofs.YtknjamfjonapiaaGreatDoor
open Go.RowKit
set_option linter.unusedVariables false
set_option linter.unusedSectionVars false
set_option linter.unusedSimpArgs false
set_option maxRecDepth 100000
def letV (r : Option Ent) : Value := match r with | none => .tuple #[enV z0E, .bool false] | some y => .tuple #[enV y, .bool true]
section
variable {qT : Bool} {B : Nat} {w0 w w' : World} {sb slb xb pb qb gb c c' i k b : Nat} {bs : List Nat} {S S' : Sto} {L : List Pq} {xv v : Value} {d d' : Plq} {R SX SS F F' Z Y : List (Nat × Obj)} {o : Opt} {M : List Ent} {G : List Gst} {T : Nat} {n : List UInt8} {q z bt : Int} {e e0 x : Ent} {g : Gst} {tv : Value} {rf : Bool}
theorem pl_opts (h : StoIs qT B w0 w sb bs S F c) (hi : S.L[i]? = some d) (hb : bs[i]? = some pb) : ∃ qb, w.cell? ⟨pb, 3, none⟩ = some (rptr qb) ∧ Calls Tryz.prog 138 #[rptr qb] w fun r w' => r = .returned (opV d.o) ∧ StoIs qT B w0 w' sb bs S F c := by
 obtain ⟨pb', qb, gb, h1, h2, ⟨Z, h3, h4⟩, -⟩ := h.place hi
 rw [hb] at h1
 obtain rfl := Option.some.inj h1
 refine ⟨qb, h2.c3, (qu_opts h3).mono ?_⟩
 rintro r w' ⟨rfl, h5⟩
 have h7 := (h4 _ _ _ h5).2
 rw [setM_same hi] at h7
 exact ⟨rfl, h7⟩
set_option maxHeartbeats 4000000 in
theorem letter_any (h : StoIs qT B w0 w sb bs S F c) (hi : S.L[i]? = some d) (hb : bs[i]? = some pb) (hx : -9223372036854775808 ≤ x.hops) :
  Calls Tryz.prog 367 #[bpt sb, bpt pb, enV x] w fun r w' => r = .returned (letV (S.letter d.o x)) ∧ StoIs qT B w0 w' sb bs S F c := by
 have h0 : StoIs qT B w0 ((w.alloc (enO x)).alloc (enO z0E)) sb bs S (((w.alloc (enO x)).heap.size, enO z0E) :: (w.heap.size, enO x) :: F) c := (h.alloc (enO x)).alloc (enO z0E)
 rw [World.size_alloc] at h0
 obtain ⟨qb, k3, cop⟩ := pl_opts h0 hi hb
 have k3' := k3
 have co := Lib.hid cop
 have hch : Hid (∀ w1 (bad : Bool), hasX S.P d.o.dead = bad → StoIs qT B w0 w1 sb bs S ((w.heap.size + 1, enO z0E) :: (w.heap.size, enO x) :: F) c → OpC (w1.alloc (opO d.o)) w1.heap.size d.o ∧ EnAt (w1.alloc (opO d.o)) w.heap.size x ∧ EnAt (w1.alloc (opO d.o)) (w.heap.size + 1) z0E ∧ (∀ i, (w1.alloc (opO d.o)).frozen? ⟨w.heap.size + 1, i, none⟩ = false) ∧
   (EnAt (enPut (w1.alloc (opO d.o)) (w.heap.size + 1) z0E) (w.heap.size + 1) z0E ∧ StoIs qT B w0 (enPut (w1.alloc (opO d.o)) (w.heap.size + 1) z0E) sb bs S F c) ∧
   Calls Tryz.prog 17 #[bpt sb, tx d.o.dead] (w1.alloc (opO d.o)) fun e w' => e = .returned (.bool bad) ∧ OpC w' w1.heap.size d.o ∧ EnAt w' w.heap.size x ∧ (∀ i, w'.frozen? ⟨w.heap.size, i, none⟩ = false) ∧ EnAt w' (w.heap.size + 1) z0E ∧ (∀ i, w'.frozen? ⟨w.heap.size + 1, i, none⟩ = false) ∧
    StoIs qT B w0 w' sb bs S ((w1.heap.size, opO d.o) :: (w.heap.size + 1, enO z0E) :: (w.heap.size, enO x) :: F) c) := Lib.hid fun w1 bad hbad h' => by
  have h2 := h'.alloc (opO d.o)
  have ret : ∀ w', StoIs qT B w0 w' sb bs S ((w1.heap.size, opO d.o) :: (w.heap.size + 1, enO z0E) :: (w.heap.size, enO x) :: F) c → EnAt (enPut w' (w.heap.size + 1) z0E) (w.heap.size + 1) z0E ∧ StoIs qT B w0 (enPut w' (w.heap.size + 1) z0E) sb bs S F c := fun w' h3 => by
   have h4 := (h3.permF (List.Perm.swap _ _ _)).ret_e z0E
   exact ⟨h4.2.2.1, h4.2.2.2.sub ((List.sublist_cons_self _ _).trans (List.sublist_cons_self _ _))⟩
  have c0 := h2.opC (b := w1.heap.size) (x := d.o) List.mem_cons_self
  have c1 := h2.enAt (k := w.heap.size) (e := x) (List.mem_cons_of_mem _ (List.mem_cons_of_mem _ List.mem_cons_self))
  have c2 := h2.enAt (k := w.heap.size + 1) (e := z0E) (List.mem_cons_of_mem _ List.mem_cons_self)
  refine ⟨c0, c1.1, c2.1, c2.2, ret _ h2, (st_has h2 d.o.dead).mono ?_⟩
  rintro e w' ⟨rfl, h3⟩
  have c1 := h3.enAt (k := w.heap.size) (e := x) (List.mem_cons_of_mem _ (List.mem_cons_of_mem _ List.mem_cons_self))
  have c2 := h3.enAt (k := w.heap.size + 1) (e := z0E) (List.mem_cons_of_mem _ List.mem_cons_self)
  exact ⟨by rw [hbad], h3.opC List.mem_cons_self, c1.1, c1.2, c2.1, c2.2, h3⟩
 have hret := Lib.hid (fun ob w' (h' : StoIs qT B w0 w' sb bs S ((ob, opO d.o) :: (w.heap.size + 1, enO z0E) :: (w.heap.size, enO x) :: F) c) => (h'.permF (List.Perm.swap _ _ _)).ret_e z0E)
 have hsub : Hid (∀ ob w', StoIs qT B w0 w' sb bs S ((ob, opO d.o) :: (w.heap.size, enO x) :: F) c → StoIs qT B w0 w' sb bs S F c) := Lib.hid fun ob w' h' => h'.sub ((List.sublist_cons_self _ _).trans (List.sublist_cons_self _ _))
 have hst : Hid (∀ ob w' (ky : List UInt8) (W : World), W = (((w'.setCell ⟨w.heap.size, 6, none⟩ (.int .i64 0)).setCell ⟨w.heap.size, 8, none⟩ (.bool false)).setCell ⟨w.heap.size, 9, none⟩ (.int .i64 (x.hops + 1))) → StoIs qT B w0 w' sb bs S ((ob, opO d.o) :: (w.heap.size + 1, enO z0E) :: (w.heap.size, enO { x with exch := d.o.dead, key := ky }) :: F) c →
   EnAt W w.heap.size { x with exch := d.o.dead, key := ky, ttl := 0, again := false, hops := x.hops + 1 } ∧ EnAt W (w.heap.size + 1) z0E ∧ (∀ i, W.frozen? ⟨w.heap.size + 1, i, none⟩ = false) ∧
   EnAt (enPut W (w.heap.size + 1) { x with exch := d.o.dead, key := ky, ttl := 0, again := false, hops := x.hops + 1 }) (w.heap.size + 1) { x with exch := d.o.dead, key := ky, ttl := 0, again := false, hops := x.hops + 1 } ∧
   StoIs qT B w0 (enPut W (w.heap.size + 1) { x with exch := d.o.dead, key := ky, ttl := 0, again := false, hops := x.hops + 1 }) sb bs S F c) := Lib.hid fun ob w' ky W hW h' => by
  have p1 : ((ob, opO d.o) :: (w.heap.size + 1, enO z0E) :: (w.heap.size, enO { x with exch := d.o.dead, key := ky }) :: F).Perm ((w.heap.size, enO { x with exch := d.o.dead, key := ky }) :: (w.heap.size + 1, enO z0E) :: (ob, opO d.o) :: F) := perm_by fun a => by simp only [List.count_cons]; omega
  have h2 := (((h'.permF p1).setF 6 (.int .i64 0)).setF 8 (.bool false)).setF 9 (.int .i64 (x.hops + 1))
  rw [← hW] at h2
  have h3 : StoIs qT B w0 W sb bs S ((w.heap.size, enO { x with exch := d.o.dead, key := ky, ttl := 0, again := false, hops := x.hops + 1 }) :: (w.heap.size + 1, enO z0E) :: (ob, opO d.o) :: F) c := h2
  have h4 := (h3.permF (List.Perm.swap _ _ _)).ret_e { x with exch := d.o.dead, key := ky, ttl := 0, again := false, hops := x.hops + 1 }
  exact ⟨(h3.enAt List.mem_cons_self).1, h4.1, h4.2.1, h4.2.2.1, h4.2.2.2.sub ((List.sublist_cons_self _ _).trans (List.sublist_cons_self _ _))⟩
 have hk3 : Hid (∀ ob w', StoIs qT B w0 w' sb bs S ((ob, opO d.o) :: (w.heap.size + 1, enO z0E) :: (w.heap.size, enO x) :: F) c → StoIs qT B w0 (w'.setCell ⟨w.heap.size, 3, none⟩ (tx d.o.dead)) sb bs S ((ob, opO d.o) :: (w.heap.size + 1, enO z0E) :: (w.heap.size, enO { x with exch := d.o.dead, key := x.key }) :: F) c) := Lib.hid fun ob w' h' => h'.setB (X := [(ob, opO d.o), (w.heap.size + 1, enO z0E)]) 3 (tx d.o.dead)
 have hk4 : Hid (∀ ob w', StoIs qT B w0 w' sb bs S ((ob, opO d.o) :: (w.heap.size + 1, enO z0E) :: (w.heap.size, enO { x with exch := d.o.dead, key := x.key }) :: F) c → StoIs qT B w0 (w'.setCell ⟨w.heap.size, 4, none⟩ (tx d.o.deadKey)) sb bs S ((ob, opO d.o) :: (w.heap.size + 1, enO z0E) :: (w.heap.size, enO { x with exch := d.o.dead, key := d.o.deadKey }) :: F) c) := Lib.hid fun ob w' h' => h'.setB (X := [(ob, opO d.o), (w.heap.size + 1, enO z0E)]) 4 (tx d.o.deadKey)
 unfold Sto.letter
 have hwr : x.hops < 3 → IntKind.i64.wrap (x.hops + 1) = x.hops + 1 ∧ wrap64 (x.hops + 1) = x.hops + 1 := fun h3 => ⟨by rw [IntKind.wrap_i64]; omega, by unfold wrap64; omega⟩
 clear cop k3 h0
 have k3 : ((w.alloc (enO x)).alloc (enO z0E)).cell? ⟨pb, 3, none⟩ = some (rptr qb) := k3'
 clear k3'
 generalize d.o = ob at *
 obtain ⟨dd, dk, o1, o2, o3, o4⟩ := ob
 simp only at *
 unfold letV
 by_cases hA : dd = [] ∧ dk = []
 ·obtain ⟨rfl, rfl⟩ := hA
  rw [if_pos (.inl ⟨rfl, rfl⟩)]
  clear hst hk3 hk4 hret hsub hwr h hi hb hx
  go_enter Tryz.func367, Tryz.ntmps367
  go_wp2_with fail
  refine co.out.mono ?_
  rintro r w1 ⟨rfl, h1⟩
  obtain ⟨⟨j0, j1, j2, j3, j4, j5⟩, ⟨y0, y1, y2, y3, y4, y5, y6, y7, y8, y9⟩, ⟨z0, z1, z2, z3, z4, z5, z6, z7, z8, z9⟩, zs, ⟨finE, fin⟩, -⟩ := hch.out w1 _ rfl h1
  replace finE := Lib.hid finE
  replace fin := Lib.hid fin
  clear co hch h1 k3
  go_wp2_with fail
  exact bodyPost_ret (ret_entry2 (e := z0E) rfl rfl rfl finE.out rfl) rfl ⟨rfl, fin.out⟩
 have hdk : dd = [] → (dk == []) = false ∧ dk.isEmpty = false := fun e => by
  have : dk ≠ [] := fun e2 => hA ⟨e, e2⟩
  exact ⟨by simpa using this, by simpa using this⟩
 by_cases hB : 3 ≤ x.hops
 ·rw [if_pos (.inr (.inl hB))]
  by_cases hd : dd = []
  ·subst hd
   obtain ⟨g1, g2⟩ := hdk rfl
   clear hst hk3 hk4 hret hsub hwr h hi hb hx hA hdk
   go_enter Tryz.func367, Tryz.ntmps367
   go_wp2_with fail
   refine co.out.mono ?_
   rintro r w1 ⟨rfl, h1⟩
   obtain ⟨⟨j0, j1, j2, j3, j4, j5⟩, ⟨y0, y1, y2, y3, y4, y5, y6, y7, y8, y9⟩, ⟨z0, z1, z2, z3, z4, z5, z6, z7, z8, z9⟩, zs, ⟨finE, fin⟩, -⟩ := hch.out w1 _ rfl h1
   replace finE := Lib.hid finE
   replace fin := Lib.hid fin
   clear co hch h1 k3
   go_wp2_with fail
   exact bodyPost_ret (ret_entry2 (e := z0E) rfl rfl rfl finE.out rfl) rfl ⟨rfl, fin.out⟩
  ·have g1 : (dd == []) = false := by simpa using hd
   have g2 : dd.isEmpty = false := by simpa using hd
   clear hst hk3 hk4 hret hsub hwr h hi hb hx hA hdk hd
   go_enter Tryz.func367, Tryz.ntmps367
   go_wp2_with fail
   refine co.out.mono ?_
   rintro r w1 ⟨rfl, h1⟩
   obtain ⟨⟨j0, j1, j2, j3, j4, j5⟩, ⟨y0, y1, y2, y3, y4, y5, y6, y7, y8, y9⟩, ⟨z0, z1, z2, z3, z4, z5, z6, z7, z8, z9⟩, zs, ⟨finE, fin⟩, -⟩ := hch.out w1 _ rfl h1
   replace finE := Lib.hid finE
   replace fin := Lib.hid fin
   clear co hch h1 k3
   go_wp2_with fail
   exact bodyPost_ret (ret_entry2 (e := z0E) rfl rfl rfl finE.out rfl) rfl ⟨rfl, fin.out⟩
 obtain ⟨hw1, hw2⟩ := hwr (by omega)
 have hB2 : x.hops < 3 := by omega
 have hB3 : ¬ (3 : Int) ≤ x.hops := hB
 cases hH : hasX S.P dd with
 | false =>
  rw [if_pos (.inr (.inr rfl))]
  have hd : dd ≠ [] := fun e => by rw [e] at hH; simp [hasX] at hH
  have g1 : (dd == []) = false := by simpa using hd
  have g2 : dd.isEmpty = false := by simpa using hd
  clear hst hk3 hk4 hwr h hi hb hx hA hdk hd hB hB2 hw1 hw2
  go_enter Tryz.func367, Tryz.ntmps367
  go_wp2_with fail
  refine co.out.mono ?_
  rintro r w1 ⟨rfl, h1⟩
  obtain ⟨⟨j0, j1, j2, j3, j4, j5⟩, ⟨y0, y1, y2, y3, y4, y5, y6, y7, y8, y9⟩, ⟨z0, z1, z2, z3, z4, z5, z6, z7, z8, z9⟩, zs, -, ch⟩ := hch.out w1 false hH h1
  replace ch := Lib.hid ch
  clear co hch h1 k3
  go_wp2_with fail
  refine ch.out.mono ?_
  rintro r w2 ⟨rfl, ⟨l0, l1, l2, l3, l4, l5⟩, ⟨m0, m1, m2, m3, m4, m5, m6, m7, m8, m9⟩, ms, ⟨n0, n1, n2, n3, n4, n5, n6, n7, n8, n9⟩, ns, h2⟩
  clear j0 j1 j2 j3 j4 j5 y0 y1 y2 y3 y4 y5 y6 y7 y8 y9 z0 z1 z2 z3 z4 z5 z6 z7 z8 z9 zs ch
  obtain ⟨-, -, finE, fin⟩ := hret.out _ _ h2
  replace finE := Lib.hid finE
  replace fin := Lib.hid (hsub.out _ _ fin)
  clear h2 hret hsub
  go_wp2_with fail
  exact bodyPost_ret (ret_entry2 (e := z0E) rfl rfl rfl finE.out rfl) rfl ⟨rfl, fin.out⟩
 | true =>
  rw [if_neg (by rintro (h | h | h); exact hA h; exact hB h; cases h)]
  by_cases hd : dd = []
  ·subst hd
   obtain ⟨g1, g2⟩ := hdk rfl
   have gk : dk ≠ [] := by simpa using g1
   rw [if_neg gk]
   have g3 : (dk != []) = true := by simpa using gk
   clear hwr h hi hb hx hA hdk hB hB2 gk
   go_enter Tryz.func367, Tryz.ntmps367
   go_wp2_with fail
   refine co.out.mono ?_
   rintro r w1 ⟨rfl, h1⟩
   obtain ⟨⟨j0, j1, j2, j3, j4, j5⟩, ⟨y0, y1, y2, y3, y4, y5, y6, y7, y8, y9⟩, ⟨z0, z1, z2, z3, z4, z5, z6, z7, z8, z9⟩, zs, -, ch⟩ := hch.out w1 true hH h1
   replace ch := Lib.hid ch
   clear co hch h1 k3
   go_wp2_with fail
   refine ch.out.mono ?_
   rintro r w2 ⟨rfl, ⟨l0, l1, l2, l3, l4, l5⟩, ⟨m0, m1, m2, m3, m4, m5, m6, m7, m8, m9⟩, ms, ⟨n0, n1, n2, n3, n4, n5, n6, n7, n8, n9⟩, ns, h2⟩
   clear j0 j1 j2 j3 j4 j5 y0 y1 y2 y3 y4 y5 y6 y7 y8 y9 z0 z1 z2 z3 z4 z5 z6 z7 z8 z9 zs ch
   have h3 := hk3.out _ _ h2
   have h4 := hk4.out _ _ h3
   obtain ⟨W, hW⟩ : ∃ W, W = ((((w2.setCell ⟨w.heap.size, 3, none⟩ (tx [])).setCell ⟨w.heap.size, 4, none⟩ (tx dk)).setCell ⟨w.heap.size, 6, none⟩ (.int .i64 0)).setCell ⟨w.heap.size, 8, none⟩ (.bool false)).setCell ⟨w.heap.size, 9, none⟩ (.int .i64 (x.hops + 1)) := ⟨_, rfl⟩
   obtain ⟨⟨q0, q1, q2, q3, q4, q5, q6, q7, q8, q9⟩, ⟨r0, r1, r2, r3, r4, r5, r6, r7, r8, r9⟩, rs, finE, fin⟩ := hst.out _ _ dk W hW h4
   clear h4
   replace finE := Lib.hid finE
   replace fin := Lib.hid fin
   replace hW := Lib.hid hW
   clear h2 h3 hk3 hk4 hst hret hsub
   go_upto_region 10 with fail
   rw [← hW.out]
   clear hW m0 m1 m2 m3 m4 m5 m6 m7 m8 m9 ms n0 n1 n2 n3 n4 n5 n6 n7 n8 n9 ns l0 l1 l2 l3 l4 l5
   go_wp2_with fail
   exact bodyPost_ret (ret_entry2 (e := { x with exch := [], key := dk, ttl := 0, again := false, hops := x.hops + 1 }) rfl rfl rfl finE.out rfl) rfl ⟨rfl, fin.out⟩
  ·have g1 : (dd == []) = false := by simpa using hd
   have g2 : dd.isEmpty = false := by simpa using hd
   by_cases hk : dk = []
   ·subst hk
    rw [if_pos rfl]
    clear hwr h hi hb hx hA hdk hB hB2 hd
    go_enter Tryz.func367, Tryz.ntmps367
    go_wp2_with fail
    refine co.out.mono ?_
    rintro r w1 ⟨rfl, h1⟩
    obtain ⟨⟨j0, j1, j2, j3, j4, j5⟩, ⟨y0, y1, y2, y3, y4, y5, y6, y7, y8, y9⟩, ⟨z0, z1, z2, z3, z4, z5, z6, z7, z8, z9⟩, zs, -, ch⟩ := hch.out w1 true hH h1
    replace ch := Lib.hid ch
    clear co hch h1 k3
    go_wp2_with fail
    refine ch.out.mono ?_
    rintro r w2 ⟨rfl, ⟨l0, l1, l2, l3, l4, l5⟩, ⟨m0, m1, m2, m3, m4, m5, m6, m7, m8, m9⟩, ms, ⟨n0, n1, n2, n3, n4, n5, n6, n7, n8, n9⟩, ns, h2⟩
    clear j0 j1 j2 j3 j4 j5 y0 y1 y2 y3 y4 y5 y6 y7 y8 y9 z0 z1 z2 z3 z4 z5 z6 z7 z8 z9 zs ch
    have h3 := hk3.out _ _ h2
    obtain ⟨W, hW⟩ : ∃ W, W = (((w2.setCell ⟨w.heap.size, 3, none⟩ (tx dd)).setCell ⟨w.heap.size, 6, none⟩ (.int .i64 0)).setCell ⟨w.heap.size, 8, none⟩ (.bool false)).setCell ⟨w.heap.size, 9, none⟩ (.int .i64 (x.hops + 1)) := ⟨_, rfl⟩
    obtain ⟨⟨q0, q1, q2, q3, q4, q5, q6, q7, q8, q9⟩, ⟨r0, r1, r2, r3, r4, r5, r6, r7, r8, r9⟩, rs, finE, fin⟩ := hst.out _ _ x.key W hW h3
    replace finE := Lib.hid finE
    replace fin := Lib.hid fin
    replace hW := Lib.hid hW
    clear h2 h3 hk3 hk4 hst hret hsub
    go_upto_region 10 with fail
    rw [← hW.out]
    clear hW m0 m1 m2 m3 m4 m5 m6 m7 m8 m9 ms n0 n1 n2 n3 n4 n5 n6 n7 n8 n9 ns l0 l1 l2 l3 l4 l5
    go_wp2_with fail
    exact bodyPost_ret (ret_entry2 (e := { x with exch := dd, key := x.key, ttl := 0, again := false, hops := x.hops + 1 }) rfl rfl rfl finE.out rfl) rfl ⟨rfl, fin.out⟩
   ·have g4 : (dk == []) = false := by simpa using hk
    have g5 : dk.isEmpty = false := by simpa using hk
    have g6 : (dk != []) = true := by simpa using hk
    rw [if_neg hk]
    clear hwr h hi hb hx hA hdk hB hB2 hd hk
    go_enter Tryz.func367, Tryz.ntmps367
    go_wp2_with fail
    refine co.out.mono ?_
    rintro r w1 ⟨rfl, h1⟩
    obtain ⟨⟨j0, j1, j2, j3, j4, j5⟩, ⟨y0, y1, y2, y3, y4, y5, y6, y7, y8, y9⟩, ⟨z0, z1, z2, z3, z4, z5, z6, z7, z8, z9⟩, zs, -, ch⟩ := hch.out w1 true hH h1
    replace ch := Lib.hid ch
    clear co hch h1 k3
    go_wp2_with fail
    refine ch.out.mono ?_
    rintro r w2 ⟨rfl, ⟨l0, l1, l2, l3, l4, l5⟩, ⟨m0, m1, m2, m3, m4, m5, m6, m7, m8, m9⟩, ms, ⟨n0, n1, n2, n3, n4, n5, n6, n7, n8, n9⟩, ns, h2⟩
    clear j0 j1 j2 j3 j4 j5 y0 y1 y2 y3 y4 y5 y6 y7 y8 y9 z0 z1 z2 z3 z4 z5 z6 z7 z8 z9 zs ch
    have h3 := hk3.out _ _ h2
    have h4 := hk4.out _ _ h3
    obtain ⟨W, hW⟩ : ∃ W, W = ((((w2.setCell ⟨w.heap.size, 3, none⟩ (tx dd)).setCell ⟨w.heap.size, 4, none⟩ (tx dk)).setCell ⟨w.heap.size, 6, none⟩ (.int .i64 0)).setCell ⟨w.heap.size, 8, none⟩ (.bool false)).setCell ⟨w.heap.size, 9, none⟩ (.int .i64 (x.hops + 1)) := ⟨_, rfl⟩
    obtain ⟨⟨q0, q1, q2, q3, q4, q5, q6, q7, q8, q9⟩, ⟨r0, r1, r2, r3, r4, r5, r6, r7, r8, r9⟩, rs, finE, fin⟩ := hst.out _ _ dk W hW h4
    clear h4
    replace finE := Lib.hid finE
    replace fin := Lib.hid fin
    replace hW := Lib.hid hW
    clear h2 h3 hk3 hk4 hst hret hsub
    go_upto_region 10 with fail
    rw [← hW.out]
    clear hW m0 m1 m2 m3 m4 m5 m6 m7 m8 m9 ms n0 n1 n2 n3 n4 n5 n6 n7 n8 n9 ns l0 l1 l2 l3 l4 l5
    go_wp2_with fail
    exact bodyPost_ret (ret_entry2 (e := { x with exch := dd, key := dk, ttl := 0, again := false, hops := x.hops + 1 }) rfl rfl rfl finE.out rfl) rfl ⟨rfl, fin.out⟩
end
end Go.Proofs.YtknjamfjonapiaaGreatDoor
namespace Go.Proofs.YtknjamfjonapiaaGreatDoor
open Go.RowKit
set_option linter.unusedVariables false
set_option linter.unusedSectionVars false
set_option linter.unusedSimpArgs false
set_option maxRecDepth 100000
structure Tm where
 t : Tsk
 v : Value
 O : List (Nat × Obj)
abbrev deadO (pb : Nat) (wv : Value) : Obj := .cells #[bpt pb, wv] 161
abbrev mailI (mb : Nat) : Value := .iface 153 (bpt mb)
abbrev deadI (db : Nat) : Value := .iface 158 (bpt db)
abbrev owedI (b : Int) : Value := .iface 412 (.int .i64 b)
def TmOk (bs : List Nat) (top : Option Nat) (r : Bool) (m : Tm) : Prop := match m.t with
 | .mail tp e way => ∃ mb tv Z rf, m.v = mailI mb ∧ (tp = true → top = some mb ∧ rf = r) ∧ m.O = (mb, mailO e tv rf) :: Z ∧ WayIs bs tv way Z
 | .dead i W => ∃ db wv Z pb, bs[i]? = some pb ∧ m.v = deadI db ∧ m.O = (db, deadO pb wv) :: Z ∧ EnsIs wv W Z
 | .owed b => m.v = owedI b ∧ m.O = []
def isTop : Tsk → Bool
 | .mail tp _ _ => tp
 | _ => false
def TopOk (top : Option Nat) (R : List Tsk) (r : Bool) (OT : List (Nat × Obj)) : Prop := match top with
 | none => OT = [] ∧ R.any isTop = false
 | some mb => (R.any isTop = true ∧ OT = []) ∨ (R.any isTop = false ∧ ∃ e tv, OT = [(mb, mailO e tv r)])
def OneTop (R : List Tsk) : Prop := (R.filter isTop).length ≤ 1
def objsT (ts : List Tm) : List (Nat × Obj) := ts.flatMap Tm.O
def RowIs (v : Value) (vs : List Value) (Z : List (Nat × Obj)) : Prop := SlIs 221 1 v vs.length vs.reverse Z
def CfIs (qT : Bool) (B : Nat) (w0 w : World) (sb : Nat) (bs : List Nat) (top : Option Nat) (C : Cf) (v : Value) (F : List (Nat × Obj)) (c : Nat) : Prop :=
 ∃ ts Z OT, ts.map Tm.t = C.R ∧ RowIs v (ts.map Tm.v) Z ∧ (∀ m ∈ ts, TmOk bs top C.r m) ∧ TopOk top C.R C.r OT ∧ OneTop C.R ∧ StoIs qT B w0 w sb bs C.S (Z ++ (objsT ts ++ (OT ++ F))) c
theorem uTasks : Tryz.prog.underlying 222 = some (.slice 221) := by kernel_rfl
theorem infTask : (Tryz.prog.info? 221).map (fun i => (i.zero, i.size, i.bytes)) = some (some .nilIface, 1, 16) := by kernel_rfl
theorem apT : Ap Tryz.prog 222 221 1 16 := ⟨uTasks, by
 obtain ⟨i0, hi0, hz0, hz1, hz2⟩ := info_parts infTask
 exact ⟨i0, _, hi0, hz0, hz1, hz2, rfl⟩⟩
section
variable {qT : Bool} {B : Nat} {w0 w w' : World} {sb slb xb pb qb gb c c' i k b mb db : Nat} {bs : List Nat} {S S' : Sto} {L : List Pq} {xv v : Value} {d d' : Plq} {R SX SS F F' Z Y : List (Nat × Obj)} {o : Opt} {M W : List Ent} {G : List Gst} {T : Nat} {n : List UInt8} {q z bt : Int} {e e0 x : Ent} {g : Gst} {tv : Value} {rf r : Bool} {vs : List Value} {way : List Nat} {top : Option Nat} {ts : List Tm} {TR : List Tsk}
theorem RowIs.form (h : RowIs v vs Z) : ∃ a cap, v = .slice a vs.length cap := by
 obtain ⟨a, cap, e, -⟩ := SlIs.form h
 exact ⟨a, cap, e⟩
theorem row_push (h : StoIs qT B w0 w sb bs S (Z ++ F) c) (hr : RowIs v vs Z) {u : Value} (hu : u.oneCell' = true) (hl : vs.length ≤ 1000000000000) :
  ∃ a2 cap2 W Z', (Builtin.append_ #[222, 222] 0 #[v, .slice (some ⟨w.heap.size, 0, none⟩) 1 1]).run Tryz.prog (w.alloc (.cells #[u] 221)) = .ok (.slice a2 (vs.length + 1) cap2) W ∧ RowIs (.slice a2 (vs.length + 1) cap2) (u :: vs) Z' ∧
   StoIs qT B w0 W sb bs S (Z' ++ F) c := by
 have h1 := h.alloc (.cells #[u] 221)
 obtain ⟨O, o1, -, o2⟩ := h1.beside
 have hp : ∀ Z, (O ++ ((w.heap.size, Obj.cells #[u] 221 (0, 0)) :: (Z ++ F))).Perm ((O ++ ((w.heap.size, .cells #[u] 221) :: F)) ++ Z) := fun Z => perm_by fun a => by
  simp only [List.count_append, List.count_cons]; omega
 obtain ⟨a2, cap2, W, Z', hrun, hsl, hst⟩ := apT.append hr (o1.perm (hp Z)) (Reads.one w u 221) (fun y hy => by rw [List.mem_singleton] at hy; subst hy; exact hu) (by unfold maxLen; omega) (by omega)
 have h2 := o2 _ _ (hst.perm (hp Z').symm)
 refine ⟨a2, cap2, W, Z', hrun, ?_, h2.sub (List.sublist_cons_self _ _)⟩
 unfold RowIs
 rw [List.reverse_cons]
 exact hsl
theorem row_pop {u : Value} (hr : RowIs v (u :: vs) Z) (h : StoIs qT B w0 w sb bs S (Z ++ F) c) : ∃ a cap a1 c1, v = .slice a (vs.length + 1) cap ∧ (∃ g off, a = some ⟨g, off, none⟩ ∧ w.cell? ⟨g, off + vs.length, none⟩ = some u) ∧
  RowIs (.slice a1 vs.length c1) vs Z ∧ ∀ w, (Instr.slice 222 v none (some (.int .i64 vs.length)) none).run Tryz.prog w = .ok (.slice a1 vs.length c1) w := by
 obtain ⟨a, cap, rfl⟩ := hr.form
 obtain ⟨a1, c1, a2, c2, h1, -, h3, -⟩ := apT.piece hr vs.length (by rw [List.length_cons]; omega)
 have hx : (u :: vs).reverse[vs.length]? = some u := by
  rw [List.reverse_cons, List.getElem?_append_right (by rw [List.length_reverse]; exact Nat.le_refl _), List.length_reverse, Nat.sub_self]; rfl
 refine ⟨a, cap, a1, c1, rfl, h.rowAt hr List.perm_append_comm hx, ?_, h3⟩
 unfold RowIs
 rw [Nat.mul_one, List.reverse_cons] at h1
 rw [List.take_left' (List.length_reverse)] at h1
 exact h1
theorem way_pop (hw : WayIs bs tv (i :: way) Z) (hb : bs[i]? = some pb) {F : List (Nat × Obj)} (h : StoIs qT B w0 w sb bs S ((mb, mailO e tv rf) :: (Z ++ F)) c) :
  ∃ a cap a2 c2, tv = .slice a (way.length + 1) cap ∧ (∃ g off, a = some ⟨g, off, none⟩ ∧ w.cell? ⟨g, off, none⟩ = some (bpt pb)) ∧ WayIs bs (.slice a2 way.length c2) way Z ∧
   (∀ w, (Instr.slice 90 tv (some (.int .i64 1)) none none).run Tryz.prog w = .ok (.slice a2 way.length c2) w) ∧
   StoIs qT B w0 (w.setCell ⟨mb, 10, none⟩ (.slice a2 way.length c2)) sb bs S ((mb, mailO e (.slice a2 way.length c2) rf) :: (Z ++ F)) c := by
 obtain ⟨a, cap, etv, -⟩ := SlIs.form hw
 rw [List.length_cons] at etv
 have hw0 : WayIs bs tv (i :: way) Z := hw
 subst etv
 obtain ⟨a1, c1, a2, c2, -, h2, -, h4⟩ := apQ.piece hw 1 (by rw [List.length_cons]; omega)
 have e1 : (i :: way).length - 1 = way.length := by rw [List.length_cons]; omega
 rw [e1] at h2 h4
 have hx : (ptrsOf bs (i :: way))[0]? = some (bpt pb) := by
  simp [ptrsOf, List.getD_eq_getElem?_getD, hb]
 obtain ⟨g, off, e2, k1⟩ := h.rowAt (a := a) (cp := cap) (F' := (mb, mailO e (.slice a (way.length + 1) cap) rf) :: F) hw0 (perm_by fun a => by simp only [List.count_append, List.count_cons]; omega) hx
 exact ⟨a, cap, a2, c2, rfl, ⟨g, off, e2, by simpa using k1⟩, h2, h4, h.setF 10 _⟩
theorem dead_pop {wv : Value} (hw : EnsIs wv (x :: W) Z) {F : List (Nat × Obj)} (h : StoIs qT B w0 w sb bs S ((db, deadO pb wv) :: (Z ++ F)) c) :
  ∃ a cap a2 c2, wv = .slice a (W.length + 1) cap ∧ (∃ g off, a = some ⟨g, off, none⟩ ∧ EnRow w g off x) ∧ EnsIs (.slice a2 W.length c2) W Z ∧
   (∀ w, (Instr.slice 46 wv (some (.int .i64 1)) none none).run Tryz.prog w = .ok (.slice a2 W.length c2) w) ∧
   StoIs qT B w0 (w.setCell ⟨db, 1, none⟩ (.slice a2 W.length c2)) sb bs S ((db, deadO pb (.slice a2 W.length c2)) :: (Z ++ F)) c := by
 obtain ⟨a, cap, etv, -⟩ := SlIs.form hw
 rw [List.length_cons] at etv
 subst etv
 obtain ⟨a1, c1, a2, c2, -, h2, -, h4⟩ := apE.piece hw 1 (by rw [List.length_cons]; omega)
 have e1 : (x :: W).length - 1 = W.length := by rw [List.length_cons]; omega
 have e2 : (entsV (x :: W)).drop (1 * 10) = entsV W := (entsV_drop (x :: W) 1 (by rw [List.length_cons]; omega)).symm
 rw [e1] at h2 h4
 rw [e2] at h2
 have hrd := h.reads (F' := (db, deadO pb (.slice a (W.length + 1) cap)) :: F) (M := x :: W) hw (perm_by fun a => by simp only [List.count_append, List.count_cons]; omega) 0 x rfl
 obtain ⟨g, off, e3, k1⟩ := hrd
 rw [Nat.zero_mul, Nat.add_zero] at k1
 exact ⟨a, cap, a2, c2, rfl, ⟨g, off, e3, k1⟩, h2, h4, h.setF 1 _⟩
theorem objsT_cons (m : Tm) (ts : List Tm) : objsT (m :: ts) = m.O ++ objsT ts := rfl
def StepR (qT : Bool) (B : Nat) (w0 : World) (sb : Nat) (bs : List Nat) (top : Option Nat) (C : Cf) (F : List (Nat × Obj)) (c : Nat) (e : Ending) (w' : World) : Prop := ∃ a n cp, e = .returned (.slice a n cp) ∧ CfIs qT B w0 w' sb bs top C (.slice a n cp) F c
set_option maxHeartbeats 1000000 in
theorem owed_step {OT : List (Nat × Obj)} (h : StoIs qT B w0 w sb bs S (Z ++ (objsT ts ++ (OT ++ F))) c) (hr : RowIs v (ts.map Tm.v) Z) (hts : ts.map Tm.t = TR) (hok : ∀ m ∈ ts, TmOk bs top r m) (htop : TopOk top TR r OT) (hone : OneTop TR) (hh : HeldOk S) (b : Int) :
  Calls Tryz.prog 372 #[.int .i64 b, bpt sb, v] w (StepR qT B w0 sb bs top (stepF ⟨S, .owed b :: TR, r⟩) F c) := by
 have cl := Lib.hid (st_letgo h hh (b := b) rfl)
 obtain ⟨a, cap, rfl⟩ := hr.form
 have fin : Hid (∀ w', StoIs qT B w0 w' sb bs (S.letGo b) (Z ++ (objsT ts ++ (OT ++ F))) c → StepR qT B w0 sb bs top (stepF ⟨S, .owed b :: TR, r⟩) F c (.returned (.slice a (ts.map Tm.v).length cap)) w') :=
  Lib.hid fun w' h' => ⟨_, _, _, rfl, ts, Z, OT, hts, hr, hok, htop, hone, h'⟩
 generalize (ts.map Tm.v).length = m at *
 generalize stepF _ = C2 at *
 generalize S.letGo b = S2 at *
 clear h hh hr hts hok htop hone
 go_enter Tryz.func372, Tryz.ntmps372
 go_wp2_with fail
 refine cl.out.mono ?_
 rintro e w1 ⟨rfl, h1⟩
 replace fin := Lib.hid (fin.out _ h1)
 clear cl h1
 go_wp2_with fail
 go_ret
 exact fin.out
end
end Go.Proofs.YtknjamfjonapiaaGreatDoor
namespace Go.Proofs.YtknjamfjonapiaaGreatDoor
open Go.RowKit
set_option linter.unusedVariables false
set_option linter.unusedSectionVars false
set_option linter.unusedSimpArgs false
set_option maxRecDepth 100000
section
variable {qT : Bool} {B : Nat} {w0 w w' : World} {sb slb xb pb qb gb c c' i k b mb db : Nat} {bs : List Nat} {S S' : Sto} {L : List Pq} {xv v wv : Value} {d d' : Plq} {R SX SS F F' Z Y Zw OT : List (Nat × Obj)} {o : Opt} {M W : List Ent} {G : List Gst} {T : Nat} {n : List UInt8} {q z bt : Int} {e e0 x : Ent} {g : Gst} {tv : Value} {rf r ok tp r' : Bool} {vs : List Value} {way : List Nat} {top : Option Nat} {ts : List Tm} {TR : List Tsk}
theorem one_tail {t : Tsk} (h : OneTop (t :: TR)) : OneTop TR := by
 unfold OneTop at *
 rw [List.filter_cons] at h
 split at h
 ·rw [List.length_cons] at h; omega
 ·exact h
theorem one_only {t : Tsk} (h : OneTop (t :: TR)) (ht : isTop t = true) : ∀ u ∈ TR, isTop u = false := by
 unfold OneTop at h
 rw [List.filter_cons, if_pos ht, List.length_cons] at h
 intro u hu
 cases hc : isTop u with
 | false => rfl
 | true =>
  have : 0 < (TR.filter isTop).length := List.length_pos_of_mem (List.mem_filter.2 ⟨hu, hc⟩)
  omega
theorem one_dead (h : OneTop TR) : OneTop (.dead i W :: TR) := h
theorem one_mail {way' : List Nat} (h : OneTop (.mail tp e way :: TR)) : OneTop (.mail tp e way' :: TR) := by cases tp <;> exact h
theorem any_none (h : ∀ u ∈ TR, isTop u = false) : TR.any isTop = false := by
 rw [List.any_eq_false]
 intro u hu
 simp [h u hu]
theorem tm_other {m : Tm} (h : TmOk bs top r m) (hm : isTop m.t = false) : TmOk bs top r' m := by
 obtain ⟨t, v, O⟩ := m
 cases t with
 | owed b => exact h
 | dead i W => exact h
 | mail tp e way =>
  have hm' : tp = false := hm
  subst hm'
  obtain ⟨mb, tv, Z, rf, h1, h2, h3, h4⟩ := h
  exact ⟨mb, tv, Z, rf, h1, by simp, h3, h4⟩
theorem mail_fin {way : List Nat} {tv2 v3 : Value} {rf' : Bool} {Z3 : List (Nat × Obj)} (h : StoIs qT B w0 w sb bs S ((db, deadO pb wv) :: (Y ++ ((mb, mailO e tv2 rf') :: (Zw ++ (Z3 ++ (objsT ts ++ (OT ++ F))))))) c)
  (hr3 : RowIs v3 (deadI db :: (if way = [] then ts.map Tm.v else mailI mb :: ts.map Tm.v)) Z3) (hy : EnsIs wv W Y) (hw : WayIs bs tv2 way Zw) (hb : bs[i]? = some pb) (hts : ts.map Tm.t = TR) (hok : ∀ m ∈ ts, TmOk bs top r m)
  (htop : TopOk top (.mail tp e (i :: way) :: TR) r OT) (hone : OneTop (.mail tp e (i :: way) :: TR)) (hrf : tp = true → top = some mb ∧ rf = r) (hr' : r' = if tp = true then r || !ok else r) (hrf' : rf' = if ok = true then rf else true) :
  CfIs qT B w0 w sb bs top ⟨S, .dead i W :: moreM tp e way TR, r'⟩ v3 F c := by
 have hdead : ∀ r, TmOk bs top r ⟨.dead i W, deadI db, (db, deadO pb wv) :: Y⟩ := fun r => ⟨db, wv, Y, pb, hb, rfl, rfl, hy⟩
 have hts2 : ∀ m ∈ ts, TmOk bs top r' m := fun m hm => by
  cases tp with
  | false => rw [hr', if_neg (by decide)]; exact hok m hm
  | true => exact tm_other (hok m hm) (one_only hone rfl _ (by rw [← hts]; exact List.mem_map_of_mem hm))
 have hrr : tp = true → rf' = r' := fun ht => by
  have := (hrf ht).2
  rw [hrf', hr', if_pos ht, this]
  cases ok <;> simp
 by_cases hway : way = []
 ·subst hway
  rw [if_pos rfl] at hr3
  have hm0 : moreM tp e [] TR = TR := rfl
  rw [hm0]
  cases tp with
  | false =>
   refine ⟨⟨.dead i W, deadI db, (db, deadO pb wv) :: Y⟩ :: ts, Z3, OT, by rw [List.map_cons, hts], hr3, ?_, ?_, ?_, ?_⟩
   ·intro m hm
    rcases List.mem_cons.1 hm with rfl | hm
    ·exact hdead _
    ·exact hts2 m hm
   ·rw [hr', if_neg (by decide)]
    cases top with
    | none => exact htop
    | some t => exact htop
   ·exact one_dead (one_tail hone)
   ·refine (h.permF ?_).sub (List.sublist_append_right ((mb, mailO e tv2 rf') :: Zw) _)
    exact perm_by fun a => by simp only [objsT_cons, List.count_append, List.count_cons]; omega
  | true =>
   have hno := any_none (one_only hone rfl)
   obtain ⟨ht1, -⟩ := hrf rfl
   subst ht1
   have hOT : OT = [] := by
    rcases htop with ⟨-, h⟩ | ⟨h, -⟩
    ·exact h
    ·simp [isTop] at h
   subst hOT
   refine ⟨⟨.dead i W, deadI db, (db, deadO pb wv) :: Y⟩ :: ts, Z3, [(mb, mailO e tv2 rf')], by rw [List.map_cons, hts], hr3, ?_, ?_, ?_, ?_⟩
   ·intro m hm
    rcases List.mem_cons.1 hm with rfl | hm
    ·exact hdead _
    ·exact hts2 m hm
   ·rw [hrr rfl]
    exact .inr ⟨by rw [List.any_cons, hno]; rfl, e, tv2, rfl⟩
   ·exact one_dead (one_tail hone)
   ·refine (h.permF ?_).sub (List.sublist_append_right Zw _)
    exact perm_by fun a => by simp only [objsT_cons, List.count_append, List.count_cons, List.count_nil]; omega
 ·rw [if_neg hway] at hr3
  have hm0 : moreM tp e way TR = .mail tp e way :: TR := if_neg hway
  rw [hm0]
  refine ⟨⟨.dead i W, deadI db, (db, deadO pb wv) :: Y⟩ :: ⟨.mail tp e way, mailI mb, (mb, mailO e tv2 rf') :: Zw⟩ :: ts, Z3, OT, by rw [List.map_cons, List.map_cons, hts], hr3, ?_, ?_, ?_, ?_⟩
  ·intro m hm
   rcases List.mem_cons.1 hm with rfl | hm
   ·exact hdead _
   ·rcases List.mem_cons.1 hm with rfl | hm
    ·exact ⟨mb, tv2, Zw, rf', rfl, fun ht => ⟨(hrf ht).1, hrr ht⟩, rfl, hw⟩
    ·exact hts2 m hm
  ·cases top with
   | none => exact htop
   | some t =>
    rcases htop with ⟨h1, h2⟩ | ⟨h1, h2⟩
    ·exact .inl ⟨h1, h2⟩
    ·have : tp = false := by cases tp; rfl; simp [isTop] at h1
     subst this
     rw [hr', if_neg (by decide)]
     exact .inr ⟨h1, h2⟩
  ·exact one_dead (one_mail hone)
  ·exact h.permF (perm_by fun a => by simp only [objsT_cons, List.count_append, List.count_cons]; omega)
theorem mail_end (h : StoIs qT B w0 w sb bs S (Z ++ ((mb, mailO e tv rf) :: (Zw ++ (objsT ts ++ (OT ++ F))))) c) (hr3 : RowIs v (ts.map Tm.v) Z) (hts : ts.map Tm.t = TR) (hok : ∀ m ∈ ts, TmOk bs top r m)
  (htop : TopOk top (.mail tp e [] :: TR) r OT) (hone : OneTop (.mail tp e [] :: TR)) (hrf : tp = true → top = some mb ∧ rf = r) : CfIs qT B w0 w sb bs top ⟨S, TR, r⟩ v F c := by
 cases tp with
 | false =>
  refine ⟨ts, Z, OT, hts, hr3, hok, ?_, one_tail hone, ?_⟩
  ·cases top with
   | none => exact htop
   | some t => exact htop
  ·refine (h.permF ?_).sub (List.sublist_append_right ((mb, mailO e tv rf) :: Zw) _)
   exact perm_by fun a => by simp only [List.count_append, List.count_cons]; omega
 | true =>
  have hno := any_none (one_only hone rfl)
  obtain ⟨ht1, hrr⟩ := hrf rfl
  subst ht1
  have hOT : OT = [] := by
   rcases htop with ⟨-, h⟩ | ⟨h, -⟩
   ·exact h
   ·simp [isTop] at h
  subst hOT
  refine ⟨ts, Z, [(mb, mailO e tv rf)], hts, hr3, hok, ?_, one_tail hone, ?_⟩
  ·rw [hrr]
   exact .inr ⟨hno, e, tv, rfl⟩
  ·refine (h.permF ?_).sub (List.sublist_append_right Zw _)
   exact perm_by fun a => by simp only [List.count_append, List.count_cons, List.count_nil]; omega
end
end Go.Proofs.YtknjamfjonapiaaGreatDoor
namespace Go.Proofs.YtknjamfjonapiaaGreatDoor
open Go.RowKit
set_option linter.unusedVariables false
set_option linter.unusedSectionVars false
set_option linter.unusedSimpArgs false
set_option maxRecDepth 100000
section
variable {qT : Bool} {B : Nat} {w0 w w' : World} {sb slb xb pb qb gb c c' i k b mb db : Nat} {bs : List Nat} {S S' : Sto} {L : List Pq} {xv v wv : Value} {d d' : Plq} {R SX SS F F' Z Y Zw OT : List (Nat × Obj)} {o : Opt} {M W : List Ent} {G : List Gst} {T : Nat} {n : List UInt8} {q z bt : Int} {e e0 x : Ent} {g : Gst} {tv : Value} {rf r ok tp r' : Bool} {vs : List Value} {way : List Nat} {top : Option Nat} {ts : List Tm} {TR : List Tsk}
theorem StoIs.mail (h : StoIs qT B w0 w sb bs S F c) (hm : (mb, mailO e tv rf) ∈ F) : EnAt w mb e ∧ w.cell? ⟨mb, 10, none⟩ = some tv ∧ w.cell? ⟨mb, 11, none⟩ = some (.bool rf) ∧ ∀ i, w.frozen? ⟨mb, i, none⟩ = false :=
 ⟨⟨h.cell hm rfl, h.cell hm rfl, h.cell hm rfl, h.cell hm rfl, h.cell hm rfl, h.cell hm rfl, h.cell hm rfl, h.cell hm rfl, h.cell hm rfl, h.cell hm rfl⟩, h.cell hm rfl, h.cell hm rfl, fun i => h.soft hm i⟩
theorem pl_put (h : StoIs qT B w0 w sb bs S F c) (hi : S.L[i]? = some d) (hb : bs[i]? = some pb) (h1 : e.exch.length ≤ 1000) (h2 : e.key.length ≤ 1000) (hl : d.M.length < 90000) {W N : List Ent} (hq : putF d.o d.M (forE e d.o S.now) = (ok, W, N)) (hc : w.cell? ⟨pb, 3, none⟩ = some (rptr qb)) :
  Calls Tryz.prog 358 #[rptr qb, enV e, .int .i64 S.now] w fun r w' => ∃ a cp Y, r = .returned (.tuple #[.bool ok, .slice a W.length cp]) ∧ EnsIs (.slice a W.length cp) W Y ∧ w'.cell? ⟨pb, 3, none⟩ = some (rptr qb) ∧ StoIs qT B w0 w' sb bs (S.setM i d N) (Y ++ F) c := by
 obtain ⟨pb', qb', gb, k1, k2, ⟨Zp, k3, k4⟩, -⟩ := h.place hi
 rw [hb] at k1
 obtain rfl := Option.some.inj k1
 have ec := k2.c3
 rw [hc] at ec
 cases ec
 refine (qu_put k3 (e := e) (by omega) (by omega) hl S.now).mono ?_
 rintro r w' ⟨ok', W', N', a, cp, Y, rfl, hp, hy, h5⟩
 have := hp.put k3.ok
 rw [hq] at this
 obtain ⟨rfl, rfl, rfl⟩ : ok = ok' ∧ W = W' ∧ N = N' := by simpa using this
 obtain ⟨h6, h7⟩ := k4 _ _ (Y ++ F) (h5.permF (perm_by fun a => by simp only [List.count_append]; omega))
 exact ⟨a, cp, Y, rfl, hy, h6.c3, h7⟩
theorem hold_now (S : Sto) (b : Int) : (S.hold b).now = S.now := by unfold Sto.hold; split <;> rfl
set_option maxHeartbeats 1000000 in
theorem mail_step0 (h : StoIs qT B w0 w sb bs S (Z ++ ((mb, mailO e tv rf) :: (Zw ++ (objsT ts ++ (OT ++ F))))) c) (hw : WayIs bs tv [] Zw) (hr : RowIs v (ts.map Tm.v) Z) (hts : ts.map Tm.t = TR) (hok : ∀ m ∈ ts, TmOk bs top r m)
  (htop : TopOk top (.mail tp e [] :: TR) r OT) (hone : OneTop (.mail tp e [] :: TR)) (hrf : tp = true → top = some mb ∧ rf = r) :
  Calls Tryz.prog 356 #[bpt mb, bpt sb, v] w (StepR qT B w0 sb bs top (stepF ⟨S, .mail tp e [] :: TR, r⟩) F c) := by
 have hc := mail_end h hr hts hok htop hone hrf
 have km := (h.mail (mb := mb) (List.mem_append_right _ List.mem_cons_self)).2.1
 obtain ⟨a, cap, rfl⟩ := hr.form
 obtain ⟨a1, c1, e1, -⟩ := SlIs.form hw
 subst e1
 have fin : Hid (StepR qT B w0 sb bs top (stepF ⟨S, .mail tp e [] :: TR, r⟩) F c (.returned (.slice a (ts.map Tm.v).length cap)) w) := Lib.hid ⟨_, _, _, rfl, hc⟩
 generalize (ts.map Tm.v).length = m at *
 generalize stepF _ = C2 at *
 clear h hr hts hok htop hone hc hw hrf
 go_enter Tryz.func356, Tryz.ntmps356
 go_wp2_with fail
 go_ret
 exact fin.out
set_option maxHeartbeats 8000000 in
theorem mail_step1 (h : StoIs qT B w0 w sb bs S (Z ++ ((mb, mailO e tv rf) :: (Zw ++ (objsT ts ++ (OT ++ F))))) c) (hw : WayIs bs tv (i :: way) Zw) (hr : RowIs v (ts.map Tm.v) Z) (hts : ts.map Tm.t = TR) (hok : ∀ m ∈ ts, TmOk bs top r m)
  (htop : TopOk top (.mail tp e (i :: way) :: TR) r OT) (hone : OneTop (.mail tp e (i :: way) :: TR)) (hrf : tp = true → top = some mb ∧ rf = r) (hi : S.L[i]? = some d)
  (he1 : e.exch.length ≤ 1000) (he2 : e.key.length ≤ 1000) (hlM : d.M.length < 90000) (hh : HeldOk S) (hh2 : HeldOk (S.hold e.body)) (hfew : ts.length ≤ 900000000000) (hwl : way.length ≤ 900000000000) :
  Calls Tryz.prog 356 #[bpt mb, bpt sb, v] w (StepR qT B w0 sb bs top (stepF ⟨S, .mail tp e (i :: way) :: TR, r⟩) F c) := by
 obtain ⟨pb, hpb⟩ := h.blk hi
 obtain ⟨ok, W, N, hq⟩ : ∃ ok W N, putF d.o d.M (forE e d.o S.now) = (ok, W, N) := ⟨_, _, _, rfl⟩
 obtain ⟨S1, hS1⟩ : ∃ S1, S.hold e.body = S1 := ⟨_, rfl⟩
 obtain ⟨S2, hS2⟩ : ∃ S2, S1.setM i d N = S2 := ⟨_, rfl⟩
 have hi1 : S1.L[i]? = some d := by rw [← hS1, hold_L]; exact hi
 have hnow : S1.now = S.now := by rw [← hS1, hold_now]
 have hstep : stepF ⟨S, .mail tp e (i :: way) :: TR, r⟩ = ⟨if ok = true then S2 else S2.letGo e.body, .dead i W :: moreM tp e way TR, if tp = true then r || !ok else r⟩ := by
  simp only [stepF, hi, hq, hS1, hS2]
 rw [hstep]
 have hm := h.permF (F' := (mb, mailO e tv rf) :: (Zw ++ (Z ++ (objsT ts ++ (OT ++ F))))) (perm_by fun a => by simp only [List.count_append, List.count_cons]; omega)
 obtain ⟨a, cap, a2, c2, rfl, ⟨g1, o1, rfl, k1⟩, hw2, hsl, h1⟩ := way_pop hw hpb hm
 obtain ⟨km, km10, km11, kms⟩ := hm.mail List.mem_cons_self
 obtain ⟨W1, hW1⟩ : ∃ W1, W1 = w.setCell ⟨mb, 10, none⟩ (.slice a2 way.length c2) := ⟨_, rfl⟩
 rw [← hW1] at h1
 obtain ⟨nm, nm10, nm11, nms⟩ := h1.mail List.mem_cons_self
 have rest : Hid (way ≠ [] → ∃ a3 c3 W2 Z2, (Builtin.append_ #[222, 222] 0 #[v, .slice (some ⟨W1.heap.size, 0, none⟩) 1 1]).run Tryz.prog (W1.alloc (.cells #[mailI mb] 221)) = .ok (.slice a3 ((ts.map Tm.v).length + 1) c3) W2 ∧
   RowIs (.slice a3 ((ts.map Tm.v).length + 1) c3) (mailI mb :: ts.map Tm.v) Z2 ∧ StoIs qT B w0 W2 sb bs S ((mb, mailO e (.slice a2 way.length c2) rf) :: (Zw ++ (Z2 ++ (objsT ts ++ (OT ++ F))))) c) := Lib.hid fun _ => by
  have h2 := h1.permF (F' := Z ++ ((mb, mailO e (.slice a2 way.length c2) rf) :: (Zw ++ (objsT ts ++ (OT ++ F))))) (perm_by fun a => by simp only [List.count_append, List.count_cons]; omega)
  obtain ⟨a3, c3, W2, Z2, q1, q2, q3⟩ := row_push h2 hr (u := mailI mb) rfl (by rw [List.length_map]; omega)
  exact ⟨a3, c3, W2, Z2, q1, q2, q3.permF (perm_by fun a => by simp only [List.count_append, List.count_cons]; omega)⟩
 have chd : Hid (∀ W2 Z2, StoIs qT B w0 W2 sb bs S ((mb, mailO e (.slice a2 way.length c2) rf) :: (Zw ++ (Z2 ++ (objsT ts ++ (OT ++ F))))) c → W2.cell? ⟨mb, 1, none⟩ = some (.int .i64 e.body) ∧ Calls Tryz.prog 357 #[bpt sb, .int .i64 e.body] W2 fun r w' => r = noneV ∧ ∃ qb, StoIs qT B w0 w'.drew sb bs S1 ((mb, mailO e (.slice a2 way.length c2) rf) :: (Zw ++ (Z2 ++ (objsT ts ++ (OT ++ F))))) c ∧
   Hid (w'.drew.cell? ⟨pb, 3, none⟩ = some (rptr qb) ∧ w'.drew.cell? ⟨sb, 5, none⟩ = some (.int .i64 S.now) ∧ EnAt w'.drew mb e)) := Lib.hid fun W2 Z2 h' => by
  refine ⟨(h'.mail List.mem_cons_self).1.2.1, (st_hold h' hh hS1).mono ?_⟩
  rintro r w' ⟨rfl, h3⟩
  have h4 := h3.grow (drew_b w')
  obtain ⟨qb, gb, hs⟩ := h4.seeP hpb hi1
  obtain ⟨slb, xv, v', hsee⟩ := h4.see
  refine ⟨rfl, qb, h4, Lib.hid ⟨hs.c3, ?_, (h4.mail List.mem_cons_self).1⟩⟩
  rw [← hnow]
  exact hsee.c5
 have cpt : Hid (∀ W2 Z2 qb, W2.cell? ⟨pb, 3, none⟩ = some (rptr qb) → StoIs qT B w0 W2 sb bs S1 ((mb, mailO e (.slice a2 way.length c2) rf) :: (Zw ++ (Z2 ++ (objsT ts ++ (OT ++ F))))) c → Calls Tryz.prog 358 #[rptr qb, enV e, .int .i64 S.now] W2 fun r w' => ∃ a cp Y, r = .returned (.tuple #[.bool ok, .slice a W.length cp]) ∧
   (EnsIs (.slice a W.length cp) W Y ∧ StoIs qT B w0 w' sb bs S2 ((mb, mailO e (.slice a2 way.length c2) rf) :: (Y ++ (Zw ++ (Z2 ++ (objsT ts ++ (OT ++ F)))))) c) ∧ (w'.cell? ⟨pb, 3, none⟩ = some (rptr qb) ∧ w'.cell? ⟨sb, 5, none⟩ = some (.int .i64 S.now) ∧ EnAt w' mb e)) := Lib.hid fun W2 Z2 qb hc h' => by
  have hq' := hq
  rw [← hnow] at hq' ⊢
  refine (pl_put h' hi1 hpb he1 he2 hlM hq' hc).mono ?_
  rintro r w' ⟨a, cp, Y, rfl, hy, k3, h5⟩
  rw [hS2] at h5
  have h6 := h5.permF (F' := (mb, mailO e (.slice a2 way.length c2) rf) :: (Y ++ (Zw ++ (Z2 ++ (objsT ts ++ (OT ++ F)))))) List.perm_middle
  obtain ⟨slb, xv, v', hsee⟩ := h6.see
  have e5 : S2.now = S1.now := by rw [← hS2]; rfl
  refine ⟨a, cp, Y, rfl, ⟨hy, h6⟩, k3, ?_, (h6.mail List.mem_cons_self).1⟩
  rw [← e5]
  exact hsee.c5
 have hh3 : HeldOk S2 := by rw [← hS2, ← hS1]; exact hh2
 have cno : Hid (∀ W4 X, StoIs qT B w0 W4 sb bs S2 ((mb, mailO e (.slice a2 way.length c2) rf) :: X) c → W4.frozen? ⟨mb, 11, none⟩ = false ∧ W4.cell? ⟨mb, 11, none⟩ = some (.bool rf) ∧ W4.cell? ⟨mb, 1, none⟩ = some (.int .i64 e.body) ∧ (W4.setCell ⟨mb, 11, none⟩ (.bool true)).cell? ⟨mb, 1, none⟩ = some (.int .i64 e.body) ∧
   Calls Tryz.prog 70 #[bpt sb, .int .i64 e.body] (W4.setCell ⟨mb, 11, none⟩ (.bool true)) fun r w' => r = noneV ∧ StoIs qT B w0 w' sb bs (S2.letGo e.body) ((mb, mailO e (.slice a2 way.length c2) true) :: X) c) := Lib.hid fun W4 X h' => by
  obtain ⟨m1, m2, m3, m4⟩ := h'.mail List.mem_cons_self
  have h2 : StoIs qT B w0 (W4.setCell ⟨mb, 11, none⟩ (.bool true)) sb bs S2 ((mb, mailO e (.slice a2 way.length c2) true) :: X) c := h'.setF 11 (.bool true)
  exact ⟨m4 11, m3, m1.2.1, (h2.mail List.mem_cons_self).1.2.1, st_letgo h2 hh3 rfl⟩
 have cde : Hid (∀ W5 Y Z2 v2 a cp S5 rf', EnsIs (.slice a W.length cp) W Y → RowIs v2 (if way = [] then ts.map Tm.v else mailI mb :: ts.map Tm.v) Z2 → S5 = (if ok = true then S2 else S2.letGo e.body) → rf' = (if ok = true then rf else true) → StoIs qT B w0 W5 sb bs S5 ((mb, mailO e (.slice a2 way.length c2) rf') :: (Y ++ (Zw ++ (Z2 ++ (objsT ts ++ (OT ++ F)))))) c →
   ∃ m a4 c4 W6, (Builtin.append_ #[222, 222] 0 #[v2, .slice (some ⟨W5.heap.size + 1, 0, none⟩) 1 1]).run Tryz.prog ((W5.alloc (deadO pb (.slice a W.length cp))).alloc (.cells #[deadI W5.heap.size] 221)) = .ok (.slice a4 m c4) W6 ∧
    StepR qT B w0 sb bs top ⟨if ok = true then S2 else S2.letGo e.body, .dead i W :: moreM tp e way TR, if tp = true then r || !ok else r⟩ F c (.returned (.slice a4 m c4)) W6) := Lib.hid fun W5 Y Z2 v2 a cp S5 rf' hy hr2 hS5 hrf' h' => by
  have h2 := h'.alloc (deadO pb (.slice a W.length cp))
  have h3 := h2.permF (F' := Z2 ++ ((W5.heap.size, deadO pb (.slice a W.length cp)) :: (Y ++ ((mb, mailO e (.slice a2 way.length c2) rf') :: (Zw ++ (objsT ts ++ (OT ++ F))))))) (perm_by fun a => by simp only [List.count_append, List.count_cons]; omega)
  obtain ⟨a4, c4, W6, Z3, q1, q2, q3⟩ := row_push h3 hr2 (u := deadI W5.heap.size) rfl (by split <;> simp <;> omega)
  rw [World.size_alloc] at q1
  refine ⟨_, a4, c4, W6, q1, _, _, _, rfl, ?_⟩
  rw [← hS5]
  refine mail_fin (q3.permF (F' := (W5.heap.size, deadO pb (.slice a W.length cp)) :: (Y ++ ((mb, mailO e (.slice a2 way.length c2) rf') :: (Zw ++ (Z3 ++ (objsT ts ++ (OT ++ F))))))) (perm_by fun a => by simp only [List.count_append, List.count_cons]; omega)) q2 hy hw2 hpb hts hok htop hone hrf rfl hrf'
 obtain ⟨va, vc, rfl⟩ := hr.form
 have hvl := Lib.hid (show (ts.map Tm.v).length = ts.length by rw [List.length_map])
 replace hW1 := Lib.hid hW1
 replace hr := Lib.hid hr
 replace h1 := Lib.hid h1
 generalize hC : (Cf.mk (if ok = true then S2 else S2.letGo e.body) (.dead i W :: moreM tp e way TR) (if tp = true then r || !ok else r)) = C2 at *
 generalize (ts.map Tm.v).length = vl at *
 obtain ⟨km0, -⟩ := km
 have kf := kms 10
 by_cases hwn : way = []
 ·subst hwn
  simp only [if_pos rfl] at cde
  simp only [List.length_nil] at *
  cases ok with
  | true =>
   clear h hm hq hS1 hS2 hi1 hnow hstep hts hok htop hone hrf hi he1 he2 hlM hh hh2 hh3 hfew hwl hw hw2 hpb hC nms nm hvl
   go_enter Tryz.func356, Tryz.ntmps356
   go_upto_region 5 with fail
   rw [← hW1.out]
   clear hW1 k1 hsl km10 km11 km0 kms kf
   obtain ⟨b1, ch⟩ := chd.out _ _ h1.out
   replace ch := Lib.hid ch
   clear chd rest h1
   go_wp2_with fail
   refine ch.out.mono ?_
   rintro r0 w3 ⟨rfl, qb, h4, hs0⟩
   clear ch
   go_wp2_with fail
   go_region_held3 (fun x => x.cell? ⟨pb, 3, none⟩ = some (rptr qb) ∧ x.cell? ⟨sb, 5, none⟩ = some (.int .i64 S.now) ∧ x.cell? ⟨mb, 0, none⟩ = some (.int .i64 e.id) ∧ x.cell? ⟨mb, 1, none⟩ = some (.int .i64 e.body) ∧ x.cell? ⟨mb, 2, none⟩ = some (.int .i64 e.size) ∧ x.cell? ⟨mb, 3, none⟩ = some (tx e.exch) ∧ x.cell? ⟨mb, 4, none⟩ = some (tx e.key) ∧ x.cell? ⟨mb, 5, none⟩ = some (.int .i64 e.prio) ∧ x.cell? ⟨mb, 6, none⟩ = some (.int .i64 e.ttl) ∧ x.cell? ⟨mb, 7, none⟩ = some (.int .i64 e.til) ∧ x.cell? ⟨mb, 8, none⟩ = some (.bool e.again) ∧ x.cell? ⟨mb, 9, none⟩ = some (.int .i64 e.hops)) (first | with_reducible exact kS | with_reducible exact hs0.out)
    ((go_at_call 358; refine (cpt.out _ _ _ hs0.out.1 (by assumption)).mono ?_; rintro r0 w4 ⟨pa, pc, Y, rfl, ⟨hy, h5⟩, kS⟩))
   obtain ⟨m, a4, c4, W6, hrun2, fin⟩ := cde.out _ _ _ _ pa pc S2 rf hy hr.out (by simp) (by simp) h5
   replace fin := Lib.hid fin
   clear hy h5 kS hs0 h4 cpt cde cno
   go_wp2_with (at_builtin; refine wpList_append_go rfl (.tmp 77) (.tmp 83) 222 222 rfl _ _ rfl rfl hrun2 ?_)
   go_ret
   exact fin.out
  | false =>
   clear h hm hq hS1 hS2 hi1 hnow hstep hts hok htop hone hrf hi he1 he2 hlM hh hh2 hh3 hfew hwl hw hw2 hpb hC nms nm hvl
   go_enter Tryz.func356, Tryz.ntmps356
   go_upto_region 5 with fail
   rw [← hW1.out]
   clear hW1 k1 hsl km10 km11 km0 kms kf
   obtain ⟨b1, ch⟩ := chd.out _ _ h1.out
   replace ch := Lib.hid ch
   clear chd rest h1
   go_wp2_with fail
   refine ch.out.mono ?_
   rintro r0 w3 ⟨rfl, qb, h4, hs0⟩
   clear ch
   go_wp2_with fail
   go_region_held3 (fun x => x.cell? ⟨pb, 3, none⟩ = some (rptr qb) ∧ x.cell? ⟨sb, 5, none⟩ = some (.int .i64 S.now) ∧ x.cell? ⟨mb, 0, none⟩ = some (.int .i64 e.id) ∧ x.cell? ⟨mb, 1, none⟩ = some (.int .i64 e.body) ∧ x.cell? ⟨mb, 2, none⟩ = some (.int .i64 e.size) ∧ x.cell? ⟨mb, 3, none⟩ = some (tx e.exch) ∧ x.cell? ⟨mb, 4, none⟩ = some (tx e.key) ∧ x.cell? ⟨mb, 5, none⟩ = some (.int .i64 e.prio) ∧ x.cell? ⟨mb, 6, none⟩ = some (.int .i64 e.ttl) ∧ x.cell? ⟨mb, 7, none⟩ = some (.int .i64 e.til) ∧ x.cell? ⟨mb, 8, none⟩ = some (.bool e.again) ∧ x.cell? ⟨mb, 9, none⟩ = some (.int .i64 e.hops)) (first | with_reducible exact kS | with_reducible exact hs0.out)
    ((go_at_call 358; refine (cpt.out _ _ _ hs0.out.1 (by assumption)).mono ?_; rintro r0 w4 ⟨pa, pc, Y, rfl, ⟨hy, h5⟩, kS⟩))
   obtain ⟨f11, j11, j1, j2, cl⟩ := cno.out _ _ h5
   replace cl := Lib.hid cl
   replace hy := Lib.hid hy
   clear h5 kS hs0 h4 cpt cno
   go_wp2_with fail
   refine cl.out.mono ?_
   rintro r0 w5 ⟨rfl, h6⟩
   clear cl
   obtain ⟨m, a4, c4, W6, hrun2, fin⟩ := cde.out _ _ _ _ pa pc (S2.letGo e.body) true hy.out hr.out (by simp) (by simp) h6
   replace fin := Lib.hid fin
   clear hy h6 cde
   go_wp2_with (at_builtin; refine wpList_append_go rfl (.tmp 77) (.tmp 83) 222 222 rfl _ _ rfl rfl hrun2 ?_)
   go_ret
   exact fin.out
 ·have hwp : (0 : Int) < way.length := by
   have : 0 < way.length := List.length_pos_iff.2 hwn
   omega
  cases ok with
  | true =>
   clear h hm hq hS1 hS2 hi1 hnow hstep hts hok htop hone hrf hi he1 he2 hlM hh hh2 hh3 hfew hwl hw hw2 hpb hC nms nm hvl
   go_enter Tryz.func356, Tryz.ntmps356
   go_upto_region 5 with fail
   rw [← hW1.out]
   clear hW1 k1 hsl km10 km11 km0 kms kf
   obtain ⟨a3, c3, W2, Z2, hrun, hr2, h2⟩ := rest.out hwn
   obtain ⟨b1, ch⟩ := chd.out _ _ h2
   replace ch := Lib.hid ch
   replace hr2 := Lib.hid hr2
   clear chd rest h2 h1 hr
   generalize vl + 1 = vl1 at *
   go_wp2_with (at_builtin; refine wpList_append_go rfl (.tmp 37) (.tmp 40) 222 222 rfl _ _ rfl rfl hrun ?_)
   refine ch.out.mono ?_
   rintro r0 w3 ⟨rfl, qb, h4, hs0⟩
   clear ch
   go_wp2_with fail
   go_region_held3 (fun x => x.cell? ⟨pb, 3, none⟩ = some (rptr qb) ∧ x.cell? ⟨sb, 5, none⟩ = some (.int .i64 S.now) ∧ x.cell? ⟨mb, 0, none⟩ = some (.int .i64 e.id) ∧ x.cell? ⟨mb, 1, none⟩ = some (.int .i64 e.body) ∧ x.cell? ⟨mb, 2, none⟩ = some (.int .i64 e.size) ∧ x.cell? ⟨mb, 3, none⟩ = some (tx e.exch) ∧ x.cell? ⟨mb, 4, none⟩ = some (tx e.key) ∧ x.cell? ⟨mb, 5, none⟩ = some (.int .i64 e.prio) ∧ x.cell? ⟨mb, 6, none⟩ = some (.int .i64 e.ttl) ∧ x.cell? ⟨mb, 7, none⟩ = some (.int .i64 e.til) ∧ x.cell? ⟨mb, 8, none⟩ = some (.bool e.again) ∧ x.cell? ⟨mb, 9, none⟩ = some (.int .i64 e.hops)) (first | with_reducible exact kS | with_reducible exact hs0.out)
    ((go_at_call 358; refine (cpt.out _ _ _ hs0.out.1 (by assumption)).mono ?_; rintro r0 w4 ⟨pa, pc, Y, rfl, ⟨hy, h5⟩, kS⟩))
   obtain ⟨m, a4, c4, W6, hrun2, fin⟩ := cde.out _ _ _ (.slice a3 vl1 c3) pa pc S2 rf hy (by rw [if_neg hwn]; exact hr2.out) (by simp) (by simp) h5
   replace fin := Lib.hid fin
   clear hy h5 kS hs0 h4 cpt cde cno
   go_wp2_with (at_builtin; refine wpList_append_go rfl (.tmp 77) (.tmp 83) 222 222 rfl _ _ rfl rfl hrun2 ?_)
   go_ret
   exact fin.out
  | false =>
   clear h hm hq hS1 hS2 hi1 hnow hstep hts hok htop hone hrf hi he1 he2 hlM hh hh2 hh3 hfew hwl hw hw2 hpb hC nms nm hvl
   go_enter Tryz.func356, Tryz.ntmps356
   go_upto_region 5 with fail
   rw [← hW1.out]
   clear hW1 k1 hsl km10 km11 km0 kms kf
   obtain ⟨a3, c3, W2, Z2, hrun, hr2, h2⟩ := rest.out hwn
   obtain ⟨b1, ch⟩ := chd.out _ _ h2
   replace ch := Lib.hid ch
   replace hr2 := Lib.hid hr2
   clear chd rest h2 h1 hr
   generalize vl + 1 = vl1 at *
   go_wp2_with (at_builtin; refine wpList_append_go rfl (.tmp 37) (.tmp 40) 222 222 rfl _ _ rfl rfl hrun ?_)
   refine ch.out.mono ?_
   rintro r0 w3 ⟨rfl, qb, h4, hs0⟩
   clear ch
   go_wp2_with fail
   go_region_held3 (fun x => x.cell? ⟨pb, 3, none⟩ = some (rptr qb) ∧ x.cell? ⟨sb, 5, none⟩ = some (.int .i64 S.now) ∧ x.cell? ⟨mb, 0, none⟩ = some (.int .i64 e.id) ∧ x.cell? ⟨mb, 1, none⟩ = some (.int .i64 e.body) ∧ x.cell? ⟨mb, 2, none⟩ = some (.int .i64 e.size) ∧ x.cell? ⟨mb, 3, none⟩ = some (tx e.exch) ∧ x.cell? ⟨mb, 4, none⟩ = some (tx e.key) ∧ x.cell? ⟨mb, 5, none⟩ = some (.int .i64 e.prio) ∧ x.cell? ⟨mb, 6, none⟩ = some (.int .i64 e.ttl) ∧ x.cell? ⟨mb, 7, none⟩ = some (.int .i64 e.til) ∧ x.cell? ⟨mb, 8, none⟩ = some (.bool e.again) ∧ x.cell? ⟨mb, 9, none⟩ = some (.int .i64 e.hops)) (first | with_reducible exact kS | with_reducible exact hs0.out)
    ((go_at_call 358; refine (cpt.out _ _ _ hs0.out.1 (by assumption)).mono ?_; rintro r0 w4 ⟨pa, pc, Y, rfl, ⟨hy, h5⟩, kS⟩))
   obtain ⟨f11, j11, j1, j2, cl⟩ := cno.out _ _ h5
   replace cl := Lib.hid cl
   replace hy := Lib.hid hy
   clear h5 kS hs0 h4 cpt cno
   go_wp2_with fail
   refine cl.out.mono ?_
   rintro r0 w5 ⟨rfl, h6⟩
   clear cl
   obtain ⟨m, a4, c4, W6, hrun2, fin⟩ := cde.out _ _ _ (.slice a3 vl1 c3) pa pc (S2.letGo e.body) true hy.out (by rw [if_neg hwn]; exact hr2.out) (by simp) (by simp) h6
   replace fin := Lib.hid fin
   clear hy h6 cde
   go_wp2_with (at_builtin; refine wpList_append_go rfl (.tmp 77) (.tmp 83) 222 222 rfl _ _ rfl rfl hrun2 ?_)
   go_ret
   exact fin.out
end
end Go.Proofs.YtknjamfjonapiaaGreatDoor
