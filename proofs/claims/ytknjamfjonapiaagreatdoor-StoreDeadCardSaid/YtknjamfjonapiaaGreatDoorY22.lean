import Derived.Test.YtknjamfjonapiaaGreatDoorY10
import Derived.Test.YtknjamfjonapiaaGreatDoorY21
import Derived.Test.YtknjamfjonapiaaGreatDoorY09
import Derived.Test.YtknjamfjonapiaaGreatDoorY17
namespace Go.Proofs.YtknjamfjonapiaaGreatDoor
open Go.RowKit
set_option linter.unusedVariables false
set_option maxRecDepth 100000
abbrev OpAt (wr : World) (b : Nat) (e : Opt) : Prop := wr.cell? ⟨b, 0, none⟩ = some (tx e.dead) ∧ wr.cell? ⟨b, 1, none⟩ = some (tx e.deadKey) ∧ wr.cell? ⟨b, 2, none⟩ = some (.int .i64 e.maxLen) ∧ wr.cell? ⟨b, 3, none⟩ = some (.int .i64 e.ttl) ∧ wr.cell? ⟨b, 4, none⟩ = some (.int .i64 e.prio) ∧ wr.cell? ⟨b, 5, none⟩ = some (.int .i64 e.bits)
theorem OpAt.step {w wr : World} {b : Nat} {e : Opt} (h : OpAt w b e) (hb : Below w.heap.size w wr) : OpAt wr b e := by
 obtain ⟨h0, h1, h2, h3, h4, h5⟩ := h
 have lt := World.block_lt_of_cell? w _ h0
 exact ⟨(hb.cell (p := ⟨b, 0, none⟩) lt).trans h0, (hb.cell (p := ⟨b, 1, none⟩) lt).trans h1, (hb.cell (p := ⟨b, 2, none⟩) lt).trans h2, (hb.cell (p := ⟨b, 3, none⟩) lt).trans h3, (hb.cell (p := ⟨b, 4, none⟩) lt).trans h4, (hb.cell (p := ⟨b, 5, none⟩) lt).trans h5⟩
theorem OpAt.start (w : World) (e : Opt) : OpAt (w.alloc (opO e)) w.heap.size e := by
 refine ⟨?_, ?_, ?_, ?_, ?_, ?_⟩ <;> simp
abbrev Op2 (w wr : World) (x y : Nat) (a b : Opt) : Prop := Below w.heap.size w wr ∧ OpAt wr x a ∧ OpAt wr y b
theorem op2Hold {w wa wb : World} {x y : Nat} {a b : Opt} (h : Op2 w wa x y a b) (hb : Below wa.heap.size wa wb) : Op2 w wb x y a b := ⟨bel h.1 hb, h.2.1.step hb, h.2.2.step hb⟩
theorem op2Start (w : World) (a b : Opt) : Op2 w ((w.alloc (opO a)).alloc (opO b)) w.heap.size (w.heap.size + 1) a b := by
 have h2 := OpAt.start (w.alloc (opO a)) b
 rw [World.size_alloc] at h2
 exact ⟨two_new _ _ _, (OpAt.start w a).step (new_below _ _), h2⟩
abbrev Parts (r : Bool) (d1 k1 : List UInt8) (m1 t1 p1 q1 : Int) (d2 k2 : List UInt8) (m2 t2 p2 q2 : Int) : Prop :=
 (r = false ∧ (d1 == d2) = false) ∨ (r = false ∧ d1 = d2 ∧ (k1 == k2) = false) ∨ (r = false ∧ d1 = d2 ∧ k1 = k2 ∧ (m1 == m2) = false) ∨ (r = false ∧ d1 = d2 ∧ k1 = k2 ∧ m1 = m2 ∧ (t1 == t2) = false) ∨ (r = false ∧ d1 = d2 ∧ k1 = k2 ∧ m1 = m2 ∧ t1 = t2 ∧ (p1 == p2) = false) ∨ (r = false ∧ d1 = d2 ∧ k1 = k2 ∧ m1 = m2 ∧ t1 = t2 ∧ p1 = p2 ∧ (q1 == q2) = false) ∨ (r = true ∧ d1 = d2 ∧ k1 = k2 ∧ m1 = m2 ∧ t1 = t2 ∧ p1 = p2 ∧ q1 = q2)
abbrev LastC (a : Opt) (d k : List UInt8) (m t p q : Int) : Prop := ∀ w, Calls Tryz.prog 198 #[opV a] w fun r w' => r = .returned (.agg #[tx d, tx k, .int .i64 m, .int .i64 t, .int .i64 p, .int .i64 q]) ∧ Below w.heap.size w w'
set_option maxHeartbeats 2000000 in
theorem same_parts {a b : Opt} {r : Bool} {d1 k1 : List UInt8} {m1 t1 p1 q1 : Int} {d2 k2 : List UInt8} {m2 t2 p2 q2 : Int} (hc1 : LastC a d1 k1 m1 t1 p1 q1) (hc2 : LastC b d2 k2 m2 t2 p2 q2) (h : Parts r d1 k1 m1 t1 p1 q1 d2 k2 m2 t2 p2 q2) (w : World) :
  Calls Tryz.prog 137 #[opV a, opV b] w fun x w' => x = .returned (.bool r) ∧ Below w.heap.size w w' := by
 have c1 := Lib.hid hc1
 have c2 := Lib.hid hc2
 have hS0 := Lib.hid (op2Hold (op2Start w a b) (drew_b _))
 clear hc1 hc2
 rcases h with ⟨rfl, hc⟩ | ⟨rfl, rfl, hc⟩ | ⟨rfl, rfl, rfl, hc⟩ | ⟨rfl, rfl, rfl, rfl, hc⟩ | ⟨rfl, rfl, rfl, rfl, rfl, hc⟩ | ⟨rfl, rfl, rfl, rfl, rfl, rfl, hc⟩ | ⟨rfl, rfl, rfl, rfl, rfl, rfl, rfl⟩
 all_goals
  go_enter Tryz.func137, Tryz.ntmps137
  go_wp2_with fail
  go_region_held3 (fun wr => Below w.heap.size w wr ∧ (wr.cell? ⟨w.heap.size, 0, none⟩ = some (tx a.dead) ∧ wr.cell? ⟨w.heap.size, 1, none⟩ = some (tx a.deadKey) ∧ wr.cell? ⟨w.heap.size, 2, none⟩ = some (.int .i64 a.maxLen) ∧ wr.cell? ⟨w.heap.size, 3, none⟩ = some (.int .i64 a.ttl) ∧ wr.cell? ⟨w.heap.size, 4, none⟩ = some (.int .i64 a.prio) ∧ wr.cell? ⟨w.heap.size, 5, none⟩ = some (.int .i64 a.bits)) ∧ (wr.cell? ⟨w.heap.size + 1, 0, none⟩ = some (tx b.dead) ∧ wr.cell? ⟨w.heap.size + 1, 1, none⟩ = some (tx b.deadKey) ∧ wr.cell? ⟨w.heap.size + 1, 2, none⟩ = some (.int .i64 b.maxLen) ∧ wr.cell? ⟨w.heap.size + 1, 3, none⟩ = some (.int .i64 b.ttl) ∧ wr.cell? ⟨w.heap.size + 1, 4, none⟩ = some (.int .i64 b.prio) ∧ wr.cell? ⟨w.heap.size + 1, 5, none⟩ = some (.int .i64 b.bits))) (first | exact hS0.out | exact op2Hold (by assumption) hb) (first
   | (go_at_call 198; refine (c1.out _).mono ?_; rintro e w'' ⟨rfl, hb⟩)
   | (go_at_call 198; refine (c2.out _).mono ?_; rintro e w'' ⟨rfl, hb⟩))
  rename_i hHeld
  have fin := Lib.hid hHeld.1
  clear hHeld
  go_wp2_with fail
  go_ret
  exact ⟨rfl, fin.out⟩
theorem parts_of (a b : Opt) : Parts (sameO a b) a.dead a.deadKey a.maxLen a.ttl a.prio (lastB a.bits) b.dead b.deadKey b.maxLen b.ttl b.prio (lastB b.bits) := by
 unfold sameO
 by_cases h0 : a.dead = b.dead
 rotate_left
 ·exact .inl ⟨by simp [h0], by simpa using h0⟩
 by_cases h1 : a.deadKey = b.deadKey
 rotate_left
 ·exact .inr (.inl ⟨by simp [h1], h0, by simpa using h1⟩)
 by_cases h2 : a.maxLen = b.maxLen
 rotate_left
 ·exact .inr (.inr (.inl ⟨by simp [h2], h0, h1, by simpa using h2⟩))
 by_cases h3 : a.ttl = b.ttl
 rotate_left
 ·exact .inr (.inr (.inr (.inl ⟨by simp [h3], h0, h1, h2, by simpa using h3⟩)))
 by_cases h4 : a.prio = b.prio
 rotate_left
 ·exact .inr (.inr (.inr (.inr (.inl ⟨by simp [h4], h0, h1, h2, h3, by simpa using h4⟩))))
 by_cases h5 : lastB a.bits = lastB b.bits
 rotate_left
 ·exact .inr (.inr (.inr (.inr (.inr (.inl ⟨by simp [h5], h0, h1, h2, h3, h4, by simpa using h5⟩)))))
 exact .inr (.inr (.inr (.inr (.inr (.inr ⟨by simp [h0, h1, h2, h3, h4, h5], h0, h1, h2, h3, h4, h5⟩)))))
theorem same_any (a b : Opt) (w : World) : Calls Tryz.prog 137 #[opV a, opV b] w fun x w' => x = .returned (.bool (sameO a b)) ∧ Below w.heap.size w w' :=
 same_parts (lasting_any a) (lasting_any b) (parts_of a b) w
end Go.Proofs.YtknjamfjonapiaaGreatDoor
namespace Go.Proofs.YtknjamfjonapiaaGreatDoor
open Go.RowKit
set_option linter.unusedVariables false
set_option linter.unusedSectionVars false
set_option linter.unusedSimpArgs false
set_option maxRecDepth 100000
section
variable {qT : Bool} {B : Nat} {w0 w w' : World} {sb slb xb pb qb gb c c' i k b : Nat} {bs : List Nat} {S S' : Sto} {L : List Pq} {xv v : Value} {d d' : Plq} {R SX SS F F' Z : List (Nat × Obj)} {o : Opt} {M : List Ent} {G : List Gst} {T : Nat} {n : List UInt8} {q z bt : Int} {e e0 : Ent} {g : Gst}
theorem QuIs.opC (h : QuIs B w0 w qb o M F) {b : Nat} {x : Opt} (hm : (b, opO x) ∈ F) : OpC w b x := by
 obtain ⟨Z, z1, -⟩ := h.beside
 exact z1.opC (List.mem_append_right _ hm)
set_option maxHeartbeats 4000000 in
theorem newplaceS_any (hT : qT = true → Tab B w0) (hst : St B w0 w F) (n : List UInt8) (k q : Int) (o : Opt) (hn : n.length ≤ 140737488351232) (h1 : o.dead.length ≤ 140737488351232) (h2 : o.deadKey.length ≤ 140737488351232) :
  Calls Tryz.prog 139 #[tx n, .int .i64 k, .int .i64 q, opV o] w fun e w' => ∃ p : Pq, e = .returned (bpt p.b) ∧ p.d = ⟨n, k, q, o, [], [], 0⟩ ∧ PqOk qT B w0 p ∧ St B w0 w' (p.objs ++ F) := by
 have hs1 := hst.alloc (opO o)
 have hs2 : St B w0 (w.alloc (opO o)).drew ((w.heap.size, opO o) :: F) := hs1.drew
 have hs0 : Hid (OpC (w.alloc (opO o)).drew w.heap.size o) := Lib.hid (hs2.opC List.mem_cons_self)
 have c1 : Hid (∀ W, St B w0 W ((w.heap.size, opO o) :: F) → Calls Tryz.prog 154 #[tx n] W fun e w' => e = .returned (tx n) ∧ St B w0 w' ((w.heap.size, opO o) :: F) ∧ OpC w' w.heap.size o) := Lib.hid fun W h => (clone_any n W hn).mono (by
  rintro e w' ⟨rfl, hb⟩
  have h3 := h.grow hb
  exact ⟨rfl, h3, h3.opC List.mem_cons_self⟩)
 have c2 : Hid (∀ W, St B w0 W ((w.heap.size, opO o) :: F) → Calls Tryz.prog 199 #[opV o] W fun e w' => ∃ qb, e = .returned (rptr qb) ∧ QuIs B w0 w' qb o [] ((w.heap.size, opO o) :: F) ∧ OpC w' w.heap.size o) := Lib.hid fun W h => (qu_new h h1 h2).mono (by
  rintro e w' ⟨qb, rfl, h3⟩
  exact ⟨qb, rfl, h3, h3.opC List.mem_cons_self⟩)
 have c3 : Hid (∀ W qb, QuIs B w0 W qb o [] ((w.heap.size, opO o) :: F) → Calls Tryz.prog 200 #[] W fun e w' => ∃ gb, e = .returned (gup gb) ∧ (∃ SQ SG, QuIn B w0 qb o [] SQ ∧ GuIn qT B w0 gb [] 0 SG ∧ St B w0 w' (SG ++ (SQ ++ ((w.heap.size, opO o) :: F)))) ∧ OpC w' w.heap.size o) := Lib.hid fun W qb h => by
  obtain ⟨SQ, q1, q2⟩ := h.in_
  refine (gu_new hT q1).mono ?_
  rintro e w' ⟨gb, rfl, h4⟩
  obtain ⟨SG, g1, g2⟩ := h4.in_
  exact ⟨gb, rfl, ⟨SQ, SG, q2, g2, g1⟩, g1.opC (List.mem_append_right _ (List.mem_append_right _ List.mem_cons_self))⟩
 have fin : Hid (∀ W qb gb, (∃ SQ SG, QuIn B w0 qb o [] SQ ∧ GuIn qT B w0 gb [] 0 SG ∧ St B w0 W (SG ++ (SQ ++ ((w.heap.size, opO o) :: F)))) → ∃ p : Pq, Ending.returned (bpt W.heap.size) = .returned (bpt p.b) ∧ p.d = ⟨n, k, q, o, [], [], 0⟩ ∧ PqOk qT B w0 p ∧ St B w0 (W.alloc (pqO ⟨n, k, q, o, [], [], 0⟩ qb gb)) (p.objs ++ F)) := Lib.hid fun W qb gb ⟨SQ, SG, a1, a2, a3⟩ => by
  refine ⟨⟨W.heap.size, qb, gb, ⟨n, k, q, o, [], [], 0⟩, SQ, SG⟩, rfl, rfl, ⟨a1, a2⟩, ?_⟩
  have hp : ((W.heap.size, pqO ⟨n, k, q, o, [], [], 0⟩ qb gb) :: (SG ++ (SQ ++ ((w.heap.size, opO o) :: F)))).Perm ((w.heap.size, opO o) :: ((⟨W.heap.size, qb, gb, ⟨n, k, q, o, [], [], 0⟩, SQ, SG⟩ : Pq).objs ++ F)) := perm_by fun a => by
   simp only [Pq.objs, List.count_append, List.count_cons]; omega
  exact ((a3.alloc _).perm hp).sub (List.sublist_cons_self _ _)
 obtain ⟨W0, hW⟩ : ∃ W0, W0 = w.alloc (opO o) := ⟨_, rfl⟩
 rw [← hW] at hs2 hs0
 replace hW := Lib.hid hW
 clear hs1 hst hn h1 h2 hT
 go_enter Tryz.func139, Tryz.ntmps139
 go_upto_region 1 with fail
 rw [← hW.out]
 clear hW
 generalize w.heap.size = nb at *
 go_wp2_with fail
 go_region_held3 (fun x => x.cell? ⟨nb, 0, none⟩ = some (tx o.dead) ∧ x.cell? ⟨nb, 1, none⟩ = some (tx o.deadKey) ∧ x.cell? ⟨nb, 2, none⟩ = some (.int .i64 o.maxLen) ∧ x.cell? ⟨nb, 3, none⟩ = some (.int .i64 o.ttl) ∧ x.cell? ⟨nb, 4, none⟩ = some (.int .i64 o.prio) ∧ x.cell? ⟨nb, 5, none⟩ = some (.int .i64 o.bits))
  (first | with_reducible exact kS | with_reducible exact hs0.out | go_keep) (first
  | (go_at_call 154; refine (c1.out _ (by assumption)).mono ?_; rintro r w2 ⟨rfl, hA, kS⟩)
  | (go_at_call 199; refine (c2.out _ (by assumption)).mono ?_; rintro r w2 ⟨qb, rfl, hQ, kS⟩)
  | (go_at_call 200; refine (c3.out _ _ (by assumption)).mono ?_; rintro r w2 ⟨gb, rfl, hG, kS⟩))
 have f := Lib.hid (fin.out _ _ _ hG)
 clear hG hQ hA hs2 hs0 kS c1 c2 c3 fin
 go_wp2_with fail
 go_ret
 exact f.out
theorem StoIs.mostW (h : StoIs qT B w0 w sb bs S F c) : Most w.heap.size w := by
 obtain ⟨O, o1, -⟩ := h.beside
 exact (h.tab.2.below h.below).mono o1.base
theorem push_st {p : Pq} {a : Option Addr} {cap : Nat} (h1 : StoIn qT B w0 bs S L slb xv (.slice a bs.length cap) R SX SS c) (h2 : St B w0 w (p.objs ++ (stoO sb slb xv (.slice a bs.length cap) S L R SX SS ++ F))) (ok : PqOk qT B w0 p) (hf : FineS { S with L := S.L ++ [p.d] }) :
  (w.cell? ⟨sb, 2, none⟩ = some (.slice a bs.length cap) ∧ w.cell? ⟨sb, 3, none⟩ = some (.int .i64 S.num) ∧ (w.alloc (.cells #[bpt p.b] 131)).cell? ⟨sb, 2, none⟩ = some (.slice a bs.length cap)) ∧
  ∃ a2 cap2 W3, AppRun Tryz.prog 90 (.slice a bs.length cap) (.slice (some ⟨w.heap.size, 0, none⟩) 1 1) (w.alloc (.cells #[bpt p.b] 131)) (.slice a2 (bs.length + 1) cap2) W3 ∧
   (W3.cell? ⟨sb, 2, none⟩ = some (.slice a bs.length cap) ∧ W3.frozen? ⟨sb, 2, none⟩ = false) ∧
   StoIs qT B w0 (W3.setCell ⟨sb, 2, none⟩ (.slice a2 (bs.length + 1) cap2)) sb (bs ++ [p.b]) { S with L := S.L ++ [p.d] } F c := by
 have hbl : bs.length ≤ 8 := by
  have : bs.length = S.L.length := by rw [← h1.data, ← h1.blks, List.length_map, List.length_map]
  have := h1.fine.few
  omega
 have m0 : (sb, soO slb xv (.slice a bs.length cap) S) ∈ p.objs ++ (stoO sb slb xv (.slice a bs.length cap) S L R SX SS ++ F) := List.mem_append_right _ (List.mem_append_left _ List.mem_cons_self)
 have hsee := h2.seeS m0
 have h3 := h2.alloc (.cells #[bpt p.b] 131)
 have hpm : ∀ (v : Value) R, ((w.heap.size, Obj.cells #[bpt p.b] 131 (0, 0)) :: (p.objs ++ (stoO sb slb xv v S L R SX SS ++ F))).Perm (((sb, soO slb xv v S) :: ((w.heap.size, Obj.cells #[bpt p.b] 131 (0, 0)) :: (p.objs ++ (SX ++ (SS ++ pqsO L) ++ F)))) ++ R) := fun v R => perm_by fun a => by
  simp only [stoO, List.count_append, List.count_cons]; omega
 obtain ⟨a2, cap2, W3, R', hrun, hsl, hst⟩ := apQ.append h1.sl (h3.perm (hpm _ R)) (Reads.one w (bpt p.b) 131) (fun u hu => by rw [List.mem_singleton] at hu; subst hu; rfl) (by unfold maxLen; omega) (by omega)
 have hst' : St B w0 W3 ((sb, soO slb xv (.slice a bs.length cap) S) :: (((w.heap.size, Obj.cells #[bpt p.b] 131 (0, 0)) :: (p.objs ++ (SX ++ (SS ++ pqsO L) ++ F))) ++ R')) := hst
 refine ⟨⟨hsee.c2, hsee.c3, (h3.seeS (List.mem_cons_of_mem _ m0)).c2⟩, a2, cap2, W3, ⟨hrun⟩, ⟨hst'.cell List.mem_cons_self rfl, hst'.soft List.mem_cons_self 2⟩, ?_⟩
 have hst4 : St B w0 (W3.setCell ⟨sb, 2, none⟩ (.slice a2 (bs.length + 1) cap2)) ((sb, soO slb xv (.slice a2 (bs.length + 1) cap2) S) :: (((w.heap.size, Obj.cells #[bpt p.b] 131 (0, 0)) :: (p.objs ++ (SX ++ (SS ++ pqsO L) ++ F))) ++ R')) := hst'.set0 2 _
 have e : stoO sb slb xv (.slice a2 (bs.length + 1) cap2) { S with L := S.L ++ [p.d] } (L ++ [p]) R' SX SS = (sb, soO slb xv (.slice a2 (bs.length + 1) cap2) S) :: (R' ++ (SX ++ (SS ++ pqsO (L ++ [p])))) := rfl
 have hpp : ((sb, soO slb xv (.slice a2 (bs.length + 1) cap2) S) :: (((w.heap.size, Obj.cells #[bpt p.b] 131 (0, 0)) :: (p.objs ++ (SX ++ (SS ++ pqsO L) ++ F))) ++ R')).Perm ((w.heap.size, Obj.cells #[bpt p.b] 131 (0, 0)) :: (stoO sb slb xv (.slice a2 (bs.length + 1) cap2) { S with L := S.L ++ [p.d] } (L ++ [p]) R' SX SS ++ F)) := perm_by fun a => by
  rw [e]
  simp only [pqsO, List.flatMap_append, List.flatMap_cons, List.flatMap_nil, List.append_nil, List.count_append, List.count_cons]; omega
 refine ⟨L ++ [p], slb, xv, _, R', SX, SS, ⟨by rw [List.map_append, h1.data]; rfl, by rw [List.map_append, h1.blks]; rfl, ?_, h1.slab, h1.ways, fun x hx => ?_, hf, h1.tab, h1.most, h1.c1⟩, (hst4.perm hpp).sub (List.sublist_cons_self _ _)⟩
 ·rw [List.length_append, List.map_append]; exact hsl
 ·rcases List.mem_append.1 hx with hx | hx
  ·exact h1.pls x hx
  ·rw [List.mem_singleton] at hx; subst hx; exact ok
theorem FineS.push (h : FineS S) (hn : isNm n = true) (ho : isO o = true) (hi : S.idx n = none) (hl : S.L.length < 8) : FineS { S with num := S.num + 1, L := S.L ++ [⟨n, S.num + 1, q, o, [], [], 0⟩] } := by
 have hno : ∀ p ∈ S.L, p.name ≠ n := fun p hp => by
  have := List.findIdx?_eq_none_iff.1 hi p hp
  simpa using this
 have h0 := h.num0
 refine ⟨by simp only [List.length_append, List.length_singleton]; omega, ?_, ?_, fun p hp => ?_, by simp only; omega, fun p hp => ?_, h.fine⟩
 ·simp only [List.map_append, List.map_cons, List.map_nil]
  refine List.nodup_append.2 ⟨h.once, by simp, fun x hx y hy => ?_⟩
  obtain ⟨p, hp, rfl⟩ := List.mem_map.1 hx
  rw [List.mem_singleton] at hy
  subst hy
  exact hno p hp
 ·simp only [List.map_append, List.map_cons, List.map_nil]
  refine List.nodup_append.2 ⟨h.nums, by simp, fun x hx y hy => ?_⟩
  obtain ⟨p, hp, rfl⟩ := List.mem_map.1 hx
  rw [List.mem_singleton] at hy
  subst hy
  have := h.top p hp
  omega
 ·rcases List.mem_append.1 hp with hp | hp
  ·have := h.top p hp
   simp only; omega
  ·rw [List.mem_singleton] at hp; subst hp; exact Int.le_refl _
 ·rcases List.mem_append.1 hp with hp | hp
  ·exact h.each p hp
  ·rw [List.mem_singleton] at hp; subst hp; exact ⟨hn, ho⟩
end
end Go.Proofs.YtknjamfjonapiaaGreatDoor
namespace Go.Proofs.YtknjamfjonapiaaGreatDoor
open Go.RowKit
set_option linter.unusedVariables false
set_option linter.unusedSectionVars false
set_option linter.unusedSimpArgs false
set_option maxRecDepth 100000
section
variable {qT : Bool} {B : Nat} {w0 w w' : World} {sb slb xb pb qb gb c c' i k b : Nat} {bs : List Nat} {S S' : Sto} {L : List Pq} {xv v : Value} {d d' : Plq} {R SX SS F F' Z : List (Nat × Obj)} {o : Opt} {M : List Ent} {G : List Gst} {T : Nat} {n : List UInt8} {q z bt : Int} {e e0 : Ent} {g : Gst}
theorem StoIs.opC (h : StoIs qT B w0 w sb bs S F c) {b : Nat} {x : Opt} (hm : (b, opO x) ∈ F) : OpC w b x := by
 obtain ⟨O, z1, -⟩ := h.beside
 exact z1.opC (List.mem_append_right _ hm)
def DeclR (qT : Bool) (B : Nat) (w0 : World) (sb : Nat) (S' : Sto) (F : List (Nat × Obj)) (c : Nat) (z : Int) (e : Ending) (w' : World) : Prop := e = .returned (.int .i64 z) ∧ ∃ bs', StoIs qT B w0 w' sb bs' S' F c
set_option maxHeartbeats 4000000 in
theorem st_declare (h : StoIs qT B w0 w sb bs S F c) (n : List UInt8) (o : Opt) (q : Int) (hnum : S.num < 4611686018427387904) {S' : Sto} {z : Int} (hS : S.declare n o q = (S', z)) :
  Calls Tryz.prog 75 #[bpt sb, tx n, opV o, .int .i64 q] w (DeclR qT B w0 sb S' F c z) := by
 have h0 := h.alloc (opO o)
 have hsub : Hid (∀ w' bs', StoIs qT B w0 w' sb bs' S ((w.heap.size, opO o) :: F) c → ∃ bs', StoIs qT B w0 w' sb bs' S F c) := Lib.hid fun w' bs' h' => ⟨bs', h'.sub (List.sublist_cons_self _ _)⟩
 have cn := Lib.hid (fun w => isname_any n w)
 have hcell := Lib.hid (fun w1 (h' : StoIs qT B w0 w1 sb bs S ((w.heap.size, opO o) :: F) c) => h'.opC (x := o) List.mem_cons_self)
 have cio : Hid (∀ w1, StoIs qT B w0 w1 sb bs S ((w.heap.size, opO o) :: F) c → Calls Tryz.prog 136 #[opV o] w1 fun x w' => x = .returned (.bool (isO o)) ∧ StoIs qT B w0 w' sb bs S ((w.heap.size, opO o) :: F) c) := Lib.hid fun w1 h' => (isopts_any o w1 h'.mostW).mono (by
  rintro x w' ⟨rfl, hb⟩
  exact ⟨rfl, h'.grow hb⟩)
 unfold Sto.declare at hS
 have hdn := Lib.hid (h.fine)
 by_cases hbad : isNm n = false ∨ isO o = false
 ·rw [if_pos hbad] at hS
  obtain ⟨rfl, rfl⟩ := Prod.mk.inj hS
  have co := Lib.hid (st_open h0 n q)
  obtain ⟨pv, hpv⟩ : ∃ pv : Option Nat, ptrQ bs ((S.open_ n q).2.map (·.1)) = ptrO pv := ⟨_, rfl⟩
  rw [hpv] at co
  generalize (S.open_ n q).1 = y at *
  cases hnm : isNm n with
  | false =>
   rw [hnm] at cn
   clear h h0 hS hbad hnm hpv cio hcell hdn hnum
   unfold DeclR
   go_enter Tryz.func75, Tryz.ntmps75
   go_wp2_with fail
   refine co.out.mono ?_
   rintro r w1 ⟨rfl, hx⟩
   have fin := Lib.hid (hsub.out _ _ hx)
   clear co hx hsub
   go_wp2_with fail
   refine (cn.out w1).mono ?_
   rintro r w2 ⟨rfl, rfl⟩
   clear cn
   go_wp2_with fail
   go_ret
   exact ⟨rfl, fin.out⟩
  | true =>
   have ho : isO o = false := by rcases hbad with h | h; (rw [hnm] at h; cases h); exact h
   rw [hnm] at cn
   rw [ho] at cio
   clear h h0 hS hbad hnm hpv hdn hnum ho
   unfold DeclR
   go_enter Tryz.func75, Tryz.ntmps75
   go_wp2_with fail
   refine co.out.mono ?_
   rintro r w1 ⟨rfl, hx⟩
   obtain ⟨j0, j1, j2, j3, j4, j5⟩ := hcell.out _ hx
   have ci := Lib.hid (cio.out _ hx)
   clear co hx hcell cio
   go_wp2_with fail
   refine (cn.out w1).mono ?_
   rintro r w2 ⟨rfl, rfl⟩
   clear cn
   go_wp2_with fail
   refine ci.out.mono ?_
   rintro r w3 ⟨rfl, hx⟩
   have fin := Lib.hid (hsub.out _ _ hx)
   clear ci hx hsub
   go_wp2_with fail
   go_ret
   exact ⟨rfl, fin.out⟩
 rw [if_neg hbad] at hS
 have hnm : isNm n = true := by cases h : isNm n; exact absurd (.inl h) hbad; rfl
 have hio : isO o = true := by cases h : isO o; exact absurd (.inr h) hbad; rfl
 rw [hnm] at cn
 rw [hio] at cio
 clear hbad
 rcases open_ways S n q with ⟨y, ho, hy⟩ | ⟨i, d, ho, e1, hi, e2, -⟩
 ·rw [ho] at hS
  have co := Lib.hid (st_open_no h0 ho)
  simp only at hS
  by_cases hy5 : y = 405
  ·subst hy5
   rw [if_pos rfl] at hS
   obtain ⟨rfl, rfl⟩ := Prod.mk.inj hS
   clear h h0 hS ho hy hnm hio hdn hnum
   unfold DeclR
   go_enter Tryz.func75, Tryz.ntmps75
   go_wp2_with fail
   refine co.out.mono ?_
   rintro r w1 ⟨rfl, hx⟩
   obtain ⟨j0, j1, j2, j3, j4, j5⟩ := hcell.out _ hx
   have ci := Lib.hid (cio.out _ hx)
   clear co hx cio
   go_wp2_with fail
   refine (cn.out w1).mono ?_
   rintro r w2 ⟨rfl, rfl⟩
   clear cn
   go_wp2_with fail
   refine ci.out.mono ?_
   rintro r w3 ⟨rfl, hx⟩
   have fin := Lib.hid (fun k => hsub.out _ _ (hx.grow (drewN_below w3 k)))
   clear ci hx hsub hcell j0 j1 j2 j3 j4 j5
   go_wp2_with fail
   go_quiet (fail)
   go_wp2_with fail
   go_ret
   exact ⟨rfl, fin.out _⟩
  ·obtain rfl : y = 404 := by omega
   rw [if_neg (by decide)] at hS
   have hidx : S.idx n = none := by
    rcases idx_at S n with ⟨h1, -⟩ | ⟨i, d, h1, h2, h3, -⟩
    ·exact h1
    ·exfalso
     unfold Sto.open_ at ho
     rw [h3] at ho
     simp only at ho
     split at ho <;> cases ho
   have see : Hid (∀ w1, StoIs qT B w0 w1 sb bs S ((w.heap.size, opO o) :: F) c → ∃ a cap, ∀ k, (w1.drewN k).cell? ⟨sb, 2, none⟩ = some (.slice a bs.length cap)) := Lib.hid fun w1 h' => by
    obtain ⟨a, cap, k2, -⟩ := h'.rows
    exact ⟨a, cap, fun k => k2⟩
   have hbl := h.len
   by_cases h8 : 8 ≤ S.L.length
   ·rw [if_pos h8] at hS
    obtain ⟨rfl, rfl⟩ := Prod.mk.inj hS
    have h8b : (8 : Int) ≤ bs.length := by omega
    clear h h0 hS ho hy hnm hio hdn hnum hidx hbl h8 hy5
    unfold DeclR
    go_enter Tryz.func75, Tryz.ntmps75
    go_wp2_with fail
    refine co.out.mono ?_
    rintro r w1 ⟨rfl, hx⟩
    obtain ⟨j0, j1, j2, j3, j4, j5⟩ := hcell.out _ hx
    have ci := Lib.hid (cio.out _ hx)
    clear co hx cio
    go_wp2_with fail
    refine (cn.out w1).mono ?_
    rintro r w2 ⟨rfl, rfl⟩
    clear cn
    go_wp2_with fail
    refine ci.out.mono ?_
    rintro r w3 ⟨rfl, hx⟩
    obtain ⟨a, cap, k2⟩ := see.out _ hx
    have fin := Lib.hid (fun k => hsub.out _ _ (hx.grow (drewN_below w3 k)))
    clear ci hx hsub hcell see j0 j1 j2 j3 j4 j5
    go_wp2_with fail
    go_quiet (fail)
    go_wp2_with fail
    go_ret
    exact ⟨rfl, fin.out _⟩
   ·rw [if_neg h8] at hS
    obtain ⟨rfl, rfl⟩ := Prod.mk.inj hS
    have h8b : ¬ (8 : Int) ≤ bs.length := by omega
    have hnl : n.length ≤ 140737488351232 := by have := (isNm_len hnm).2; omega
    have hol : o.dead.length ≤ 140737488351232 ∧ o.deadKey.length ≤ 140737488351232 := by
     unfold isO at hio
     have := of_decide_eq_true hio
     omega
    have hn0 := hdn.out.num0
    have hfp := FineS.push (q := q) hdn.out hnm hio hidx (by omega)
    have stp : Hid (∀ w1, StoIs qT B w0 w1 sb bs S ((w.heap.size, opO o) :: F) c → ∃ a cap, (∀ k, (w1.drewN k).cell? ⟨sb, 2, none⟩ = some (.slice a bs.length cap)) ∧ (∀ k, (w1.drewN k).cell? ⟨sb, 3, none⟩ = some (.int .i64 S.num)) ∧ (∀ k, (w1.drewN k).frozen? ⟨sb, 3, none⟩ = false) ∧
      ∀ k W, W = (w1.drewN k).setCell ⟨sb, 3, none⟩ (.int .i64 (S.num + 1)) → (W.drew.cell? ⟨sb, 2, none⟩ = some (.slice a bs.length cap) ∧ W.drew.cell? ⟨sb, 3, none⟩ = some (.int .i64 (S.num + 1)) ∧ OpC W.drew w.heap.size o) ∧
       Calls Tryz.prog 139 #[tx n, .int .i64 (S.num + 1), .int .i64 q, opV o] W.drew fun e w3 => ∃ p, e = .returned (bpt p) ∧ (w3.cell? ⟨sb, 2, none⟩ = some (.slice a bs.length cap) ∧ w3.cell? ⟨sb, 3, none⟩ = some (.int .i64 (S.num + 1)) ∧ (w3.alloc (.cells #[bpt p] 131)).cell? ⟨sb, 2, none⟩ = some (.slice a bs.length cap)) ∧ OpC w3 w.heap.size o ∧
        ∃ a2 cap2 W3, AppRun Tryz.prog 90 (.slice a bs.length cap) (.slice (some ⟨w3.heap.size, 0, none⟩) 1 1) (w3.alloc (.cells #[bpt p] 131)) (.slice a2 (bs.length + 1) cap2) W3 ∧
         (W3.cell? ⟨sb, 2, none⟩ = some (.slice a bs.length cap) ∧ W3.frozen? ⟨sb, 2, none⟩ = false) ∧
         ∃ bs', StoIs qT B w0 (W3.setCell ⟨sb, 2, none⟩ (.slice a2 (bs.length + 1) cap2)) sb bs' { S with num := S.num + 1, L := S.L ++ [⟨n, S.num + 1, q, o, [], [], 0⟩] } F c) := Lib.hid fun w1 h' => by
     obtain ⟨L, slb, xv, v, R, SX, SS, h1, h2⟩ := h'
     obtain ⟨a, cap, rfl, -⟩ := h1.sl.form
     have m0 : (sb, soO slb xv (.slice a bs.length cap) S) ∈ stoO sb slb xv (.slice a bs.length cap) S L R SX SS ++ ((w.heap.size, opO o) :: F) := List.mem_append_left _ List.mem_cons_self
     have hsee := h2.seeS m0
     refine ⟨a, cap, fun k => hsee.c2, fun k => hsee.c3, fun k => hsee.soft 3, ?_⟩
     rintro k W rfl
     have h3 : St B w0 ((w1.drewN k).setCell ⟨sb, 3, none⟩ (.int .i64 (S.num + 1))).drew (stoO sb slb xv (.slice a bs.length cap) { S with num := S.num + 1 } L R SX SS ++ ((w.heap.size, opO o) :: F)) := St.drew (St.set0 (h2.drewN k) 3 (.int .i64 (S.num + 1)))
     have h1' : StoIn qT B w0 bs { S with num := S.num + 1 } L slb xv (.slice a bs.length cap) R SX SS c := { h1 with fine := ⟨h1.fine.few, h1.fine.once, h1.fine.nums, fun p hp => by have := h1.fine.top p hp; simp only; omega, by simp only; omega, h1.fine.each, h1.fine.fine⟩ }
     have hsee3 := h3.seeS (List.mem_append_left _ List.mem_cons_self)
     refine ⟨⟨hsee3.c2, hsee3.c3, h3.opC (List.mem_append_right _ List.mem_cons_self)⟩, (newplaceS_any h1.tab h3 n (S.num + 1) q o hnl hol.1 hol.2).mono ?_⟩
     rintro e w3 ⟨p, rfl, hpd, ok, h4⟩
     have hf : FineS { ({ S with num := S.num + 1 } : Sto) with L := S.L ++ [p.d] } := by rw [hpd]; exact hfp
     obtain ⟨⟨k1, k2, k3⟩, a2, cap2, W3, hrun, hk, h5⟩ := push_st h1' h4 ok hf
     rw [hpd] at h5
     exact ⟨p.b, rfl, ⟨k1, k2, k3⟩, h4.opC (List.mem_append_right _ (List.mem_append_right _ List.mem_cons_self)), a2, cap2, W3, hrun, hk, _, h5.sub (List.sublist_cons_self _ _)⟩
    have hw1 : IntKind.i64.wrap (S.num + 1) = S.num + 1 := by rw [IntKind.wrap_i64]; omega
    have hw2 : wrap64 (S.num + 1) = S.num + 1 := by unfold wrap64; omega
    generalize ({ S with num := S.num + 1, L := S.L ++ [⟨n, S.num + 1, q, o, [], [], 0⟩] } : Sto) = S2 at *
    clear h h0 ho hy hnm hio hidx hbl h8 hy5 hfp hnl hol see hsub
    unfold DeclR
    go_enter Tryz.func75, Tryz.ntmps75
    go_wp2_with fail
    refine co.out.mono ?_
    rintro r w1 ⟨rfl, hx⟩
    obtain ⟨j0, j1, j2, j3, j4, j5⟩ := hcell.out _ hx
    have ci := Lib.hid (cio.out _ hx)
    clear co hx cio
    go_wp2_with fail
    refine (cn.out w1).mono ?_
    rintro r w2 ⟨rfl, rfl⟩
    clear cn
    go_wp2_with fail
    refine ci.out.mono ?_
    rintro r w3 ⟨rfl, hx⟩
    obtain ⟨a, cap, k2, k3, ks, stp2⟩ := stp.out _ hx
    replace stp2 := Lib.hid stp2
    clear ci hx hcell stp j0 j1 j2 j3 j4 j5
    clear hdn
    go_wp2_with fail
    go_quiet (fail)
    obtain ⟨W, hW⟩ : ∃ W, W = (w3.drewN nq).setCell ⟨sb, 3, none⟩ (.int .i64 (S.num + 1)) := ⟨_, rfl⟩
    obtain ⟨⟨k4, k5, ⟨j0, j1, j2, j3, j4, j5⟩⟩, cp⟩ := stp2.out nq W hW
    replace cp := Lib.hid cp
    clear stp2
    go_upto_region 13 with fail
    rw [← hW]
    clear hW k2 k3 ks
    generalize S.num + 1 = nm at *
    clear hw1 hw2 hn0 hnum
    generalize w.heap.size = nb at *
    go_wp2_with fail
    go_region_law (first
     | (refine step_app (.tmp 64) (.tmp 73) 90 hrun rfl rfl (by simp [Act.eval]) (by simp [Act.eval]) ?_)
     | (go_simp; go_at_call 139; refine cp.out.mono ?_; rintro e w4 ⟨p, rfl, ⟨m0, m1, m2⟩, ⟨l0, l1, l2, l3, l4, l5⟩, a2, cap2, W3, hrun, ⟨v0, v1⟩, fin⟩; replace fin := Lib.hid fin))
    all_goals
     clear cp k4 k5 j0 j1 j2 j3 j4 j5 m0 m1 m2 l0 l1 l2 l3 l4 l5 v0 v1 hrun
     go_wp2_with fail
     go_ret
     exact ⟨rfl, fin.out⟩
 ·rw [ho] at hS
  obtain ⟨pb, hpb⟩ := h.blk hi
  have co := Lib.hid (st_open_yes h0 ho hpb)
  simp only at hS
  have see : Hid (∀ w1, StoIs qT B w0 w1 sb bs S ((w.heap.size, opO o) :: F) c → ∃ qb, StoIs qT B w0 w1.drew sb bs S ((w.heap.size, opO o) :: F) c ∧ Hid (w1.drew.cell? ⟨pb, 3, none⟩ = some (rptr qb) ∧ OpC w1.drew w.heap.size o)) := Lib.hid fun w1 h' => by
   have h2 := h'.grow (drew_b w1)
   obtain ⟨qb, gb, hs⟩ := h2.seeP hpb hi
   exact ⟨qb, h2, Lib.hid ⟨hs.c3, h2.opC List.mem_cons_self⟩⟩
  have cop : Hid (∀ w1 qb, w1.cell? ⟨pb, 3, none⟩ = some (rptr qb) → StoIs qT B w0 w1 sb bs S ((w.heap.size, opO o) :: F) c → Calls Tryz.prog 138 #[rptr qb] w1 fun r w' => r = .returned (opV d.o) ∧ StoIs qT B w0 w' sb bs S ((w.heap.size, opO o) :: F) c ∧ (w'.cell? ⟨pb, 3, none⟩ = some (rptr qb) ∧ OpC w' w.heap.size o)) := Lib.hid fun w1 qb h3 h' => by
   obtain ⟨pb', qb', gb, k1, k2, ⟨Z, k3, k4⟩, -⟩ := h'.place hi
   rw [hpb] at k1
   obtain rfl := Option.some.inj k1
   have e := k2.c3
   rw [h3] at e
   cases e
   refine (qu_opts k3).mono ?_
   rintro r w' ⟨rfl, h5⟩
   obtain ⟨h6, h7⟩ := k4 _ _ _ h5
   rw [setM_same hi] at h7
   exact ⟨rfl, h7, h6.c3, h7.opC List.mem_cons_self⟩
  have csa : Hid (∀ w1 qb, w1.cell? ⟨pb, 3, none⟩ = some (rptr qb) → StoIs qT B w0 w1 sb bs S ((w.heap.size, opO o) :: F) c → Calls Tryz.prog 137 #[opV d.o, opV o] w1 fun x w' => x = .returned (.bool (sameO d.o o)) ∧ StoIs qT B w0 w' sb bs S ((w.heap.size, opO o) :: F) c ∧ (w'.cell? ⟨pb, 3, none⟩ = some (rptr qb) ∧ OpC w' w.heap.size o)) := Lib.hid fun w1 qb h3 h' => (same_any d.o o w1).mono (by
   rintro x w' ⟨rfl, hb⟩
   have h2 := h'.grow hb
   exact ⟨rfl, h2, cellUp h3 hb, h2.opC List.mem_cons_self⟩)
  obtain ⟨sm, hsm⟩ : ∃ sm, sm = sameO d.o o := ⟨_, rfl⟩
  rw [← hsm] at hS csa
  obtain ⟨rfl, hz⟩ : S = S' ∧ z = (if sm = true then 0 else 406) := by
   cases sm
   ·rw [if_neg (by decide)] at hS
    obtain ⟨rfl, rfl⟩ := Prod.mk.inj hS
    exact ⟨rfl, rfl⟩
   ·rw [if_pos rfl] at hS
    obtain ⟨rfl, rfl⟩ := Prod.mk.inj hS
    exact ⟨rfl, rfl⟩
  clear h h0 hS ho e1 e2 hnm hio hdn hnum hsm hpb hi
  generalize d.o = o2 at *
  cases sm with
  | false =>
   obtain rfl : z = 406 := hz
   unfold DeclR
   go_enter Tryz.func75, Tryz.ntmps75
   go_wp2_with fail
   refine co.out.mono ?_
   rintro r w1 ⟨rfl, hx⟩
   obtain ⟨j0, j1, j2, j3, j4, j5⟩ := hcell.out _ hx
   have ci := Lib.hid (cio.out _ hx)
   clear co hx cio
   go_wp2_with fail
   refine (cn.out w1).mono ?_
   rintro r w2 ⟨rfl, rfl⟩
   clear cn
   go_wp2_with fail
   refine ci.out.mono ?_
   rintro r w3 ⟨rfl, hx⟩
   obtain ⟨qb, h2, hs0⟩ := see.out _ hx
   replace cop := Lib.hid (fun w1 => cop.out w1 qb)
   replace csa := Lib.hid (fun w1 => csa.out w1 qb)
   clear ci hx hcell see j0 j1 j2 j3 j4 j5
   generalize w.heap.size = nb at *
   go_wp2_with fail
   go_region_held3 (fun x => x.cell? ⟨pb, 3, none⟩ = some (rptr qb) ∧ x.cell? ⟨nb, 0, none⟩ = some (tx o.dead) ∧ x.cell? ⟨nb, 1, none⟩ = some (tx o.deadKey) ∧ x.cell? ⟨nb, 2, none⟩ = some (.int .i64 o.maxLen) ∧ x.cell? ⟨nb, 3, none⟩ = some (.int .i64 o.ttl) ∧ x.cell? ⟨nb, 4, none⟩ = some (.int .i64 o.prio) ∧ x.cell? ⟨nb, 5, none⟩ = some (.int .i64 o.bits)) (first | with_reducible exact kS | with_reducible exact hs0.out) (first
    | (go_at_call 138; refine (cop.out _ hs0.out.1 (by assumption)).mono ?_; rintro r w'' ⟨rfl, hA, kS⟩)
    | (go_at_call 137; refine (csa.out _ kS.1 (by assumption)).mono ?_; rintro r w'' ⟨rfl, hB, kS⟩))
   have fin := Lib.hid (hsub.out _ _ hB)
   clear hA hB h2 kS hs0 cop csa hsub
   go_wp2_with fail
   go_ret
   exact ⟨rfl, fin.out⟩
  | true =>
   obtain rfl : z = 0 := hz
   unfold DeclR
   go_enter Tryz.func75, Tryz.ntmps75
   go_wp2_with fail
   refine co.out.mono ?_
   rintro r w1 ⟨rfl, hx⟩
   obtain ⟨j0, j1, j2, j3, j4, j5⟩ := hcell.out _ hx
   have ci := Lib.hid (cio.out _ hx)
   clear co hx cio
   go_wp2_with fail
   refine (cn.out w1).mono ?_
   rintro r w2 ⟨rfl, rfl⟩
   clear cn
   go_wp2_with fail
   refine ci.out.mono ?_
   rintro r w3 ⟨rfl, hx⟩
   obtain ⟨qb, h2, hs0⟩ := see.out _ hx
   replace cop := Lib.hid (fun w1 => cop.out w1 qb)
   replace csa := Lib.hid (fun w1 => csa.out w1 qb)
   clear ci hx hcell see j0 j1 j2 j3 j4 j5
   generalize w.heap.size = nb at *
   go_wp2_with fail
   go_region_held3 (fun x => x.cell? ⟨pb, 3, none⟩ = some (rptr qb) ∧ x.cell? ⟨nb, 0, none⟩ = some (tx o.dead) ∧ x.cell? ⟨nb, 1, none⟩ = some (tx o.deadKey) ∧ x.cell? ⟨nb, 2, none⟩ = some (.int .i64 o.maxLen) ∧ x.cell? ⟨nb, 3, none⟩ = some (.int .i64 o.ttl) ∧ x.cell? ⟨nb, 4, none⟩ = some (.int .i64 o.prio) ∧ x.cell? ⟨nb, 5, none⟩ = some (.int .i64 o.bits)) (first | with_reducible exact kS | with_reducible exact hs0.out) (first
    | (go_at_call 138; refine (cop.out _ hs0.out.1 (by assumption)).mono ?_; rintro r w'' ⟨rfl, hA, kS⟩)
    | (go_at_call 137; refine (csa.out _ kS.1 (by assumption)).mono ?_; rintro r w'' ⟨rfl, hB, kS⟩))
   have fin := Lib.hid (hsub.out _ _ hB)
   clear hA hB h2 kS hs0 cop csa hsub
   go_wp2_with fail
   go_ret
   exact ⟨rfl, fin.out⟩
end
end Go.Proofs.YtknjamfjonapiaaGreatDoor
namespace Go.Proofs.YtknjamfjonapiaaGreatDoor
open Go.RowKit
set_option linter.unusedVariables false
set_option linter.unusedSectionVars false
set_option linter.unusedSimpArgs false
set_option maxRecDepth 100000
section
variable {qT : Bool} {B : Nat} {w0 w w' : World} {sb slb xb pb qb gb c c' i k b : Nat} {bs : List Nat} {S S' : Sto} {L : List Pq} {xv v : Value} {d d' : Plq} {R SX SS F F' Z : List (Nat × Obj)} {o : Opt} {M : List Ent} {G : List Gst} {T : Nat} {n : List UInt8} {q z bt : Int} {e e0 : Ent} {g : Gst}
def AskR (qT : Bool) (B : Nat) (w0 : World) (sb : Nat) (S : Sto) (F : List (Nat × Obj)) (c : Nat) (a : Int × Int × Int) (e : Ending) (w' : World) : Prop :=
 e = .returned (.tuple #[.int .i64 a.1, .int .i64 a.2.1, .int .i64 a.2.2]) ∧ ∃ bs', StoIs qT B w0 w' sb bs' S F c
set_option maxHeartbeats 4000000 in
theorem st_queue (h : StoIs qT B w0 w sb bs S F c) (n : List UInt8) (o : Opt) (q : Int) (hnum : S.num < 4611686018427387904) {S' : Sto} {a : Int × Int × Int} (hS : S.queue n o q = (S', a)) :
  Calls Tryz.prog 27 #[bpt sb, tx n, opV o, .int .i64 q] w (AskR qT B w0 sb S' F c a) := by
 have h0 := h.alloc (opO o)
 have m5 : (w.alloc (opO o)).cell? ⟨w.heap.size, 5, none⟩ = some (.int .i64 o.bits) := (h0.opC (x := o) List.mem_cons_self).2.2.2.2.2
 obtain ⟨m0, m1, m2, m3, m4, -⟩ := h0.opC (x := o) List.mem_cons_self
 have opn : ∀ S1 : Sto, Hid (∀ w1 bs1 z, S1.open_ n q = (z, none) → StoIs qT B w0 w1 sb bs1 S1 ((w.heap.size, opO o) :: F) c → Calls Tryz.prog 71 #[bpt sb, tx n, .int .i64 q] w1 fun e w' => e = .returned (.tuple #[.pointer none, .int .i64 z]) ∧ ∃ bs', StoIs qT B w0 w' sb bs' S1 F c) := fun S1 => Lib.hid fun w1 bs1 z ho h' => (st_open_no h' ho).mono (by
  rintro e w' ⟨rfl, h2⟩
  exact ⟨rfl, bs1, h2.sub (List.sublist_cons_self _ _)⟩)
 have opy : ∀ S1 : Sto, Hid (∀ w1 bs1 i d, S1.open_ n q = (0, some (i, d)) → S1.L[i]? = some d → StoIs qT B w0 w1 sb bs1 S1 ((w.heap.size, opO o) :: F) c → Calls Tryz.prog 71 #[bpt sb, tx n, .int .i64 q] w1 fun e w' => ∃ pb, e = .returned (.tuple #[bpt pb, .int .i64 0]) ∧ ∃ qb gb, StoIs qT B w0 w'.drew sb bs1 S1 ((w.heap.size, opO o) :: F) c ∧ Hid (w'.drew.cell? ⟨pb, 3, none⟩ = some (rptr qb) ∧ w'.drew.cell? ⟨pb, 4, none⟩ = some (gup gb)) ∧
   (∀ W, (W.cell? ⟨pb, 3, none⟩ = some (rptr qb) ∧ W.cell? ⟨pb, 4, none⟩ = some (gup gb)) → StoIs qT B w0 W sb bs1 S1 ((w.heap.size, opO o) :: F) c → Calls Tryz.prog 73 #[rptr qb] W fun r w' => r = .returned (.int .i64 d.M.length) ∧ StoIs qT B w0 w' sb bs1 S1 ((w.heap.size, opO o) :: F) c ∧ (w'.cell? ⟨pb, 3, none⟩ = some (rptr qb) ∧ w'.cell? ⟨pb, 4, none⟩ = some (gup gb))) ∧
   (∀ W, (W.cell? ⟨pb, 3, none⟩ = some (rptr qb) ∧ W.cell? ⟨pb, 4, none⟩ = some (gup gb)) → StoIs qT B w0 W sb bs1 S1 ((w.heap.size, opO o) :: F) c → Calls Tryz.prog 72 #[gup gb] W fun r w' => r = .returned (.int .i64 d.G.length) ∧ StoIs qT B w0 w' sb bs1 S1 ((w.heap.size, opO o) :: F) c ∧ (∃ bs', StoIs qT B w0 w' sb bs' S1 F c) ∧ (w'.cell? ⟨pb, 3, none⟩ = some (rptr qb) ∧ w'.cell? ⟨pb, 4, none⟩ = some (gup gb)))) := fun S1 => Lib.hid fun w1 bs1 i d ho hi h' => by
  obtain ⟨pb, hpb⟩ := h'.blk hi
  refine (st_open_yes h' ho hpb).mono ?_
  rintro e w' ⟨rfl, h2⟩
  have h3 := h2.grow (drew_b w')
  obtain ⟨qb, gb, hs⟩ := h3.seeP hpb hi
  refine ⟨pb, rfl, qb, gb, h3, Lib.hid ⟨hs.c3, hs.c4⟩, fun W hk hW => ?_, fun W hk hW => ?_⟩
  ·obtain ⟨pb', qb', gb', k1, k2, ⟨Z, k3, k4⟩, -⟩ := hW.place hi
   rw [hpb] at k1
   obtain rfl := Option.some.inj k1
   have e3 := k2.c3
   have e4 := k2.c4
   rw [hk.1] at e3
   rw [hk.2] at e4
   cases e3
   cases e4
   refine (qu_len k3).mono ?_
   rintro r w'' ⟨rfl, h5⟩
   obtain ⟨h6, h7⟩ := k4 _ _ _ h5
   rw [setM_same hi] at h7
   exact ⟨rfl, h7, h6.c3, h6.c4⟩
  ·obtain ⟨pb', qb', gb', k1, k2, -, ⟨Z, k3, k4⟩⟩ := hW.place hi
   rw [hpb] at k1
   obtain rfl := Option.some.inj k1
   have e3 := k2.c3
   have e4 := k2.c4
   rw [hk.1] at e3
   rw [hk.2] at e4
   cases e3
   cases e4
   refine (gu_len k3).mono ?_
   rintro r w'' ⟨rfl, h5⟩
   obtain ⟨h6, h7⟩ := k4 _ _ _ _ h5
   have h8 : StoIs qT B w0 w'' sb bs1 S1 ((w.heap.size, opO o) :: F) c := by
    have := setG_same hi
    unfold Sto.setG at this
    rw [this] at h7
    exact h7
   exact ⟨rfl, h8, ⟨bs1, h8.sub (List.sublist_cons_self _ _)⟩, h6.c3, h6.c4⟩
 have cdl := Lib.hid (fun S1 z (hd : S.declare n o q = (S1, z)) => st_declare h0 n o q hnum hd)
 unfold Sto.queue at hS
 unfold AskR
 by_cases hp : passB o.bits = true
 ·rw [if_pos hp] at hS
  obtain ⟨rfl, rfl⟩ := Prod.mk.inj hS
  have a8 : (bits .and .i64 o.bits 8 == 0) = false := by unfold passB at hp; simpa using hp
  unfold Sto.asked
  rcases open_ways S n q with ⟨y, ho, hy⟩ | ⟨i, d, ho, e1, hi, e2, -⟩
  ·rw [ho]
   have cop := Lib.hid ((opn S).out _ bs y ho h0)
   have hyb : (y != 0) = true := by rcases hy with rfl | rfl <;> rfl
   clear h h0 hS ho hy opn opy cdl hp hnum
   go_enter Tryz.func27, Tryz.ntmps27
   go_wp2_with fail
   refine cop.out.mono ?_
   rintro r w2 ⟨rfl, fin⟩
   replace fin := Lib.hid fin
   clear cop
   go_wp2_with fail
   go_ret3
   exact ⟨rfl, fin.out⟩
  ·rw [ho]
   have cop := Lib.hid ((opy S).out _ bs i d ho hi h0)
   simp only
   generalize d.M.length = ml at *
   generalize d.G.length = gl at *
   clear h h0 hS ho e1 hi e2 opn opy cdl hp hnum
   go_enter Tryz.func27, Tryz.ntmps27
   go_wp2_with fail
   refine cop.out.mono ?_
   rintro r w2 ⟨pb, rfl, qb, gb, h2, hs0, cl, cg⟩
   replace cl := Lib.hid cl
   replace cg := Lib.hid cg
   clear cop
   go_wp2_with fail
   go_region_held3 (fun x => x.cell? ⟨pb, 3, none⟩ = some (rptr qb) ∧ x.cell? ⟨pb, 4, none⟩ = some (gup gb)) (first | with_reducible exact kS | with_reducible exact hs0.out) (first
    | (go_at_call 73; refine (cl.out _ hs0.out (by assumption)).mono ?_; rintro r w'' ⟨rfl, hA, kS⟩)
    | (go_at_call 72; refine (cg.out _ kS (by assumption)).mono ?_; rintro r w'' ⟨rfl, hB, fin, kS⟩))
   replace fin := Lib.hid fin
   clear hA hB h2 kS hs0 cl cg
   go_wp2_with fail
   go_ret3
   exact ⟨rfl, fin.out⟩
 ·rw [if_neg hp] at hS
  have a8 : (bits .and .i64 o.bits 8 == 0) = true := by unfold passB at hp; simpa using hp
  obtain ⟨S1, z, hd⟩ : ∃ S1 z, S.declare n o q = (S1, z) := ⟨_, _, rfl⟩
  rw [hd] at hS
  simp only at hS
  have cd := Lib.hid (cdl.out S1 z hd)
  unfold DeclR at cd
  by_cases hz : z = 0
  ·subst hz
   rw [if_neg (by simp)] at hS
   obtain ⟨rfl, rfl⟩ := Prod.mk.inj hS
   unfold Sto.asked
   rcases open_ways S1 n q with ⟨y, ho, hy⟩ | ⟨i, d, ho, e1, hi, e2, -⟩
   ·rw [ho]
    have cop := Lib.hid (fun w1 bs1 => (opn S1).out w1 bs1 y ho)
    have hyb : (y != 0) = true := by rcases hy with rfl | rfl <;> rfl
    clear h h0 hS ho hy opn opy cdl hp hnum hd
    go_enter Tryz.func27, Tryz.ntmps27
    go_wp2_with fail
    refine cd.out.mono ?_
    rintro r w1 ⟨rfl, bs1, hx⟩
    replace cop := Lib.hid (cop.out w1 bs1 hx)
    clear cd hx
    go_wp2_with fail
    refine cop.out.mono ?_
    rintro r w2 ⟨rfl, fin⟩
    replace fin := Lib.hid fin
    clear cop
    go_wp2_with fail
    go_ret3
    exact ⟨rfl, fin.out⟩
   ·rw [ho]
    have cop := Lib.hid (fun w1 bs1 => (opy S1).out w1 bs1 i d ho hi)
    simp only
    generalize d.M.length = ml at *
    generalize d.G.length = gl at *
    clear h h0 hS ho e1 hi e2 opn opy cdl hp hnum hd
    go_enter Tryz.func27, Tryz.ntmps27
    go_wp2_with fail
    refine cd.out.mono ?_
    rintro r w1 ⟨rfl, bs1, hx⟩
    replace cop := Lib.hid (cop.out w1 bs1 hx)
    clear cd hx
    go_wp2_with fail
    refine cop.out.mono ?_
    rintro r w2 ⟨pb, rfl, qb, gb, h2, hs0, cl, cg⟩
    replace cl := Lib.hid cl
    replace cg := Lib.hid cg
    clear cop
    go_wp2_with fail
    go_region_held3 (fun x => x.cell? ⟨pb, 3, none⟩ = some (rptr qb) ∧ x.cell? ⟨pb, 4, none⟩ = some (gup gb)) (first | with_reducible exact kS | with_reducible exact hs0.out) (first
     | (go_at_call 73; refine (cl.out _ hs0.out (by assumption)).mono ?_; rintro r w'' ⟨rfl, hA, kS⟩)
     | (go_at_call 72; refine (cg.out _ kS (by assumption)).mono ?_; rintro r w'' ⟨rfl, hB, fin, kS⟩))
    replace fin := Lib.hid fin
    clear hA hB h2 kS hs0 cl cg
    go_wp2_with fail
    go_ret3
    exact ⟨rfl, fin.out⟩
  ·rw [if_pos (by simpa using hz)] at hS
   obtain ⟨rfl, rfl⟩ := Prod.mk.inj hS
   have hzb : (z != 0) = true := by simpa using hz
   clear h h0 hS opn opy cdl hp hnum hd hz
   go_enter Tryz.func27, Tryz.ntmps27
   go_wp2_with fail
   refine cd.out.mono ?_
   rintro r w1 ⟨rfl, bs1, hx⟩
   have fin : Hid (∃ bs', StoIs qT B w0 w1 sb bs' S1 F c) := Lib.hid ⟨bs1, hx.sub (List.sublist_cons_self _ _)⟩
   clear cd hx
   go_wp2_with fail
   go_ret3
   exact ⟨rfl, fin.out⟩
end
end Go.Proofs.YtknjamfjonapiaaGreatDoor
namespace Go.Proofs.YtknjamfjonapiaaGreatDoor
open Go.RowKit
set_option linter.unusedVariables false
set_option linter.unusedSectionVars false
set_option linter.unusedSimpArgs false
set_option maxRecDepth 100000
abbrev mailO (e : Ent) (tv : Value) (rf : Bool) : Obj := .cells #[.int .i64 e.id, .int .i64 e.body, .int .i64 e.size, tx e.exch, tx e.key, .int .i64 e.prio, .int .i64 e.ttl, .int .i64 e.til, .bool e.again, .int .i64 e.hops, tv, .bool rf] 156
def ptrsOf (bs : List Nat) (way : List Nat) : List Value := way.map fun i => bpt (bs.getD i 0)
def WayIs (bs : List Nat) (tv : Value) (way : List Nat) (Z : List (Nat × Obj)) : Prop := SlIs 131 1 tv way.length (ptrsOf bs way) Z
def wayTo (S : Sto) (l : List (List UInt8)) : List Nat := l.filterMap S.idx
def NewMailJ (qT : Bool) (B : Nat) (w0 : World) (sb mb : Nat) (bs : List Nat) (S : Sto) (F : List (Nat × Obj)) (c : Nat) (e : Ent) (l : List (List UInt8)) (g : Nat) (a' : Act) (w' : World) : Prop :=
 ∃ (i cp : Nat) (a : Option Addr) (tv : Value) (Y Z : List (Nat × Obj)), i + g = l.length ∧ Fr 60 [(0, bpt sb), (5, bpt mb), (6, .slice a l.length cp), (8, .int .i64 i)] a' ∧ TssIs (.slice a l.length cp) l Y ∧ WayIs bs tv (wayTo S (l.take i)) Z ∧
  StoIs qT B w0 w' sb bs S ((mb, mailO e tv false) :: (Z ++ (Y ++ F))) c
section
variable {qT : Bool} {B : Nat} {w0 w w' : World} {sb slb xb pb qb gb c c' i k b : Nat} {bs : List Nat} {S S' : Sto} {L : List Pq} {xv v : Value} {d d' : Plq} {R SX SS F F' Z Y : List (Nat × Obj)} {o : Opt} {M : List Ent} {G : List Gst} {T : Nat} {n : List UInt8} {q z bt : Int} {e e0 : Ent} {g : Gst} {tv : Value} {rf : Bool}
theorem StoIs.rowAt {T : TypeId} {a : Option Addr} {cp m : Nat} {xs : List Value} (h : StoIs qT B w0 w sb bs S F c) (hs : SlIs T 1 (.slice a m cp) m xs Y) (hp : F.Perm (F' ++ Y)) {j : Nat} {u : Value} (hj : xs[j]? = some u) : ∃ g off, a = some ⟨g, off, none⟩ ∧ w.cell? ⟨g, off + j, none⟩ = some u := by
 obtain ⟨O, o1, -⟩ := h.beside
 have o2 : St B w0 w ((O ++ F') ++ Y) := by
  rw [List.append_assoc]
  exact o1.perm (hp.append_left O)
 obtain ⟨a', cap', e, -, -, ha⟩ := hs.form
 cases e
 have hl := (List.getElem?_eq_some_iff.1 hj).1
 rw [hs.len, Nat.mul_one] at hl
 obtain ⟨g, off, rfl⟩ := ha j hl
 exact ⟨g, off, rfl, hs.cellAt o2 hj⟩
theorem way_push {mb : Nat} {way : List Nat} (h : StoIs qT B w0 w sb bs S ((mb, mailO e tv rf) :: (Z ++ F)) c) (hw : WayIs bs tv way Z) (hb : bs[i]? = some pb) (hl : way.length ≤ 100000) :
  ∃ a cap a2 cap2 W Z', tv = .slice a way.length cap ∧ (w.cell? ⟨mb, 10, none⟩ = some tv ∧ (w.alloc (.cells #[bpt pb] 131)).cell? ⟨mb, 10, none⟩ = some tv ∧ W.cell? ⟨mb, 10, none⟩ = some tv ∧ W.frozen? ⟨mb, 10, none⟩ = false) ∧
  AppRun Tryz.prog 90 tv (.slice (some ⟨w.heap.size, 0, none⟩) 1 1) (w.alloc (.cells #[bpt pb] 131)) (.slice a2 (way.length + 1) cap2) W ∧ WayIs bs (.slice a2 (way.length + 1) cap2) (way ++ [i]) Z' ∧
  StoIs qT B w0 (W.setCell ⟨mb, 10, none⟩ (.slice a2 (way.length + 1) cap2)) sb bs S ((mb, mailO e (.slice a2 (way.length + 1) cap2) rf) :: (Z' ++ F)) c := by
 have h1 := h.alloc (.cells #[bpt pb] 131)
 have k1 : w.cell? ⟨mb, 10, none⟩ = some tv := h.cell List.mem_cons_self rfl
 have k2 : (w.alloc (.cells #[bpt pb] 131)).cell? ⟨mb, 10, none⟩ = some tv := h1.cell (b := mb) (List.mem_cons_of_mem _ List.mem_cons_self) rfl
 obtain ⟨a, cap, etv, -⟩ := SlIs.form hw
 obtain ⟨O, o1, -, o2⟩ := h1.beside
 have hp : ∀ Z, (O ++ ((w.heap.size, Obj.cells #[bpt pb] 131 (0, 0)) :: (mb, mailO e tv rf) :: (Z ++ F))).Perm ((O ++ ((w.heap.size, .cells #[bpt pb] 131) :: (mb, mailO e tv rf) :: F)) ++ Z) := fun Z => perm_by fun a => by
  simp only [List.count_append, List.count_cons]; omega
 obtain ⟨a2, cap2, W, Z', hrun, hsl, hst⟩ := apQ.append hw (o1.perm (hp Z)) (Reads.one w (bpt pb) 131) (fun u hu => by rw [List.mem_singleton] at hu; subst hu; rfl) (by unfold maxLen; omega) (by omega)
 have h2 := o2 _ _ (hst.perm (hp Z').symm)
 have h3 := h2.sub (List.sublist_cons_self _ _)
 have hfz := h3.soft (b := mb) List.mem_cons_self 10
 have k3 : W.cell? ⟨mb, 10, none⟩ = some tv := h3.cell List.mem_cons_self rfl
 have h4 := h3.setF 10 (.slice a2 (way.length + 1) cap2)
 refine ⟨a, cap, a2, cap2, W, Z', etv, ⟨k1, k2, k3, hfz⟩, ⟨hrun⟩, ?_, h4⟩
 unfold WayIs
 have e1 : ptrsOf bs (way ++ [i]) = ptrsOf bs way ++ [bpt pb] := by
  unfold ptrsOf
  rw [List.map_append, List.map_cons, List.map_nil, List.getD_eq_getElem?_getD, hb]
  rfl
 rw [List.length_append, e1]
 exact hsl
theorem wayTo_none {l : List (List UInt8)} (hx : l[i]? = some n) (hn : S.idx n = none) : wayTo S (l.take (i + 1)) = wayTo S (l.take i) := by
 unfold wayTo
 rw [List.take_add_one, hx, List.filterMap_append]
 simp [hn]
theorem wayTo_some {l : List (List UInt8)} (hx : l[i]? = some n) (hn : S.idx n = some k) : wayTo S (l.take (i + 1)) = wayTo S (l.take i) ++ [k] := by
 unfold wayTo
 rw [List.take_add_one, hx, List.filterMap_append]
 simp [hn]
theorem wayTo_len (S : Sto) (l : List (List UInt8)) : (wayTo S l).length ≤ l.length := List.length_filterMap_le _ _
def NewMailR (qT : Bool) (B : Nat) (w0 : World) (sb : Nat) (bs : List Nat) (S : Sto) (F : List (Nat × Obj)) (c : Nat) (e : Ent) (r : Ending) (w' : World) : Prop :=
 ∃ mb tv Z, r = .returned (bpt mb) ∧ WayIs bs tv (S.tos e.exch e.key) Z ∧ StoIs qT B w0 w' sb bs S.born ((mb, mailO { e with id := S.last + 1 } tv false) :: (Z ++ F)) c
theorem StoIs.bornS (h : StoIs qT B w0 w sb bs S F c) : StoIs qT B w0 (w.setCell ⟨sb, 4, none⟩ (.int .i64 (S.last + 1))) sb bs S.born F c := by
 obtain ⟨L, slb, xv, v, R, SX, SS, h1, h2⟩ := h
 exact ⟨L, slb, xv, v, R, SX, SS, { h1 with fine := ⟨h1.fine.few, h1.fine.once, h1.fine.nums, h1.fine.top, h1.fine.num0, h1.fine.each, h1.fine.fine⟩ }, St.set0 h2 4 _⟩
set_option maxHeartbeats 4000000 in
theorem newmail_any (h : StoIs qT B w0 w sb bs S F c) (e : Ent) (hl0 : -1 ≤ S.last) (hl1 : S.last < 4611686018427387904) (hk : e.key.length ≤ 1000) (hc : c ≤ 100000) : Calls Tryz.prog 79 #[bpt sb, enV e] w (NewMailR qT B w0 sb bs S F c e) := by
 have h0 := h.alloc (enO e)
 obtain ⟨slb, xv, v, hsee⟩ := h0.see
 have k4 := hsee.c4
 have f4 := hsee.soft 4
 have hb := h0.bornS
 have k4' : ((w.alloc (enO e)).setCell ⟨sb, 4, none⟩ (.int .i64 (S.last + 1))).cell? ⟨sb, 4, none⟩ = some (.int .i64 (S.last + 1)) := by
  obtain ⟨_, _, _, hs⟩ := hb.see
  exact hs.c4
 obtain ⟨⟨z0, z1, z2, z3, z4, z5, z6, z7, z8, z9⟩, zs⟩ := hb.enAt (k := w.heap.size) (e := e) List.mem_cons_self
 have he := hb.setF 0 (.int .i64 (S.last + 1))
 obtain ⟨W2, hW2⟩ : ∃ W2, W2 = ((w.alloc (enO e)).setCell ⟨sb, 4, none⟩ (.int .i64 (S.last + 1))).setCell ⟨w.heap.size, 0, none⟩ (.int .i64 (S.last + 1)) := ⟨_, rfl⟩
 rw [← hW2] at he
 have he2 : StoIs qT B w0 W2 sb bs S.born ((w.heap.size, enO { e with id := S.last + 1 }) :: F) c := he
 have zE := (he2.enAt (e := { e with id := S.last + 1 }) List.mem_cons_self).1
 obtain ⟨e', he'⟩ : ∃ e' : Ent, e' = { e with id := S.last + 1 } := ⟨_, rfl⟩
 rw [← he'] at he2 zE
 have hex : e'.exch = e.exch ∧ e'.key = e.key := by rw [he']; exact ⟨rfl, rfl⟩
 obtain ⟨l, ok, hroute⟩ : ∃ l ok, routeX S.P S.A e.exch e.key = (l, ok) := ⟨_, _, rfl⟩
 have hlen : l.length ≤ 40 := by
  have := route_len (P := S.P) (A := S.A) h.fine.fine.rows.few e.exch e.key
  rw [hroute] at this
  exact this
 have htos : S.tos e.exch e.key = wayTo S.born l := by unfold Sto.tos wayTo; rw [hroute]; rfl
 have h3 := (he2.alloc (mailO e' (.slice none 0 0) false)).grow (drew_b _)
 have fin : Hid (∀ w' mb tv Z Y cp a, TssIs (.slice a l.length cp) l Y → WayIs bs tv (wayTo S.born (l.take l.length)) Z → StoIs qT B w0 w' sb bs S.born ((mb, mailO e' tv false) :: (Z ++ (Y ++ ((w.heap.size, enO e') :: F)))) c → NewMailR qT B w0 sb bs S F c e (.returned (bpt mb)) w') := Lib.hid fun w' mb tv Z Y cp a _ hw h' => by
  rw [List.take_of_length_le (Nat.le_refl _), ← htos] at hw
  rw [he'] at h'
  refine ⟨mb, tv, Z, rfl, hw, h'.sub (List.Sublist.cons_cons _ (List.Sublist.append (List.Sublist.refl Z) ?_))⟩
  exact (List.sublist_cons_self _ F).trans (List.sublist_append_right Y _)
 have cw : Hid (∀ W, StoIs qT B w0 W sb bs S.born ((W2.heap.size, mailO e' (.slice none 0 0) false) :: (w.heap.size, enO e') :: F) c → Calls Tryz.prog 63 #[bpt sb] W fun r w' => ∃ xb, r = .returned (bpt xb) ∧ StoX qT B w0 w' sb bs S.born ((W2.heap.size, mailO e' (.slice none 0 0) false) :: (w.heap.size, enO e') :: F) c xb ∧ (w'.cell? ⟨w.heap.size, 3, none⟩ = some (tx e'.exch) ∧ w'.cell? ⟨w.heap.size, 4, none⟩ = some (tx e'.key))) := Lib.hid fun W h' => (st_ways h').mono (by
  rintro r w' ⟨xb, rfl, hx⟩
  have h4 := hx.same h.c1
  exact ⟨xb, rfl, hx, h4.cell (b := w.heap.size) (List.mem_cons_of_mem _ List.mem_cons_self) rfl, h4.cell (b := w.heap.size) (List.mem_cons_of_mem _ List.mem_cons_self) rfl⟩)
 have cr : Hid (∀ W xb, StoX qT B w0 W sb bs S.born ((W2.heap.size, mailO e' (.slice none 0 0) false) :: (w.heap.size, enO e') :: F) c xb → Calls Tryz.prog 148 #[bpt xb, tx e'.exch, tx e'.key] W fun r w' => ∃ a cp Y, r = .returned (.tuple #[.slice a l.length cp, .bool ok]) ∧ (TssIs (.slice a l.length cp) l Y ∧ StoIs qT B w0 w' sb bs S.born ((W2.heap.size, mailO e' (.slice none 0 0) false) :: ([] ++ (Y ++ ((w.heap.size, enO e') :: F)))) c) ∧ (w'.cell? ⟨w.heap.size, 3, none⟩ = some (tx e'.exch) ∧ w'.cell? ⟨w.heap.size, 4, none⟩ = some (tx e'.key))) := Lib.hid fun W xb hx => by
  obtain ⟨Z, x1, x2⟩ := hx
  rw [hex.1, hex.2]
  refine (rou_is x1 hk hc hroute).mono ?_
  rintro r w' ⟨a, cp, Y, rfl, hy, h'⟩
  have h4 := x2 _ _ _ (Y ++ ((W2.heap.size, mailO e' (.slice none 0 0) false) :: (w.heap.size, enO e') :: F)) _ h.c1 (h'.permF (perm_by fun a => by simp only [List.count_append]; omega))
  have h5 : StoIs qT B w0 w' sb bs S.born ((W2.heap.size, mailO e' (.slice none 0 0) false) :: ([] ++ (Y ++ ((w.heap.size, enO e') :: F)))) c := h4.permF List.perm_middle
  refine ⟨a, cp, Y, rfl, ⟨hy, h5⟩, ?_⟩
  have k3 := h4.cell (b := w.heap.size) (i := 3) (List.mem_append_right _ (List.mem_cons_of_mem _ List.mem_cons_self)) rfl
  have k4 := h4.cell (b := w.heap.size) (i := 4) (List.mem_append_right _ (List.mem_cons_of_mem _ List.mem_cons_self)) rfl
  rw [hex.1] at k3
  rw [hex.2] at k4
  exact ⟨k3, k4⟩
 have hs0 : Hid ((W2.alloc (mailO e' (.slice none 0 0) false)).drew.cell? ⟨w.heap.size, 3, none⟩ = some (tx e'.exch) ∧ (W2.alloc (mailO e' (.slice none 0 0) false)).drew.cell? ⟨w.heap.size, 4, none⟩ = some (tx e'.key)) := Lib.hid ⟨h3.cell (b := w.heap.size) (List.mem_cons_of_mem _ List.mem_cons_self) rfl, h3.cell (b := w.heap.size) (List.mem_cons_of_mem _ List.mem_cons_self) rfl⟩
 have hw1 : IntKind.i64.wrap (S.last + 1) = S.last + 1 := by rw [IntKind.wrap_i64]; omega
 have hw2 : wrap64 (S.last + 1) = S.last + 1 := by unfold wrap64; omega
 obtain ⟨W3, hW3⟩ : ∃ W3, W3 = W2.alloc (mailO e' (.slice none 0 0) false) := ⟨_, rfl⟩
 rw [← hW3] at h3 hs0
 replace hW2 := Lib.hid hW2
 replace hW3 := Lib.hid hW3
 have hlen2 := Lib.hid hlen
 have hbl := Lib.hid h.len
 generalize hS1 : S.born = S1 at *
 clear h h0 hsee hb he he2 he' hex hroute htos hlen hS1 hk hc
 go_enter Tryz.func79, Tryz.ntmps79
 go_wp2_with fail
 refine wp_scope_ghost 0 (NewMailJ qT B w0 sb W2.heap.size bs S1 ((w.heap.size, enO e') :: F) c e' l) rfl ?_ ?_
 ·clear hs0 cr cw h3 zE z0 z1 z2 z3 z4 z5 z6 z7 z8 z9 zs k4 k4' f4 hW2 hW3 hw1 hw2 hl0 hl1
  generalize W2.heap.size = mb at *
  rintro m a' w' ⟨i, cp, a, tv, Y, Z, hi, hfr, hy, hw, hI⟩
  obtain ⟨q, rfl, hl'⟩ := hfr.lit
  clear hfr
  simp only [List.mem_cons, List.not_mem_nil, or_false, forall_eq_or_imp, forall_eq] at hl'
  obtain ⟨f0, f5, f6, f8⟩ := hl'
  simp only [List.range, List.range.loop, List.map, f0, f5, f6, f8]
  clear f0 f5 f6 f8
  have hi0 : (0 : Int) ≤ i := by omega
  by_cases hlt : i < l.length
  ·have hx : l[i]? = some l[i] := List.getElem?_eq_getElem hlt
   generalize l[i] = n at hx
   have hi1 : (i : Int) < l.length := by omega
   have hl40 : (l.length : Int) ≤ 40 := by have := hlen2.out; omega
   have hne : ((i : Int) == l.length) = false := by rw [beq_eq_false_iff_ne]; omega
   have hpm : ((mb, mailO e' tv false) :: (Z ++ (Y ++ ((w.heap.size, enO e') :: F)))).Perm (((mb, mailO e' tv false) :: (Z ++ ((w.heap.size, enO e') :: F))) ++ Y) := perm_by fun a => by simp only [List.count_append, List.count_cons]; omega
   obtain ⟨g1, o1, rfl, k1⟩ := hI.rowAt hy hpm (j := i) (u := tx n) (by rw [List.getElem?_map, hx]; rfl)
   have cn := Lib.hid (named_any hI n)
   cases hn : S1.idx n with
   | none =>
    rw [hn, ptrQ_none] at cn
    have nxt : Hid (∀ w2, Below w'.heap.size w' w2 → ∀ a', Fr 60 [(0, bpt sb), (5, bpt mb), (6, .slice (some ⟨g1, o1, none⟩) l.length cp), (8, .int .i64 ((i + 1 : Nat) : Int))] a' → ∃ k, k < m ∧ NewMailJ qT B w0 sb mb bs S1 ((w.heap.size, enO e') :: F) c e' l k a' w2) :=
     Lib.hid fun w2 hb a' hf => ⟨m - 1, by omega, i + 1, cp, _, tv, Y, Z, by omega, hf, hy, by rw [wayTo_none hx hn]; exact hw, hI.grow hb⟩
    clear hx hI hw hy hn hpm fin hbl hlen2
    go_wp2_with fail
    refine cn.out.mono ?_
    rintro r w2 ⟨rfl, hb⟩
    replace nxt := Lib.hid (nxt.out w2 hb)
    clear cn hb k1
    go_wp2_with fail
    refine wp_goto ?_
    exact ⟨rfl, nxt.out _ ⟨rfl, rfl, by simp⟩⟩
   | some k =>
    have hkl := (List.findIdx?_eq_some_iff_getElem.1 hn).1
    obtain ⟨pb, hpk⟩ := hI.blk (List.getElem?_eq_getElem hkl)
    rw [hn, ptrQ_some hpk] at cn
    have stp : Hid (∀ w2, Below w'.heap.size w' w2 → ∃ a cap a2 cap2 W, tv = .slice a (wayTo S1 (l.take i)).length cap ∧ (w2.cell? ⟨mb, 10, none⟩ = some tv ∧ (w2.alloc (.cells #[bpt pb] 131)).cell? ⟨mb, 10, none⟩ = some tv ∧ W.cell? ⟨mb, 10, none⟩ = some tv ∧ W.frozen? ⟨mb, 10, none⟩ = false) ∧
      AppRun Tryz.prog 90 tv (.slice (some ⟨w2.heap.size, 0, none⟩) 1 1) (w2.alloc (.cells #[bpt pb] 131)) (.slice a2 ((wayTo S1 (l.take i)).length + 1) cap2) W ∧
      ∀ a', Fr 60 [(0, bpt sb), (5, bpt mb), (6, .slice (some ⟨g1, o1, none⟩) l.length cp), (8, .int .i64 ((i + 1 : Nat) : Int))] a' → ∃ k, k < m ∧ NewMailJ qT B w0 sb mb bs S1 ((w.heap.size, enO e') :: F) c e' l k a' (W.setCell ⟨mb, 10, none⟩ (.slice a2 ((wayTo S1 (l.take i)).length + 1) cap2))) := Lib.hid fun w2 hb => by
     have hwl := wayTo_len S1 (l.take i)
     have hl2 := hlen2.out
     rw [List.length_take] at hwl
     obtain ⟨a, cap, a2, cap2, W, Z', p1, p2, p3, p4, p5⟩ := way_push (hI.grow hb) hw hpk (by omega)
     exact ⟨a, cap, a2, cap2, W, p1, p2, p3, fun a' hf => ⟨m - 1, by omega, i + 1, cp, _, _, Y, Z', by omega, hf, hy, by rw [wayTo_some hx hn]; exact p4, p5⟩⟩
    have npb : ∀ w, (binOp .neq 131 (bpt pb) (.pointer none)).run Tryz.prog w = .ok (.bool true) w := fun w => by kernel_rfl
    clear hx hI hw hy hn hpm fin hbl hlen2 hpk hkl
    generalize (wayTo S1 (l.take i)).length = wl at *
    go_wp2_with fail
    refine cn.out.mono ?_
    rintro r w2 ⟨rfl, hb⟩
    obtain ⟨a3, cap3, a2, cap2, W, rfl, ⟨k5, k6, k7, k8⟩, hrun, nxt⟩ := stp.out w2 hb
    replace nxt := Lib.hid nxt
    generalize wl + 1 = wl1 at *
    clear cn hb k1 stp
    go_wp2_with (at_builtin; refine wpList_append_go rfl (.tmp 52) (.tmp 54) 90 90 rfl _ _ rfl rfl hrun.run ?_)
    refine wp_goto ?_
    exact ⟨rfl, nxt.out _ ⟨rfl, rfl, by simp⟩⟩
  ·obtain rfl : i = l.length := by omega
   have f := Lib.hid (fin.out _ _ _ _ _ _ _ hy hw hI)
   clear fin hy hw hI hbl hlen2
   go_wp2_with fail
   simp only [Exit.jump]
   go_ret
   exact f.out
 ·intro H
  clear fin
  go_upto_region 3 with fail
  rw [← hW2.out]
  clear hW2 z0 z1 z2 z3 z4 z5 z6 z7 z8 z9 zs k4 k4' f4
  obtain ⟨z0, z1, z2, z3, z4, z5, z6, z7, z8, z9⟩ := zE
  go_upto_region 4 with fail
  rw [← hW3.out]
  clear hW3 z0 z1 z2 z3 z4 z5 z6 z7 z8 z9
  clear hw1 hw2 hl0 hl1 hbl hlen2
  go_wp2_with fail
  go_region_held3 (fun x => x.cell? ⟨w.heap.size, 3, none⟩ = some (tx e'.exch) ∧ x.cell? ⟨w.heap.size, 4, none⟩ = some (tx e'.key)) (first | with_reducible exact kS | with_reducible exact hs0.out) (first
   | (go_at_call 63; refine (cw.out _ (by assumption)).mono ?_; rintro r w4 ⟨xb, rfl, hX, kS⟩)
   | (go_at_call 148; refine (cr.out _ _ (by assumption)).mono ?_; rintro r w4 ⟨a, cp, Y, rfl, hY, kS⟩))
  replace hY := Lib.hid hY
  clear hX h3 hs0 kS cw cr
  go_wp2_with fail
  refine wp_label ?_
  go_step
  go_step
  exact H l.length _ _ ⟨0, cp, a, _, Y, [], by omega, ⟨rfl, rfl, by simp⟩, hY.out.1, SlIs.nil, hY.out.2⟩
end
end Go.Proofs.YtknjamfjonapiaaGreatDoor
