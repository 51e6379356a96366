import Derived.Test.YtknjamfjonapiaaGreatDoorY19
import Derived.Test.YtknjamfjonapiaaGreatDoorY18
import Derived.Test.YtknjamfjonapiaaGreatDoorY01
import Derived.Test.YtknjamfjonapiaaGreatDoorY17
import Derived.Test.YtknjamfjonapiaaGreatDoorY05
namespace Go.Proofs.YtknjamfjonapiaaGreatDoor
open Go.RowKit
set_option linter.unusedVariables false
set_option linter.unusedSectionVars false
set_option linter.unusedSimpArgs false
set_option maxRecDepth 100000
abbrev noneV : Ending := .returned (.tuple #[])
def HeldOk (S : Sto) : Prop := ∀ x ∈ S.sl.bs, x.2.1 < 9223372036854775807
def newS (room : Int) : Sto := ⟨SV.new room, [], [], [], 0, 0, 0⟩
section
variable {qT : Bool} {B : Nat} {w0 w w' : World} {sb pb qb gb c c' i k : Nat} {bs : List Nat} {S S' : Sto} {d d' : Plq} {F F' Z : List (Nat × Obj)} {o : Opt} {M : List Ent} {G : List Gst} {T : Nat} {n : List UInt8} {q z : Int} {e : Ent}
set_option maxHeartbeats 1000000 in
theorem st_new (hT : qT = true → Tab B w0) (hM : Most B w0) (h : St B w0 w F) (room : Int) : Calls Tryz.prog 13 #[.int .i64 room] w fun e w' => ∃ sb, e = .returned (bpt sb) ∧ StoIs qT B w0 w' sb [] (newS room) F 1 := by
 have cn := Lib.hid (new_is h room)
 have fin : Hid (∀ w', SlabIs B w0 w' w.heap.size (SV.new room) F → StoIs qT B w0 (w'.alloc (soO w.heap.size (.pointer none) (.slice none 0 0) (newS room))) w'.heap.size [] (newS room) F 1) := Lib.hid fun w' h' => by
  obtain ⟨SS, h1, h2⟩ := h'.in_
  refine ⟨[], w.heap.size, .pointer none, .slice none 0 0, [], [], SS, ⟨rfl, rfl, SlIs.nil, h2, .inl ⟨rfl, rfl, rfl, rfl⟩, by simp, ?_, hT, hM, Nat.le_refl _⟩, ?_⟩
  ·exact ⟨by simp [newS], by simp [newS], by simp [newS], by simp [newS], Int.le_refl _, by simp [newS], FineX.nil⟩
  ·simpa [stoO, pqsO] using h1.alloc (soO w.heap.size (.pointer none) (.slice none 0 0) (newS room))
 clear h
 generalize w.heap.size = slb at *
 go_enter Tryz.func13, Tryz.ntmps13
 go_wp2_with fail
 refine cn.out.mono ?_
 rintro e w1 ⟨rfl, h1⟩
 replace fin := Lib.hid (fin.out w1 h1)
 clear cn h1
 go_wp2_with fail
 go_ret
 exact ⟨_, rfl, fin.out⟩
set_option maxHeartbeats 400000 in
theorem st_slab {slb : Nat} (h0 : w.cell? ⟨sb, 0, none⟩ = some (ptr slb)) : Calls Tryz.prog 21 #[bpt sb] w fun e w' => e = .returned (ptr slb) ∧ w' = w := by
 go_enter Tryz.func21, Tryz.ntmps21
 go_wp2_with fail
 go_ret
 exact ⟨rfl, rfl⟩
set_option maxHeartbeats 400000 in
theorem st_now (h : StoIs qT B w0 w sb bs S F c) : Calls Tryz.prog 38 #[bpt sb] w fun e w' => e = .returned (.int .i64 S.now) ∧ w' = w := by
 obtain ⟨slb, xv, v, hs⟩ := h.see
 have h5 := hs.c5
 clear hs h
 go_enter Tryz.func38, Tryz.ntmps38
 go_wp2_with fail
 go_ret
 exact ⟨rfl, rfl⟩
set_option maxHeartbeats 1000000 in
theorem st_letgo (h : StoIs qT B w0 w sb bs S F c) (hh : HeldOk S) {b : Int} (hS : S.letGo b = S') : Calls Tryz.prog 70 #[bpt sb, .int .i64 b] w fun e w' => e = noneV ∧ StoIs qT B w0 w' sb bs S' F c := by
 unfold Sto.letGo at hS
 by_cases hb : 0 < b
 ·rw [if_pos hb] at hS
  obtain ⟨slb, Z, c0, h1, h2⟩ := h.slab
  have cs := Lib.hid (st_slab c0)
  have cd := Lib.hid (sb_drop_is h1 b hh)
  have fin : Hid (∀ w', SlabIs B w0 w' slb (S.sl.drop b).2 (Z ++ F) → StoIs qT B w0 w' sb bs S' F c) := Lib.hid fun w' h' => by rw [← hS]; exact h2 w' _ F h'
  clear h h1 h2 c0 hS hh
  go_enter Tryz.func70, Tryz.ntmps70
  go_wp2_with fail
  refine cs.out.mono ?_
  rintro e w1 ⟨rfl, rfl⟩
  clear cs
  go_wp2_with fail
  refine cd.out.mono ?_
  rintro e w2 ⟨rfl, h3⟩
  replace fin := Lib.hid (fin.out w2 h3)
  clear cd h3
  go_wp2_with fail
  exact bodyPost_end (results_none rfl _ _ _) rfl ⟨rfl, fin.out⟩
 ·rw [if_neg hb] at hS
  subst hS
  replace h := Lib.hid h
  clear hh
  go_enter Tryz.func70, Tryz.ntmps70
  go_wp2_with fail
  exact bodyPost_end (results_none rfl _ _ _) rfl ⟨rfl, h.out⟩
set_option maxHeartbeats 1000000 in
theorem st_hold (h : StoIs qT B w0 w sb bs S F c) (hh : HeldOk S) {b : Int} (hS : S.hold b = S') : Calls Tryz.prog 357 #[bpt sb, .int .i64 b] w fun e w' => e = noneV ∧ StoIs qT B w0 w' sb bs S' F c := by
 unfold Sto.hold at hS
 by_cases hb : 0 < b
 ·rw [if_pos hb] at hS
  obtain ⟨slb, Z, c0, h1, h2⟩ := h.slab
  have cs := Lib.hid (st_slab c0)
  have cd := Lib.hid (hold_is h1 b hh)
  have fin : Hid (∀ w', SlabIs B w0 w' slb (S.sl.hold b).2 (Z ++ F) → StoIs qT B w0 w' sb bs S' F c) := Lib.hid fun w' h' => by rw [← hS]; exact h2 w' _ F h'
  clear h h1 h2 c0 hS hh
  go_enter Tryz.func357, Tryz.ntmps357
  go_wp2_with fail
  refine cs.out.mono ?_
  rintro e w1 ⟨rfl, rfl⟩
  clear cs
  go_wp2_with fail
  refine cd.out.mono ?_
  rintro e w2 ⟨rfl, h3⟩
  replace fin := Lib.hid (fin.out w2 h3)
  clear cd h3
  go_wp2_with fail
  exact bodyPost_end (results_none rfl _ _ _) rfl ⟨rfl, fin.out⟩
 ·rw [if_neg hb] at hS
  subst hS
  replace h := Lib.hid h
  clear hh
  go_enter Tryz.func357, Tryz.ntmps357
  go_wp2_with fail
  exact bodyPost_end (results_none rfl _ _ _) rfl ⟨rfl, h.out⟩
set_option maxHeartbeats 1000000 in
theorem st_done (h : StoIs qT B w0 w sb bs S F c) (hh : HeldOk S) (e : Ent) (hS : S.letGo e.body = S') : Calls Tryz.prog 24 #[bpt sb, enV e] w fun r w' => r = noneV ∧ StoIs qT B w0 w' sb bs S' F c := by
 have h1 := h.alloc (enO e)
 have cl : Hid (Calls Tryz.prog 70 #[bpt sb, .int .i64 e.body] (w.alloc (enO e)) fun r w' => r = noneV ∧ StoIs qT B w0 w' sb bs S' F c) :=
  Lib.hid ((st_letgo h1 hh hS).mono fun r w' ⟨a, b⟩ => ⟨a, b.sub (List.sublist_cons_self _ _)⟩)
 clear h h1 hS hh
 go_enter Tryz.func24, Tryz.ntmps24
 go_wp2_with fail
 refine cl.out.mono ?_
 rintro r w1 ⟨rfl, h1⟩
 replace h1 := Lib.hid h1
 clear cl
 go_wp2_with fail
 exact bodyPost_end (results_none rfl _ _ _) rfl ⟨rfl, h1.out⟩
theorem idx_at (S : Sto) (n : List UInt8) : (S.idx n = none ∧ S.at_ n = none) ∨ ∃ i d, S.idx n = some i ∧ S.L[i]? = some d ∧ S.at_ n = some (i, d) ∧ d.name = n := by
 unfold Sto.at_
 cases h : S.idx n with
 | none => exact .inl ⟨rfl, rfl⟩
 | some i =>
  obtain ⟨hl, hn, -⟩ := List.findIdx?_eq_some_iff_getElem.1 h
  exact .inr ⟨i, S.L[i], rfl, List.getElem?_eq_getElem hl, by rw [Option.bind_some, List.getElem?_eq_getElem hl]; rfl, by simpa using hn⟩
theorem open_ways (S : Sto) (n : List UInt8) (q : Int) : (∃ z, S.open_ n q = (z, none) ∧ (z = 404 ∨ z = 405)) ∨ ∃ i d, S.open_ n q = (0, some (i, d)) ∧ S.idx n = some i ∧ S.L[i]? = some d ∧ S.at_ n = some (i, d) ∧ d.name = n := by
 unfold Sto.open_
 rcases idx_at S n with ⟨-, h⟩ | ⟨i, d, h1, h2, h3, h4⟩
 ·rw [h]; exact .inl ⟨404, rfl, .inl rfl⟩
 ·rw [h3]
  simp only
  by_cases hx : exclB d.o.bits = true ∧ d.conn ≠ q
  ·rw [if_pos hx]; exact .inl ⟨405, rfl, .inr rfl⟩
  ·rw [if_neg hx]; exact .inr ⟨i, d, rfl, h1, h2, rfl, h4⟩
theorem StoIs.blk (h : StoIs qT B w0 w sb bs S F c) (hi : S.L[i]? = some d) : ∃ pb, bs[i]? = some pb := by
 obtain ⟨pb, qb, gb, h1, -⟩ := h.place hi
 exact ⟨pb, h1⟩
theorem setM_same (hi : S.L[i]? = some d) : S.setM i d d.M = S := by
 unfold Sto.setM
 obtain ⟨hl, rfl⟩ := List.getElem?_eq_some_iff.1 hi
 rw [List.set_getElem_self]
set_option maxHeartbeats 2000000 in
theorem st_open (h : StoIs qT B w0 w sb bs S F c) (n : List UInt8) (q : Int) : Calls Tryz.prog 71 #[bpt sb, tx n, .int .i64 q] w fun e w' =>
  e = .returned (.tuple #[ptrQ bs ((S.open_ n q).2.map (·.1)), .int .i64 (S.open_ n q).1]) ∧ StoIs qT B w0 w' sb bs S F c := by
 have cn := Lib.hid (named_any h n)
 unfold Sto.open_
 rcases idx_at S n with ⟨e1, e2⟩ | ⟨i, d, e1, hi, e2, -⟩
 ·rw [e2]
  rw [e1, ptrQ_none] at cn
  replace h := Lib.hid h
  simp only [Option.map_none, ptrQ_none]
  clear e1 e2
  go_enter Tryz.func71, Tryz.ntmps71
  go_wp2_with fail
  refine cn.out.mono ?_
  rintro e w1 ⟨rfl, hb⟩
  have fin := Lib.hid (h.out.grow hb)
  clear cn hb h
  go_wp2_with fail
  go_ret2
  exact ⟨rfl, fin.out⟩
 ·rw [e2]
  obtain ⟨pb, hpb⟩ := h.blk hi
  rw [e1, ptrQ_some hpb] at cn
  have see : Hid (∀ w1, Below w.heap.size w w1 → ∃ qb, w1.cell? ⟨pb, 3, none⟩ = some (rptr qb) ∧ Calls Tryz.prog 92 #[bpt pb] w1 fun e w' => e = .returned (.bool (exclB d.o.bits)) ∧ w'.cell? ⟨pb, 2, none⟩ = some (.int .i64 d.conn) ∧ StoIs qT B w0 w' sb bs S F c) := Lib.hid fun w1 hb => by
   obtain ⟨pb', qb, gb, h1, h2, ⟨Z, h3, h4⟩, -⟩ := (h.grow hb).place hi
   rw [hpb] at h1
   obtain rfl := Option.some.inj h1
   refine ⟨qb, h2.c3, (excl_any h3 h2.c3).mono ?_⟩
   rintro e w' ⟨rfl, h5⟩
   obtain ⟨h6, h7⟩ := h4 _ _ _ h5
   rw [setM_same hi] at h7
   exact ⟨rfl, h6.c2, h7⟩
  simp only
  obtain ⟨ex, hex⟩ : ∃ ex, ex = exclB d.o.bits := ⟨_, rfl⟩
  rw [← hex] at see ⊢
  generalize d.conn = cn0 at *
  by_cases hc : ex = true ∧ cn0 ≠ q
  ·rw [if_pos hc]
   simp only [Option.map_none, ptrQ_none]
   obtain ⟨rfl, hc⟩ := hc
   have hcb : (cn0 != q) = true := by simpa using hc
   clear e1 e2 hi hex hpb h hc
   go_enter Tryz.func71, Tryz.ntmps71
   go_wp2_with fail
   refine cn.out.mono ?_
   rintro e w1 ⟨rfl, hb⟩
   obtain ⟨qb, -, ce⟩ := see.out w1 hb
   replace ce := Lib.hid ce
   clear cn hb see
   go_wp2_with fail
   refine ce.out.mono ?_
   rintro e w2 ⟨rfl, c2, h2⟩
   replace h2 := Lib.hid h2
   clear ce
   go_wp2_with fail
   go_ret2
   exact ⟨rfl, h2.out⟩
  ·rw [if_neg hc]
   simp only [Option.map_some, ptrQ_some hpb]
   cases ex with
   | false =>
    clear e1 e2 hi hex hpb h hc
    go_enter Tryz.func71, Tryz.ntmps71
    go_wp2_with fail
    refine cn.out.mono ?_
    rintro e w1 ⟨rfl, hb⟩
    obtain ⟨qb, -, ce⟩ := see.out w1 hb
    replace ce := Lib.hid ce
    clear cn hb see
    go_wp2_with fail
    refine ce.out.mono ?_
    rintro e w2 ⟨rfl, c2, h2⟩
    replace h2 := Lib.hid h2
    clear ce
    go_wp2_with fail
    go_ret2
    exact ⟨rfl, h2.out⟩
   | true =>
    obtain rfl : cn0 = q := by
     by_cases e : cn0 = q
     ·exact e
     ·exact absurd ⟨rfl, e⟩ hc
    have hcb : (cn0 != cn0) = false := by simp
    clear e1 e2 hi hex hpb h hc
    go_enter Tryz.func71, Tryz.ntmps71
    go_wp2_with fail
    refine cn.out.mono ?_
    rintro e w1 ⟨rfl, hb⟩
    obtain ⟨qb, -, ce⟩ := see.out w1 hb
    replace ce := Lib.hid ce
    clear cn hb see
    go_wp2_with fail
    refine ce.out.mono ?_
    rintro e w2 ⟨rfl, c2, h2⟩
    replace h2 := Lib.hid h2
    clear ce
    go_wp2_with fail
    go_ret2
    exact ⟨rfl, h2.out⟩
theorem st_open_no (h : StoIs qT B w0 w sb bs S F c) (ho : S.open_ n q = (z, none)) : Calls Tryz.prog 71 #[bpt sb, tx n, .int .i64 q] w fun e w' =>
  e = .returned (.tuple #[.pointer none, .int .i64 z]) ∧ StoIs qT B w0 w' sb bs S F c := by
 have := st_open h n q
 rw [ho] at this
 exact this
theorem st_open_yes (h : StoIs qT B w0 w sb bs S F c) (ho : S.open_ n q = (0, some (i, d))) (hb : bs[i]? = some pb) : Calls Tryz.prog 71 #[bpt sb, tx n, .int .i64 q] w fun e w' =>
  e = .returned (.tuple #[bpt pb, .int .i64 0]) ∧ StoIs qT B w0 w' sb bs S F c := by
 have := st_open h n q
 rw [ho] at this
 simp only [Option.map_some, ptrQ_some hb] at this
 exact this
end
end Go.Proofs.YtknjamfjonapiaaGreatDoor
namespace Go.Proofs.YtknjamfjonapiaaGreatDoor
open Go.RowKit
set_option linter.unusedVariables false
set_option maxRecDepth 100000
section
variable {B : Nat} {w0 w w' : World} {F F' T R Q S : List (Nat × Obj)} {tb xb c c' pb qb : Nat} {A A' rows : List Bnd} {P P' : List Plc} {v tv u : Value} {n x key : List UInt8} {keys l : List (List UInt8)} {b : Bnd} {z kd bt : Int} {ok : Bool}
theorem decl_is (h : ExIs B w0 w xb P A F c) (hc : 1 ≤ c) (e : declX P n kd (autoB bt) = (P', z)) : Calls Tryz.prog 76 #[bpt xb, tx n, .int .i64 kd, .int .i64 bt] w fun e w' => e = .returned (.int .i64 z) ∧ ExIs B w0 w' xb P' A F c := by
 have := xdeclare_any h hc n kd bt
 rw [e] at this
 exact this
theorem bind_is {b1 b2 b3 : List UInt8} (h : ExIs B w0 w xb P A F c) (hb : FitB (b1, b2, b3)) (hc : c ≤ 100000) (e : bindX P A (b1, b2, b3) = (A', z)) : Calls Tryz.prog 78 #[bpt xb, .agg #[tx b1, tx b2, tx b3]] w fun e w' => e = .returned (.int .i64 z) ∧ ExIs B w0 w' xb P A' F (c + 50) := by
 have := xbind_any h hb hc
 rw [e] at this
 exact this
theorem rou_is (h : ExIs B w0 w xb P A F c) (hk : key.length ≤ 1000) (hc : c ≤ 100000) (e : routeX P A n key = (l, ok)) : Calls Tryz.prog 148 #[bpt xb, tx n, tx key] w fun e w' => ∃ a cap S, e = .returned (.tuple #[.slice a l.length cap, .bool ok]) ∧ TssIs (.slice a l.length cap) l S ∧ ExIs B w0 w' xb P A (S ++ F) c := by
 have := route_is h n key hk hc
 rw [e] at this
 refine this.mono ?_
 rintro e w' ⟨u, rfl, S, hu, hE⟩
 obtain ⟨a, cap, rfl⟩ := hu.form
 exact ⟨a, cap, S, rfl, hu, hE⟩
end
end Go.Proofs.YtknjamfjonapiaaGreatDoor
namespace Go.Proofs.YtknjamfjonapiaaGreatDoor
open Go.RowKit
set_option linter.unusedVariables false
set_option linter.unusedSectionVars false
set_option linter.unusedSimpArgs false
set_option maxRecDepth 100000
def StoX (qT : Bool) (B : Nat) (w0 w : World) (sb : Nat) (bs : List Nat) (S : Sto) (F : List (Nat × Obj)) (c xb : Nat) : Prop :=
 ∃ Z, ExIs B w0 w xb S.P S.A (Z ++ F) c ∧ ∀ w' P A F' c', 1 ≤ c' → ExIs B w0 w' xb P A (Z ++ F') c' → StoIs qT B w0 w' sb bs { S with P := P, A := A } F' c'
section
variable {qT : Bool} {B : Nat} {w0 w w' : World} {sb slb xb pb qb gb c c' i k : Nat} {bs : List Nat} {S S' : Sto} {L : List Pq} {xv v : Value} {d d' : Plq} {R SX SS F F' Z : List (Nat × Obj)} {o : Opt} {M : List Ent} {G : List Gst} {T : Nat} {n : List UInt8} {q z bt : Int} {e : Ent} {b : Bnd}
theorem FineS.ways (h : FineS S) {P : List Plc} {A : List Bnd} (hf : FineX P A) : FineS { S with P := P, A := A } := ⟨h.few, h.once, h.nums, h.top, h.num0, h.each, hf⟩
theorem StoIn.x (h1 : StoIn qT B w0 bs S L slb xv v R SX SS c) (hx : ExIs B w0 w xb S.P S.A (((sb, soO slb (bpt xb) v S) :: (R ++ (SS ++ pqsO L))) ++ F) c) : StoX qT B w0 w sb bs S F c xb :=
 ⟨_, hx, fun w'' P A F' c' hc h => by
  obtain ⟨SX', a, b⟩ := h.in_
  refine ⟨L, slb, bpt xb, v, R, SX', SS, { h1 with ways := b, fine := h1.fine.ways h.fine, c1 := hc }, ?_⟩
  show St B w0 w'' (stoO sb slb (bpt xb) v S L R SX' SS ++ F')
  refine a.perm (perm_by fun a => ?_)
  simp only [stoO, List.count_append, List.count_cons]; omega⟩
theorem StoX.same (h : StoX qT B w0 w sb bs S F c xb) (hc : 1 ≤ c) : StoIs qT B w0 w sb bs S F c := by
 obtain ⟨Z, h1, h2⟩ := h
 exact h2 _ _ _ _ _ hc h1
theorem StoIs.c1 (h : StoIs qT B w0 w sb bs S F c) : 1 ≤ c := by
 obtain ⟨L, slb, xv, v, R, SX, SS, h1, -⟩ := h
 exact h1.c1
set_option maxHeartbeats 2000000 in
theorem st_ways (h : StoIs qT B w0 w sb bs S F c) : Calls Tryz.prog 63 #[bpt sb] w fun e w' => ∃ xb, e = .returned (bpt xb) ∧ StoX qT B w0 w' sb bs S F c xb := by
 obtain ⟨L, slb, xv, v, R, SX, SS, h1, h2⟩ := h
 have hp : ∀ xv SX, (stoO sb slb xv v S L R SX SS ++ F).Perm (SX ++ (((sb, soO slb xv v S) :: (R ++ (SS ++ pqsO L))) ++ F)) := fun xv SX => perm_by fun a => by
  simp only [stoO, List.count_append, List.count_cons]; omega
 have c1 := (h2.seeS (List.mem_append_left _ List.mem_cons_self)).c1
 rcases h1.ways with ⟨rfl, hP, hA, rfl⟩ | ⟨xb, rfl, hx⟩
 ·have h3 := h2.perm (hp _ _)
  rw [List.nil_append] at h3
  have cn := Lib.hid (xnew_any h3)
  have st : Hid (∀ w1 xb, ExIs B w0 w1 xb [] [] (((sb, soO slb (.pointer none) v S) :: (R ++ (SS ++ pqsO L))) ++ F) 1 → w1.frozen? ⟨sb, 1, none⟩ = false ∧ w1.cell? ⟨sb, 1, none⟩ = some (.pointer none) ∧ (w1.setCell ⟨sb, 1, none⟩ (bpt xb)).cell? ⟨sb, 1, none⟩ = some (bpt xb) ∧ StoX qT B w0 (w1.setCell ⟨sb, 1, none⟩ (bpt xb)) sb bs S F c xb) := Lib.hid fun w1 xb hx => by
   obtain ⟨O, s1, s2⟩ := hx.beside
   have m0 : (sb, soO slb (.pointer none) v S) ∈ O ++ (((sb, soO slb (.pointer none) v S) :: (R ++ (SS ++ pqsO L))) ++ F) := List.mem_append_right _ (List.mem_append_left _ List.mem_cons_self)
   have s3 : St B w0 (w1.setCell ⟨sb, 1, none⟩ (bpt xb)) (O ++ ((sb, soO slb (bpt xb) v S) :: ((R ++ (SS ++ pqsO L)) ++ F))) := St.set (A := O) s1 1 (bpt xb)
   have s4 := s2 _ (((sb, soO slb (bpt xb) v S) :: (R ++ (SS ++ pqsO L))) ++ F) s3
   refine ⟨s1.soft m0 1, s1.cell m0 rfl, s3.cell (b := sb) (List.mem_append_right _ List.mem_cons_self) rfl, StoIn.x h1 ?_⟩
   rw [hP, hA]
   exact s4.mono h1.c1
  clear h1 h2 h3 hp hP hA
  generalize w.heap.size = xb at *
  go_enter Tryz.func63, Tryz.ntmps63
  go_wp2_with fail
  refine cn.out.mono ?_
  rintro e w1 ⟨rfl, hx⟩
  obtain ⟨f1, k1, k2, fin⟩ := st.out w1 xb hx
  replace fin := Lib.hid fin
  clear cn st hx
  go_wp2_with fail
  go_ret
  exact ⟨_, rfl, fin.out⟩
 ·have fin := Lib.hid (StoIn.x h1 (hx _ _ (h2.perm (hp _ _))))
  clear h1 h2 hp hx
  go_enter Tryz.func63, Tryz.ntmps63
  go_wp2_with fail
  go_ret
  exact ⟨_, rfl, fin.out⟩
set_option maxHeartbeats 1000000 in
theorem st_has (h : StoIs qT B w0 w sb bs S F c) (n : List UInt8) : Calls Tryz.prog 17 #[bpt sb, tx n] w fun e w' => e = .returned (.bool (hasX S.P n)) ∧ StoIs qT B w0 w' sb bs S F c := by
 have hc := h.c1
 have cw := Lib.hid (st_ways h)
 clear h
 go_enter Tryz.func17, Tryz.ntmps17
 go_wp2_with fail
 refine cw.out.mono ?_
 rintro e w1 ⟨xb, rfl, hx⟩
 have ch : Hid (Calls Tryz.prog 64 #[bpt xb, tx n] w1 fun e w' => e = .returned (.bool (hasX S.P n)) ∧ w' = w1) := Lib.hid (by
  obtain ⟨Z, x1, -⟩ := hx
  exact has_is x1 n)
 have fin := Lib.hid (hx.same hc)
 clear cw hx
 go_wp2_with fail
 refine ch.out.mono ?_
 rintro e w2 ⟨rfl, rfl⟩
 clear ch
 go_wp2_with fail
 go_ret
 exact ⟨rfl, fin.out⟩
set_option maxHeartbeats 1000000 in
theorem st_exch (h : StoIs qT B w0 w sb bs S F c) (n k : List UInt8) (bt : Int) {S' : Sto} {z : Int} (hS : S.exch n k bt = (S', z)) : Calls Tryz.prog 28 #[bpt sb, tx n, tx k, .int .i64 bt] w fun e w' => e = .returned (.int .i64 z) ∧ StoIs qT B w0 w' sb bs S' F c := by
 have hc := h.c1
 have cw := Lib.hid (st_ways h)
 have ck := Lib.hid (fun w => kind_any k w)
 obtain ⟨kd, hkd⟩ : ∃ kd, kd = kindL k := ⟨_, rfl⟩
 rw [← hkd] at ck
 have cd : Hid (∀ w1 xb, StoX qT B w0 w1 sb bs S F c xb → Calls Tryz.prog 76 #[bpt xb, tx n, .int .i64 kd, .int .i64 bt] w1 fun e w' => e = .returned (.int .i64 z) ∧ StoIs qT B w0 w' sb bs S' F c) := Lib.hid fun w1 xb hx => by
  obtain ⟨Z, x1, x2⟩ := hx
  unfold Sto.exch at hS
  rw [← hkd] at hS
  obtain ⟨rfl, rfl⟩ := Prod.mk.inj hS
  refine (decl_is x1 hc (P' := (declX S.P n kd (autoB bt)).1) (z := (declX S.P n kd (autoB bt)).2) rfl).mono ?_
  rintro e w' ⟨rfl, h2⟩
  exact ⟨rfl, x2 _ _ _ _ _ hc h2⟩
 clear h hS hkd
 go_enter Tryz.func28, Tryz.ntmps28
 go_wp2_with fail
 refine cw.out.mono ?_
 rintro e w1 ⟨xb, rfl, hx⟩
 replace cd := Lib.hid (cd.out w1 xb hx)
 clear cw hx
 go_wp2_with fail
 refine (ck.out w1).mono ?_
 rintro e w2 ⟨rfl, rfl⟩
 clear ck
 go_wp2_with fail
 refine cd.out.mono ?_
 rintro e w3 ⟨rfl, h3⟩
 replace h3 := Lib.hid h3
 clear cd
 go_wp2_with fail
 go_ret
 exact ⟨rfl, h3.out⟩
set_option maxHeartbeats 1000000 in
theorem st_bind (h : StoIs qT B w0 w sb bs S F c) {b1 b2 b3 : List UInt8} (hb : FitB (b1, b2, b3)) (hc : c ≤ 100000) (q : Int) {S' : Sto} {z : Int} (hS : S.bind (b1, b2, b3) q = (S', z)) :
  Calls Tryz.prog 29 #[bpt sb, .agg #[tx b1, tx b2, tx b3], .int .i64 q] w fun e w' => e = .returned (.int .i64 z) ∧ StoIs qT B w0 w' sb bs S' F (c + 50) := by
 have h1 := h.alloc (bO (b1, b2, b3))
 have hc1 := h.c1
 unfold Sto.bind at hS
 simp only at hS
 rcases open_ways S b2 q with ⟨y, ho, hy⟩ | ⟨i, d, ho, e1, hi, e2, -⟩
 ·rw [ho] at hS
  obtain ⟨rfl, rfl⟩ := Prod.mk.inj hS
  have co := Lib.hid (st_open_no h1 ho)
  have fin : Hid (∀ w', StoIs qT B w0 w' sb bs S ((w.heap.size, bO (b1, b2, b3)) :: F) c → StoIs qT B w0 w' sb bs S F (c + 50)) := Lib.hid fun w' h' => (h'.sub (List.sublist_cons_self _ _)).mono (by omega)
  have hyb : (y != 0) = true := by rcases hy with rfl | rfl <;> rfl
  clear h h1 ho hy hb hc hS hc1
  go_enter Tryz.func29, Tryz.ntmps29
  go_wp2_with fail
  refine co.out.mono ?_
  rintro e w1 ⟨rfl, hx⟩
  replace fin := Lib.hid (fin.out w1 hx)
  clear co hx
  go_wp2_with fail
  go_ret
  exact ⟨rfl, fin.out⟩
 ·rw [ho] at hS
  simp only at hS
  obtain ⟨rfl, rfl⟩ := Prod.mk.inj hS
  obtain ⟨pb, hpb⟩ := h.blk hi
  have co := Lib.hid (st_open_yes h1 ho hpb)
  have cw : Hid (∀ w1, StoIs qT B w0 w1 sb bs S ((w.heap.size, bO (b1, b2, b3)) :: F) c → Calls Tryz.prog 63 #[bpt sb] w1 fun e w' => ∃ xb, e = .returned (bpt xb) ∧ StoX qT B w0 w' sb bs S ((w.heap.size, bO (b1, b2, b3)) :: F) c xb ∧ (w'.cell? ⟨w.heap.size, 0, none⟩ = some (tx b1) ∧ w'.cell? ⟨w.heap.size, 1, none⟩ = some (tx b2) ∧ w'.cell? ⟨w.heap.size, 2, none⟩ = some (tx b3))) := Lib.hid fun w1 h' => (st_ways h').mono (by
   rintro e w' ⟨xb, rfl, hx⟩
   have h3 := hx.same hc1
   exact ⟨xb, rfl, hx, ⟨h3.cell List.mem_cons_self rfl, h3.cell List.mem_cons_self rfl, h3.cell List.mem_cons_self rfl⟩⟩)
  have cb : Hid (∀ w1 xb, StoX qT B w0 w1 sb bs S ((w.heap.size, bO (b1, b2, b3)) :: F) c xb → Calls Tryz.prog 78 #[bpt xb, .agg #[tx b1, tx b2, tx b3]] w1 fun e w' => e = .returned (.int .i64 (bindX S.P S.A (b1, b2, b3)).2) ∧ StoIs qT B w0 w' sb bs { S with A := (bindX S.P S.A (b1, b2, b3)).1 } ((w.heap.size, bO (b1, b2, b3)) :: F) (c + 50) ∧
    (w'.cell? ⟨w.heap.size, 0, none⟩ = some (tx b1) ∧ w'.cell? ⟨w.heap.size, 1, none⟩ = some (tx b2) ∧ w'.cell? ⟨w.heap.size, 2, none⟩ = some (tx b3))) := Lib.hid fun w1 xb hx => by
   obtain ⟨Z, x1, x2⟩ := hx
   refine (bind_is x1 hb hc (A' := (bindX S.P S.A (b1, b2, b3)).1) (z := (bindX S.P S.A (b1, b2, b3)).2) rfl).mono ?_
   rintro e w' ⟨rfl, h2⟩
   have h3 := x2 _ _ _ ((w.heap.size, bO (b1, b2, b3)) :: F) _ (by omega) h2
   exact ⟨rfl, h3, h3.cell List.mem_cons_self rfl, h3.cell List.mem_cons_self rfl, h3.cell List.mem_cons_self rfl⟩
  have hcells : Hid (∀ w1, StoIs qT B w0 w1 sb bs S ((w.heap.size, bO (b1, b2, b3)) :: F) c → StoIs qT B w0 w1.drew sb bs S ((w.heap.size, bO (b1, b2, b3)) :: F) c ∧ Hid (w1.drew.cell? ⟨w.heap.size, 0, none⟩ = some (tx b1) ∧ w1.drew.cell? ⟨w.heap.size, 1, none⟩ = some (tx b2) ∧ w1.drew.cell? ⟨w.heap.size, 2, none⟩ = some (tx b3))) := Lib.hid fun w1 h' => by
   have h3 := h'.grow (drew_b w1)
   exact ⟨h3, Lib.hid ⟨h3.cell List.mem_cons_self rfl, h3.cell List.mem_cons_self rfl, h3.cell List.mem_cons_self rfl⟩⟩
  generalize (bindX S.P S.A (b1, b2, b3)).2 = z at *
  generalize ({ S with A := (bindX S.P S.A (b1, b2, b3)).1 } : Sto) = S' at *
  clear h h1 ho hpb hi e1 e2 hb hc hS hc1
  go_enter Tryz.func29, Tryz.ntmps29
  go_wp2_with fail
  refine co.out.mono ?_
  rintro e w1 ⟨rfl, hx⟩
  obtain ⟨hx1, hs0⟩ := hcells.out w1 hx
  clear co hx hcells
  generalize w.heap.size = nb at *
  go_wp2_with fail
  go_region_held3 (fun x => x.cell? ⟨nb, 0, none⟩ = some (tx b1) ∧ x.cell? ⟨nb, 1, none⟩ = some (tx b2) ∧ x.cell? ⟨nb, 2, none⟩ = some (tx b3)) (first | exact kS | exact hs0.out) (first
   | (go_at_call 63; refine (cw.out _ (by assumption)).mono ?_; rintro e w'' ⟨xb, rfl, hX, kS⟩)
   | (go_at_call 78; refine (cb.out _ _ (by assumption)).mono ?_; rintro e w'' ⟨rfl, h3, kS⟩))
  have fin := Lib.hid (h3.sub (List.sublist_cons_self _ _))
  clear h3 hX hx1 hs0 cw cb
  go_wp2_with fail
  go_ret
  exact ⟨rfl, fin.out⟩
end
end Go.Proofs.YtknjamfjonapiaaGreatDoor
namespace Go.Proofs.YtknjamfjonapiaaGreatDoor
open Go.RowKit
set_option linter.unusedVariables false
set_option linter.unusedSectionVars false
set_option linter.unusedSimpArgs false
set_option maxRecDepth 100000
theorem ret_entry4 {P : Program} {fn : Func} {a a1 a2 a3 d : Nat} {v1 v2 v3 : Int} {tmps : Array Value} {w : World} {e : Ent} (hr : fn.results = #[.cell a 51, .tmp a1, .tmp a2, .tmp a3]) (h0 : tmps[a]? = some (.pointer (some ⟨d, 0, none⟩))) (h1 : tmps[a1]? = some (.int .i64 v1)) (h2 : tmps[a2]? = some (.int .i64 v2)) (h3 : tmps[a3]? = some (.int .i64 v3)) (q : EnAt w d e) (hP : P = Tryz.prog) :
  (results fn tmps).run P w = .ok (.tuple #[enV e, .int .i64 v1, .int .i64 v2, .int .i64 v3]) w := by
 subst hP
 obtain ⟨q0, q1, q2, q3, q4, q5, q6, q7, q8, q9⟩ := q
 simp [results, hr, go_sem, h0, h1, h2, h3, q0, q1, q2, q3, q4, q5, q6, q7, q8, q9]
section
variable {qT : Bool} {B : Nat} {w0 w w' : World} {sb slb xb pb qb gb c c' i k b : Nat} {bs : List Nat} {S S' : Sto} {L : List Pq} {xv v : Value} {d d' : Plq} {R SX SS F F' Z : List (Nat × Obj)} {o : Opt} {M : List Ent} {G : List Gst} {T : Nat} {n : List UInt8} {q z bt : Int} {e e0 : Ent}
theorem StoIs.putE (h : StoIs qT B w0 w sb bs S ((k, enO e0) :: F) c) : StoIs qT B w0 (enPut w k e) sb bs S ((k, enO e) :: F) c := by
 obtain ⟨O, h1, -, h2⟩ := h.beside
 exact h2 _ _ (((h1.perm List.perm_middle).enPut (e := e)).perm List.perm_middle.symm)
theorem StoIs.enAt (h : StoIs qT B w0 w sb bs S F c) (hm : (k, enO e) ∈ F) : EnAt w k e ∧ ∀ i, w.frozen? ⟨k, i, none⟩ = false := by
 obtain ⟨O, hs, -⟩ := h.beside
 exact ⟨hs.enAt (List.mem_append_right _ hm), fun i => hs.soft (List.mem_append_right _ hm) i⟩
theorem StoIs.ret_e (h : StoIs qT B w0 w sb bs S ((k, enO e0) :: F) c) (x : Ent) : EnAt w k e0 ∧ (∀ i, w.frozen? ⟨k, i, none⟩ = false) ∧ EnAt (enPut w k x) k x ∧ StoIs qT B w0 (enPut w k x) sb bs S F c := by
 have h1 := h.enAt List.mem_cons_self
 have h2 := h.putE (e := x)
 exact ⟨h1.1, h1.2, (h2.enAt List.mem_cons_self).1, h2.sub (List.sublist_cons_self _ _)⟩
theorem cell_enPut {a : Addr} {v : Value} (h : w.cell? a = some v) (hn : k ≠ a.block) : (enPut w k e).cell? a = some v := by
 have e : (enPut w k e).cell? a = w.cell? a := by
  repeat rw [World.cell?_setCell_far _ _ _ _ (by exact hn)]
 rw [e]
 exact h
theorem enAt_enPut {x : Ent} (h : EnAt w b x) (hn : k ≠ b) : EnAt (enPut w k e) b x := by
 obtain ⟨q0, q1, q2, q3, q4, q5, q6, q7, q8, q9⟩ := h
 exact ⟨cell_enPut q0 hn, cell_enPut q1 hn, cell_enPut q2 hn, cell_enPut q3 hn, cell_enPut q4 hn, cell_enPut q5 hn, cell_enPut q6 hn, cell_enPut q7 hn, cell_enPut q8 hn, cell_enPut q9 hn⟩
theorem StoIs.lt {x : Obj} (h : StoIs qT B w0 w sb bs S F c) (hm : (k, x) ∈ F) : k < w.heap.size := by
 obtain ⟨O, hs, -⟩ := h.beside
 exact St.lt (o := x) hs (List.mem_append_right _ hm)
theorem StoIs.ne {x : Obj} (h : StoIs qT B w0 w sb bs S F c) (hm : (k, x) ∈ F) (hb : bs[i]? = some pb) : k ≠ pb := by
 obtain ⟨L, slb, xv, v, R, SX, SS, h1, h2⟩ := h
 rw [← h1.blks, List.getElem?_map, Option.map_eq_some_iff] at hb
 obtain ⟨p, hp, rfl⟩ := hb
 have hn := h2.nodup
 rw [List.map_append, List.nodup_append] at hn
 refine fun e => hn.2.2 p.b (List.mem_map.2 ⟨(p.b, pqO p.d p.qb p.gb), ?_, rfl⟩) k (List.mem_map.2 ⟨_, hm, rfl⟩) e.symm
 refine List.mem_cons_of_mem _ (List.mem_append_right _ (List.mem_append_right _ (List.mem_append_right _ ?_)))
 exact List.mem_flatMap.2 ⟨p, List.mem_of_getElem? hp, List.mem_cons_self⟩
theorem set_get {α : Type} {l : List α} {i : Nat} {x y : α} (h : l[i]? = some x) : (l.set i y)[i]? = some y := by
 rw [List.getElem?_set_self (List.getElem?_eq_some_iff.1 h).1]
theorem setM_get {M : List Ent} (hi : S.L[i]? = some d) : (S.setM i d M).L[i]? = some { d with M := M } := set_get hi
theorem pl_take (h : StoIs qT B w0 w sb bs S F c) (hi : S.L[i]? = some d) (hb : bs[i]? = some pb) : ∃ qb, w.cell? ⟨pb, 3, none⟩ = some (rptr qb) ∧ Calls Tryz.prog 83 #[rptr qb] w fun r w' => r = .returned (firstV d.M) ∧ (w'.cell? ⟨pb, 1, none⟩ = some (.int .i64 d.num) ∧ w'.cell? ⟨pb, 3, none⟩ = some (rptr qb)) ∧ StoIs qT B w0 w' sb bs (S.setM i d d.M.tail) F c := by
 obtain ⟨pb', qb, gb, h1, h2, ⟨Z, h3, h4⟩, -⟩ := h.place hi
 rw [hb] at h1
 obtain rfl := Option.some.inj h1
 refine ⟨qb, h2.c3, (qu_take h3).mono ?_⟩
 rintro r w' ⟨rfl, h5⟩
 obtain ⟨h6, h7⟩ := h4 _ _ _ h5
 exact ⟨rfl, ⟨h6.c1, h6.c3⟩, h7⟩
theorem pl_len (h : StoIs qT B w0 w sb bs S F c) (hi : S.L[i]? = some d) (hb : bs[i]? = some pb) (h3 : w.cell? ⟨pb, 3, none⟩ = some (rptr qb)) : Calls Tryz.prog 73 #[rptr qb] w fun r w' => r = .returned (.int .i64 d.M.length) ∧ (w'.cell? ⟨pb, 1, none⟩ = some (.int .i64 d.num) ∧ w'.cell? ⟨pb, 3, none⟩ = some (rptr qb)) ∧ StoIs qT B w0 w' sb bs S F c := by
 obtain ⟨pb', qb', gb, h1, h2, ⟨Z, h4, h5⟩, -⟩ := h.place hi
 rw [hb] at h1
 obtain rfl := Option.some.inj h1
 have e := h2.c3
 rw [h3] at e
 cases e
 refine (qu_len h4).mono ?_
 rintro r w' ⟨rfl, h6⟩
 obtain ⟨h7, h8⟩ := h5 _ _ _ h6
 rw [setM_same hi] at h8
 exact ⟨rfl, ⟨h7.c1, h7.c3⟩, h8⟩
set_option maxHeartbeats 4000000 in
theorem st_take (h : StoIs qT B w0 w sb bs S F c) (n : List UInt8) (q : Int) {S' : Sto} {e : Ent} {a1 a2 a3 : Int} (hS : S.take n q = (S', e, a1, a2, a3)) :
  Calls Tryz.prog 32 #[bpt sb, tx n, .int .i64 q] w fun r w' => r = .returned (.tuple #[enV e, .int .i64 a1, .int .i64 a2, .int .i64 a3]) ∧ StoIs qT B w0 w' sb bs S' F c := by
 have h0 := h.alloc (enO z0E)
 unfold Sto.take at hS
 rcases open_ways S n q with ⟨y, ho, hy⟩ | ⟨i, d, ho, e1, hi, e2, -⟩
 ·rw [ho] at hS
  simp only [Prod.mk.injEq] at hS
  obtain ⟨rfl, rfl, rfl, rfl, rfl⟩ := hS
  have co := Lib.hid (st_open_no h0 ho)
  have hret := Lib.hid (fun w' (h' : StoIs qT B w0 w' sb bs S ((w.heap.size, enO z0E) :: F) c) => h'.ret_e z0E)
  have hyb : (y != 0) = true := by rcases hy with rfl | rfl <;> rfl
  clear h h0 ho hy
  go_enter Tryz.func32, Tryz.ntmps32
  go_wp2_with fail
  refine co.out.mono ?_
  rintro r w1 ⟨rfl, hx⟩
  obtain ⟨⟨z0, z1, z2, z3, z4, z5, z6, z7, z8, z9⟩, zs, finE, fin⟩ := hret.out w1 hx
  replace finE := Lib.hid finE
  replace fin := Lib.hid fin
  clear co hx hret
  go_wp2_with fail
  exact bodyPost_ret (ret_entry4 (e := z0E) rfl rfl rfl rfl rfl finE.out rfl) rfl ⟨rfl, fin.out⟩
 ·rw [ho] at hS
  simp only at hS
  obtain ⟨pb, hpb⟩ := h.blk hi
  have co := Lib.hid (st_open_yes h0 ho hpb)
  have ct := Lib.hid (fun w1 (h' : StoIs qT B w0 w1 sb bs S ((w.heap.size, enO z0E) :: F) c) => pl_take h' hi hpb)
  cases hM : d.M with
  | nil =>
   rw [hM] at hS ct
   simp only [Prod.mk.injEq] at hS
   obtain ⟨rfl, rfl, rfl, rfl, rfl⟩ := hS
   have e3 : S.setM i d [] = S := by rw [← hM]; exact setM_same hi
   simp only [List.tail_nil, e3] at ct
   have hfv : firstV [] = .tuple #[enV z0E, .bool false] := rfl
   have hret := Lib.hid (fun w' (h' : StoIs qT B w0 w' sb bs S ((w.heap.size, enO z0E) :: F) c) => ((h'.alloc (enO z0E)).permF (List.Perm.swap _ _ _)).ret_e z0E)
   have hsub := Lib.hid (fun w' (h' : StoIs qT B w0 w' sb bs S ((w'.heap.size, enO z0E) :: F) c) => h'.sub (List.sublist_cons_self _ _))
   clear h h0 ho e1 e2 hi hpb hM e3
   go_enter Tryz.func32, Tryz.ntmps32
   go_wp2_with fail
   refine co.out.mono ?_
   rintro r w1 ⟨rfl, hx⟩
   obtain ⟨qb, k3, ct1⟩ := ct.out w1 hx
   replace ct1 := Lib.hid ct1
   clear co hx ct
   go_wp2_with fail
   refine ct1.out.mono ?_
   rintro r w2 ⟨rfl, ⟨k1, k4⟩, h2⟩
   rw [hfv]
   obtain ⟨⟨z0, z1, z2, z3, z4, z5, z6, z7, z8, z9⟩, zs, finE, fin⟩ := hret.out w2 h2
   replace finE := Lib.hid finE
   replace fin := Lib.hid (fin.sub (List.sublist_cons_self _ _))
   clear ct1 h2 hret hfv k3
   go_wp2_with fail
   exact bodyPost_ret (ret_entry4 (e := z0E) rfl rfl rfl rfl rfl finE.out rfl) rfl ⟨rfl, fin.out⟩
  | cons x M =>
   rw [hM] at hS ct
   simp only [Prod.mk.injEq] at hS
   obtain ⟨rfl, rfl, rfl, rfl, rfl⟩ := hS
   simp only [List.tail_cons] at ct
   have hfv : firstV (x :: M) = .tuple #[enV x, .bool true] := rfl
   have hg := setM_get (M := M) hi
   have hne : Hid (∀ W, StoIs qT B w0 W sb bs (S.setM i d M) ((w.heap.size, enO z0E) :: F) c → w.heap.size ≠ pb) := Lib.hid fun W h' => h'.ne List.mem_cons_self hpb
   have hret := Lib.hid (fun eb w' (h' : StoIs qT B w0 w' sb bs (S.setM i d M) ((w.heap.size, enO z0E) :: (eb, enO x) :: F) c) => h'.ret_e x)
   have hal := Lib.hid (fun w' (h' : StoIs qT B w0 w' sb bs (S.setM i d M) ((w.heap.size, enO z0E) :: F) c) => ((h'.alloc (enO x)).permF (List.Perm.swap _ _ _)).grow (drew_b _))
   have cl : Hid (∀ eb W qb, W.cell? ⟨pb, 3, none⟩ = some (rptr qb) → StoIs qT B w0 W sb bs (S.setM i d M) ((w.heap.size, enO z0E) :: (eb, enO x) :: F) c → Calls Tryz.prog 73 #[rptr qb] W fun r w' => r = .returned (.int .i64 M.length) ∧ StoIs qT B w0 w' sb bs (S.setM i d M) ((w.heap.size, enO z0E) :: (eb, enO x) :: F) c ∧
     (w'.cell? ⟨pb, 3, none⟩ = some (rptr qb) ∧ w'.cell? ⟨pb, 1, none⟩ = some (.int .i64 d.num) ∧ EnAt w' eb x) ∧ (EnAt w' w.heap.size z0E ∧ ∀ i, w'.frozen? ⟨w.heap.size, i, none⟩ = false)) := Lib.hid fun eb W qb h3 h' => (pl_len h' hg hpb h3).mono (by
    rintro r w' ⟨rfl, ⟨k1, k3⟩, h2⟩
    exact ⟨rfl, h2, ⟨k3, k1, (h2.enAt (List.mem_cons_of_mem _ List.mem_cons_self)).1⟩, h2.enAt List.mem_cons_self⟩)
   generalize M.length = ml at *
   generalize d.num = num at *
   generalize S.setM i d M = S2 at *
   clear h h0 ho e1 e2 hi hpb hM hg
   go_enter Tryz.func32, Tryz.ntmps32
   go_wp2_with fail
   refine co.out.mono ?_
   rintro r w1 ⟨rfl, hx⟩
   obtain ⟨qb, k3, ct1⟩ := ct.out w1 hx
   replace ct1 := Lib.hid ct1
   clear co hx ct
   go_wp2_with fail
   refine ct1.out.mono ?_
   rintro r w2 ⟨rfl, ⟨k1, k4⟩, h2⟩
   rw [hfv]
   have hO := hal.out w2 h2
   have hn1 := hne.out w2 h2
   have hn2 : w.heap.size ≠ w2.heap.size := Nat.ne_of_lt (h2.lt List.mem_cons_self)
   obtain ⟨W2, hW⟩ : ∃ W2, W2 = w2.alloc (enO x) := ⟨_, rfl⟩
   obtain ⟨eb, heb⟩ : ∃ eb, eb = w2.heap.size := ⟨_, rfl⟩
   have hs0 : Hid ((w2.alloc (enO x)).drew.cell? ⟨pb, 3, none⟩ = some (rptr qb) ∧ (w2.alloc (enO x)).drew.cell? ⟨pb, 1, none⟩ = some (.int .i64 num) ∧ EnAt (w2.alloc (enO x)).drew w2.heap.size x) :=
    Lib.hid ⟨cellUp (cellUp k4 (new_below _ _)) (drew_b _), cellUp (cellUp k1 (new_below _ _)) (drew_b _), (hO.enAt (List.mem_cons_of_mem _ List.mem_cons_self)).1⟩
   have hks : Hid (∀ W, (W.cell? ⟨pb, 3, none⟩ = some (rptr qb) ∧ W.cell? ⟨pb, 1, none⟩ = some (.int .i64 num) ∧ EnAt W w2.heap.size x) → ((enPut W w.heap.size x).cell? ⟨pb, 3, none⟩ = some (rptr qb) ∧ (enPut W w.heap.size x).cell? ⟨pb, 1, none⟩ = some (.int .i64 num) ∧ EnAt (enPut W w.heap.size x) w2.heap.size x)) :=
    Lib.hid fun W ⟨a, b, c⟩ => ⟨cell_enPut a hn1, cell_enPut b hn1, enAt_enPut c hn2⟩
   replace hret := Lib.hid (hret.out w2.heap.size)
   replace cl := Lib.hid (fun W => cl.out w2.heap.size W qb)
   rw [← hW, ← heb] at hs0 hO
   rw [← heb] at hks hret cl
   replace hW := Lib.hid hW
   replace heb := Lib.hid heb
   clear ct1 h2 hal hfv k3 k1 k4 hne hn1 hn2
   go_upto_region 7 with fail
   rw [← hW.out, ← heb.out]
   clear hW heb
   go_region_held3 (fun X => X.cell? ⟨pb, 3, none⟩ = some (rptr qb) ∧ X.cell? ⟨pb, 1, none⟩ = some (.int .i64 num) ∧ X.cell? ⟨eb, 0, none⟩ = some (.int .i64 x.id) ∧ X.cell? ⟨eb, 1, none⟩ = some (.int .i64 x.body) ∧ X.cell? ⟨eb, 2, none⟩ = some (.int .i64 x.size) ∧ X.cell? ⟨eb, 3, none⟩ = some (tx x.exch) ∧ X.cell? ⟨eb, 4, none⟩ = some (tx x.key) ∧ X.cell? ⟨eb, 5, none⟩ = some (.int .i64 x.prio) ∧ X.cell? ⟨eb, 6, none⟩ = some (.int .i64 x.ttl) ∧ X.cell? ⟨eb, 7, none⟩ = some (.int .i64 x.til) ∧ X.cell? ⟨eb, 8, none⟩ = some (.bool x.again) ∧ X.cell? ⟨eb, 9, none⟩ = some (.int .i64 x.hops)) (first | with_reducible exact kS | with_reducible exact hs0.out | with_reducible exact hks.out _ kS)
    ((go_at_call 73; refine (cl.out _ hs0.out.1 (by assumption)).mono ?_; rintro r w'' ⟨rfl, hL, kS, ⟨⟨z0, z1, z2, z3, z4, z5, z6, z7, z8, z9⟩, zs⟩⟩))
   obtain ⟨-, -, finE, fin⟩ := hret.out _ hL
   replace finE := Lib.hid finE
   replace fin := Lib.hid (fin.sub (List.sublist_cons_self _ _))
   clear hL kS hs0 hks cl hret hO
   go_wp2_with fail
   exact bodyPost_ret (ret_entry4 (e := x) rfl rfl rfl rfl rfl finE.out rfl) rfl ⟨rfl, fin.out⟩
end
end Go.Proofs.YtknjamfjonapiaaGreatDoor
namespace Go.Proofs.YtknjamfjonapiaaGreatDoor
open Go.RowKit
set_option linter.unusedVariables false
set_option linter.unusedSectionVars false
set_option linter.unusedSimpArgs false
set_option maxRecDepth 100000
section
variable {qT : Bool} {B : Nat} {w0 w w' : World} {sb slb xb pb qb gb c c' i k b : Nat} {bs : List Nat} {S S' : Sto} {L : List Pq} {xv v : Value} {d d' : Plq} {R SX SS F F' Z : List (Nat × Obj)} {o : Opt} {M : List Ent} {G : List Gst} {T : Nat} {n : List UInt8} {q z bt : Int} {e e0 : Ent} {g : Gst}
theorem StoIs.gsAt (h : StoIs qT B w0 w sb bs S F c) (hm : (k, gsO g) ∈ F) : GsAt w k g :=
 ⟨h.cell hm rfl, h.cell hm rfl, h.cell hm rfl, h.cell hm rfl, h.cell hm rfl, h.cell hm rfl⟩
theorem setG_same (hi : S.L[i]? = some d) : S.setG i d d.G d.T = S := by
 unfold Sto.setG
 obtain ⟨hl, rfl⟩ := List.getElem?_eq_some_iff.1 hi
 rw [List.set_getElem_self]
theorem StoIs.placeG (h : StoIs qT B w0 w sb bs S F c) (hi : S.L[i]? = some d) (hb : bs[i]? = some pb) : ∃ gb Z, w.cell? ⟨pb, 4, none⟩ = some (gup gb) ∧ GuIsX qT B w0 w gb d.G d.T (Z ++ F) ∧
  ∀ w' G T F', GuIsX qT B w0 w' gb G T (Z ++ F') → w'.cell? ⟨pb, 4, none⟩ = some (gup gb) ∧ StoIs qT B w0 w' sb bs (S.setG i d G T) F' c := by
 obtain ⟨pb', qb, gb, h1, h2, -, ⟨Z, h3, h4⟩⟩ := h.place hi
 rw [hb] at h1
 obtain rfl := Option.some.inj h1
 exact ⟨gb, Z, h2.c4, h3, fun w' G T F' h' => ⟨(h4 w' G T F' h').1.c4, (h4 w' G T F' h').2⟩⟩
theorem pl_sole (h : StoIs qT B w0 w sb bs S F c) (hi : S.L[i]? = some d) (hb : bs[i]? = some pb) (hc : w.cell? ⟨pb, 4, none⟩ = some (gup gb)) {s : Bool} (hs : soleG d.G = s) :
  Calls Tryz.prog 86 #[gup gb] w fun r w' => r = .returned (.bool s) ∧ w'.cell? ⟨pb, 4, none⟩ = some (gup gb) ∧ StoIs qT B w0 w' sb bs S F c := by
 obtain ⟨gb', Z, h1, h2, h3⟩ := h.placeG hi hb
 rw [hc] at h1
 cases h1
 refine (gu_sole h2 hs).mono ?_
 rintro r w' ⟨rfl, h4⟩
 have := h3 _ _ _ _ h4
 rw [setG_same hi] at this
 exact ⟨rfl, this⟩
theorem pl_glen (h : StoIs qT B w0 w sb bs S F c) (hi : S.L[i]? = some d) (hb : bs[i]? = some pb) (hc : w.cell? ⟨pb, 4, none⟩ = some (gup gb)) {m : Nat} (hm : d.G.length = m) :
  Calls Tryz.prog 72 #[gup gb] w fun r w' => r = .returned (.int .i64 m) ∧ w'.cell? ⟨pb, 4, none⟩ = some (gup gb) ∧ StoIs qT B w0 w' sb bs S F c := by
 obtain ⟨gb', Z, h1, h2, h3⟩ := h.placeG hi hb
 rw [hc] at h1
 cases h1
 refine (gu_len h2).mono ?_
 rintro r w' ⟨rfl, h4⟩
 have := h3 _ _ _ _ h4
 rw [setG_same hi] at this
 exact ⟨by rw [hm], this⟩
set_option maxHeartbeats 4000000 in
theorem st_consume (h : StoIs qT B w0 w sb bs S F c) (n : List UInt8) (g : Gst) (hf : g.tag.length ≤ 140737488351232) (hl : ∀ p ∈ S.L, p.G.length < 60000) {S' : Sto} {z : Int} (hS : S.consume n g = (S', z)) :
  Calls Tryz.prog 35 #[bpt sb, tx n, gsV g] w fun r w' => r = .returned (.int .i64 z) ∧ StoIs qT B w0 w' sb bs S' F c := by
 have h0 := h.alloc (gsO g)
 unfold Sto.consume at hS
 have hsub : Hid (∀ w' S', StoIs qT B w0 w' sb bs S' ((w.heap.size, gsO g) :: F) c → StoIs qT B w0 w' sb bs S' F c) := Lib.hid fun w' S' h' => h'.sub (List.sublist_cons_self _ _)
 rcases open_ways S n g.conn with ⟨y, ho, hy⟩ | ⟨i, d, ho, e1, hi, e2, -⟩
 ·rw [ho] at hS
  simp only [Prod.mk.injEq] at hS
  obtain ⟨rfl, rfl⟩ := hS
  have co := Lib.hid (st_open_no h0 ho)
  have hyb : (y != 0) = true := by rcases hy with rfl | rfl <;> rfl
  clear h h0 ho hy hl hf
  go_enter Tryz.func35, Tryz.ntmps35
  go_wp2_with fail
  refine co.out.mono ?_
  rintro r w1 ⟨rfl, hx⟩
  have fin := Lib.hid (hsub.out _ _ hx)
  clear co hx hsub
  go_wp2_with fail
  go_ret
  exact ⟨rfl, fin.out⟩
 ·rw [ho] at hS
  simp only at hS
  obtain ⟨pb, hpb⟩ := h.blk hi
  have co := Lib.hid (st_open_yes h0 ho hpb)
  have hlen := hl d (List.mem_of_getElem? hi)
  have see : Hid (∀ w1, StoIs qT B w0 w1 sb bs S ((w.heap.size, gsO g) :: F) c → (∃ gb, w1.cell? ⟨pb, 4, none⟩ = some (gup gb) ∧ Calls Tryz.prog 86 #[gup gb] w1 fun r w' => r = .returned (.bool (soleG d.G)) ∧ w'.cell? ⟨pb, 4, none⟩ = some (gup gb) ∧ w'.cell? ⟨w.heap.size, 5, none⟩ = some (.bool g.sole) ∧ StoIs qT B w0 w' sb bs S ((w.heap.size, gsO g) :: F) c)) := Lib.hid fun w1 h' => by
   obtain ⟨gb, Z, h1, -⟩ := h'.placeG hi hpb
   refine ⟨gb, h1, (pl_sole h' hi hpb h1 rfl).mono ?_⟩
   rintro r w' ⟨rfl, k4, h2⟩
   exact ⟨rfl, k4, h2.cell List.mem_cons_self rfl, h2⟩
  have see2 : Hid (∀ w1 gb, w1.cell? ⟨pb, 4, none⟩ = some (gup gb) → StoIs qT B w0 w1 sb bs S ((w.heap.size, gsO g) :: F) c → Calls Tryz.prog 72 #[gup gb] w1 fun r w' => r = .returned (.int .i64 d.G.length) ∧ w'.cell? ⟨pb, 4, none⟩ = some (gup gb) ∧ StoIs qT B w0 w' sb bs S ((w.heap.size, gsO g) :: F) c) := Lib.hid fun w1 gb h1 h' => pl_glen h' hi hpb h1 rfl
  have hcell := Lib.hid (fun w1 (h' : StoIs qT B w0 w1 sb bs S ((w.heap.size, gsO g) :: F) c) => h'.gsAt (g := g) List.mem_cons_self)
  have add : Hid (∀ w1 gb ok S', addOkG d.G g = ok → S.setG i d (addG d.G g) d.T = S' → w1.cell? ⟨pb, 4, none⟩ = some (gup gb) → StoIs qT B w0 w1 sb bs S ((w.heap.size, gsO g) :: F) c → Calls Tryz.prog 87 #[gup gb, gsV g] w1 fun r w' => r = .returned (.bool ok) ∧ StoIs qT B w0 w' sb bs S' ((w.heap.size, gsO g) :: F) c ∧ (w'.cell? ⟨pb, 4, none⟩ = some (gup gb) ∧ GsAt w' w.heap.size g)) := Lib.hid fun w1 gb ok S' hok hS' h1 h' => by
   obtain ⟨gb', Z, k1, k2, k3⟩ := h'.placeG hi hpb
   rw [h1] at k1
   cases k1
   refine (gu_add k2 hf hlen hok rfl).mono ?_
   rintro r w' ⟨rfl, h4⟩
   have k5 := k3 _ _ _ _ h4
   rw [hS'] at k5
   exact ⟨rfl, k5.2, k5.1, k5.2.gsAt (g := g) List.mem_cons_self⟩
  have hok1 : addOkG d.G g = false → S.setG i d (addG d.G g) d.T = S := fun hk => by
   rw [show addG d.G g = d.G by unfold addG; rw [hk]; rfl, setG_same hi]
  generalize hso : soleG d.G = so at *
  generalize hml : d.G.length = ml at *
  cases so with
  | true =>
   rw [if_pos (.inl rfl)] at hS
   obtain ⟨rfl, rfl⟩ := Prod.mk.inj hS
   clear h h0 ho hl hf e1 e2 hi hpb hlen see2 hcell add hok1 hml hso hS
   go_enter Tryz.func35, Tryz.ntmps35
   go_wp2_with fail
   refine co.out.mono ?_
   rintro r w1 ⟨rfl, hx⟩
   obtain ⟨gb, k4, cs⟩ := see.out w1 hx
   replace cs := Lib.hid cs
   clear co hx see
   go_wp2_with fail
   refine cs.out.mono ?_
   rintro r w2 ⟨rfl, k4', k5, h2⟩
   have fin := Lib.hid (hsub.out _ _ h2)
   clear cs h2 hsub
   go_wp2_with fail
   go_ret
   exact ⟨rfl, fin.out⟩
  | false =>
   by_cases hA : g.sole = true ∧ 0 < ml
   ·rw [if_pos (.inr hA)] at hS
    obtain ⟨rfl, rfl⟩ := Prod.mk.inj hS
    obtain ⟨hA1, hA2⟩ := hA
    rw [hA1] at see
    have hA3 : (0 : Int) < ml := by omega
    clear h h0 ho hl hf e1 e2 hi hpb hlen hcell add hok1 hml hso hS hA2 hA1
    go_enter Tryz.func35, Tryz.ntmps35
    go_wp2_with fail
    refine co.out.mono ?_
    rintro r w1 ⟨rfl, hx⟩
    obtain ⟨gb, k4, cs⟩ := see.out w1 hx
    replace cs := Lib.hid cs
    clear co hx see
    go_wp2_with fail
    refine cs.out.mono ?_
    rintro r w2 ⟨rfl, k4', k5, h2⟩
    have cl := Lib.hid (see2.out _ _ k4' h2)
    clear cs h2 see2
    go_wp2_with fail
    refine cl.out.mono ?_
    rintro r w3 ⟨rfl, k6, h3⟩
    have fin := Lib.hid (hsub.out _ _ h3)
    clear cl h3 hsub
    go_wp2_with fail
    go_ret
    exact ⟨rfl, fin.out⟩
   ·rw [if_neg (by rintro (h | h); cases h; exact hA h)] at hS
    have hw : g.sole = false ∨ (g.sole = true ∧ ml = 0) := by
     cases hg : g.sole with
     | false => exact .inl rfl
     | true => exact .inr ⟨rfl, by rw [hg] at hA; simp at hA; omega⟩
    cases hok : addOkG d.G g with
    | false =>
     rw [hok, if_neg (by decide)] at hS
     obtain ⟨rfl, rfl⟩ := Prod.mk.inj hS
     have ca := Lib.hid (fun w1 gb => add.out w1 gb false S hok (hok1 hok))
     rcases hw with hg | ⟨hg, hm⟩
     ·rw [hg] at see
      clear h h0 ho hl hf e1 e2 hi hpb hlen add hok1 hml hso hS hA hok see2 hg
      go_enter Tryz.func35, Tryz.ntmps35
      go_wp2_with fail
      refine co.out.mono ?_
      rintro r w1 ⟨rfl, hx⟩
      obtain ⟨gb, k4, cs⟩ := see.out w1 hx
      replace cs := Lib.hid cs
      clear co hx see
      go_wp2_with fail
      refine cs.out.mono ?_
      rintro r w2 ⟨rfl, k4', k5, h2⟩
      have h3 := h2.grow (drew_b w2)
      have hs0 : Hid (w2.drew.cell? ⟨pb, 4, none⟩ = some (gup gb) ∧ GsAt w2.drew w.heap.size g) := Lib.hid ⟨k4', hcell.out _ h3⟩
      clear cs h2 k4 hcell
      generalize w.heap.size = nb at *
      go_wp2_with fail
      go_region_held3 (fun X => X.cell? ⟨pb, 4, none⟩ = some (gup gb) ∧ X.cell? ⟨nb, 0, none⟩ = some (.int .i64 g.conn) ∧ X.cell? ⟨nb, 1, none⟩ = some (.int .i64 g.chan) ∧ X.cell? ⟨nb, 2, none⟩ = some (tx g.tag) ∧ X.cell? ⟨nb, 3, none⟩ = some (.int .i64 g.most) ∧ X.cell? ⟨nb, 4, none⟩ = some (.bool g.noack) ∧ X.cell? ⟨nb, 5, none⟩ = some (.bool g.sole)) (first | with_reducible exact kS | with_reducible exact hs0.out)
       ((go_at_call 87; refine (ca.out _ _ hs0.out.1 (by assumption)).mono ?_; rintro r w'' ⟨rfl, hL, kS⟩))
      have fin := Lib.hid (hsub.out _ _ hL)
      clear hL kS hs0 hsub ca h3
      go_wp2_with fail
      go_ret
      exact ⟨rfl, fin.out⟩
     ·rw [hg] at see
      subst hm
      clear h h0 ho hl hf e1 e2 hi hpb hlen add hok1 hml hso hS hA hok hg
      go_enter Tryz.func35, Tryz.ntmps35
      go_wp2_with fail
      refine co.out.mono ?_
      rintro r w1 ⟨rfl, hx⟩
      obtain ⟨gb, k4, cs⟩ := see.out w1 hx
      replace cs := Lib.hid cs
      clear co hx see
      go_wp2_with fail
      refine cs.out.mono ?_
      rintro r w2 ⟨rfl, k4', k5, h2⟩
      have cl := Lib.hid (see2.out _ _ k4' h2)
      clear cs h2 see2 k4
      go_wp2_with fail
      refine cl.out.mono ?_
      rintro r w3 ⟨rfl, k6, h2⟩
      have h3 := h2.grow (drew_b w3)
      have hs0 : Hid (w3.drew.cell? ⟨pb, 4, none⟩ = some (gup gb) ∧ GsAt w3.drew w.heap.size g) := Lib.hid ⟨k6, hcell.out _ h3⟩
      clear cl h2 hcell
      generalize w.heap.size = nb at *
      go_wp2_with fail
      go_region_held3 (fun X => X.cell? ⟨pb, 4, none⟩ = some (gup gb) ∧ X.cell? ⟨nb, 0, none⟩ = some (.int .i64 g.conn) ∧ X.cell? ⟨nb, 1, none⟩ = some (.int .i64 g.chan) ∧ X.cell? ⟨nb, 2, none⟩ = some (tx g.tag) ∧ X.cell? ⟨nb, 3, none⟩ = some (.int .i64 g.most) ∧ X.cell? ⟨nb, 4, none⟩ = some (.bool g.noack) ∧ X.cell? ⟨nb, 5, none⟩ = some (.bool g.sole)) (first | with_reducible exact kS | with_reducible exact hs0.out)
       ((go_at_call 87; refine (ca.out _ _ hs0.out.1 (by assumption)).mono ?_; rintro r w'' ⟨rfl, hL, kS⟩))
      have fin := Lib.hid (hsub.out _ _ hL)
      clear hL kS hs0 hsub ca h3
      go_wp2_with fail
      go_ret
      exact ⟨rfl, fin.out⟩
    | true =>
     rw [hok, if_pos rfl] at hS
     obtain ⟨rfl, rfl⟩ := Prod.mk.inj hS
     have ca := Lib.hid (fun w1 gb => add.out w1 gb true _ hok rfl)
     generalize S.setG i d (addG d.G g) d.T = S2 at *
     rcases hw with hg | ⟨hg, hm⟩
     ·rw [hg] at see
      clear h h0 ho hl hf e1 e2 hi hpb hlen add hok1 hml hso hS hA hok see2 hg
      go_enter Tryz.func35, Tryz.ntmps35
      go_wp2_with fail
      refine co.out.mono ?_
      rintro r w1 ⟨rfl, hx⟩
      obtain ⟨gb, k4, cs⟩ := see.out w1 hx
      replace cs := Lib.hid cs
      clear co hx see
      go_wp2_with fail
      refine cs.out.mono ?_
      rintro r w2 ⟨rfl, k4', k5, h2⟩
      have h3 := h2.grow (drew_b w2)
      have hs0 : Hid (w2.drew.cell? ⟨pb, 4, none⟩ = some (gup gb) ∧ GsAt w2.drew w.heap.size g) := Lib.hid ⟨k4', hcell.out _ h3⟩
      clear cs h2 k4 hcell
      generalize w.heap.size = nb at *
      go_wp2_with fail
      go_region_held3 (fun X => X.cell? ⟨pb, 4, none⟩ = some (gup gb) ∧ X.cell? ⟨nb, 0, none⟩ = some (.int .i64 g.conn) ∧ X.cell? ⟨nb, 1, none⟩ = some (.int .i64 g.chan) ∧ X.cell? ⟨nb, 2, none⟩ = some (tx g.tag) ∧ X.cell? ⟨nb, 3, none⟩ = some (.int .i64 g.most) ∧ X.cell? ⟨nb, 4, none⟩ = some (.bool g.noack) ∧ X.cell? ⟨nb, 5, none⟩ = some (.bool g.sole)) (first | with_reducible exact kS | with_reducible exact hs0.out)
       ((go_at_call 87; refine (ca.out _ _ hs0.out.1 (by assumption)).mono ?_; rintro r w'' ⟨rfl, hL, kS⟩))
      have fin := Lib.hid (hsub.out _ _ hL)
      clear hL kS hs0 hsub ca h3
      go_wp2_with fail
      go_ret
      exact ⟨rfl, fin.out⟩
     ·rw [hg] at see
      subst hm
      clear h h0 ho hl hf e1 e2 hi hpb hlen add hok1 hml hso hS hA hok hg
      go_enter Tryz.func35, Tryz.ntmps35
      go_wp2_with fail
      refine co.out.mono ?_
      rintro r w1 ⟨rfl, hx⟩
      obtain ⟨gb, k4, cs⟩ := see.out w1 hx
      replace cs := Lib.hid cs
      clear co hx see
      go_wp2_with fail
      refine cs.out.mono ?_
      rintro r w2 ⟨rfl, k4', k5, h2⟩
      have cl := Lib.hid (see2.out _ _ k4' h2)
      clear cs h2 see2 k4
      go_wp2_with fail
      refine cl.out.mono ?_
      rintro r w3 ⟨rfl, k6, h2⟩
      have h3 := h2.grow (drew_b w3)
      have hs0 : Hid (w3.drew.cell? ⟨pb, 4, none⟩ = some (gup gb) ∧ GsAt w3.drew w.heap.size g) := Lib.hid ⟨k6, hcell.out _ h3⟩
      clear cl h2 hcell
      generalize w.heap.size = nb at *
      go_wp2_with fail
      go_region_held3 (fun X => X.cell? ⟨pb, 4, none⟩ = some (gup gb) ∧ X.cell? ⟨nb, 0, none⟩ = some (.int .i64 g.conn) ∧ X.cell? ⟨nb, 1, none⟩ = some (.int .i64 g.chan) ∧ X.cell? ⟨nb, 2, none⟩ = some (tx g.tag) ∧ X.cell? ⟨nb, 3, none⟩ = some (.int .i64 g.most) ∧ X.cell? ⟨nb, 4, none⟩ = some (.bool g.noack) ∧ X.cell? ⟨nb, 5, none⟩ = some (.bool g.sole)) (first | with_reducible exact kS | with_reducible exact hs0.out)
       ((go_at_call 87; refine (ca.out _ _ hs0.out.1 (by assumption)).mono ?_; rintro r w'' ⟨rfl, hL, kS⟩))
      have fin := Lib.hid (hsub.out _ _ hL)
      clear hL kS hs0 hsub ca h3
      go_wp2_with fail
      go_ret
      exact ⟨rfl, fin.out⟩
end
end Go.Proofs.YtknjamfjonapiaaGreatDoor
namespace Go.Proofs.YtknjamfjonapiaaGreatDoor
open Go.RowKit
set_option linter.unusedVariables false
set_option linter.unusedSectionVars false
set_option maxRecDepth 100000
theorem uPqs : Tryz.prog.underlying 90 = some (.slice 131) := by kernel_rfl
theorem infPqs : (Tryz.prog.info? 131).map (fun i => (i.zero, i.size, i.bytes)) = some (some (.pointer none), 1, 8) := by kernel_rfl
section
variable {B : Nat} {w0 w w' : World} {F R S X : List (Nat × Obj)} {g off n cap i j : Nat} {v : Value} {xs : List Value} {bs : List Nat} {a : Option Addr}
theorem apQ : Ap Tryz.prog 90 131 1 8 := ⟨uPqs, by
 obtain ⟨i0, hi0, hz0, hz1, hz2⟩ := info_parts infPqs
 exact ⟨i0, _, hi0, hz0, hz1, hz2, rfl⟩⟩
theorem bpts_one (bs : List Nat) : ∀ u ∈ bs.map bpt, u.oneCell' = true := fun u hu => by
 obtain ⟨b, -, rfl⟩ := List.mem_map.1 hu
 rfl
def CloneQ (B : Nat) (w0 : World) (X : List (Nat × Obj)) (bs : List Nat) (e : Ending) (w' : World) : Prop := ∃ a c S', e = .returned (.slice a bs.length c) ∧ SlIs 131 1 (.slice a bs.length c) bs.length (bs.map bpt) S' ∧ St B w0 w' (X ++ S')
set_option maxHeartbeats 1000000 in
theorem cloneq_any {s : Value} (hs : SlIs 131 1 s bs.length (bs.map bpt) S) (hst : St B w0 w (X ++ S)) (hn : bs.length ≤ 100000) :
  Calls Tryz.prog 125 #[s] w (CloneQ B w0 (X ++ S) bs) := by
 have hst1 := hst.alloc (.cells #[] 131)
 have hst2 := hst1.perm (H' := (X ++ S) ++ [(w.heap.size, .cells #[] 131)]) (List.perm_append_singleton _ _).symm
 have hrd := SlIs.reads (A := (w.heap.size, .cells #[] 131) :: X) hs hst1
 have hemp : SlIs 131 1 (.slice (some ⟨w.heap.size, 0, none⟩) 0 0) 0 [] [(w.heap.size, .cells #[] 131)] := SlIs.made rfl (by unfold maxLen; omega)
 obtain ⟨a2, c2, W2, F2, hr2, hs2, hst3⟩ := apQ.append hemp hst2 hrd (bpts_one bs) (by unfold maxLen; omega) (by omega)
 rw [Nat.zero_add] at hr2 hs2
 rw [List.nil_append] at hs2
 have fin : CloneQ B w0 (X ++ S) bs (.returned (.slice a2 bs.length c2)) W2 := ⟨a2, c2, F2, rfl, hs2, hst3⟩
 have fin0 : s = .slice none 0 0 → CloneQ B w0 (X ++ S) bs (.returned (.slice none 0 0)) w := fun e => by
  subst e
  obtain ⟨a, cap, e, -⟩ := SlIs.form hs
  cases bs with
  | nil => exact ⟨none, 0, [], rfl, SlIs.nil, by simpa using hst⟩
  | cons y M => cases e
 obtain ⟨a, cap, rfl, hc1, hc2, ha⟩ := SlIs.form hs
 replace fin := Lib.hid fin
 replace fin0 := Lib.hid fin0
 have hq := fun w => Lib.run_eql_slice_nil (P := Tryz.prog) w 90 131 a bs.length cap 0 0 uPqs
 have hnil : a = none → (Value.slice a bs.length cap) = .slice none 0 0 := fun e => by
  subst e
  obtain ⟨_, ⟨h, _⟩ | ⟨_, _, _, _, h, _⟩⟩ := hs
  ·exact h
  ·cases h
 replace hnil := Lib.hid hnil
 clear hs hst hst1 hst2 hrd hemp hs2 hst3 hc1 hc2 ha
 cases a with
 | none =>
  have h := hnil.out rfl
  simp only [Value.slice.injEq, true_and] at h
  obtain ⟨h1, rfl⟩ := h
  obtain rfl : bs = [] := List.eq_nil_of_length_eq_zero h1
  simp only [List.length_nil] at *
  clear hnil fin hr2
  go_enter Tryz.func125, Tryz.ntmps125
  go_wp2_with fail
  go_ret
  exact fin0.out trivial
 | some ad =>
  clear hnil fin0
  go_enter Tryz.func125, Tryz.ntmps125
  go_wp2_with (refine wpList_append_go rfl (.tmp 5) (.tmp 6) 90 90 rfl _ _ rfl rfl hr2 ?_)
  go_ret
  exact fin.out
end
end Go.Proofs.YtknjamfjonapiaaGreatDoor
