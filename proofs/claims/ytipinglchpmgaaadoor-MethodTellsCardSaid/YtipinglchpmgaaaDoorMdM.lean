/- MethodTells. -/
import Derived.Test.YtipinglchpmgaaaDoorMdL
import Derived.Test.YtipinglchpmgaaaDoorMdK
import Derived.Test.YtipinglchpmgaaaDoorMdH
import Derived.Deep.RegionHeld3
namespace Go.Proofs.YtipinglchpmgaaaDoor
open Go.RowKit
set_option linter.unusedVariables false

theorem rread_b {l : List UInt8} {m : Meth} {en : Int} (hr : readM l = (m, en)) (hl : l.length ≤ 100000) (w : World) : Calls Tryd.prog 11 #[tx l] w (ReadB w m en) := by
  refine (rreadM_any hl w).mono fun e w' h => ?_
  rw [hr] at h
  exact h.b

theorem client_b (k : Int) (w : World) (hT : Kinds w.heap.size w) : Calls Tryd.prog 20 #[.int .i64 k] w fun e w' => e = .returned (.bool (clientK k)) ∧ Below w.heap.size w w' := by
  refine (client_any k w hT).mono ?_
  rintro e w' ⟨rfl, rfl⟩
  exact ⟨rfl, Below.refl _ _⟩
theorem rclient_b (k : Int) (w : World) : Calls Tryd.prog 21 #[.int .i64 k] w fun e w' => e = .returned (.bool (clientK k)) ∧ Below w.heap.size w w' := by
  refine (rclient_any k w).mono ?_
  rintro e w' ⟨rfl, rfl⟩
  exact ⟨rfl, Below.refl _ _⟩

/-- Four methods in memory, beside whatever is new. -/
abbrev QuadS (w : World) (p1 p2 p3 p4 : Nat) (u10 u11 u12 u13 u20 u21 u22 u23 u30 u31 u32 u33 u40 u41 u42 u43 : Value) (wr : World) : Prop :=
  (Below w.heap.size w wr ∧ p1 < wr.heap.size ∧ p2 < wr.heap.size ∧ p3 < wr.heap.size ∧ p4 < wr.heap.size) ∧ wr.cell? ⟨p1, 0, none⟩ = some u10 ∧ wr.cell? ⟨p1, 1, none⟩ = some u11 ∧ wr.cell? ⟨p1, 2, none⟩ = some u12 ∧ wr.cell? ⟨p1, 3, none⟩ = some u13 ∧ wr.cell? ⟨p2, 0, none⟩ = some u20 ∧ wr.cell? ⟨p2, 1, none⟩ = some u21 ∧ wr.cell? ⟨p2, 2, none⟩ = some u22 ∧ wr.cell? ⟨p2, 3, none⟩ = some u23 ∧ wr.cell? ⟨p3, 0, none⟩ = some u30 ∧ wr.cell? ⟨p3, 1, none⟩ = some u31 ∧ wr.cell? ⟨p3, 2, none⟩ = some u32 ∧ wr.cell? ⟨p3, 3, none⟩ = some u33 ∧ wr.cell? ⟨p4, 0, none⟩ = some u40 ∧ wr.cell? ⟨p4, 1, none⟩ = some u41 ∧ wr.cell? ⟨p4, 2, none⟩ = some u42 ∧ wr.cell? ⟨p4, 3, none⟩ = some u43
theorem QuadS.step {w : World} {p1 p2 p3 p4 : Nat} {u10 u11 u12 u13 u20 u21 u22 u23 u30 u31 u32 u33 u40 u41 u42 u43 : Value} {wa wb : World} (h : QuadS w p1 p2 p3 p4 u10 u11 u12 u13 u20 u21 u22 u23 u30 u31 u32 u33 u40 u41 u42 u43 wa) (hk : Below wa.heap.size wa wb) : QuadS w p1 p2 p3 p4 u10 u11 u12 u13 u20 u21 u22 u23 u30 u31 u32 u33 u40 u41 u42 u43 wb := by
  obtain ⟨⟨hb, l1, l2, l3, l4⟩, h10, h11, h12, h13, h20, h21, h22, h23, h30, h31, h32, h33, h40, h41, h42, h43⟩ := h
  exact ⟨⟨bel hb hk, Nat.lt_of_lt_of_le l1 hk.size, Nat.lt_of_lt_of_le l2 hk.size, Nat.lt_of_lt_of_le l3 hk.size, Nat.lt_of_lt_of_le l4 hk.size⟩, (hk.cell l1).trans h10, (hk.cell l1).trans h11, (hk.cell l1).trans h12, (hk.cell l1).trans h13, (hk.cell l2).trans h20, (hk.cell l2).trans h21, (hk.cell l2).trans h22, (hk.cell l2).trans h23, (hk.cell l3).trans h30, (hk.cell l3).trans h31, (hk.cell l3).trans h32, (hk.cell l3).trans h33, (hk.cell l4).trans h40, (hk.cell l4).trans h41, (hk.cell l4).trans h42, (hk.cell l4).trans h43⟩

/-- A method that came in, its struct written out. -/
theorem box_below (w : World) (o o' : Obj) : Below w.heap.size w ((w.alloc o).alloc o') := bel (new_below w o) (new_below _ o')

/-- Two structs that came in, in cells of the call's own. -/
def Box2 (w : World) (v0 v1 v2 v3 u0 u1 u2 u3 : Value) (w' : World) : Prop :=
  (w.heap.size < w'.heap.size ∧ w'.cell? ⟨w.heap.size, 0, none⟩ = some v0 ∧ w'.cell? ⟨w.heap.size, 1, none⟩ = some v1 ∧ w'.cell? ⟨w.heap.size, 2, none⟩ = some v2 ∧ w'.cell? ⟨w.heap.size, 3, none⟩ = some v3) ∧
      (w.heap.size + 1 < w'.heap.size ∧ w'.cell? ⟨w.heap.size + 1, 0, none⟩ = some u0 ∧ w'.cell? ⟨w.heap.size + 1, 1, none⟩ = some u1 ∧ w'.cell? ⟨w.heap.size + 1, 2, none⟩ = some u2 ∧ w'.cell? ⟨w.heap.size + 1, 3, none⟩ = some u3)
theorem box2_of {w : World} {v0 v1 v2 v3 u0 u1 u2 u3 : Value} {T : TypeId} {w' : World} (hb : Below ((w.alloc (.cells #[v0, v1, v2, v3] T)).alloc (.cells #[u0, u1, u2, u3] T)).heap.size ((w.alloc (.cells #[v0, v1, v2, v3] T)).alloc (.cells #[u0, u1, u2, u3] T)) w') : Box2 w v0 v1 v2 v3 u0 u1 u2 u3 w' := by
  have h2 := hb.size
  simp only [World.size_alloc] at h2
  refine ⟨⟨by omega, ?_, ?_, ?_, ?_⟩, by omega, ?_, ?_, ?_, ?_⟩ <;> exact (hb.cell (by simp only [World.size_alloc]; omega)).trans (by simp)

set_option maxHeartbeats 8000000 in
theorem tells8_walk {a b : Meth} {sa ca na da sb cb nb db : _} {s : List UInt8} {kind : Int} {w : World} (hT : Kinds w.heap.size w) (ha : RdM w (aV a sa ca na da) a) (hb : RdM w (aV b sb cb nb db) b) :
    Calls Tryd.prog 3 #[aV a sa ca na da, aV b sb cb nb db, tx s, .int .i64 kind] w fun e w' => e = .returned (.bool true) ∧ Below w.heap.size w w' := by
  have hK : Hid (∀ w', Below w.heap.size w w' → Kinds w'.heap.size w') := Lib.hid fun w' hb => (hT.below hb).mono hb.size
  have c1 := Lib.hid (fun (w' : World) (h : Below w.heap.size w w') => known8_true w' (hK.out w' h))
  have cfa := Lib.hid (fun (w' : World) (h : Below w.heap.size w w') => few_any (ha.below h))
  have cfb := Lib.hid (fun (w' : World) (h : Below w.heap.size w w') => few_any (hb.below h))
  have hW := Lib.hid (box_below w (mO a.kind (.slice sa a.S.length ca) (.slice na a.N.length da) a.bits) (mO b.kind (.slice sb b.S.length cb) (.slice nb b.N.length db) b.bits))
  have hA : Hid (∀ w', Below ((w.alloc (mO a.kind (.slice sa a.S.length ca) (.slice na a.N.length da) a.bits)).alloc (mO b.kind (.slice sb b.S.length cb) (.slice nb b.N.length db) b.bits)).heap.size ((w.alloc (mO a.kind (.slice sa a.S.length ca) (.slice na a.N.length da) a.bits)).alloc (mO b.kind (.slice sb b.S.length cb) (.slice nb b.N.length db) b.bits)) w' →
      Box2 w (.int .i64 a.kind) (.slice sa a.S.length ca) (.slice na a.N.length da) (.int .i64 a.bits) (.int .i64 b.kind) (.slice sb b.S.length cb) (.slice nb b.N.length db) (.int .i64 b.bits) w') := Lib.hid fun w' hb => box2_of hb
  clear hT
  cases h1 : fewM a with
  | false =>
    rw [h1] at cfa
    go_enter Tryd.func3, Tryd.ntmps3
    go_wp2_with fail
    refine (c1.out _ hW.out).mono ?_
    rintro e w1 ⟨rfl, hk⟩
    obtain ⟨⟨l1, q10, q11, q12, q13⟩, l2, q20, q21, q22, q23⟩ := hA.out _ hk
    replace hk := Lib.hid (bel hW.out hk)
    go_wp2_with fail
    refine (cfa.out _ hk.out).mono ?_
    rintro e w2 ⟨rfl, hk2⟩
    replace hk := Lib.hid (bel hk.out hk2)
    clear hk2
    go_wp2_with fail
    go_ret
    exact ⟨rfl, hk.out⟩
  | true =>
  rw [h1] at cfa
  cases h2 : fewM b with
  | false =>
    rw [h2] at cfb
    go_enter Tryd.func3, Tryd.ntmps3
    go_wp2_with fail
    refine (c1.out _ hW.out).mono ?_
    rintro e w1 ⟨rfl, hk⟩
    obtain ⟨⟨l1, q10, q11, q12, q13⟩, l2, q20, q21, q22, q23⟩ := hA.out _ hk
    replace hk := Lib.hid hk
    go_wp2_with fail
    refine (cfa.out _ (bel hW.out hk.out)).mono ?_
    rintro e w2 ⟨rfl, hk2⟩
    clear l1 q10 q11 q12 q13 l2 q20 q21 q22 q23
    replace hk := Lib.hid (bel hk.out hk2)
    clear hk2
    obtain ⟨⟨l1, q10, q11, q12, q13⟩, l2, q20, q21, q22, q23⟩ := hA.out _ hk.out
    go_wp2_with fail
    refine (cfb.out _ (bel hW.out hk.out)).mono ?_
    rintro e w3 ⟨rfl, hk2⟩
    replace hk := Lib.hid (bel hk.out hk2)
    clear hk2
    go_wp2_with fail
    go_ret
    exact ⟨rfl, bel hW.out hk.out⟩
  | true =>
  rw [h2] at cfb
  by_cases hs : 1000 < s.length
  · have hs' : (1000 : Int) < s.length := by omega
    go_enter Tryd.func3, Tryd.ntmps3
    go_wp2_with fail
    refine (c1.out _ hW.out).mono ?_
    rintro e w1 ⟨rfl, hk⟩
    obtain ⟨⟨l1, q10, q11, q12, q13⟩, l2, q20, q21, q22, q23⟩ := hA.out _ hk
    replace hk := Lib.hid hk
    go_wp2_with fail
    refine (cfa.out _ (bel hW.out hk.out)).mono ?_
    rintro e w2 ⟨rfl, hk2⟩
    clear l1 q10 q11 q12 q13 l2 q20 q21 q22 q23
    replace hk := Lib.hid (bel hk.out hk2)
    clear hk2
    obtain ⟨⟨l1, q10, q11, q12, q13⟩, l2, q20, q21, q22, q23⟩ := hA.out _ hk.out
    go_wp2_with fail
    refine (cfb.out _ (bel hW.out hk.out)).mono ?_
    rintro e w3 ⟨rfl, hk2⟩
    replace hk := Lib.hid (bel hk.out hk2)
    clear hk2
    go_wp2_with fail
    go_ret
    exact ⟨rfl, bel hW.out hk.out⟩
  have hs' : ¬ (1000 : Int) < s.length := by omega
  rcases hr : readM s with ⟨x, en⟩
  have cR := Lib.hid (fun (w' : World) (h : Below w.heap.size w w') => read_b hr (by omega) w' (hK.out w' h))
  have cRR := Lib.hid (rread_b hr (by omega))
  have cS := Lib.hid (fun (w' : World) (h : Below w.heap.size w w') => shape_b kind w' (hK.out w' h))
  have cRS := Lib.hid (rshape_any kind)
  generalize shT kind = T at *
  generalize shN kind = M at *
  generalize shB kind = D at *
  generalize isKd kind = K at *
  clear hr h1 h2
  go_enter Tryd.func3, Tryd.ntmps3
  go_wp2_with fail
  refine (c1.out _ hW.out).mono ?_
  rintro e w1 ⟨rfl, hk⟩
  obtain ⟨⟨l1, q10, q11, q12, q13⟩, l2, q20, q21, q22, q23⟩ := hA.out _ hk
  replace hk := Lib.hid hk
  go_wp2_with fail
  refine (cfa.out _ (bel hW.out hk.out)).mono ?_
  rintro e w2 ⟨rfl, hk2⟩
  clear l1 q10 q11 q12 q13 l2 q20 q21 q22 q23
  replace hk := Lib.hid (bel hk.out hk2)
  clear hk2
  obtain ⟨⟨l1, q10, q11, q12, q13⟩, l2, q20, q21, q22, q23⟩ := hA.out _ hk.out
  go_wp2_with fail
  refine (cfb.out _ (bel hW.out hk.out)).mono ?_
  rintro e w3 ⟨rfl, hk2⟩
  clear l1 q10 q11 q12 q13 l2 q20 q21 q22 q23
  replace hk := Lib.hid (bel hk.out hk2)
  clear hk2 c1 cfa cfb
  go_wp2_with fail
  refine (cR.out _ (bel hW.out hk.out)).mono ?_
  rintro e w4 ⟨sx, cx, nx, dx, rfl, hx, hk2⟩
  have hX := Lib.hid (MdHeld.start w4 x.kind (.slice sx x.S.length cx) (.slice nx x.N.length dx) x.bits)
  have hnew := new_below w4 (mO x.kind (.slice sx x.S.length cx) (.slice nx x.N.length dx) x.bits)
  replace hx := Lib.hid (hx.below hnew)
  replace hk := Lib.hid (bel (bel hk.out hk2) hnew)
  clear hk2 hnew cR
  go_wp2_with fail
  refine (cRR.out _).mono ?_
  rintro e w5 ⟨sy, cy, ny, dy, rfl, hy, hk2⟩
  have hY := Lib.hid (MdHeld.start w5 x.kind (.slice sy x.S.length cy) (.slice ny x.N.length dy) x.bits)
  have hnew := new_below w5 (mO x.kind (.slice sy x.S.length cy) (.slice ny x.N.length dy) x.bits)
  replace hy := Lib.hid (hy.below hnew)
  replace hk2 := bel hk2 hnew
  replace hx := Lib.hid (hx.out.below hk2)
  replace hX := Lib.hid (hX.out.step hk2)
  replace hk := Lib.hid (bel hk.out hk2)
  clear hk2 hnew cRR
  go_wp2_with fail
  refine (cS.out _ (bel hW.out hk.out)).mono ?_
  rintro e w6 ⟨rfl, hk2⟩
  replace hx := Lib.hid (hx.out.below hk2)
  replace hy := Lib.hid (hy.out.below hk2)
  replace hX := Lib.hid (hX.out.step hk2)
  replace hY := Lib.hid (hY.out.step hk2)
  replace hk := Lib.hid (bel hk.out hk2)
  clear hk2 cS
  go_wp2_with fail
  refine (cRS.out _).mono ?_
  rintro e w7 ⟨rfl, rfl⟩
  clear cRS
  go_wp2_with fail
  obtain ⟨⟨l1, q10, q11, q12, q13⟩, l2, q20, q21, q22, q23⟩ := hA.out _ hk.out
  have l3 := hX.out.lt
  have l4 := hY.out.lt
  have Q0 : Hid (QuadS w6 w.heap.size (w.heap.size + 1) w4.heap.size w5.heap.size (.int .i64 a.kind) (.slice sa a.S.length ca) (.slice na a.N.length da) (.int .i64 a.bits) (.int .i64 b.kind) (.slice sb b.S.length cb) (.slice nb b.N.length db) (.int .i64 b.bits) (.int .i64 x.kind) (.slice sx x.S.length cx) (.slice nx x.N.length dx) (.int .i64 x.bits) (.int .i64 x.kind) (.slice sy x.S.length cy) (.slice ny x.N.length dy) (.int .i64 x.bits) w6.drew) :=
    Lib.hid ⟨⟨drewN_below w6 1, l1, l2, l3, l4⟩, q10, q11, q12, q13, q20, q21, q22, q23, hX.out.c0, hX.out.c1, hX.out.c2, hX.out.c3, hY.out.c0, hY.out.c1, hY.out.c2, hY.out.c3⟩
  have hw6 := bel hW.out hk.out
  have ha6 := ha.below hw6
  have hb6 := hb.below hw6
  have cIs : Hid (∀ wr, QuadS w6 w.heap.size (w.heap.size + 1) w4.heap.size w5.heap.size (.int .i64 a.kind) (.slice sa a.S.length ca) (.slice na a.N.length da) (.int .i64 a.bits) (.int .i64 b.kind) (.slice sb b.S.length cb) (.slice nb b.N.length db) (.int .i64 b.bits) (.int .i64 x.kind) (.slice sx x.S.length cx) (.slice nx x.N.length dx) (.int .i64 x.bits) (.int .i64 x.kind) (.slice sy x.S.length cy) (.slice ny x.N.length dy) (.int .i64 x.bits) wr → _) := Lib.hid fun wr q => is_any (hK.out _ (bel hw6 q.1.1)) (ha6.below q.1.1)
  have cRIs : Hid (∀ wr, QuadS w6 w.heap.size (w.heap.size + 1) w4.heap.size w5.heap.size (.int .i64 a.kind) (.slice sa a.S.length ca) (.slice na a.N.length da) (.int .i64 a.bits) (.int .i64 b.kind) (.slice sb b.S.length cb) (.slice nb b.N.length db) (.int .i64 b.bits) (.int .i64 x.kind) (.slice sx x.S.length cx) (.slice nx x.N.length dx) (.int .i64 x.bits) (.int .i64 x.kind) (.slice sy x.S.length cy) (.slice ny x.N.length dy) (.int .i64 x.bits) wr → _) := Lib.hid fun wr q => ris_any (ha6.below q.1.1)
  have cSm : Hid (∀ wr, QuadS w6 w.heap.size (w.heap.size + 1) w4.heap.size w5.heap.size (.int .i64 a.kind) (.slice sa a.S.length ca) (.slice na a.N.length da) (.int .i64 a.bits) (.int .i64 b.kind) (.slice sb b.S.length cb) (.slice nb b.N.length db) (.int .i64 b.bits) (.int .i64 x.kind) (.slice sx x.S.length cx) (.slice nx x.N.length dx) (.int .i64 x.bits) (.int .i64 x.kind) (.slice sy x.S.length cy) (.slice ny x.N.length dy) (.int .i64 x.bits) wr → _) := Lib.hid fun wr q => same_any (ha6.below q.1.1) (hb6.below q.1.1)
  have cRSm : Hid (∀ wr, QuadS w6 w.heap.size (w.heap.size + 1) w4.heap.size w5.heap.size (.int .i64 a.kind) (.slice sa a.S.length ca) (.slice na a.N.length da) (.int .i64 a.bits) (.int .i64 b.kind) (.slice sb b.S.length cb) (.slice nb b.N.length db) (.int .i64 b.bits) (.int .i64 x.kind) (.slice sx x.S.length cx) (.slice nx x.N.length dx) (.int .i64 x.bits) (.int .i64 x.kind) (.slice sy x.S.length cy) (.slice ny x.N.length dy) (.int .i64 x.bits) wr → _) := Lib.hid fun wr q => rsame_any (ha6.below q.1.1) (hb6.below q.1.1)
  have cRSx : Hid (∀ wr, QuadS w6 w.heap.size (w.heap.size + 1) w4.heap.size w5.heap.size (.int .i64 a.kind) (.slice sa a.S.length ca) (.slice na a.N.length da) (.int .i64 a.bits) (.int .i64 b.kind) (.slice sb b.S.length cb) (.slice nb b.N.length db) (.int .i64 b.bits) (.int .i64 x.kind) (.slice sx x.S.length cx) (.slice nx x.N.length dx) (.int .i64 x.bits) (.int .i64 x.kind) (.slice sy x.S.length cy) (.slice ny x.N.length dy) (.int .i64 x.bits) wr → _) := Lib.hid fun wr q => rsame_any (hx.out.below q.1.1) (hy.out.below q.1.1)
  rw [sameM_self] at cRSx
  have cBy : Hid (∀ wr, QuadS w6 w.heap.size (w.heap.size + 1) w4.heap.size w5.heap.size (.int .i64 a.kind) (.slice sa a.S.length ca) (.slice na a.N.length da) (.int .i64 a.bits) (.int .i64 b.kind) (.slice sb b.S.length cb) (.slice nb b.N.length db) (.int .i64 b.bits) (.int .i64 x.kind) (.slice sx x.S.length cx) (.slice nx x.N.length dx) (.int .i64 x.bits) (.int .i64 x.kind) (.slice sy x.S.length cy) (.slice ny x.N.length dy) (.int .i64 x.bits) wr → _) := Lib.hid fun wr q => bytesM_any (hK.out _ (bel hw6 q.1.1)) (ha6.below q.1.1)
  have cRBy : Hid (∀ wr, QuadS w6 w.heap.size (w.heap.size + 1) w4.heap.size w5.heap.size (.int .i64 a.kind) (.slice sa a.S.length ca) (.slice na a.N.length da) (.int .i64 a.bits) (.int .i64 b.kind) (.slice sb b.S.length cb) (.slice nb b.N.length db) (.int .i64 b.bits) (.int .i64 x.kind) (.slice sx x.S.length cx) (.slice nx x.N.length dx) (.int .i64 x.bits) (.int .i64 x.kind) (.slice sy x.S.length cy) (.slice ny x.N.length dy) (.int .i64 x.bits) wr → _) := Lib.hid fun wr q => rbytesM_any (ha6.below q.1.1)
  have cCl : Hid (∀ wr, QuadS w6 w.heap.size (w.heap.size + 1) w4.heap.size w5.heap.size (.int .i64 a.kind) (.slice sa a.S.length ca) (.slice na a.N.length da) (.int .i64 a.bits) (.int .i64 b.kind) (.slice sb b.S.length cb) (.slice nb b.N.length db) (.int .i64 b.bits) (.int .i64 x.kind) (.slice sx x.S.length cx) (.slice nx x.N.length dx) (.int .i64 x.bits) (.int .i64 x.kind) (.slice sy x.S.length cy) (.slice ny x.N.length dy) (.int .i64 x.bits) wr → _) := Lib.hid fun wr q => client_b kind wr (hK.out _ (bel hw6 q.1.1))
  have cRCl := Lib.hid (rclient_b kind)
  generalize isM a = I at *
  generalize sameM a b = E at *
  generalize bytesM a = L at *
  generalize clientK kind = C at *
  replace hw6 := Lib.hid hw6
  clear hX hY hx hy ha6 hb6 ha hb hA hk hW hK
  go_region_held3 (fun wr => QuadS w6 w.heap.size (w.heap.size + 1) w4.heap.size w5.heap.size (.int .i64 a.kind) (.slice sa a.S.length ca) (.slice na a.N.length da) (.int .i64 a.bits) (.int .i64 b.kind) (.slice sb b.S.length cb) (.slice nb b.N.length db) (.int .i64 b.bits) (.int .i64 x.kind) (.slice sx x.S.length cx) (.slice nx x.N.length dx) (.int .i64 x.bits) (.int .i64 x.kind) (.slice sy x.S.length cy) (.slice ny x.N.length dy) (.int .i64 x.bits) wr) (first | exact QuadS.step (by assumption) hb | exact Q0.out) (first
    | (go_at_call 14; refine (cIs.out _ (by assumption)).mono ?_; rintro e w'' ⟨rfl, hb⟩)
    | (go_at_call 15; refine (cRIs.out _ (by assumption)).mono ?_; rintro e w'' ⟨rfl, hb⟩)
    | (go_at_call 16; refine (cSm.out _ (by assumption)).mono ?_; rintro e w'' ⟨rfl, hb⟩)
    | (go_at_call 17; with_reducible refine (cRSm.out _ (by assumption)).mono ?_; rintro e w'' ⟨rfl, hb⟩)
    | (go_at_call 17; with_reducible refine (cRSx.out _ (by assumption)).mono ?_; rintro e w'' ⟨rfl, hb⟩)
    | (go_at_call 18; refine (cBy.out _ (by assumption)).mono ?_; rintro e w'' ⟨rfl, hb⟩)
    | (go_at_call 19; refine (cRBy.out _ (by assumption)).mono ?_; rintro e w'' ⟨rfl, hb⟩)
    | (go_at_call 20; refine (cCl.out _ (by assumption)).mono ?_; rintro e w'' ⟨rfl, hb⟩)
    | (go_at_call 21; refine (cRCl.out _).mono ?_; rintro e w'' ⟨rfl, hb⟩))
  rename_i hH
  have hH := Lib.hid hH.1.1
  clear cIs cRIs cSm cRSm cRSx cBy cRBy cCl cRCl
  go_wp2_with fail
  go_ret
  exact ⟨rfl, bel hw6.out hH.out⟩
end Go.Proofs.YtipinglchpmgaaaDoor
