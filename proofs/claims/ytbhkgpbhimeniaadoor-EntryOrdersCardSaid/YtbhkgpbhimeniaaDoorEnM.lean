/- EntryOrders. -/
import Derived.Test.YtbhkgpbhimeniaaDoorEnK
import Derived.Test.YtbhkgpbhimeniaaDoorEnR
namespace Go.Proofs.YtbhkgpbhimeniaaDoor
open Go.RowKit
set_option linter.unusedVariables false
set_option maxRecDepth 100000

/-- Three entries of one's own. -/
structure EnG (w wr : World) (x y z : Nat) (a b c : Ent) : Prop where
  below : Below w.heap.size w wr
  a_ : EnAt wr x a
  b_ : EnAt wr y b
  c_ : EnAt wr z c
theorem EnG.step {w wr w' : World} {x y z : Nat} {a b c : Ent} (h : EnG w wr x y z a b c) (hb : Below wr.heap.size wr w') : EnG w w' x y z a b c := ⟨bel h.below hb, h.a_.step hb, h.b_.step hb, h.c_.step hb⟩
theorem EnG.start (w : World) (a b c : Ent) : EnG w (((w.alloc (enO a)).alloc (enO b)).alloc (enO c)) w.heap.size (w.heap.size + 1) (w.heap.size + 1 + 1) a b c := by
  have h := en2Hold (en2Start w a b) (new_below _ (enO c))
  have h3 := EnAt.start ((w.alloc (enO a)).alloc (enO b)) c
  rw [World.size_alloc, World.size_alloc] at h3
  exact ⟨bel (two_new _ _ _) (new_below _ _), h.1, h.2, h3⟩

theorem op2HoldE {w wa wb : World} {x y : Nat} {a b : Ent} (h : Below w.heap.size w wa ∧ EnAt wa x a ∧ EnAt wa y b) (hb : Below wa.heap.size wa wb) : Below w.heap.size w wb ∧ EnAt wb x a ∧ EnAt wb y b := ⟨bel h.1 hb, h.2.1.step hb, h.2.2.step hb⟩
abbrev OrdD (X Y U Z : Bool) (p1 p2 i1 i2 : Int) : Prop :=
  (((X = true ∧ Y = false ∧ U = true ∧ Z = true) ∨ (X = true ∧ Y = false ∧ U = false) ∨ (X = false ∧ Y = true)) ∧ ((p1 == p2) = false ∨ (p1 = p2 ∧ (i1 == i2) = false))) ∨
  (X = false ∧ Y = false ∧ p1 = p2 ∧ i1 = i2)
theorem ordD (a b c : Ent) : OrdD (lessE a b) (lessE b a) (lessE b c) (lessE a c) a.prio b.prio a.id b.id := by
  by_cases hX : b.prio < a.prio ∨ a.prio = b.prio ∧ a.id < b.id
  · have e1 : lessE a b = true := decide_eq_true hX
    have e2 : lessE b a = false := decide_eq_false (by omega)
    refine .inl ⟨?_, ?_⟩
    · by_cases hU : c.prio < b.prio ∨ b.prio = c.prio ∧ b.id < c.id
      · exact .inl ⟨e1, e2, decide_eq_true hU, decide_eq_true (by omega)⟩
      · exact .inr (.inl ⟨e1, e2, decide_eq_false hU⟩)
    · by_cases h : a.prio = b.prio
      · exact .inr ⟨h, by rw [beq_eq_false_iff_ne]; omega⟩
      · exact .inl (by rw [beq_eq_false_iff_ne]; exact h)
  · have e1 : lessE a b = false := decide_eq_false hX
    by_cases hY : a.prio < b.prio ∨ b.prio = a.prio ∧ b.id < a.id
    · refine .inl ⟨.inr (.inr ⟨e1, decide_eq_true hY⟩), ?_⟩
      by_cases h : a.prio = b.prio
      · exact .inr ⟨h, by rw [beq_eq_false_iff_ne]; omega⟩
      · exact .inl (by rw [beq_eq_false_iff_ne]; exact h)
    · exact .inr ⟨e1, decide_eq_false hY, by omega, by omega⟩
theorem bne_of {x y : Int} (h : (x == y) = false) : (x != y) = true := by rw [bne, h]; rfl
theorem lessE_self (a : Ent) : lessE a a = false := decide_eq_false (by omega)

set_option maxHeartbeats 8000000 in
theorem orders14_walk {a b c : Ent} (ha : In64 a.prio) (hb0 : In64 b.prio) (hc : In64 c.prio) {w : World} (hT : Most w.heap.size w) :
    Calls Tryd.prog 4 #[enV a, enV b, enV c] w fun e w' => e = .returned (.bool true) ∧ Below w.heap.size w w' := by
  have hG0 := Lib.hid (EnG.start w a b c)
  have c1 := Lib.hid (known14_true _ (hT.on hG0.out.below))
  have cL : Hid (∀ (p q : Ent), (In64 p.prio ∧ In64 q.prio) → ∀ w, Calls Tryd.prog 9 #[enV p, enV q] w fun e w' => e = .returned (.bool (lessE p q)) ∧ Below w.heap.size w w') := Lib.hid fun p q h w => less_any p q h.1 h.2 w
  have iab : Hid (In64 a.prio ∧ In64 b.prio) := Lib.hid ⟨ha, hb0⟩
  have iba : Hid (In64 b.prio ∧ In64 a.prio) := Lib.hid ⟨hb0, ha⟩
  have ibc : Hid (In64 b.prio ∧ In64 c.prio) := Lib.hid ⟨hb0, hc⟩
  have iac : Hid (In64 a.prio ∧ In64 c.prio) := Lib.hid ⟨ha, hc⟩
  have iaa : Hid (In64 a.prio ∧ In64 a.prio) := Lib.hid ⟨ha, ha⟩
  have hD := Lib.hid (ordD a b c)
  clear hT ha hb0 hc
  go_enter Tryd.func4, Tryd.ntmps4
  go_wp2_with fail
  refine c1.out.mono ?_
  rintro e w1 ⟨rfl, hb⟩
  have hG := Lib.hid (hG0.out.step hb)
  have hS0 : Hid (Below w1.heap.size w1 w1.drew ∧ EnAt w1.drew w.heap.size a ∧ EnAt w1.drew (w.heap.size + 1) b) := Lib.hid ⟨drew_b _, hG.out.a_, hG.out.b_⟩
  clear hb hG0 c1
  go_wp2_with fail
  go_region_held3 (fun wr => Below w1.heap.size w1 wr ∧ (wr.cell? ⟨w.heap.size, 0, none⟩ = some (.int .i64 a.id) ∧ wr.cell? ⟨w.heap.size, 1, none⟩ = some (.int .i64 a.body) ∧ wr.cell? ⟨w.heap.size, 2, none⟩ = some (.int .i64 a.size) ∧ wr.cell? ⟨w.heap.size, 3, none⟩ = some (tx a.exch) ∧ wr.cell? ⟨w.heap.size, 4, none⟩ = some (tx a.key) ∧ wr.cell? ⟨w.heap.size, 5, none⟩ = some (.int .i64 a.prio) ∧ wr.cell? ⟨w.heap.size, 6, none⟩ = some (.int .i64 a.ttl) ∧ wr.cell? ⟨w.heap.size, 7, none⟩ = some (.int .i64 a.til) ∧ wr.cell? ⟨w.heap.size, 8, none⟩ = some (.bool a.again) ∧ wr.cell? ⟨w.heap.size, 9, none⟩ = some (.int .i64 a.hops)) ∧ (wr.cell? ⟨w.heap.size + 1, 0, none⟩ = some (.int .i64 b.id) ∧ wr.cell? ⟨w.heap.size + 1, 1, none⟩ = some (.int .i64 b.body) ∧ wr.cell? ⟨w.heap.size + 1, 2, none⟩ = some (.int .i64 b.size) ∧ wr.cell? ⟨w.heap.size + 1, 3, none⟩ = some (tx b.exch) ∧ wr.cell? ⟨w.heap.size + 1, 4, none⟩ = some (tx b.key) ∧ wr.cell? ⟨w.heap.size + 1, 5, none⟩ = some (.int .i64 b.prio) ∧ wr.cell? ⟨w.heap.size + 1, 6, none⟩ = some (.int .i64 b.ttl) ∧ wr.cell? ⟨w.heap.size + 1, 7, none⟩ = some (.int .i64 b.til) ∧ wr.cell? ⟨w.heap.size + 1, 8, none⟩ = some (.bool b.again) ∧ wr.cell? ⟨w.heap.size + 1, 9, none⟩ = some (.int .i64 b.hops))) (first | exact hS0.out | exact op2HoldE (by assumption) hb) ((go_at_call 9; refine (cL.out _ _ (by first | exact iab.out | exact iba.out) _).mono ?_; rintro e w'' ⟨rfl, hb⟩))
  rename_i hHeld
  have hG2 := Lib.hid (hG.out.step hHeld.1)
  clear hHeld hb hS0 hG
  have d4 := Lib.hid (cL.out b c ibc.out)
  have d5 := Lib.hid (cL.out a c iac.out)
  have d6 := Lib.hid (cL.out a a iaa.out)
  rw [lessE_self] at d6
  clear cL iab iba ibc iac iaa
  generalize lessE a b = X at *
  generalize lessE b a = Y at *
  generalize lessE b c = U at *
  generalize lessE a c = Z at *
  rcases hD.out with ⟨⟨rfl, rfl, rfl, rfl⟩ | ⟨rfl, rfl, rfl⟩ | ⟨rfl, rfl⟩, hN⟩ | ⟨rfl, rfl, hN⟩
  · clear hD
    replace hN := Lib.hid hN
    obtain ⟨b0, b1, b2, b3, b4, b5, b6, b7, b8, b9⟩ := hG2.out.b_
    obtain ⟨c0, c1, c2, c3, c4, c5, c6, c7, c8, c9⟩ := hG2.out.c_
    go_wp2_with fail
    refine (d4.out _).mono ?_
    rintro e v0 ⟨rfl, hb⟩
    replace hG2 := Lib.hid (hG2.out.step hb)
    clear hb d4
    clear b0 b1 b2 b3 b4 b5 b6 b7 b8 b9 c0 c1 c2 c3 c4 c5 c6 c7 c8 c9
    obtain ⟨a0, a1, a2, a3, a4, a5, a6, a7, a8, a9⟩ := hG2.out.a_
    obtain ⟨c0, c1, c2, c3, c4, c5, c6, c7, c8, c9⟩ := hG2.out.c_
    go_wp2_with fail
    refine (d5.out _).mono ?_
    rintro e v1 ⟨rfl, hb⟩
    replace hG2 := Lib.hid (hG2.out.step hb)
    clear hb d5
    clear a0 a1 a2 a3 a4 a5 a6 a7 a8 a9 c0 c1 c2 c3 c4 c5 c6 c7 c8 c9
    obtain ⟨a0, a1, a2, a3, a4, a5, a6, a7, a8, a9⟩ := hG2.out.a_
    go_wp2_with fail
    refine (d6.out _).mono ?_
    rintro e v2 ⟨rfl, hb⟩
    replace hG2 := Lib.hid (hG2.out.step hb)
    clear hb d6
    clear a0 a1 a2 a3 a4 a5 a6 a7 a8 a9
    have r1 := hG2.out.a_.2.2.2.2.2.1
    have r2 := hG2.out.a_.1
    have r3 := hG2.out.b_.2.2.2.2.2.1
    have r4 := hG2.out.b_.1
    have hB := Lib.hid hG2.out.below
    clear hG2
    generalize a.prio = p1 at r1 hN
    generalize a.id = i1 at r2 hN
    generalize b.prio = p2 at r3 hN
    generalize b.id = i2 at r4 hN
    rcases hN.out with hn | ⟨rfl, hn⟩
    · replace hn := bne_of hn
      clear hN
      go_wp2_with fail
      go_ret
      exact ⟨ret_bool (by first | rfl | exact hn), hB.out⟩
    · replace hn := bne_of hn
      clear hN
      go_wp2_with fail
      go_ret
      exact ⟨ret_bool (by first | rfl | exact hn), hB.out⟩
  · clear hD
    replace hN := Lib.hid hN
    obtain ⟨b0, b1, b2, b3, b4, b5, b6, b7, b8, b9⟩ := hG2.out.b_
    obtain ⟨c0, c1, c2, c3, c4, c5, c6, c7, c8, c9⟩ := hG2.out.c_
    go_wp2_with fail
    refine (d4.out _).mono ?_
    rintro e v0 ⟨rfl, hb⟩
    replace hG2 := Lib.hid (hG2.out.step hb)
    clear hb d4
    clear b0 b1 b2 b3 b4 b5 b6 b7 b8 b9 c0 c1 c2 c3 c4 c5 c6 c7 c8 c9
    obtain ⟨a0, a1, a2, a3, a4, a5, a6, a7, a8, a9⟩ := hG2.out.a_
    go_wp2_with fail
    refine (d6.out _).mono ?_
    rintro e v1 ⟨rfl, hb⟩
    replace hG2 := Lib.hid (hG2.out.step hb)
    clear hb d6
    clear a0 a1 a2 a3 a4 a5 a6 a7 a8 a9
    have r1 := hG2.out.a_.2.2.2.2.2.1
    have r2 := hG2.out.a_.1
    have r3 := hG2.out.b_.2.2.2.2.2.1
    have r4 := hG2.out.b_.1
    have hB := Lib.hid hG2.out.below
    clear hG2
    generalize a.prio = p1 at r1 hN
    generalize a.id = i1 at r2 hN
    generalize b.prio = p2 at r3 hN
    generalize b.id = i2 at r4 hN
    rcases hN.out with hn | ⟨rfl, hn⟩
    · replace hn := bne_of hn
      clear hN
      go_wp2_with fail
      go_ret
      exact ⟨ret_bool (by first | rfl | exact hn), hB.out⟩
    · replace hn := bne_of hn
      clear hN
      go_wp2_with fail
      go_ret
      exact ⟨ret_bool (by first | rfl | exact hn), hB.out⟩
  · clear hD
    replace hN := Lib.hid hN
    obtain ⟨a0, a1, a2, a3, a4, a5, a6, a7, a8, a9⟩ := hG2.out.a_
    go_wp2_with fail
    refine (d6.out _).mono ?_
    rintro e v0 ⟨rfl, hb⟩
    replace hG2 := Lib.hid (hG2.out.step hb)
    clear hb d6
    clear a0 a1 a2 a3 a4 a5 a6 a7 a8 a9
    have r1 := hG2.out.a_.2.2.2.2.2.1
    have r2 := hG2.out.a_.1
    have r3 := hG2.out.b_.2.2.2.2.2.1
    have r4 := hG2.out.b_.1
    have hB := Lib.hid hG2.out.below
    clear hG2
    generalize a.prio = p1 at r1 hN
    generalize a.id = i1 at r2 hN
    generalize b.prio = p2 at r3 hN
    generalize b.id = i2 at r4 hN
    rcases hN.out with hn | ⟨rfl, hn⟩
    · replace hn := bne_of hn
      clear hN
      go_wp2_with fail
      go_ret
      exact ⟨ret_bool (by first | rfl | exact hn), hB.out⟩
    · replace hn := bne_of hn
      clear hN
      go_wp2_with fail
      go_ret
      exact ⟨ret_bool (by first | rfl | exact hn), hB.out⟩
  · clear hD
    replace hN := Lib.hid hN
    obtain ⟨a0, a1, a2, a3, a4, a5, a6, a7, a8, a9⟩ := hG2.out.a_
    go_wp2_with fail
    refine (d6.out _).mono ?_
    rintro e v0 ⟨rfl, hb⟩
    replace hG2 := Lib.hid (hG2.out.step hb)
    clear hb d6
    clear a0 a1 a2 a3 a4 a5 a6 a7 a8 a9
    have r1 := hG2.out.a_.2.2.2.2.2.1
    have r2 := hG2.out.a_.1
    have r3 := hG2.out.b_.2.2.2.2.2.1
    have r4 := hG2.out.b_.1
    have hB := Lib.hid hG2.out.below
    clear hG2
    generalize a.prio = p1 at r1 hN
    generalize a.id = i1 at r2 hN
    generalize b.prio = p2 at r3 hN
    generalize b.id = i2 at r4 hN
    obtain ⟨rfl, rfl⟩ := hN.out
    clear hN
    go_wp2_with fail
    go_ret
    exact ⟨ret_bool (by first | rfl | exact hn), hB.out⟩

theorem orders14_row {x y z : Array Value} {w : World} (hT : Most w.heap.size w) (r0 : Read Tryd.prog w 25 x.toList) (r1 : Read Tryd.prog w 25 y.toList) (r2 : Read Tryd.prog w 25 z.toList) :
    Calls Tryd.prog 4 #[.agg x, .agg y, .agg z] w fun e w' => e = .returned (.bool true) ∧ Below w.heap.size w w' := by
  obtain ⟨a, ha, fa⟩ := entry_of r0
  obtain ⟨b, hb, fb⟩ := entry_of r1
  obtain ⟨c, hc, fc⟩ := entry_of r2
  have ha2 : Value.agg x = enV a := congrArg Value.agg (Array.toList_inj.1 ha)
  have hb2 : Value.agg y = enV b := congrArg Value.agg (Array.toList_inj.1 hb)
  have hc2 : Value.agg z = enV c := congrArg Value.agg (Array.toList_inj.1 hc)
  rw [ha2, hb2, hc2]
  exact orders14_walk fa.prio fb.prio fc.prio hT
end Go.Proofs.YtbhkgpbhimeniaaDoor
