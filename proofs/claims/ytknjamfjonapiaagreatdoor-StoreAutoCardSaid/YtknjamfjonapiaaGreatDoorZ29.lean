import Derived.Test.YtknjamfjonapiaaGreatDoorZ28
import Derived.Test.YtknjamfjonapiaaGreatDoorZ01
import Derived.Test.YtknjamfjonapiaaGreatDoorZ22
namespace Go.Proofs.YtknjamfjonapiaaGreatDoor
open Go.RowKit
set_option linter.unusedVariables false
set_option linter.unusedSectionVars false
set_option linter.unusedSimpArgs false
set_option maxRecDepth 100000
def leavA (q : Int) (S : Sto) (i : Nat) : Sto := match S.L[i]? with
 | none => S
 | some d => if (goI q d 0).2.2 = true then (S.goneI q i d 0).unused i else S.goneI q i d 0
def leavR (q : Int) (S : Sto) (i : Nat) : Bool := match S.L[i]? with
 | none => false
 | some d => (goI q d 0).2.2 && unusB { d with G := (goI q d 0).1, T := (goI q d 0).2.1 }
def leavX (q : Int) (S : Sto) (i : Nat) : Bool := match S.L[i]? with
 | none => false
 | some d => exclB d.o.bits && d.conn == q
section
variable {qT : Bool} {B : Nat} {w0 w w' : World} {sb slb xb pb qb gb c c' i k b bx cx hx tx1 : Nat} {bs : List Nat} {S S' S1 : Sto} {L : List Pq} {xv v : Value} {d d' : Plq} {F F' Z Y : List (Nat × Obj)} {o : Opt} {n : List UInt8} {q z bt : Int} {e e0 : Ent} {a : Int} {g : Gst} {G : List Gst} {T : Nat}
set_option maxHeartbeats 4000000 in
theorem leavel_any (h : StoIs qT B w0 w sb bs S F c) (hb : bs[i]? = some pb) (m0 : (bx, boxO sb) ∈ F) {q : Int} (m1 : (cx, intO q) ∈ F) (hm : FineM S) (hc : c ≤ 100000) :
  Calls Tryz.prog 88 #[bpt pb, bpt cx, bpt bx] w fun e w' => e = noneV ∧ StoIs qT B w0 w' sb (leftB (leavR q S i) bs i) (leavA q S i) F c := by
 obtain ⟨hh, hM⟩ := hm
 have hil : i < S.L.length := by have := (List.getElem?_eq_some_iff.1 hb).1; rw [← h.len]; exact this
 have hi : S.L[i]? = some S.L[i] := List.getElem?_eq_getElem hil
 generalize S.L[i] = d at hi
 unfold leavR leavA
 rw [hi]
 simp only
 have k1 : w.cell? ⟨cx, 0, none⟩ = some (.int .i64 q) := h.cell m1 rfl
 obtain ⟨ok, hok⟩ : ∃ ok, ok = (goI q d 0).2.2 := ⟨_, rfl⟩
 obtain ⟨S2, hS2⟩ : ∃ S2, S2 = S.goneI q i d 0 := ⟨_, rfl⟩
 have cd := Lib.hid (dismiss_any h hi hb q)
 rw [← hok, ← hS2] at cd
 rw [← hok, ← hS2]
 have hbx : Hid (∀ w1, StoIs qT B w0 w1 sb bs S2 F c → w1.cell? ⟨bx, 0, none⟩ = some (bpt sb)) := Lib.hid fun w1 h' => h'.cell m0 rfl
 have hi2 : S2.L[i]? = some { d with G := (goI q d 0).1, T := (goI q d 0).2.1 } := by rw [hS2]; exact setG_get hi
 have cu : Hid (∀ w1, StoIs qT B w0 w1 sb bs S2 F c → Calls Tryz.prog 90 #[bpt sb, bpt pb] w1 fun e w' => e = noneV ∧ StoIs qT B w0 w' sb (leftB (unusB { d with G := (goI q d 0).1, T := (goI q d 0).2.1 }) bs i) (S2.unused i) F c) := Lib.hid fun w1 h' =>
  st_unused h' hi2 hb (hM d (List.mem_of_getElem? hi)) (fun x hx => hh x (by rw [hS2] at hx; exact hx)) hc
 generalize unusB { d with G := (goI q d 0).1, T := (goI q d 0).2.1 } = un at *
 clear h hi hi2 hb hh hM hc m0 m1 hil hok hS2
 cases ok with
 | false =>
  clear cu hbx
  simp only [Bool.false_and, leftB, Bool.false_eq_true, if_false]
  go_enter Tryz.func88, Tryz.ntmps88
  go_wp2_with fail
  refine cd.out.mono ?_
  rintro r w1 ⟨rfl, h2⟩
  clear cd k1
  replace h2 := Lib.hid h2
  go_wp2_with fail
  exact bodyPost_end (results_none rfl _ _ _) rfl ⟨rfl, h2.out⟩
 | true =>
  simp only [Bool.true_and, if_true]
  go_enter Tryz.func88, Tryz.ntmps88
  go_wp2_with fail
  refine cd.out.mono ?_
  rintro r w1 ⟨rfl, h2⟩
  clear cd k1
  have kb := hbx.out _ h2
  replace cu := Lib.hid (cu.out _ h2)
  clear hbx h2
  go_wp2_with fail
  refine cu.out.mono ?_
  rintro e w2 ⟨rfl, h3⟩
  replace h3 := Lib.hid h3
  clear cu kb
  go_wp2_with fail
  exact bodyPost_end (results_none rfl _ _ _) rfl ⟨rfl, h3.out⟩
set_option maxHeartbeats 4000000 in
theorem leavem_any (h : StoIs qT B w0 w sb bs S F c) (hb : bs[i]? = some pb) (m0 : (bx, boxO sb) ∈ F) {q : Int} (m1 : (cx, intO q) ∈ F) (hm : FineM S) (hc : c ≤ 100000) :
  Calls Tryz.prog 91 #[bpt pb, bpt cx, bpt bx] w fun e w' => e = noneV ∧ StoIs qT B w0 w' sb (leftB (leavX q S i) bs i) (S.leave2 q i) F c := by
 obtain ⟨hh, hM⟩ := hm
 have hil : i < S.L.length := by have := (List.getElem?_eq_some_iff.1 hb).1; rw [← h.len]; exact this
 have hi : S.L[i]? = some S.L[i] := List.getElem?_eq_getElem hil
 generalize S.L[i] = d at hi
 unfold leavX Sto.leave2
 rw [hi]
 simp only
 have h1 := h.grow (drew_b w)
 obtain ⟨qb, gb, hs⟩ := h1.seeP hb hi
 have hs0 : Hid (w.drew.cell? ⟨pb, 2, none⟩ = some (.int .i64 d.conn) ∧ w.drew.cell? ⟨cx, 0, none⟩ = some (.int .i64 q)) := Lib.hid ⟨hs.c2, h1.cell m1 rfl⟩
 have ce : Hid (Calls Tryz.prog 92 #[bpt pb] w.drew fun r w' => r = .returned (.bool (exclB d.o.bits)) ∧ StoIs qT B w0 w' sb bs S F c ∧ (w'.cell? ⟨pb, 2, none⟩ = some (.int .i64 d.conn) ∧ w'.cell? ⟨cx, 0, none⟩ = some (.int .i64 q))) := Lib.hid ((pl_excl h1 hi hb).mono (by
  rintro r w' ⟨rfl, h2⟩
  obtain ⟨qb, gb, hs⟩ := h2.seeP hb hi
  exact ⟨rfl, h2, hs.c2, h2.cell m1 rfl⟩))
 have hbx : Hid (∀ w1, StoIs qT B w0 w1 sb bs S F c → w1.cell? ⟨bx, 0, none⟩ = some (bpt sb)) := Lib.hid fun w1 h' => h'.cell m0 rfl
 have cr : Hid (∀ w1, StoIs qT B w0 w1 sb bs S F c → Calls Tryz.prog 74 #[bpt sb, bpt pb] w1 fun e w' => (∃ m : Int, e = .returned (.int .i64 m)) ∧ StoIs qT B w0 w' sb (bs.eraseIdx i) (S.removed i d) F c) := Lib.hid fun w1 h' =>
  (st_remove h' hi hb (hM d (List.mem_of_getElem? hi)) hh hc).mono fun e w' ⟨h1, h2⟩ => ⟨⟨_, h1⟩, h2⟩
 generalize S.removed i d = S2 at *
 generalize d.conn = dc at *
 generalize exclB d.o.bits = ex at *
 clear h h1 hs hi hb hh hM hc m0 m1 hil
 cases ex with
 | false =>
  rw [Bool.false_and]
  rw [if_neg (by simp)]
  show Calls _ _ _ _ fun e w' => e = noneV ∧ StoIs qT B w0 w' sb bs S F c
  clear cr hbx
  go_enter Tryz.func91, Tryz.ntmps91
  go_wp2_with fail
  refine wp_region_held_drew (S := fun wr => True) (by kernel_rfl) trivial (fun hHeld => ?_)
  refine wpAnyH_take (i := 0) (oi := { dst := some 4, op := Op.move (Operand.tmp 0), type := 131, pos := "store.go:145", after := #[], guard := none }) (v := ?_) rfl (by kernel_rfl) (by kernel_rfl) (by kernel_rfl) (fun _ _ _ h => h) (Or.inl ⟨by rfl, ?_⟩) hHeld ?_
  rotate_left 1
  ·(intro w' hSw; clear hSw; go_simp; (try with_reducible rfl))
  try simp only [Act.put, List.setIfInBounds_toArray, List.set_cons_zero, List.set_cons_succ]
  refine wpAnyH_ready (rs := [1]) (by kernel_rfl) (by simp) (AllReadyH.cons (o := { dst := some 5, op := Op.call { callee := Callee.value (Operand.func 92), args := #[Operand.tmp 4], argTypes := #[131] }, type := 4, pos := "store.go:145", after := #[{ on := 0, ground := Ground.data }], guard := none }) rfl (fun K hK => ?_) AllReadyH.nil)
  go_simp
  refine ce.out.mono ?_
  rintro r w1 ⟨rfl, h2, kS⟩
  go_wp2_with fail
  refine hK.out _ _ trivial (fun hHeld => ?_)
  clear hK K
  try simp only [Act.put, List.setIfInBounds_toArray, List.set_cons_zero, List.set_cons_succ]
  refine wpAnyH_take (i := 2) (oi := { dst := some 6, op := Op.move (Operand.tmp 5), type := 4, pos := "store.go:145", after := #[{ on := 1, ground := Ground.data }, { on := 1, ground := Ground.chain }], guard := none }) (v := ?_) rfl (by kernel_rfl) (by kernel_rfl) (by kernel_rfl) (fun _ _ _ h => h) (Or.inl ⟨by rfl, ?_⟩) hHeld ?_
  rotate_left 1
  ·(intro w' hSw; clear hSw; go_simp; (try with_reducible rfl))
  try simp only [Act.put, List.setIfInBounds_toArray, List.set_cons_zero, List.set_cons_succ]
  refine wpAnyH_take (i := 3) (oi := { dst := some 7, op := Op.move (Operand.tmp 0), type := 131, pos := "store.go:145", after := #[{ on := 2, ground := Ground.guard }], guard := some (2, true) }) (v := undef) rfl (by kernel_rfl) (by kernel_rfl) (by kernel_rfl) (fun _ _ _ h => h) (Or.inr ⟨by rfl, rfl⟩) hHeld ?_
  try simp only [Act.put, List.setIfInBounds_toArray, List.set_cons_zero, List.set_cons_succ]
  refine wpAnyH_take (i := 4) (oi := { dst := some 8, op := Op.nilCheck (Operand.tmp 7), type := 0, pos := "store.go:145", after := #[{ on := 3, ground := Ground.data }, { on := 2, ground := Ground.guard }], guard := some (2, true) }) (v := undef) rfl (by kernel_rfl) (by kernel_rfl) (by kernel_rfl) (fun _ _ _ h => h) (Or.inr ⟨by rfl, rfl⟩) hHeld ?_
  try simp only [Act.put, List.setIfInBounds_toArray, List.set_cons_zero, List.set_cons_succ]
  refine wpAnyH_take (i := 5) (oi := { dst := some 9, op := Op.fieldAddr 135 (Operand.tmp 8) 2, type := 0, pos := "store.go:145", after := #[{ on := 4, ground := Ground.data }, { on := 2, ground := Ground.guard }], guard := some (2, true) }) (v := undef) rfl (by kernel_rfl) (by kernel_rfl) (by kernel_rfl) (fun _ _ _ h => h) (Or.inr ⟨by rfl, rfl⟩) hHeld ?_
  try simp only [Act.put, List.setIfInBounds_toArray, List.set_cons_zero, List.set_cons_succ]
  refine wpAnyH_take (i := 6) (oi := { dst := some 10, op := Op.load 3 (Operand.tmp 9), type := 3, pos := "store.go:145", after := #[{ on := 5, ground := Ground.data }, { on := 2, ground := Ground.guard }], guard := some (2, true) }) (v := undef) rfl (by kernel_rfl) (by kernel_rfl) (by kernel_rfl) (fun _ _ _ h => h) (Or.inr ⟨by rfl, rfl⟩) hHeld ?_
  try simp only [Act.put, List.setIfInBounds_toArray, List.set_cons_zero, List.set_cons_succ]
  refine wpAnyH_take (i := 7) (oi := { dst := some 11, op := Op.load 3 (Operand.tmp 1), type := 3, pos := "store.go:145", after := #[{ on := 2, ground := Ground.guard }], guard := some (2, true) }) (v := undef) rfl (by kernel_rfl) (by kernel_rfl) (by kernel_rfl) (fun _ _ _ h => h) (Or.inr ⟨by rfl, rfl⟩) hHeld ?_
  try simp only [Act.put, List.setIfInBounds_toArray, List.set_cons_zero, List.set_cons_succ]
  refine wpAnyH_take (i := 8) (oi := { dst := some 12, op := Op.binOp BinOp.eql 3 (Operand.tmp 10) (Operand.tmp 11) 3, type := 4, pos := "store.go:145", after := #[{ on := 6, ground := Ground.data }, { on := 7, ground := Ground.data }, { on := 2, ground := Ground.guard }], guard := some (2, true) }) (v := undef) rfl (by kernel_rfl) (by kernel_rfl) (by kernel_rfl) (fun _ _ _ h => h) (Or.inr ⟨by rfl, rfl⟩) hHeld ?_
  try simp only [Act.put, List.setIfInBounds_toArray, List.set_cons_zero, List.set_cons_succ]
  refine wpAnyH_take (i := 9) (oi := { dst := some 13, op := Op.pick (Operand.tmp 6) (Operand.tmp 12) (Operand.const (Value.bool false)), type := 4, pos := "store.go:145", after := #[{ on := 2, ground := Ground.data }, { on := 8, ground := Ground.data }], guard := none }) (v := ?_) rfl (by kernel_rfl) (by kernel_rfl) (by kernel_rfl) (fun _ _ _ h => h) (Or.inl ⟨by rfl, ?_⟩) hHeld ?_
  rotate_left 1
  ·(intro w' hSw; clear hSw; go_simp; (try with_reducible rfl))
  try simp only [Act.put, List.setIfInBounds_toArray, List.set_cons_zero, List.set_cons_succ]
  refine wpAnyH_done (by kernel_rfl) ?_ _
  clear hHeld
  replace h2 := Lib.hid h2
  clear kS hs0 ce
  go_wp2_with fail
  exact bodyPost_end (results_none rfl _ _ _) rfl ⟨rfl, h2.out⟩
 | true =>
  rw [Bool.true_and]
  by_cases hcq : dc = q
  ·subst hcq
   have e1 : (dc == dc) = true := by rw [beq_iff_eq]
   rw [e1, if_pos (by simp)]
   show Calls _ _ _ _ fun e w' => e = noneV ∧ StoIs qT B w0 w' sb (bs.eraseIdx i) S2 F c
   go_enter Tryz.func91, Tryz.ntmps91
   go_wp2_with fail
   go_region_held3 (fun X => X.cell? ⟨pb, 2, none⟩ = some (.int .i64 dc) ∧ X.cell? ⟨cx, 0, none⟩ = some (.int .i64 dc)) (first | with_reducible exact kS | with_reducible exact hs0.out)
    ((go_at_call 92; refine ce.out.mono ?_; rintro r w1 ⟨rfl, h2, kS⟩))
   all_goals
    have kb := hbx.out _ h2
    replace cr := Lib.hid (cr.out _ h2)
    clear kS hs0 ce hbx h2
    go_wp2_with fail
    refine cr.out.mono ?_
    rintro e w2 ⟨⟨m, rfl⟩, h3⟩
    replace h3 := Lib.hid h3
    clear cr kb
    go_wp2_with fail
    exact bodyPost_end (results_none rfl _ _ _) rfl ⟨rfl, h3.out⟩
  ·have e1 : (dc == q) = false := by rw [beq_eq_false_iff_ne]; exact hcq
   rw [e1, if_neg (by simp [hcq])]
   show Calls _ _ _ _ fun e w' => e = noneV ∧ StoIs qT B w0 w' sb bs S F c
   clear cr hbx
   go_enter Tryz.func91, Tryz.ntmps91
   go_wp2_with fail
   go_region_held3 (fun X => X.cell? ⟨pb, 2, none⟩ = some (.int .i64 dc) ∧ X.cell? ⟨cx, 0, none⟩ = some (.int .i64 q)) (first | with_reducible exact kS | with_reducible exact hs0.out)
    ((go_at_call 92; refine ce.out.mono ?_; rintro r w1 ⟨rfl, h2, kS⟩))
   all_goals
    replace h2 := Lib.hid h2
    clear kS hs0 ce
    go_wp2_with fail
    exact bodyPost_end (results_none rfl _ _ _) rfl ⟨rfl, h2.out⟩
set_option maxHeartbeats 2000000 in
theorem st_leave (h : StoIs qT B w0 w sb bs S F c) (q : Int) (hS1 : (swp (leavA q) (leavR q) S S.L.length).1 = S1) (hm1 : ∀ i, FineM (swp (leavA q) (leavR q) S i).1) (hm2 : ∀ i, FineM (swp (fun S i => S.leave2 q i) (leavX q) S1 i).1) (hc : c ≤ 100000) (hS : (swp (fun S i => S.leave2 q i) (leavX q) S1 S1.L.length).1 = S') :
  Calls Tryz.prog 36 #[bpt sb, .int .i64 q] w fun e w' => e = noneV ∧ ∃ bs', StoIs qT B w0 w' sb bs' S' F c := by
 have h1 := (h.alloc (boxO sb)).alloc (intO q)
 simp only [World.size_alloc] at h1
 have hgo : ∀ (args : Array Value) (w : World), (callFunc 88 args).run Tryz.prog w = .ok (.enter 88 args) w := fun args w => by kernel_rfl
 have hgo2 : ∀ (args : Array Value) (w : World), (callFunc 91 args).run Tryz.prog w = .ok (.enter 91 args) w := fun args w => by kernel_rfl
 have k0 : ((w.alloc (boxO sb)).alloc (intO q)).cell? ⟨w.heap.size, 0, none⟩ = some (bpt sb) := h1.cell (b := w.heap.size) (cs := #[bpt sb]) (U := 26) (fr := (0, 0)) (by simp) rfl
 have ce1 : Hid (Calls Tryz.prog 66 #[bpt sb, .func (.func 88) #[] #[bpt (w.heap.size + 1), bpt w.heap.size]] ((w.alloc (boxO sb)).alloc (intO q)) fun e w' => e = noneV ∧ w'.cell? ⟨w.heap.size, 0, none⟩ = some (bpt sb) ∧ ∃ bs', StoIs qT B w0 w' sb bs' S1 ((w.heap.size + 1, intO q) :: (w.heap.size, boxO sb) :: F) c) := by
  refine Lib.hid ((sweep_any (g := 88) (f := leavA q) (rm := leavR q) hgo h1 ?_).mono ?_)
  ·intro Y i bs' pb w' hb h'
   exact leavel_any h' hb (bx := w.heap.size) (cx := w.heap.size + 1) (List.mem_append_right _ (by simp)) (List.mem_append_right _ (by simp)) (hm1 i) hc
  ·rintro e w' ⟨rfl, bs', h'⟩
   rw [hS1] at h'
   exact ⟨rfl, h'.cell (b := w.heap.size) (cs := #[bpt sb]) (U := 26) (fr := (0, 0)) (by simp) rfl, bs', h'⟩
 have ce2 : Hid (∀ w1 bs', StoIs qT B w0 w1 sb bs' S1 ((w.heap.size + 1, intO q) :: (w.heap.size, boxO sb) :: F) c → Calls Tryz.prog 66 #[bpt sb, .func (.func 91) #[] #[bpt (w.heap.size + 1), bpt w.heap.size]] w1 fun e w' => e = noneV ∧ ∃ bs', StoIs qT B w0 w' sb bs' S' F c) := Lib.hid fun w1 bs1 h2 => by
  refine (sweep_any (g := 91) (f := fun S i => S.leave2 q i) (rm := leavX q) hgo2 h2 ?_).mono ?_
  ·intro Y i bs' pb w' hb h'
   exact leavem_any h' hb (bx := w.heap.size) (cx := w.heap.size + 1) (List.mem_append_right _ (by simp)) (List.mem_append_right _ (by simp)) (hm2 i) hc
  ·rintro e w' ⟨rfl, bs', h'⟩
   rw [hS] at h'
   exact ⟨rfl, bs', h'.sub ((List.sublist_cons_self _ _).trans (List.sublist_cons_self _ _))⟩
 clear h h1 hm1 hm2 hc hS hS1 hgo hgo2
 go_enter Tryz.func36, Tryz.ntmps36
 go_wp2_with fail
 refine ce1.out.mono ?_
 rintro e w1 ⟨rfl, k1, bs1, h2⟩
 replace ce2 := Lib.hid (ce2.out _ _ h2)
 clear ce1 k0 h2
 go_wp2_with fail
 refine ce2.out.mono ?_
 rintro e w2 ⟨rfl, h3⟩
 replace h3 := Lib.hid h3
 clear ce2 k1
 go_wp2_with fail
 exact bodyPost_end (results_none rfl _ _ _) rfl ⟨rfl, h3.out⟩
end
theorem swp_all {f : Sto → Nat → Sto} {rm : Sto → Nat → Bool} {P : Sto → Prop} {S : Sto} (h0 : P S) (hs : ∀ X i, P X → P (f X i)) : ∀ i, P (swp f rm S i).1
 | 0 => h0
 | i + 1 => hs _ _ (swp_all h0 hs i)
theorem none_past {S : Sto} {i : Nat} (h : S.L.length ≤ i) : S.L[i]? = none := List.getElem?_eq_none h
theorem fineM_of {S : Sto} (h1 : S.sl.bs = []) (h2 : ∀ p ∈ S.L, p.M = []) : FineM S := ⟨(fun x hx => by rw [h1] at hx; exact (nomatch hx)), fun p hp => by rw [h2 p hp]; exact Nat.zero_le _⟩
abbrev oX : Opt := ⟨[], [], 0, 0, 0, 1⟩
abbrev oP : Opt := ⟨[], [], 0, 0, 0, 8⟩
def lk1 : Sto := ((newS 1000).queue [113] oX 1).1
theorem lk1_is : (newS 1000).queue [113] oX 1 = (lk1, 0, 0, 0) := by kernel_rfl
theorem lk1_L : lk1.L = [⟨[113], 1, 1, oX, [], [], 0⟩] := by kernel_rfl
theorem lk1_bs : lk1.sl.bs = [] := by kernel_rfl
def lk2 : Sto := lk1.removed 0 ⟨[113], 1, 1, oX, [], [], 0⟩
theorem lk2_L : lk2.L = [] := by kernel_rfl
theorem lk2_bs : lk2.sl.bs = [] := by kernel_rfl
theorem lk_few : ∀ p ∈ lk1.L, p.G.length < 60000 := by rw [lk1_L]; simp
theorem lk_M : ∀ p ∈ lk1.L, p.M = [] := by rw [lk1_L]; simp
theorem lk_M' : ∀ p ∈ lk1.L, p.M.length ≤ 100000 := fun p hp => by rw [lk_M p hp]; exact Nat.zero_le _
theorem lk_held : HeldOk lk1 := (fineM_of lk1_bs lk_M).1
theorem lk_fine1 : FineM lk1 := fineM_of lk1_bs lk_M
theorem lk_fine2 : FineM lk2 := fineM_of lk2_bs (by rw [lk2_L]; simp)
theorem lk_c0 (k : Nat) (h1 : 2 ≤ k) (h2 : k ≤ 5) : lk1.queue [113] oX k = (lk1, 0, 0, 405) := by
 obtain rfl | rfl | rfl | rfl : k = 2 ∨ k = 3 ∨ k = 4 ∨ k = 5 := by omega
 all_goals kernel_rfl
theorem lk_c1 (k : Nat) (h1 : 2 ≤ k) (h2 : k ≤ 5) : lk1.bind ([110, 111, 110, 101], [113], []) k = (lk1, 405) := by
 obtain rfl | rfl | rfl | rfl : k = 2 ∨ k = 3 ∨ k = 4 ∨ k = 5 := by omega
 all_goals kernel_rfl
theorem lk_c2 (k : Nat) (h1 : 2 ≤ k) (h2 : k ≤ 5) : lk1.purge [113] k = (lk1, 0, 405) := by
 obtain rfl | rfl | rfl | rfl : k = 2 ∨ k = 3 ∨ k = 4 ∨ k = 5 := by omega
 all_goals kernel_rfl
theorem lk_c3 (k : Nat) (h1 : 2 ≤ k) (h2 : k ≤ 5) : lk1.delete [113] 0 k = (lk1, 0, 405) := by
 obtain rfl | rfl | rfl | rfl : k = 2 ∨ k = 3 ∨ k = 4 ∨ k = 5 := by omega
 all_goals kernel_rfl
theorem lk_c4 (k : Nat) (h1 : 2 ≤ k) (h2 : k ≤ 5) : lk1.take [113] k = (lk1, z0E, 0, 0, 405) := by
 obtain rfl | rfl | rfl | rfl : k = 2 ∨ k = 3 ∨ k = 4 ∨ k = 5 := by omega
 all_goals kernel_rfl
theorem lk_c5 (k : Nat) (h1 : 2 ≤ k) (h2 : k ≤ 5) : lk1.consume [113] ⟨k, 0, [], 0, false, false⟩ = (lk1, 405) := by
 obtain rfl | rfl | rfl | rfl : k = 2 ∨ k = 3 ∨ k = 4 ∨ k = 5 := by omega
 all_goals kernel_rfl
theorem lk_c6 (k : Nat) (h1 : 2 ≤ k) (h2 : k ≤ 5) : lk1.queue [113] oP k = (lk1, 0, 0, 405) := by
 obtain rfl | rfl | rfl | rfl : k = 2 ∨ k = 3 ∨ k = 4 ∨ k = 5 := by omega
 all_goals kernel_rfl
theorem lk_p : lk1.purge [113] 1 = (lk1, 0, 0) := by kernel_rfl
theorem lk_a (q : Int) (i : Nat) : leavA q lk1 i = lk1 := by
 unfold leavA
 cases i with
 | zero =>
  rw [lk1_L]
  rfl
 | succ i => rw [none_past (by rw [lk1_L]; simp)]
theorem lk_x (k : Nat) (h1 : 2 ≤ k) (i : Nat) : lk1.leave2 k i = lk1 := by
 unfold Sto.leave2
 cases i with
 | zero =>
  rw [lk1_L]
  show (if exclB 1 = true ∧ (1 : Int) = k then _ else _) = _
  rw [if_neg (by omega)]
 | succ i => rw [none_past (by rw [lk1_L]; simp)]
theorem lk_y (i : Nat) : lk1.leave2 1 i = lk1 ∨ lk1.leave2 1 i = lk2 := by
 cases i with
 | zero => exact .inr (by kernel_rfl)
 | succ i =>
  refine .inl ?_
  unfold Sto.leave2
  rw [none_past (by rw [lk1_L]; simp)]
theorem lk_y2 (i : Nat) : lk2.leave2 1 i = lk2 := by
 unfold Sto.leave2
 rw [none_past (by rw [lk2_L]; simp)]
theorem lk_all1 (q : Int) (i : Nat) : (swp (leavA q) (leavR q) lk1 i).1 = lk1 := swp_all (P := fun X => X = lk1) rfl (fun X i h => by subst h; exact lk_a q i) i
theorem lk_all2 (k : Nat) (h1 : 2 ≤ k) (i : Nat) : (swp (fun S i => S.leave2 k i) (leavX k) lk1 i).1 = lk1 := swp_all (P := fun X => X = lk1) rfl (fun X i h => by subst h; exact lk_x k h1 i) i
theorem lk_all3 (i : Nat) : FineM (swp (fun S i => S.leave2 1 i) (leavX 1) lk1 i).1 := by
 have := swp_all (f := fun S i => S.leave2 1 i) (rm := leavX 1) (P := fun X => X = lk1 ∨ X = lk2) (S := lk1) (.inl rfl) (fun X i h => by
  rcases h with rfl | rfl
  ·exact lk_y i
  ·exact .inr (lk_y2 i)) i
 rcases this with h | h
 ·rw [h]; exact lk_fine1
 ·rw [h]; exact lk_fine2
theorem lk_end : (swp (fun S i => S.leave2 1 i) (leavX 1) lk1 lk1.L.length).1 = lk2 := by kernel_rfl
section
variable {B : Nat} {w0 w : World} {sb c : Nat} {bs : List Nat}
theorem lk_leave (h : StoIs false B w0 w sb bs lk1 [] c) (hc : c ≤ 100000) (k : Nat) (h1 : 2 ≤ k) : Calls Tryz.prog 36 #[bpt sb, .int .i64 k] w fun e w' => e = noneV ∧ ∃ bs', StoIs false B w0 w' sb bs' lk1 [] c :=
 st_leave h k (lk_all1 k _) (fun i => by rw [lk_all1]; exact lk_fine1) (fun i => by rw [lk_all2 k h1]; exact lk_fine1) hc (lk_all2 k h1 _)
theorem lk_leave1 (h : StoIs false B w0 w sb bs lk1 [] c) (hc : c ≤ 100000) : Calls Tryz.prog 36 #[bpt sb, .int .i64 1] w fun e w' => e = noneV ∧ ∃ bs', StoIs false B w0 w' sb bs' lk2 [] c :=
 st_leave h 1 (lk_all1 1 _) (fun i => by rw [lk_all1]; exact lk_fine1) lk_all3 hc lk_end
theorem lk_names {S : Sto} {m : Nat} (h : StoIs false B w0 w sb bs S [] c) (hm : S.L.length = m) : Calls Tryz.prog 19 #[bpt sb] w fun e w' => ∃ a cp, e = .returned (.slice a m cp) ∧ StoIs false B w0 w' sb bs S [] c := by
 refine (st_names h).mono ?_
 rintro e w' ⟨u, Z, rfl, hu, h'⟩
 obtain ⟨a, cp, rfl⟩ := hu.form
 rw [List.length_map, hm]
 exact ⟨a, cp, rfl, h'.sub (List.nil_sublist _)⟩
end
set_option maxHeartbeats 8000000 in
theorem locks19_walk {w : World} {a b k n : Nat} (ha : a < 256) (hb : b < 256) (hk : a % 4 + 2 = k) (hn : b % 7 = n) (hM : Most w.heap.size w) :
  Calls Tryz.prog 6 #[.int .u8 a, .int .u8 b] w fun e w' => e = .returned (.bool true) ∧ Below w.heap.size w w' := by
 have ck := Lib.hid (known19_true w hM)
 obtain ⟨m, hm⟩ : ∃ m, m = a % 4 := ⟨_, rfl⟩
 have a1 : (a : Int).tmod 4 = m := by rw [Int.tmod_eq_emod_of_nonneg (by omega)]; omega
 have a2 : (a : Int) % 4 = m := by omega
 have m0 : (0 : Int) ≤ m := by omega
 have m4 : (m : Int) < 4 := by omega
 have x0 : (0 : Int) ≤ a := by omega
 have x1 : (a : Int) < 256 := by omega
 have y0 : (0 : Int) ≤ b := by omega
 have y1 : (b : Int) < 256 := by omega
 have hki : (m : Int) + 2 = k := by omega
 have k2 : 2 ≤ k := by omega
 have k5 : k ≤ 5 := by omega
 have n7 : n < 7 := by omega
 have b1 : (b : Int).tmod 7 = n := by rw [Int.tmod_eq_emod_of_nonneg (by omega)]; omega
 have b2 : (b : Int) % 7 = n := by omega
 replace hki := Lib.hid hki
 clear ha hb hk hn hm
 go_enter Tryz.func6, Tryz.ntmps6
 go_wp2_with fail
 refine ck.out.mono ?_
 rintro e w1 ⟨rfl, hb⟩
 have c2 := Lib.hid (st_new (qT := false) (fun h => nomatch h) hM ((St.start w).grow hb) 1000)
 clear ck hb hM
 go_wp2_with fail
 refine c2.out.mono ?_
 rintro r w2 ⟨sb, rfl, h1⟩
 have c3 := Lib.hid (st_queue h1 [113] oX 1 (by decide) lk1_is)
 clear c2 h1
 go_wp2_with fail
 refine c3.out.mono ?_
 rintro r w3 ⟨rfl, bs, h2⟩
 replace h2 := Lib.hid h2
 clear c3
 go_upto_region 6 with fail
 rw [hki.out]
 clear a1 a2 m0 m4 x0 x1 hki
 rcases (by omega : n = 0 ∨ n = 1 ∨ n = 2 ∨ n = 3 ∨ n = 4 ∨ n = 5 ∨ n = 6) with rfl | rfl | rfl | rfl | rfl | rfl | rfl
 ·have b3 : (b : Int).tmod 7 = 0 := b1
  have b4 : (b : Int) % 7 = 0 := b2
  clear b1 b2 n7
  have cc := Lib.hid (st_queue h2.out [113] oX k (by decide) (lk_c0 k k2 k5))
  clear h2
  go_wp2_with fail
  refine cc.out.mono ?_
  rintro r w4 ⟨rfl, bs4, h4⟩
  have cp := Lib.hid (st_purge h4 [113] 1 lk_M' lk_held lk_p)
  clear cc h4
  go_wp2_with fail
  refine cp.out.mono ?_
  rintro r w5 ⟨rfl, h5⟩
  have cl := Lib.hid (lk_leave h5 (by decide) k k2)
  clear cp h5
  go_wp2_with fail
  refine cl.out.mono ?_
  rintro r w6 ⟨rfl, bs6, h6⟩
  have cn := Lib.hid (lk_names h6 (by rw [lk1_L]; rfl : lk1.L.length = 1))
  clear cl h6
  go_wp2_with fail
  refine cn.out.mono ?_
  rintro r w7 ⟨na, nc, rfl, h7⟩
  have cl := Lib.hid (lk_leave1 h7 (by decide))
  clear cn h7
  go_wp2_with fail
  refine cl.out.mono ?_
  rintro r w8 ⟨rfl, bs8, h8⟩
  have cn := Lib.hid (lk_names h8 (by rw [lk2_L]; rfl : lk2.L.length = 0))
  clear cl h8
  go_wp2_with fail
  refine cn.out.mono ?_
  rintro r w9 ⟨na, nc, rfl, h9⟩
  have fin := Lib.hid h9.below
  clear cn h9
  go_wp2_with fail
  go_ret
  exact ⟨rfl, fin.out⟩
 ·have b3 : (b : Int).tmod 7 = 1 := b1
  have b4 : (b : Int) % 7 = 1 := b2
  clear b1 b2 n7
  have cc := Lib.hid (st_bind h2.out (b1 := [110, 111, 110, 101]) (b2 := [113]) (b3 := []) ⟨by decide, by decide, by decide⟩ (by decide) k (lk_c1 k k2 k5))
  clear h2
  go_wp2_with fail
  refine cc.out.mono ?_
  rintro r w4 ⟨rfl, h4⟩
  have cp := Lib.hid (st_purge h4 [113] 1 lk_M' lk_held lk_p)
  clear cc h4
  go_wp2_with fail
  refine cp.out.mono ?_
  rintro r w5 ⟨rfl, h5⟩
  have cl := Lib.hid (lk_leave h5 (by decide) k k2)
  clear cp h5
  go_wp2_with fail
  refine cl.out.mono ?_
  rintro r w6 ⟨rfl, bs6, h6⟩
  have cn := Lib.hid (lk_names h6 (by rw [lk1_L]; rfl : lk1.L.length = 1))
  clear cl h6
  go_wp2_with fail
  refine cn.out.mono ?_
  rintro r w7 ⟨na, nc, rfl, h7⟩
  have cl := Lib.hid (lk_leave1 h7 (by decide))
  clear cn h7
  go_wp2_with fail
  refine cl.out.mono ?_
  rintro r w8 ⟨rfl, bs8, h8⟩
  have cn := Lib.hid (lk_names h8 (by rw [lk2_L]; rfl : lk2.L.length = 0))
  clear cl h8
  go_wp2_with fail
  refine cn.out.mono ?_
  rintro r w9 ⟨na, nc, rfl, h9⟩
  have fin := Lib.hid h9.below
  clear cn h9
  go_wp2_with fail
  go_ret
  exact ⟨rfl, fin.out⟩
 ·have b3 : (b : Int).tmod 7 = 2 := b1
  have b4 : (b : Int) % 7 = 2 := b2
  clear b1 b2 n7
  have cc := Lib.hid (st_purge h2.out [113] k lk_M' lk_held (lk_c2 k k2 k5))
  clear h2
  go_wp2_with fail
  refine cc.out.mono ?_
  rintro r w4 ⟨rfl, h4⟩
  have cp := Lib.hid (st_purge h4 [113] 1 lk_M' lk_held lk_p)
  clear cc h4
  go_wp2_with fail
  refine cp.out.mono ?_
  rintro r w5 ⟨rfl, h5⟩
  have cl := Lib.hid (lk_leave h5 (by decide) k k2)
  clear cp h5
  go_wp2_with fail
  refine cl.out.mono ?_
  rintro r w6 ⟨rfl, bs6, h6⟩
  have cn := Lib.hid (lk_names h6 (by rw [lk1_L]; rfl : lk1.L.length = 1))
  clear cl h6
  go_wp2_with fail
  refine cn.out.mono ?_
  rintro r w7 ⟨na, nc, rfl, h7⟩
  have cl := Lib.hid (lk_leave1 h7 (by decide))
  clear cn h7
  go_wp2_with fail
  refine cl.out.mono ?_
  rintro r w8 ⟨rfl, bs8, h8⟩
  have cn := Lib.hid (lk_names h8 (by rw [lk2_L]; rfl : lk2.L.length = 0))
  clear cl h8
  go_wp2_with fail
  refine cn.out.mono ?_
  rintro r w9 ⟨na, nc, rfl, h9⟩
  have fin := Lib.hid h9.below
  clear cn h9
  go_wp2_with fail
  go_ret
  exact ⟨rfl, fin.out⟩
 ·have b3 : (b : Int).tmod 7 = 3 := b1
  have b4 : (b : Int) % 7 = 3 := b2
  clear b1 b2 n7
  have cc := Lib.hid (st_delete h2.out [113] 0 k lk_M' lk_held (by decide) (lk_c3 k k2 k5))
  clear h2
  go_wp2_with fail
  refine cc.out.mono ?_
  rintro r w4 ⟨rfl, bs4, h4⟩
  have cp := Lib.hid (st_purge h4 [113] 1 lk_M' lk_held lk_p)
  clear cc h4
  go_wp2_with fail
  refine cp.out.mono ?_
  rintro r w5 ⟨rfl, h5⟩
  have cl := Lib.hid (lk_leave h5 (by decide) k k2)
  clear cp h5
  go_wp2_with fail
  refine cl.out.mono ?_
  rintro r w6 ⟨rfl, bs6, h6⟩
  have cn := Lib.hid (lk_names h6 (by rw [lk1_L]; rfl : lk1.L.length = 1))
  clear cl h6
  go_wp2_with fail
  refine cn.out.mono ?_
  rintro r w7 ⟨na, nc, rfl, h7⟩
  have cl := Lib.hid (lk_leave1 h7 (by decide))
  clear cn h7
  go_wp2_with fail
  refine cl.out.mono ?_
  rintro r w8 ⟨rfl, bs8, h8⟩
  have cn := Lib.hid (lk_names h8 (by rw [lk2_L]; rfl : lk2.L.length = 0))
  clear cl h8
  go_wp2_with fail
  refine cn.out.mono ?_
  rintro r w9 ⟨na, nc, rfl, h9⟩
  have fin := Lib.hid h9.below
  clear cn h9
  go_wp2_with fail
  go_ret
  exact ⟨rfl, fin.out⟩
 ·have b3 : (b : Int).tmod 7 = 4 := b1
  have b4 : (b : Int) % 7 = 4 := b2
  clear b1 b2 n7
  have cc := Lib.hid (st_take h2.out [113] k (lk_c4 k k2 k5))
  clear h2
  go_wp2_with fail
  refine cc.out.mono ?_
  rintro r w4 ⟨rfl, h4⟩
  have cp := Lib.hid (st_purge h4 [113] 1 lk_M' lk_held lk_p)
  clear cc h4
  go_wp2_with fail
  refine cp.out.mono ?_
  rintro r w5 ⟨rfl, h5⟩
  have cl := Lib.hid (lk_leave h5 (by decide) k k2)
  clear cp h5
  go_wp2_with fail
  refine cl.out.mono ?_
  rintro r w6 ⟨rfl, bs6, h6⟩
  have cn := Lib.hid (lk_names h6 (by rw [lk1_L]; rfl : lk1.L.length = 1))
  clear cl h6
  go_wp2_with fail
  refine cn.out.mono ?_
  rintro r w7 ⟨na, nc, rfl, h7⟩
  have cl := Lib.hid (lk_leave1 h7 (by decide))
  clear cn h7
  go_wp2_with fail
  refine cl.out.mono ?_
  rintro r w8 ⟨rfl, bs8, h8⟩
  have cn := Lib.hid (lk_names h8 (by rw [lk2_L]; rfl : lk2.L.length = 0))
  clear cl h8
  go_wp2_with fail
  refine cn.out.mono ?_
  rintro r w9 ⟨na, nc, rfl, h9⟩
  have fin := Lib.hid h9.below
  clear cn h9
  go_wp2_with fail
  go_ret
  exact ⟨rfl, fin.out⟩
 ·have b3 : (b : Int).tmod 7 = 5 := b1
  have b4 : (b : Int) % 7 = 5 := b2
  clear b1 b2 n7
  have cc := Lib.hid (st_consume h2.out [113] ⟨k, 0, [], 0, false, false⟩ (by simp) lk_few (lk_c5 k k2 k5))
  clear h2
  go_wp2_with fail
  refine cc.out.mono ?_
  rintro r w4 ⟨rfl, h4⟩
  have cp := Lib.hid (st_purge h4 [113] 1 lk_M' lk_held lk_p)
  clear cc h4
  go_wp2_with fail
  refine cp.out.mono ?_
  rintro r w5 ⟨rfl, h5⟩
  have cl := Lib.hid (lk_leave h5 (by decide) k k2)
  clear cp h5
  go_wp2_with fail
  refine cl.out.mono ?_
  rintro r w6 ⟨rfl, bs6, h6⟩
  have cn := Lib.hid (lk_names h6 (by rw [lk1_L]; rfl : lk1.L.length = 1))
  clear cl h6
  go_wp2_with fail
  refine cn.out.mono ?_
  rintro r w7 ⟨na, nc, rfl, h7⟩
  have cl := Lib.hid (lk_leave1 h7 (by decide))
  clear cn h7
  go_wp2_with fail
  refine cl.out.mono ?_
  rintro r w8 ⟨rfl, bs8, h8⟩
  have cn := Lib.hid (lk_names h8 (by rw [lk2_L]; rfl : lk2.L.length = 0))
  clear cl h8
  go_wp2_with fail
  refine cn.out.mono ?_
  rintro r w9 ⟨na, nc, rfl, h9⟩
  have fin := Lib.hid h9.below
  clear cn h9
  go_wp2_with fail
  go_ret
  exact ⟨rfl, fin.out⟩
 ·have b3 : (b : Int).tmod 7 = 6 := b1
  have b4 : (b : Int) % 7 = 6 := b2
  clear b1 b2 n7
  have cc := Lib.hid (st_queue h2.out [113] oP k (by decide) (lk_c6 k k2 k5))
  clear h2
  go_wp2_with fail
  refine cc.out.mono ?_
  rintro r w4 ⟨rfl, bs4, h4⟩
  have cp := Lib.hid (st_purge h4 [113] 1 lk_M' lk_held lk_p)
  clear cc h4
  go_wp2_with fail
  refine cp.out.mono ?_
  rintro r w5 ⟨rfl, h5⟩
  have cl := Lib.hid (lk_leave h5 (by decide) k k2)
  clear cp h5
  go_wp2_with fail
  refine cl.out.mono ?_
  rintro r w6 ⟨rfl, bs6, h6⟩
  have cn := Lib.hid (lk_names h6 (by rw [lk1_L]; rfl : lk1.L.length = 1))
  clear cl h6
  go_wp2_with fail
  refine cn.out.mono ?_
  rintro r w7 ⟨na, nc, rfl, h7⟩
  have cl := Lib.hid (lk_leave1 h7 (by decide))
  clear cn h7
  go_wp2_with fail
  refine cl.out.mono ?_
  rintro r w8 ⟨rfl, bs8, h8⟩
  have cn := Lib.hid (lk_names h8 (by rw [lk2_L]; rfl : lk2.L.length = 0))
  clear cl h8
  go_wp2_with fail
  refine cn.out.mono ?_
  rintro r w9 ⟨na, nc, rfl, h9⟩
  have fin := Lib.hid h9.below
  clear cn h9
  go_wp2_with fail
  go_ret
  exact ⟨rfl, fin.out⟩
theorem locks19_row {z0 z1 : Int} {w : World} (hM : Most w.heap.size w) (r0 : Read Tryz.prog w 5 [.int .u8 z0]) (r1 : Read Tryz.prog w 5 [.int .u8 z1]) :
  Calls Tryz.prog 6 #[.int .u8 z0, .int .u8 z1] w fun e w' => e = .returned (.bool true) ∧ Below w.heap.size w w' := by
 have hu : Tryz.prog.underlying 5 = some (.int .u8) := by kernel_rfl
 obtain ⟨y, hy, wf⟩ := r0.int hu
 simp only [List.cons.injEq, Value.int.injEq, true_and, and_true] at hy
 subst hy
 obtain ⟨y, hy, wf1⟩ := r1.int hu
 simp only [List.cons.injEq, Value.int.injEq, true_and, and_true] at hy
 subst hy
 obtain ⟨h1, h2⟩ := bounds_u8 wf
 obtain ⟨h3, h4⟩ := bounds_u8 wf1
 obtain ⟨a, rfl⟩ := Int.eq_ofNat_of_zero_le h1
 obtain ⟨b, rfl⟩ := Int.eq_ofNat_of_zero_le h3
 exact locks19_walk (by omega) (by omega) rfl rfl hM
theorem door_met19 (os : Os) (args : Array Value) : laidMetH Tryz.prog laidT ((World.doorLaid Tryz.prog 19 os).forCall (fun _ _ => 0) ⟨#[], args, []⟩).memory :=
 laidMetH_of_parts3 (fuel := 8) (laidMet_of_run' 8 (by kernel_rfl) (by kernel_rfl)) (by kernel_rfl) (by kernel_rfl)
abbrev oA : Opt := ⟨[], [], 0, 0, 0, 2⟩
def au1 : Sto := ((newS 1000).queue [113] oA 0).1
theorem au1_is : (newS 1000).queue [113] oA 0 = (au1, 0, 0, 0) := by kernel_rfl
def au2 : Sto := (au1.exch [120] [102, 97, 110, 111, 117, 116] 2).1
theorem au2_is : au1.exch [120] [102, 97, 110, 111, 117, 116] 2 = (au2, 0) := by kernel_rfl
def au3 : Sto := (au2.bind ([120], [113], []) 0).1
theorem au3_is : au2.bind ([120], [113], []) 0 = (au3, 0) := by kernel_rfl
def auG (a n : Nat) : List Gst := (List.range n).map fun j => ⟨((a + j : Nat) : Int), 1, [116], 0, false, false⟩
def auQ (G : List Gst) : Plq := ⟨[113], 1, 0, oA, [], G, 0⟩
def auS (G : List Gst) : Sto := { au3 with L := [auQ G] }
def auE : Sto := (auS []).removed 0 (auQ [])
def auD (k i : Nat) : Sto := if i < k then auS (auG i (k - i)) else auE
theorem au3_S : au3 = auS (auG 0 0) := by kernel_rfl
theorem au_add (i : Nat) (h : i < 5) : (auS (auG 0 i)).consume [113] ⟨i, 1, [116], 0, false, false⟩ = (auS (auG 0 (i + 1)), 0) := by
 obtain rfl | rfl | rfl | rfl | rfl : i = 0 ∨ i = 1 ∨ i = 2 ∨ i = 3 ∨ i = 4 := by omega
 all_goals kernel_rfl
theorem au_few (i : Nat) (h : i ≤ 5) : ∀ p ∈ (auS (auG 0 i)).L, p.G.length < 60000 := by
 intro p hp
 have hp' : p ∈ [auQ (auG 0 i)] := hp
 rw [List.mem_singleton] at hp'
 subst hp'
 show (auG 0 i).length < 60000
 unfold auG
 simp
 omega
theorem au_start (k : Nat) (h : 0 < k) : auS (auG 0 k) = auD k 0 := by
 unfold auD
 rw [if_pos h, Nat.sub_zero]
theorem auE_L : auE.L = [] := by kernel_rfl
theorem auE_bs : auE.sl.bs = [] := by kernel_rfl
theorem auS_bs (G : List Gst) : (auS G).sl.bs = [] := by
 have : au3.sl.bs = [] := by kernel_rfl
 exact this
theorem auE_x : hasX auE.P [120] = false := by kernel_rfl
theorem auS_x (G : List Gst) : hasX (auS G).P [120] = true := by
 have : hasX au3.P [120] = true := by kernel_rfl
 exact this
theorem auD_fine (k i : Nat) : FineM (auD k i) := by
 unfold auD
 split
 ·refine fineM_of (auS_bs _) fun p hp => ?_
  have hp' : p ∈ [auQ (auG i (k - i))] := hp
  rw [List.mem_singleton] at hp'
  subst hp'
  rfl
 ·exact fineM_of auE_bs (by rw [auE_L]; simp)
theorem auD_len (k i : Nat) : (auD k i).L.length = if i < k then 1 else 0 := by
 unfold auD
 split
 ·rfl
 ·rw [auE_L]; rfl
theorem auD_x (k i : Nat) : hasX (auD k i).P [120] = decide (i < k) := by
 unfold auD
 split
 ·rw [auS_x, decide_eq_true (by assumption)]
 ·rw [auE_x, decide_eq_false (by assumption)]
theorem auD_past (k i j : Nat) : (auD k i).L[j + 1]? = none := none_past (by rw [auD_len]; split <;> omega)
theorem au_c0 (k i : Nat) (hk : k ≤ 5) (hi : i < k) : (auD k i).cancel1 i 1 [116] 0 = auD k (i + 1) ∧ (auD k (i + 1)).cancel1 i 1 [116] 0 = auD k (i + 1) := by
 obtain rfl | rfl | rfl | rfl | rfl : k = 1 ∨ k = 2 ∨ k = 3 ∨ k = 4 ∨ k = 5 := by omega
 all_goals
  obtain rfl | rfl | rfl | rfl | rfl : i = 0 ∨ i = 1 ∨ i = 2 ∨ i = 3 ∨ i = 4 := by omega
 all_goals first
  | (exfalso; omega)
  | exact ⟨by kernel_rfl, by kernel_rfl⟩
theorem au_l0 (k i : Nat) (hk : k ≤ 5) (hi : i < k) : leavA i (auD k i) 0 = auD k (i + 1) ∧ leavA i (auD k (i + 1)) 0 = auD k (i + 1) := by
 obtain rfl | rfl | rfl | rfl | rfl : k = 1 ∨ k = 2 ∨ k = 3 ∨ k = 4 ∨ k = 5 := by omega
 all_goals
  obtain rfl | rfl | rfl | rfl | rfl : i = 0 ∨ i = 1 ∨ i = 2 ∨ i = 3 ∨ i = 4 := by omega
 all_goals first
  | (exfalso; omega)
  | exact ⟨by kernel_rfl, by kernel_rfl⟩
theorem au_x0 (k i : Nat) (q : Int) (j : Nat) : (auD k i).leave2 q j = auD k i := by
 cases j with
 | succ j => unfold Sto.leave2; rw [auD_past]
 | zero =>
  unfold auD
  split
  ·unfold Sto.leave2
   show (if exclB 2 = true ∧ (0 : Int) = q then _ else _) = _
   rw [if_neg (by
    have : exclB 2 = false := by kernel_rfl
    rw [this]
    simp)]
  ·unfold Sto.leave2
   rw [none_past (by rw [auE_L]; simp)]
theorem au_cs (k i : Nat) (hk : k ≤ 5) (hi : i < k) (X : Sto) (j : Nat) (h : X = auD k i ∨ X = auD k (i + 1)) : X.cancel1 i 1 [116] j = auD k i ∨ X.cancel1 i 1 [116] j = auD k (i + 1) := by
 cases j with
 | succ j =>
  have : X.cancel1 i 1 [116] (j + 1) = X := by
   unfold Sto.cancel1
   rcases h with rfl | rfl <;> rw [auD_past]
  rw [this]; exact h
 | zero =>
  rcases h with rfl | rfl
  ·exact .inr (au_c0 k i hk hi).1
  ·exact .inr (au_c0 k i hk hi).2
theorem au_ls (k i : Nat) (hk : k ≤ 5) (hi : i < k) (X : Sto) (j : Nat) (h : X = auD k i ∨ X = auD k (i + 1)) : leavA i X j = auD k i ∨ leavA i X j = auD k (i + 1) := by
 cases j with
 | succ j =>
  have : leavA i X (j + 1) = X := by
   unfold leavA
   rcases h with rfl | rfl <;> rw [auD_past]
  rw [this]; exact h
 | zero =>
  rcases h with rfl | rfl
  ·exact .inr (au_l0 k i hk hi).1
  ·exact .inr (au_l0 k i hk hi).2
section
variable {B : Nat} {w0 w : World} {sb c : Nat} {bs : List Nat} {k i : Nat}
theorem au_cancel (h : StoIs false B w0 w sb bs (auD k i) [] c) (hc : c ≤ 100000) (hk : k ≤ 5) (hi : i < k) : Calls Tryz.prog 37 #[bpt sb, .int .i64 i, .int .i64 1, tx [116]] w fun e w' => e = noneV ∧ ∃ bs', StoIs false B w0 w' sb bs' (auD k (i + 1)) [] c := by
 refine st_cancel h i 1 [116] (fun j => ?_) hc ?_
 ·rcases swp_all (f := fun S j => S.cancel1 i 1 [116] j) (rm := cancR i 1 [116]) (P := fun X => X = auD k i ∨ X = auD k (i + 1)) (S := auD k i) (.inl rfl) (fun X j h => au_cs k i hk hi X j h) j with h | h
  ·rw [h]; exact auD_fine _ _
  ·rw [h]; exact auD_fine _ _
 ·rw [auD_len, if_pos hi]
  exact (au_c0 k i hk hi).1
theorem au_leave (h : StoIs false B w0 w sb bs (auD k i) [] c) (hc : c ≤ 100000) (hk : k ≤ 5) (hi : i < k) : Calls Tryz.prog 36 #[bpt sb, .int .i64 i] w fun e w' => e = noneV ∧ ∃ bs', StoIs false B w0 w' sb bs' (auD k (i + 1)) [] c := by
 have hx : ∀ j, (swp (fun S j => S.leave2 i j) (leavX i) (auD k (i + 1)) j).1 = auD k (i + 1) := swp_all (P := fun X => X = auD k (i + 1)) rfl (fun X j h => by subst h; exact au_x0 k (i + 1) i j)
 refine st_leave (S1 := auD k (i + 1)) h i ?_ (fun j => ?_) (fun j => ?_) hc (hx _)
 ·rw [auD_len, if_pos hi]
  exact (au_l0 k i hk hi).1
 ·rcases swp_all (f := leavA i) (rm := leavR i) (P := fun X => X = auD k i ∨ X = auD k (i + 1)) (S := auD k i) (.inl rfl) (fun X j h => au_ls k i hk hi X j h) j with h | h
  ·rw [h]; exact auD_fine _ _
  ·rw [h]; exact auD_fine _ _
 ·rw [hx]; exact auD_fine _ _
end
set_option maxHeartbeats 8000000 in
theorem auto19_walk {w : World} {n k : Nat} {leave : Bool} (hn : n < 256) (hk : n % 5 + 1 = k) (hM : Most w.heap.size w) :
  Calls Tryz.prog 7 #[.int .u8 n, .bool leave] w fun e w' => e = .returned (.bool true) ∧ Below w.heap.size w w' := by
 have ck := Lib.hid (known19_true w hM)
 obtain ⟨m, hm⟩ : ∃ m, m = n % 5 := ⟨_, rfl⟩
 have a1 : (n : Int).tmod 5 = m := by rw [Int.tmod_eq_emod_of_nonneg (by omega)]; omega
 have a2 : (n : Int) % 5 = m := by omega
 have m0 : (0 : Int) ≤ m := by omega
 have m4 : (m : Int) < 5 := by omega
 have x0 : (0 : Int) ≤ n := by omega
 have x1 : (n : Int) < 256 := by omega
 have hki : (m : Int) + 1 = k := by omega
 have k1 : 0 < k := by omega
 have k5 : k ≤ 5 := by omega
 replace hki := Lib.hid hki
 clear hn hk hm
 go_enter Tryz.func7, Tryz.ntmps7
 go_wp2_with fail
 refine ck.out.mono ?_
 rintro e w1 ⟨rfl, hb⟩
 have c2 := Lib.hid (st_new (qT := false) (fun h => nomatch h) hM ((St.start w).grow hb) 1000)
 clear ck hb hM
 go_wp2_with fail
 refine c2.out.mono ?_
 rintro r w2 ⟨sb, rfl, h1⟩
 have c3 := Lib.hid (st_queue h1 [113] oA 0 (by decide) au1_is)
 clear c2 h1
 go_wp2_with fail
 refine c3.out.mono ?_
 rintro r w3 ⟨rfl, bs, h2⟩
 have c4 := Lib.hid (st_exch h2 [120] [102, 97, 110, 111, 117, 116] 2 au2_is)
 clear c3 h2
 go_wp2_with fail
 refine c4.out.mono ?_
 rintro r w4 ⟨rfl, h3⟩
 have c5 := Lib.hid (st_bind h3 (b1 := [120]) (b2 := [113]) (b3 := []) ⟨by decide, by decide, by decide⟩ (by decide) 0 au3_is)
 clear c4 h3
 go_wp2_with fail
 refine c5.out.mono ?_
 rintro r w5 ⟨rfl, h4⟩
 rw [au3_S] at h4
 replace h4 := Lib.hid h4
 clear c5
 go_upto_region 9 with fail
 rw [hki.out]
 clear a1 a2 m0 m4 x0 x1 hki
 have k50 : (k : Int) ≤ 5 := by omega
 have k00 : (0 : Int) < k := by omega
 go_wp2_with fail
 go_loopg [7] k (fun g v7 wr => ∃ i : Nat, v7 = .int .i64 i ∧ i + g = k ∧ Hid (StoIs false w.heap.size w wr sb bs (auS (auG 0 i)) [] 51))
 case atStart => exact ⟨0, rfl, by omega, h4⟩
 case round =>
  clear h4
  obtain ⟨i, rfl, hi, h⟩ := hrel
  have i0 : (0 : Int) ≤ i := by omega
  by_cases hik : i < k
  ·have i1 : (i : Int) < k := by omega
   have ca := Lib.hid (st_consume h.out [113] ⟨i, 1, [116], 0, false, false⟩ (by simp) (au_few i (by omega)) (au_add i (by omega)))
   clear h
   go_wp2_with fail
   refine ca.out.mono ?_
   rintro r w6 ⟨rfl, h6⟩
   replace h6 := Lib.hid h6
   clear ca
   go_wp2_with fail
   go_roundg (k - (i + 1))
   case measure => omega
   case rel => exact ⟨i + 1, by go_num, by omega, h6⟩
  ·obtain rfl : i = k := by omega
   have hs : Hid (∃ bs', StoIs false w.heap.size w wr sb bs' (auD i 0) [] 51) := Lib.hid ⟨bs, by rw [← au_start i k1]; exact h.out⟩
   clear h
   go_wp2_with fail
   go_loopg [8] i (fun g v8 wr => ∃ j : Nat, v8 = .int .i64 j ∧ j + g = i ∧ Hid (∃ bs', StoIs false w.heap.size w wr sb bs' (auD i j) [] 51))
   case atStart => exact ⟨0, rfl, by omega, hs⟩
   case round =>
    clear hs
    obtain ⟨j, rfl, hj, h⟩ := hrel
    obtain ⟨bs1, h⟩ := h.out
    have j0 : (0 : Int) ≤ j := by omega
    by_cases hji : j < i
    ·have j1 : (j : Int) < i := by omega
     have cn := Lib.hid (lk_names h (m := 1) (by rw [auD_len, if_pos hji]))
     clear h
     go_wp2_with fail
     refine cn.out.mono ?_
     rintro r w7 ⟨na, nc, rfl, h7⟩
     have cx := st_has h7 [120]
     rw [auD_x, decide_eq_true hji] at cx
     replace cx := Lib.hid cx
     clear cn h7
     go_wp2_with fail
     refine cx.out.mono ?_
     rintro r w8 ⟨rfl, h8⟩
     clear cx
     cases leave with
     | true =>
      have cl := Lib.hid (au_leave h8 (by decide) k5 hji)
      clear h8
      go_wp2_with fail
      refine cl.out.mono ?_
      rintro r w9 ⟨rfl, bs9, h9⟩
      have hs : Hid (∃ bs', StoIs false w.heap.size w w9 sb bs' (auD i (j + 1)) [] 51) := Lib.hid ⟨bs9, h9⟩
      clear cl h9
      go_wp2_with fail
      go_roundg (i - (j + 1))
      case measure => omega
      case rel => exact ⟨j + 1, by go_num, by omega, hs⟩
     | false =>
      have cl := Lib.hid (au_cancel h8 (by decide) k5 hji)
      clear h8
      go_wp2_with fail
      refine cl.out.mono ?_
      rintro r w9 ⟨rfl, bs9, h9⟩
      have hs : Hid (∃ bs', StoIs false w.heap.size w w9 sb bs' (auD i (j + 1)) [] 51) := Lib.hid ⟨bs9, h9⟩
      clear cl h9
      go_wp2_with fail
      go_roundg (i - (j + 1))
      case measure => omega
      case rel => exact ⟨j + 1, by go_num, by omega, hs⟩
    ·obtain rfl : j = i := by omega
     have cn := Lib.hid (lk_names h (m := 0) (by rw [auD_len, if_neg hji]))
     clear h
     go_wp2_with fail
     refine cn.out.mono ?_
     rintro r w7 ⟨na, nc, rfl, h7⟩
     have cx := st_has h7 [120]
     rw [auD_x, decide_eq_false hji] at cx
     replace cx := Lib.hid cx
     clear cn h7
     go_wp2_with fail
     refine cx.out.mono ?_
     rintro r w8 ⟨rfl, h8⟩
     have fin := Lib.hid h8.below
     clear cx h8
     go_wp2_with fail
     go_ret
     exact ⟨rfl, fin.out⟩
theorem auto19_row {z0 : Int} {b1 : Bool} {w : World} (hM : Most w.heap.size w) (r0 : Read Tryz.prog w 5 [.int .u8 z0]) :
  Calls Tryz.prog 7 #[.int .u8 z0, .bool b1] w fun e w' => e = .returned (.bool true) ∧ Below w.heap.size w w' := by
 obtain ⟨y, hy, wf⟩ := r0.int (by kernel_rfl : Tryz.prog.underlying 5 = some (.int .u8))
 simp only [List.cons.injEq, Value.int.injEq, true_and, and_true] at hy
 subst hy
 obtain ⟨h1, h2⟩ := bounds_u8 wf
 obtain ⟨t, rfl⟩ := Int.eq_ofNat_of_zero_le h1
 exact auto19_walk (by omega) rfl hM
end Go.Proofs.YtknjamfjonapiaaGreatDoor
