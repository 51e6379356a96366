import Derived.Test.YtknjamfjonapiaaGreatDoorZ26
import Derived.Handy
namespace Go.Proofs.YtknjamfjonapiaaGreatDoor
open Go.RowKit
set_option linter.unusedVariables false
set_option linter.unusedSectionVars false
set_option linter.unusedSimpArgs false
set_option maxRecDepth 100000
section
variable {qT : Bool} {B : Nat} {w0 w w' : World} {sb slb xb pb qb gb c c' i k b mb db : Nat} {bs : List Nat} {S S' : Sto} {L : List Pq} {xv v wv : Value} {d d' : Plq} {R SX SS F F' Z Y Zw OT : List (Nat × Obj)} {o : Opt} {M W : List Ent} {G : List Gst} {T : Nat} {n : List UInt8} {q z bt : Int} {e e0 x : Ent} {g : Gst} {tv : Value} {rf r ok tp r' : Bool} {vs : List Value} {way : List Nat} {top : Option Nat} {ts : List Tm} {TR : List Tsk}
theorem StoIs.mail (h : StoIs qT B w0 w sb bs S F c) (hm : (mb, mailO e tv rf) ∈ F) : EnAt w mb e ∧ w.cell? ⟨mb, 10, none⟩ = some tv ∧ w.cell? ⟨mb, 11, none⟩ = some (.bool rf) ∧ ∀ i, w.frozen? ⟨mb, i, none⟩ = false :=
 ⟨⟨h.cell hm rfl, h.cell hm rfl, h.cell hm rfl, h.cell hm rfl, h.cell hm rfl, h.cell hm rfl, h.cell hm rfl, h.cell hm rfl, h.cell hm rfl, h.cell hm rfl⟩, h.cell hm rfl, h.cell hm rfl, fun i => h.soft hm i⟩
theorem pl_put (h : StoIs qT B w0 w sb bs S F c) (hi : S.L[i]? = some d) (hb : bs[i]? = some pb) (h1 : e.exch.length ≤ 1000) (h2 : e.key.length ≤ 1000) (hl : d.M.length < 90000) {W N : List Ent} (hq : putF d.o d.M (forE e d.o S.now) = (ok, W, N)) (hc : w.cell? ⟨pb, 3, none⟩ = some (rptr qb)) :
  Calls Tryz.prog 358 #[rptr qb, enV e, .int .i64 S.now] w fun r w' => ∃ a cp Y, r = .returned (.tuple #[.bool ok, .slice a W.length cp]) ∧ EnsIs (.slice a W.length cp) W Y ∧ w'.cell? ⟨pb, 3, none⟩ = some (rptr qb) ∧ StoIs qT B w0 w' sb bs (S.setM i d N) (Y ++ F) c := by
 obtain ⟨pb', qb', gb, k1, k2, ⟨Zp, k3, k4⟩, -⟩ := h.place hi
 rw [hb] at k1
 obtain rfl := Option.some.inj k1
 have ec := k2.c3
 rw [hc] at ec
 cases ec
 refine (qu_put k3 (e := e) (by omega) (by omega) hl S.now).mono ?_
 rintro r w' ⟨ok', W', N', a, cp, Y, rfl, hp, hy, h5⟩
 have := hp.put k3.ok
 rw [hq] at this
 obtain ⟨rfl, rfl, rfl⟩ : ok = ok' ∧ W = W' ∧ N = N' := by simpa using this
 obtain ⟨h6, h7⟩ := k4 _ _ (Y ++ F) (h5.permF (perm_by fun a => by simp only [List.count_append]; omega))
 exact ⟨a, cp, Y, rfl, hy, h6.c3, h7⟩
theorem hold_now (S : Sto) (b : Int) : (S.hold b).now = S.now := by unfold Sto.hold; split <;> rfl
set_option maxHeartbeats 1000000 in
theorem mail_step0 (h : StoIs qT B w0 w sb bs S (Z ++ ((mb, mailO e tv rf) :: (Zw ++ (objsT ts ++ (OT ++ F))))) c) (hw : WayIs bs tv [] Zw) (hr : RowIs v (ts.map Tm.v) Z) (hts : ts.map Tm.t = TR) (hok : ∀ m ∈ ts, TmOk bs top r m)
  (htop : TopOk top (.mail tp e [] :: TR) r OT) (hone : OneTop (.mail tp e [] :: TR)) (hrf : tp = true → top = some mb ∧ rf = r) :
  Calls Tryz.prog 356 #[bpt mb, bpt sb, v] w (StepR qT B w0 sb bs top (stepF ⟨S, .mail tp e [] :: TR, r⟩) F c) := by
 have hc := mail_end h hr hts hok htop hone hrf
 have km := (h.mail (mb := mb) (List.mem_append_right _ List.mem_cons_self)).2.1
 obtain ⟨a, cap, rfl⟩ := hr.form
 obtain ⟨a1, c1, e1, -⟩ := SlIs.form hw
 subst e1
 have fin : Hid (StepR qT B w0 sb bs top (stepF ⟨S, .mail tp e [] :: TR, r⟩) F c (.returned (.slice a (ts.map Tm.v).length cap)) w) := Lib.hid ⟨_, _, _, rfl, hc⟩
 generalize (ts.map Tm.v).length = m at *
 generalize stepF _ = C2 at *
 clear h hr hts hok htop hone hc hw hrf
 go_enter Tryz.func356, Tryz.ntmps356
 go_wp2_with fail
 go_ret
 exact fin.out
set_option maxHeartbeats 8000000 in
theorem mail_step1 (h : StoIs qT B w0 w sb bs S (Z ++ ((mb, mailO e tv rf) :: (Zw ++ (objsT ts ++ (OT ++ F))))) c) (hw : WayIs bs tv (i :: way) Zw) (hr : RowIs v (ts.map Tm.v) Z) (hts : ts.map Tm.t = TR) (hok : ∀ m ∈ ts, TmOk bs top r m)
  (htop : TopOk top (.mail tp e (i :: way) :: TR) r OT) (hone : OneTop (.mail tp e (i :: way) :: TR)) (hrf : tp = true → top = some mb ∧ rf = r) (hi : S.L[i]? = some d)
  (he1 : e.exch.length ≤ 1000) (he2 : e.key.length ≤ 1000) (hlM : d.M.length < 90000) (hh : HeldOk S) (hh2 : HeldOk (S.hold e.body)) (hfew : ts.length ≤ 900000000000) (hwl : way.length ≤ 900000000000) :
  Calls Tryz.prog 356 #[bpt mb, bpt sb, v] w (StepR qT B w0 sb bs top (stepF ⟨S, .mail tp e (i :: way) :: TR, r⟩) F c) := by
 obtain ⟨pb, hpb⟩ := h.blk hi
 obtain ⟨ok, W, N, hq⟩ : ∃ ok W N, putF d.o d.M (forE e d.o S.now) = (ok, W, N) := ⟨_, _, _, rfl⟩
 obtain ⟨S1, hS1⟩ : ∃ S1, S.hold e.body = S1 := ⟨_, rfl⟩
 obtain ⟨S2, hS2⟩ : ∃ S2, S1.setM i d N = S2 := ⟨_, rfl⟩
 have hi1 : S1.L[i]? = some d := by rw [← hS1, hold_L]; exact hi
 have hnow : S1.now = S.now := by rw [← hS1, hold_now]
 have hstep : stepF ⟨S, .mail tp e (i :: way) :: TR, r⟩ = ⟨if ok = true then S2 else S2.letGo e.body, .dead i W :: moreM tp e way TR, if tp = true then r || !ok else r⟩ := by
  simp only [stepF, hi, hq, hS1, hS2]
 rw [hstep]
 have hm := h.permF (F' := (mb, mailO e tv rf) :: (Zw ++ (Z ++ (objsT ts ++ (OT ++ F))))) (perm_by fun a => by simp only [List.count_append, List.count_cons]; omega)
 obtain ⟨a, cap, a2, c2, rfl, ⟨g1, o1, rfl, k1⟩, hw2, hsl, h1⟩ := way_pop hw hpb hm
 obtain ⟨km, km10, km11, kms⟩ := hm.mail List.mem_cons_self
 obtain ⟨W1, hW1⟩ : ∃ W1, W1 = w.setCell ⟨mb, 10, none⟩ (.slice a2 way.length c2) := ⟨_, rfl⟩
 rw [← hW1] at h1
 obtain ⟨nm, nm10, nm11, nms⟩ := h1.mail List.mem_cons_self
 have rest : Hid (way ≠ [] → ∃ a3 c3 W2 Z2, (Builtin.append_ #[222, 222] 0 #[v, .slice (some ⟨W1.heap.size, 0, none⟩) 1 1]).run Tryz.prog (W1.alloc (.cells #[mailI mb] 221)) = .ok (.slice a3 ((ts.map Tm.v).length + 1) c3) W2 ∧
   RowIs (.slice a3 ((ts.map Tm.v).length + 1) c3) (mailI mb :: ts.map Tm.v) Z2 ∧ StoIs qT B w0 W2 sb bs S ((mb, mailO e (.slice a2 way.length c2) rf) :: (Zw ++ (Z2 ++ (objsT ts ++ (OT ++ F))))) c) := Lib.hid fun _ => by
  have h2 := h1.permF (F' := Z ++ ((mb, mailO e (.slice a2 way.length c2) rf) :: (Zw ++ (objsT ts ++ (OT ++ F))))) (perm_by fun a => by simp only [List.count_append, List.count_cons]; omega)
  obtain ⟨a3, c3, W2, Z2, q1, q2, q3⟩ := row_push h2 hr (u := mailI mb) rfl (by rw [List.length_map]; omega)
  exact ⟨a3, c3, W2, Z2, q1, q2, q3.permF (perm_by fun a => by simp only [List.count_append, List.count_cons]; omega)⟩
 have chd : Hid (∀ W2 Z2, StoIs qT B w0 W2 sb bs S ((mb, mailO e (.slice a2 way.length c2) rf) :: (Zw ++ (Z2 ++ (objsT ts ++ (OT ++ F))))) c → W2.cell? ⟨mb, 1, none⟩ = some (.int .i64 e.body) ∧ Calls Tryz.prog 357 #[bpt sb, .int .i64 e.body] W2 fun r w' => r = noneV ∧ ∃ qb, StoIs qT B w0 w'.drew sb bs S1 ((mb, mailO e (.slice a2 way.length c2) rf) :: (Zw ++ (Z2 ++ (objsT ts ++ (OT ++ F))))) c ∧
   Hid (w'.drew.cell? ⟨pb, 3, none⟩ = some (rptr qb) ∧ w'.drew.cell? ⟨sb, 5, none⟩ = some (.int .i64 S.now) ∧ EnAt w'.drew mb e)) := Lib.hid fun W2 Z2 h' => by
  refine ⟨(h'.mail List.mem_cons_self).1.2.1, (st_hold h' hh hS1).mono ?_⟩
  rintro r w' ⟨rfl, h3⟩
  have h4 := h3.grow (drew_b w')
  obtain ⟨qb, gb, hs⟩ := h4.seeP hpb hi1
  obtain ⟨slb, xv, v', hsee⟩ := h4.see
  refine ⟨rfl, qb, h4, Lib.hid ⟨hs.c3, ?_, (h4.mail List.mem_cons_self).1⟩⟩
  rw [← hnow]
  exact hsee.c5
 have cpt : Hid (∀ W2 Z2 qb, W2.cell? ⟨pb, 3, none⟩ = some (rptr qb) → StoIs qT B w0 W2 sb bs S1 ((mb, mailO e (.slice a2 way.length c2) rf) :: (Zw ++ (Z2 ++ (objsT ts ++ (OT ++ F))))) c → Calls Tryz.prog 358 #[rptr qb, enV e, .int .i64 S.now] W2 fun r w' => ∃ a cp Y, r = .returned (.tuple #[.bool ok, .slice a W.length cp]) ∧
   (EnsIs (.slice a W.length cp) W Y ∧ StoIs qT B w0 w' sb bs S2 ((mb, mailO e (.slice a2 way.length c2) rf) :: (Y ++ (Zw ++ (Z2 ++ (objsT ts ++ (OT ++ F)))))) c) ∧ (w'.cell? ⟨pb, 3, none⟩ = some (rptr qb) ∧ w'.cell? ⟨sb, 5, none⟩ = some (.int .i64 S.now) ∧ EnAt w' mb e)) := Lib.hid fun W2 Z2 qb hc h' => by
  have hq' := hq
  rw [← hnow] at hq' ⊢
  refine (pl_put h' hi1 hpb he1 he2 hlM hq' hc).mono ?_
  rintro r w' ⟨a, cp, Y, rfl, hy, k3, h5⟩
  rw [hS2] at h5
  have h6 := h5.permF (F' := (mb, mailO e (.slice a2 way.length c2) rf) :: (Y ++ (Zw ++ (Z2 ++ (objsT ts ++ (OT ++ F)))))) List.perm_middle
  obtain ⟨slb, xv, v', hsee⟩ := h6.see
  have e5 : S2.now = S1.now := by rw [← hS2]; rfl
  refine ⟨a, cp, Y, rfl, ⟨hy, h6⟩, k3, ?_, (h6.mail List.mem_cons_self).1⟩
  rw [← e5]
  exact hsee.c5
 have hh3 : HeldOk S2 := by rw [← hS2, ← hS1]; exact hh2
 have cno : Hid (∀ W4 X, StoIs qT B w0 W4 sb bs S2 ((mb, mailO e (.slice a2 way.length c2) rf) :: X) c → W4.frozen? ⟨mb, 11, none⟩ = false ∧ W4.cell? ⟨mb, 11, none⟩ = some (.bool rf) ∧ W4.cell? ⟨mb, 1, none⟩ = some (.int .i64 e.body) ∧ (W4.setCell ⟨mb, 11, none⟩ (.bool true)).cell? ⟨mb, 1, none⟩ = some (.int .i64 e.body) ∧
   Calls Tryz.prog 70 #[bpt sb, .int .i64 e.body] (W4.setCell ⟨mb, 11, none⟩ (.bool true)) fun r w' => r = noneV ∧ StoIs qT B w0 w' sb bs (S2.letGo e.body) ((mb, mailO e (.slice a2 way.length c2) true) :: X) c) := Lib.hid fun W4 X h' => by
  obtain ⟨m1, m2, m3, m4⟩ := h'.mail List.mem_cons_self
  have h2 : StoIs qT B w0 (W4.setCell ⟨mb, 11, none⟩ (.bool true)) sb bs S2 ((mb, mailO e (.slice a2 way.length c2) true) :: X) c := h'.setF 11 (.bool true)
  exact ⟨m4 11, m3, m1.2.1, (h2.mail List.mem_cons_self).1.2.1, st_letgo h2 hh3 rfl⟩
 have cde : Hid (∀ W5 Y Z2 v2 a cp S5 rf', EnsIs (.slice a W.length cp) W Y → RowIs v2 (if way = [] then ts.map Tm.v else mailI mb :: ts.map Tm.v) Z2 → S5 = (if ok = true then S2 else S2.letGo e.body) → rf' = (if ok = true then rf else true) → StoIs qT B w0 W5 sb bs S5 ((mb, mailO e (.slice a2 way.length c2) rf') :: (Y ++ (Zw ++ (Z2 ++ (objsT ts ++ (OT ++ F)))))) c →
   ∃ m a4 c4 W6, (Builtin.append_ #[222, 222] 0 #[v2, .slice (some ⟨W5.heap.size + 1, 0, none⟩) 1 1]).run Tryz.prog ((W5.alloc (deadO pb (.slice a W.length cp))).alloc (.cells #[deadI W5.heap.size] 221)) = .ok (.slice a4 m c4) W6 ∧
    StepR qT B w0 sb bs top ⟨if ok = true then S2 else S2.letGo e.body, .dead i W :: moreM tp e way TR, if tp = true then r || !ok else r⟩ F c (.returned (.slice a4 m c4)) W6) := Lib.hid fun W5 Y Z2 v2 a cp S5 rf' hy hr2 hS5 hrf' h' => by
  have h2 := h'.alloc (deadO pb (.slice a W.length cp))
  have h3 := h2.permF (F' := Z2 ++ ((W5.heap.size, deadO pb (.slice a W.length cp)) :: (Y ++ ((mb, mailO e (.slice a2 way.length c2) rf') :: (Zw ++ (objsT ts ++ (OT ++ F))))))) (perm_by fun a => by simp only [List.count_append, List.count_cons]; omega)
  obtain ⟨a4, c4, W6, Z3, q1, q2, q3⟩ := row_push h3 hr2 (u := deadI W5.heap.size) rfl (by split <;> simp <;> omega)
  rw [World.size_alloc] at q1
  refine ⟨_, a4, c4, W6, q1, _, _, _, rfl, ?_⟩
  rw [← hS5]
  refine mail_fin (q3.permF (F' := (W5.heap.size, deadO pb (.slice a W.length cp)) :: (Y ++ ((mb, mailO e (.slice a2 way.length c2) rf') :: (Zw ++ (Z3 ++ (objsT ts ++ (OT ++ F))))))) (perm_by fun a => by simp only [List.count_append, List.count_cons]; omega)) q2 hy hw2 hpb hts hok htop hone hrf rfl hrf'
 obtain ⟨va, vc, rfl⟩ := hr.form
 have hvl := Lib.hid (show (ts.map Tm.v).length = ts.length by rw [List.length_map])
 replace hW1 := Lib.hid hW1
 replace hr := Lib.hid hr
 replace h1 := Lib.hid h1
 generalize hC : (Cf.mk (if ok = true then S2 else S2.letGo e.body) (.dead i W :: moreM tp e way TR) (if tp = true then r || !ok else r)) = C2 at *
 generalize (ts.map Tm.v).length = vl at *
 obtain ⟨km0, -⟩ := km
 have kf := kms 10
 by_cases hwn : way = []
 ·subst hwn
  simp only [if_pos rfl] at cde
  simp only [List.length_nil] at *
  cases ok with
  | true =>
   clear h hm hq hS1 hS2 hi1 hnow hstep hts hok htop hone hrf hi he1 he2 hlM hh hh2 hh3 hfew hwl hw hw2 hpb hC nms nm hvl
   go_enter Tryz.func356, Tryz.ntmps356
   go_upto_region 5 with fail
   rw [← hW1.out]
   clear hW1 k1 hsl km10 km11 km0 kms kf
   obtain ⟨b1, ch⟩ := chd.out _ _ h1.out
   replace ch := Lib.hid ch
   clear chd rest h1
   go_wp2_with fail
   refine ch.out.mono ?_
   rintro r0 w3 ⟨rfl, qb, h4, hs0⟩
   clear ch
   go_wp2_with fail
   go_region_held3 (fun x => x.cell? ⟨pb, 3, none⟩ = some (rptr qb) ∧ x.cell? ⟨sb, 5, none⟩ = some (.int .i64 S.now) ∧ x.cell? ⟨mb, 0, none⟩ = some (.int .i64 e.id) ∧ x.cell? ⟨mb, 1, none⟩ = some (.int .i64 e.body) ∧ x.cell? ⟨mb, 2, none⟩ = some (.int .i64 e.size) ∧ x.cell? ⟨mb, 3, none⟩ = some (tx e.exch) ∧ x.cell? ⟨mb, 4, none⟩ = some (tx e.key) ∧ x.cell? ⟨mb, 5, none⟩ = some (.int .i64 e.prio) ∧ x.cell? ⟨mb, 6, none⟩ = some (.int .i64 e.ttl) ∧ x.cell? ⟨mb, 7, none⟩ = some (.int .i64 e.til) ∧ x.cell? ⟨mb, 8, none⟩ = some (.bool e.again) ∧ x.cell? ⟨mb, 9, none⟩ = some (.int .i64 e.hops)) (first | with_reducible exact kS | with_reducible exact hs0.out)
    ((go_at_call 358; refine (cpt.out _ _ _ hs0.out.1 (by assumption)).mono ?_; rintro r0 w4 ⟨pa, pc, Y, rfl, ⟨hy, h5⟩, kS⟩))
   obtain ⟨m, a4, c4, W6, hrun2, fin⟩ := cde.out _ _ _ _ pa pc S2 rf hy hr.out (by simp) (by simp) h5
   replace fin := Lib.hid fin
   clear hy h5 kS hs0 h4 cpt cde cno
   go_wp2_with (at_builtin; refine wpList_append_go rfl (.tmp 77) (.tmp 83) 222 222 rfl _ _ rfl rfl hrun2 ?_)
   go_ret
   exact fin.out
  | false =>
   clear h hm hq hS1 hS2 hi1 hnow hstep hts hok htop hone hrf hi he1 he2 hlM hh hh2 hh3 hfew hwl hw hw2 hpb hC nms nm hvl
   go_enter Tryz.func356, Tryz.ntmps356
   go_upto_region 5 with fail
   rw [← hW1.out]
   clear hW1 k1 hsl km10 km11 km0 kms kf
   obtain ⟨b1, ch⟩ := chd.out _ _ h1.out
   replace ch := Lib.hid ch
   clear chd rest h1
   go_wp2_with fail
   refine ch.out.mono ?_
   rintro r0 w3 ⟨rfl, qb, h4, hs0⟩
   clear ch
   go_wp2_with fail
   go_region_held3 (fun x => x.cell? ⟨pb, 3, none⟩ = some (rptr qb) ∧ x.cell? ⟨sb, 5, none⟩ = some (.int .i64 S.now) ∧ x.cell? ⟨mb, 0, none⟩ = some (.int .i64 e.id) ∧ x.cell? ⟨mb, 1, none⟩ = some (.int .i64 e.body) ∧ x.cell? ⟨mb, 2, none⟩ = some (.int .i64 e.size) ∧ x.cell? ⟨mb, 3, none⟩ = some (tx e.exch) ∧ x.cell? ⟨mb, 4, none⟩ = some (tx e.key) ∧ x.cell? ⟨mb, 5, none⟩ = some (.int .i64 e.prio) ∧ x.cell? ⟨mb, 6, none⟩ = some (.int .i64 e.ttl) ∧ x.cell? ⟨mb, 7, none⟩ = some (.int .i64 e.til) ∧ x.cell? ⟨mb, 8, none⟩ = some (.bool e.again) ∧ x.cell? ⟨mb, 9, none⟩ = some (.int .i64 e.hops)) (first | with_reducible exact kS | with_reducible exact hs0.out)
    ((go_at_call 358; refine (cpt.out _ _ _ hs0.out.1 (by assumption)).mono ?_; rintro r0 w4 ⟨pa, pc, Y, rfl, ⟨hy, h5⟩, kS⟩))
   obtain ⟨f11, j11, j1, j2, cl⟩ := cno.out _ _ h5
   replace cl := Lib.hid cl
   replace hy := Lib.hid hy
   clear h5 kS hs0 h4 cpt cno
   go_wp2_with fail
   refine cl.out.mono ?_
   rintro r0 w5 ⟨rfl, h6⟩
   clear cl
   obtain ⟨m, a4, c4, W6, hrun2, fin⟩ := cde.out _ _ _ _ pa pc (S2.letGo e.body) true hy.out hr.out (by simp) (by simp) h6
   replace fin := Lib.hid fin
   clear hy h6 cde
   go_wp2_with (at_builtin; refine wpList_append_go rfl (.tmp 77) (.tmp 83) 222 222 rfl _ _ rfl rfl hrun2 ?_)
   go_ret
   exact fin.out
 ·have hwp : (0 : Int) < way.length := by
   have : 0 < way.length := List.length_pos_iff.2 hwn
   omega
  cases ok with
  | true =>
   clear h hm hq hS1 hS2 hi1 hnow hstep hts hok htop hone hrf hi he1 he2 hlM hh hh2 hh3 hfew hwl hw hw2 hpb hC nms nm hvl
   go_enter Tryz.func356, Tryz.ntmps356
   go_upto_region 5 with fail
   rw [← hW1.out]
   clear hW1 k1 hsl km10 km11 km0 kms kf
   obtain ⟨a3, c3, W2, Z2, hrun, hr2, h2⟩ := rest.out hwn
   obtain ⟨b1, ch⟩ := chd.out _ _ h2
   replace ch := Lib.hid ch
   replace hr2 := Lib.hid hr2
   clear chd rest h2 h1 hr
   generalize vl + 1 = vl1 at *
   go_wp2_with (at_builtin; refine wpList_append_go rfl (.tmp 37) (.tmp 40) 222 222 rfl _ _ rfl rfl hrun ?_)
   refine ch.out.mono ?_
   rintro r0 w3 ⟨rfl, qb, h4, hs0⟩
   clear ch
   go_wp2_with fail
   go_region_held3 (fun x => x.cell? ⟨pb, 3, none⟩ = some (rptr qb) ∧ x.cell? ⟨sb, 5, none⟩ = some (.int .i64 S.now) ∧ x.cell? ⟨mb, 0, none⟩ = some (.int .i64 e.id) ∧ x.cell? ⟨mb, 1, none⟩ = some (.int .i64 e.body) ∧ x.cell? ⟨mb, 2, none⟩ = some (.int .i64 e.size) ∧ x.cell? ⟨mb, 3, none⟩ = some (tx e.exch) ∧ x.cell? ⟨mb, 4, none⟩ = some (tx e.key) ∧ x.cell? ⟨mb, 5, none⟩ = some (.int .i64 e.prio) ∧ x.cell? ⟨mb, 6, none⟩ = some (.int .i64 e.ttl) ∧ x.cell? ⟨mb, 7, none⟩ = some (.int .i64 e.til) ∧ x.cell? ⟨mb, 8, none⟩ = some (.bool e.again) ∧ x.cell? ⟨mb, 9, none⟩ = some (.int .i64 e.hops)) (first | with_reducible exact kS | with_reducible exact hs0.out)
    ((go_at_call 358; refine (cpt.out _ _ _ hs0.out.1 (by assumption)).mono ?_; rintro r0 w4 ⟨pa, pc, Y, rfl, ⟨hy, h5⟩, kS⟩))
   obtain ⟨m, a4, c4, W6, hrun2, fin⟩ := cde.out _ _ _ (.slice a3 vl1 c3) pa pc S2 rf hy (by rw [if_neg hwn]; exact hr2.out) (by simp) (by simp) h5
   replace fin := Lib.hid fin
   clear hy h5 kS hs0 h4 cpt cde cno
   go_wp2_with (at_builtin; refine wpList_append_go rfl (.tmp 77) (.tmp 83) 222 222 rfl _ _ rfl rfl hrun2 ?_)
   go_ret
   exact fin.out
  | false =>
   clear h hm hq hS1 hS2 hi1 hnow hstep hts hok htop hone hrf hi he1 he2 hlM hh hh2 hh3 hfew hwl hw hw2 hpb hC nms nm hvl
   go_enter Tryz.func356, Tryz.ntmps356
   go_upto_region 5 with fail
   rw [← hW1.out]
   clear hW1 k1 hsl km10 km11 km0 kms kf
   obtain ⟨a3, c3, W2, Z2, hrun, hr2, h2⟩ := rest.out hwn
   obtain ⟨b1, ch⟩ := chd.out _ _ h2
   replace ch := Lib.hid ch
   replace hr2 := Lib.hid hr2
   clear chd rest h2 h1 hr
   generalize vl + 1 = vl1 at *
   go_wp2_with (at_builtin; refine wpList_append_go rfl (.tmp 37) (.tmp 40) 222 222 rfl _ _ rfl rfl hrun ?_)
   refine ch.out.mono ?_
   rintro r0 w3 ⟨rfl, qb, h4, hs0⟩
   clear ch
   go_wp2_with fail
   go_region_held3 (fun x => x.cell? ⟨pb, 3, none⟩ = some (rptr qb) ∧ x.cell? ⟨sb, 5, none⟩ = some (.int .i64 S.now) ∧ x.cell? ⟨mb, 0, none⟩ = some (.int .i64 e.id) ∧ x.cell? ⟨mb, 1, none⟩ = some (.int .i64 e.body) ∧ x.cell? ⟨mb, 2, none⟩ = some (.int .i64 e.size) ∧ x.cell? ⟨mb, 3, none⟩ = some (tx e.exch) ∧ x.cell? ⟨mb, 4, none⟩ = some (tx e.key) ∧ x.cell? ⟨mb, 5, none⟩ = some (.int .i64 e.prio) ∧ x.cell? ⟨mb, 6, none⟩ = some (.int .i64 e.ttl) ∧ x.cell? ⟨mb, 7, none⟩ = some (.int .i64 e.til) ∧ x.cell? ⟨mb, 8, none⟩ = some (.bool e.again) ∧ x.cell? ⟨mb, 9, none⟩ = some (.int .i64 e.hops)) (first | with_reducible exact kS | with_reducible exact hs0.out)
    ((go_at_call 358; refine (cpt.out _ _ _ hs0.out.1 (by assumption)).mono ?_; rintro r0 w4 ⟨pa, pc, Y, rfl, ⟨hy, h5⟩, kS⟩))
   obtain ⟨f11, j11, j1, j2, cl⟩ := cno.out _ _ h5
   replace cl := Lib.hid cl
   replace hy := Lib.hid hy
   clear h5 kS hs0 h4 cpt cno
   go_wp2_with fail
   refine cl.out.mono ?_
   rintro r0 w5 ⟨rfl, h6⟩
   clear cl
   obtain ⟨m, a4, c4, W6, hrun2, fin⟩ := cde.out _ _ _ (.slice a3 vl1 c3) pa pc (S2.letGo e.body) true hy.out (by rw [if_neg hwn]; exact hr2.out) (by simp) (by simp) h6
   replace fin := Lib.hid fin
   clear hy h6 cde
   go_wp2_with (at_builtin; refine wpList_append_go rfl (.tmp 77) (.tmp 83) 222 222 rfl _ _ rfl rfl hrun2 ?_)
   go_ret
   exact fin.out
end
section
variable {qT : Bool} {B : Nat} {w0 w w' : World} {sb slb xb pb qb gb c c' i k b mb db : Nat} {bs : List Nat} {S S' : Sto} {L : List Pq} {xv v wv : Value} {d d' : Plq} {R SX SS F F' Z Y Zw OT : List (Nat × Obj)} {o : Opt} {M W : List Ent} {G : List Gst} {T : Nat} {n : List UInt8} {q z bt : Int} {e e0 x : Ent} {g : Gst} {tv : Value} {rf r ok tp r' : Bool} {vs : List Value} {way : List Nat} {top : Option Nat} {ts : List Tm} {TR : List Tsk}
theorem top_cons {t : Tsk} {OT : List (Nat × Obj)} (h : TopOk top TR r OT) (ht : isTop t = false) : TopOk top (t :: TR) r OT := by
 have e : (t :: TR).any isTop = TR.any isTop := by rw [List.any_cons, ht, Bool.false_or]
 cases top with
 | none => exact ⟨h.1, by rw [e]; exact h.2⟩
 | some mb =>
  rcases h with ⟨h1, h2⟩ | ⟨h1, h2⟩
  ·exact .inl ⟨by rw [e]; exact h1, h2⟩
  ·exact .inr ⟨by rw [e]; exact h1, h2⟩
theorem top_uncons {t : Tsk} {OT : List (Nat × Obj)} (h : TopOk top (t :: TR) r OT) (ht : isTop t = false) : TopOk top TR r OT := by
 have e : (t :: TR).any isTop = TR.any isTop := by rw [List.any_cons, ht, Bool.false_or]
 cases top with
 | none => exact ⟨h.1, by rw [← e]; exact h.2⟩
 | some mb =>
  rcases h with ⟨h1, h2⟩ | ⟨h1, h2⟩
  ·exact .inl ⟨by rw [← e]; exact h1, h2⟩
  ·exact .inr ⟨by rw [← e]; exact h1, h2⟩
theorem one_cons {t : Tsk} (h : OneTop TR) (ht : isTop t = false) : OneTop (t :: TR) := by
 unfold OneTop at *
 rw [List.filter_cons, if_neg (by rw [ht]; decide)]
 exact h
theorem dead_fin {v3 : Value} {wv2 : Value} {Z3 : List (Nat × Obj)} (h : StoIs qT B w0 w sb bs S ((db, deadO pb wv2) :: (Zw ++ (Z3 ++ (objsT ts ++ (OT ++ F))))) c)
  (hr3 : RowIs v3 (owedI x.body :: (if W = [] then ts.map Tm.v else deadI db :: ts.map Tm.v)) Z3) (hw : EnsIs wv2 W Zw) (hb : bs[i]? = some pb) (hts : ts.map Tm.t = TR) (hok : ∀ m ∈ ts, TmOk bs top r m)
  (htop : TopOk top (.dead i (x :: W) :: TR) r OT) (hone : OneTop (.dead i (x :: W) :: TR)) : CfIs qT B w0 w sb bs top ⟨S, .owed x.body :: moreD i W TR, r⟩ v3 F c := by
 have htop2 := top_uncons htop rfl
 have hone2 := one_tail hone
 by_cases hW : W = []
 ·subst hW
  rw [if_pos rfl] at hr3
  refine ⟨⟨.owed x.body, owedI x.body, []⟩ :: ts, Z3, OT, by rw [List.map_cons, hts]; rfl, hr3, ?_, top_cons htop2 rfl, one_cons hone2 rfl, ?_⟩
  ·intro m hm
   rcases List.mem_cons.1 hm with rfl | hm
   ·exact ⟨rfl, rfl⟩
   ·exact hok m hm
  ·refine (h.permF ?_).sub (List.sublist_append_right ((db, deadO pb wv2) :: Zw) _)
   exact perm_by fun a => by simp only [objsT_cons, List.count_append, List.count_cons, List.count_nil]; omega
 ·rw [if_neg hW] at hr3
  have hm0 : moreD i W TR = .dead i W :: TR := if_neg hW
  rw [hm0]
  refine ⟨⟨.owed x.body, owedI x.body, []⟩ :: ⟨.dead i W, deadI db, (db, deadO pb wv2) :: Zw⟩ :: ts, Z3, OT, by rw [List.map_cons, List.map_cons, hts], hr3, ?_, top_cons (top_cons htop2 rfl) rfl, one_cons (one_cons hone2 rfl) rfl, ?_⟩
  ·intro m hm
   rcases List.mem_cons.1 hm with rfl | hm
   ·exact ⟨rfl, rfl⟩
   ·rcases List.mem_cons.1 hm with rfl | hm
    ·exact ⟨db, wv2, Zw, pb, hb, rfl, rfl, hw⟩
    ·exact hok m hm
  ·exact h.permF (perm_by fun a => by simp only [objsT_cons, List.count_append, List.count_cons, List.count_nil]; omega)
theorem CfIs.pushMail {v4 : Value} {Z4 Zm : List (Nat × Obj)} {y : Ent} {way : List Nat} {RR : List Tsk} (hts : ts.map Tm.t = RR) (hok : ∀ m ∈ ts, TmOk bs top r m) (htop : TopOk top RR r OT) (hone : OneTop RR)
  (h : StoIs qT B w0 w sb bs S ((mb, mailO y tv false) :: (Zm ++ (Z4 ++ (objsT ts ++ (OT ++ F))))) c) (hr : RowIs v4 (mailI mb :: ts.map Tm.v) Z4) (hw : WayIs bs tv way Zm) : CfIs qT B w0 w sb bs top ⟨S, .mail false y way :: RR, r⟩ v4 F c := by
 refine ⟨⟨.mail false y way, mailI mb, (mb, mailO y tv false) :: Zm⟩ :: ts, Z4, OT, by rw [List.map_cons, hts], hr, ?_, top_cons htop rfl, one_cons hone rfl, ?_⟩
 ·intro m hm
  rcases List.mem_cons.1 hm with rfl | hm
  ·exact ⟨mb, tv, Zm, false, rfl, by simp, rfl, hw⟩
  ·exact hok m hm
 ·exact h.permF (perm_by fun a => by simp only [objsT_cons, List.count_append, List.count_cons]; omega)
theorem CfIs.newMail {C : Cf} {a : Option Addr} {m cp : Nat} (h : CfIs qT B w0 w sb bs top C (.slice a m cp) F c) (y : Ent) (hl0 : -1 ≤ C.S.last) (hl1 : C.S.last < 4611686018427387904) (hk : y.key.length ≤ 1000) (hR : RouC B w0 C.S.P C.S.A c) (hfew : C.R.length ≤ 990000000000) :
  Calls Tryz.prog 79 #[bpt sb, enV y] w fun e w' => ∃ mb, e = .returned (bpt mb) ∧ ∃ a2 m2 c2 W2, (Builtin.append_ #[222, 222] 0 #[.slice a m cp, .slice (some ⟨w'.heap.size, 0, none⟩) 1 1]).run Tryz.prog (w'.alloc (.cells #[mailI mb] 221)) = .ok (.slice a2 m2 c2) W2 ∧
   StepR qT B w0 sb bs top ⟨C.S.born, C.S.mail false y :: C.R, C.r⟩ F c (.returned (.slice a2 m2 c2)) W2 := by
 obtain ⟨ts, Z, OT, hts, hr, hok, htop, hone, h1⟩ := h
 refine (newmail_any h1 y hl0 hl1 hk hR).mono ?_
 rintro e w' ⟨mb, tv, Zm, rfl, hw, h2⟩
 have hlen : (ts.map Tm.v).length ≤ 1000000000000 := by
  have : ts.length = C.R.length := by rw [← hts, List.length_map]
  rw [List.length_map]; omega
 obtain ⟨a', cap', e'⟩ := hr.form
 have h3 := h2.permF (F' := Z ++ ((mb, mailO { y with id := C.S.last + 1 } tv false) :: (Zm ++ (objsT ts ++ (OT ++ F))))) (perm_by fun a => by simp only [List.count_append, List.count_cons]; omega)
 obtain ⟨a2, c2, W2, Z2, q1, q2, q3⟩ := row_push h3 hr (u := mailI mb) rfl hlen
 refine ⟨mb, rfl, a2, _, c2, W2, q1, _, _, _, rfl, ?_⟩
 exact CfIs.pushMail hts hok htop hone (q3.permF (perm_by fun a => by simp only [List.count_append, List.count_cons]; omega)) q2 hw
theorem CfIs.sub {C : Cf} {F1 F2 : List (Nat × Obj)} (h : CfIs qT B w0 w sb bs top C v F1 c) (hs : F2.Sublist F1) : CfIs qT B w0 w sb bs top C v F2 c := by
 obtain ⟨ts, Z, OT, hts, hr, hok, htop, hone, h1⟩ := h
 exact ⟨ts, Z, OT, hts, hr, hok, htop, hone, h1.sub ((List.Sublist.refl Z).append ((List.Sublist.refl _).append ((List.Sublist.refl OT).append hs)))⟩
theorem CfIs.sto {C : Cf} (h : CfIs qT B w0 w sb bs top C v F c) : ∃ X, StoIs qT B w0 w sb bs C.S (X ++ F) c ∧ ∀ w' F', StoIs qT B w0 w' sb bs C.S (X ++ F') c → CfIs qT B w0 w' sb bs top C v F' c := by
 obtain ⟨ts, Z, OT, hts, hr, hok, htop, hone, h1⟩ := h
 exact ⟨Z ++ (objsT ts ++ OT), by simpa [List.append_assoc] using h1, fun w' F' h' => ⟨ts, Z, OT, hts, hr, hok, htop, hone, by simpa [List.append_assoc] using h'⟩⟩
set_option maxHeartbeats 1000000 in
theorem dead_step0 (h : StoIs qT B w0 w sb bs S (Z ++ ((db, deadO pb wv) :: (Zw ++ (objsT ts ++ (OT ++ F))))) c) (hw : EnsIs wv [] Zw) (hr : RowIs v (ts.map Tm.v) Z) (hts : ts.map Tm.t = TR) (hok : ∀ m ∈ ts, TmOk bs top r m)
  (htop : TopOk top (.dead i [] :: TR) r OT) (hone : OneTop (.dead i [] :: TR)) :
  Calls Tryz.prog 366 #[bpt db, bpt sb, v] w (StepR qT B w0 sb bs top (stepF ⟨S, .dead i [] :: TR, r⟩) F c) := by
 have hc : CfIs qT B w0 w sb bs top ⟨S, TR, r⟩ v F c := ⟨ts, Z, OT, hts, hr, hok, top_uncons htop rfl, one_tail hone, (h.permF (perm_by fun a => by simp only [List.count_append, List.count_cons]; omega)).sub (List.sublist_append_right ((db, deadO pb wv) :: Zw) _)⟩
 have km : w.cell? ⟨db, 1, none⟩ = some wv := h.cell (b := db) (List.mem_append_right _ List.mem_cons_self) rfl
 obtain ⟨a, cap, rfl⟩ := hr.form
 obtain ⟨a1, c1, e1, -⟩ := SlIs.form hw
 subst e1
 have fin : Hid (StepR qT B w0 sb bs top (stepF ⟨S, .dead i [] :: TR, r⟩) F c (.returned (.slice a (ts.map Tm.v).length cap)) w) := Lib.hid ⟨_, _, _, rfl, hc⟩
 generalize (ts.map Tm.v).length = m at *
 generalize stepF _ = C2 at *
 clear h hr hts hok htop hone hc hw
 go_enter Tryz.func366, Tryz.ntmps366
 go_wp2_with fail
 go_ret
 exact fin.out
end
section
variable {qT : Bool} {B : Nat} {w0 w w' : World} {sb slb xb pb qb gb c c' i k b mb db : Nat} {bs : List Nat} {S S' : Sto} {L : List Pq} {xv v wv : Value} {d d' : Plq} {R SX SS F F' Z Y Zw OT : List (Nat × Obj)} {o : Opt} {M W : List Ent} {G : List Gst} {T : Nat} {n : List UInt8} {q z bt : Int} {e e0 x : Ent} {g : Gst} {tv : Value} {rf r ok tp r' : Bool} {vs : List Value} {way : List Nat} {top : Option Nat} {ts : List Tm} {TR : List Tsk}
abbrev Sn8 (w : World) (db pb k : Nat) (x : Ent) : Prop := w.cell? ⟨db, 0, none⟩ = some (bpt pb) ∧ EnAt w k x
theorem seen8 {X : List (Nat × Obj)} (hX : (db, deadO pb wv) ∈ X) (hm : (k, enO x) ∈ F) (h : StoIs qT B w0 w sb bs S (X ++ F) c) : Sn8 w db pb k x :=
 ⟨h.cell (List.mem_append_left _ hX) rfl, (h.enAt (List.mem_append_right _ hm)).1⟩
theorem put8 {X : List (Nat × Obj)} (hX : (db, deadO pb wv) ∈ X) (h : StoIs qT B w0 w sb bs S (X ++ (b, enO z0E) :: (k, enO x) :: F) c) (z : Ent) :
  (∀ i, w.frozen? ⟨b, i, none⟩ = false) ∧ EnAt w b z0E ∧ Sn8 w db pb k x ∧ Sn8 (enPut w b z) db pb k x ∧ EnAt (enPut w b z) b z ∧ StoIs qT B w0 (enPut w b z) sb bs S (X ++ (b, enO z) :: (k, enO x) :: F) c := by
 have h1 := h.permF List.perm_middle
 have h2 := (h1.putE (e := z)).permF List.perm_middle.symm
 exact ⟨(h1.enAt List.mem_cons_self).2, (h1.enAt List.mem_cons_self).1, seen8 hX (List.mem_cons_of_mem _ List.mem_cons_self) h, seen8 hX (List.mem_cons_of_mem _ List.mem_cons_self) h2, (h2.enAt (List.mem_append_right _ List.mem_cons_self)).1, h2⟩
theorem alloc8 {X : List (Nat × Obj)} (hX : (db, deadO pb wv) ∈ X) (h : StoIs qT B w0 w sb bs S (X ++ (k, enO x) :: F) c) (z : Ent) :
  (∀ i, (w.alloc (enO z0E)).frozen? ⟨w.heap.size, i, none⟩ = false) ∧ EnAt (w.alloc (enO z0E)) w.heap.size z0E ∧ Sn8 (w.alloc (enO z0E)) db pb k x ∧ Sn8 (enPut (w.alloc (enO z0E)) w.heap.size z) db pb k x ∧ EnAt (enPut (w.alloc (enO z0E)) w.heap.size z) w.heap.size z ∧
   StoIs qT B w0 (enPut (w.alloc (enO z0E)) w.heap.size z) sb bs S (X ++ (w.heap.size, enO z) :: (k, enO x) :: F) c :=
 put8 hX ((h.alloc (enO z0E)).permF List.perm_middle.symm) z
set_option maxHeartbeats 8000000 in
theorem dead_step1 (h : StoIs qT B w0 w sb bs S (Z ++ ((db, deadO pb wv) :: (Zw ++ (objsT ts ++ (OT ++ F))))) c) (hw : EnsIs wv (x :: W) Zw) (hr : RowIs v (ts.map Tm.v) Z) (hts : ts.map Tm.t = TR) (hok : ∀ m ∈ ts, TmOk bs top r m)
  (htop : TopOk top (.dead i (x :: W) :: TR) r OT) (hone : OneTop (.dead i (x :: W) :: TR)) (hpb : bs[i]? = some pb) (hi : S.L[i]? = some d)
  (hx : FitE x) (ho : FitO d.o) (hl0 : -1 ≤ S.last) (hl1 : S.last < 4611686018427387904) (hR : RouC B w0 S.P S.A c) (hfew : ts.length ≤ 900000000000) (hwl : W.length ≤ 900000000000) :
  Calls Tryz.prog 366 #[bpt db, bpt sb, v] w (StepR qT B w0 sb bs top (stepF ⟨S, .dead i (x :: W) :: TR, r⟩) F c) := by
 have hstep : stepF ⟨S, .dead i (x :: W) :: TR, r⟩ = match S.letter d.o x with | none => ⟨S, .owed x.body :: moreD i W TR, r⟩ | some y => ⟨S.born, S.mail false y :: .owed x.body :: moreD i W TR, r⟩ := by
  simp only [stepF, hi, Option.bind_some]
  cases S.letter d.o x <;> rfl
 rw [hstep]
 have h0 := h.permF (F' := (db, deadO pb wv) :: (Zw ++ (Z ++ (objsT ts ++ (OT ++ F))))) (perm_by fun a => by simp only [List.count_append, List.count_cons]; omega)
 obtain ⟨a, cap, a9, c9, rfl, ⟨g1, o1, rfl, y0, y1, y2, y3, y4, y5, y6, y7, y8, y9⟩, -⟩ := dead_pop hw h0
 have kd : w.cell? ⟨db, 1, none⟩ = some (.slice (some ⟨g1, o1, none⟩) (W.length + 1) cap) := h0.cell List.mem_cons_self rfl
 have hA := (h0.alloc (enO x)).permF (F' := (db, deadO pb (.slice (some ⟨g1, o1, none⟩) (W.length + 1) cap)) :: (Zw ++ (Z ++ (objsT ts ++ (OT ++ ((w.heap.size, enO x) :: F)))))) (perm_by fun a => by simp only [List.count_append, List.count_cons]; omega)
 have kd2 : (w.alloc (enO x)).cell? ⟨db, 1, none⟩ = some (.slice (some ⟨g1, o1, none⟩) (W.length + 1) cap) := hA.cell List.mem_cons_self rfl
 have ksf : (w.alloc (enO x)).frozen? ⟨db, 1, none⟩ = false := hA.soft (b := db) List.mem_cons_self 1
 obtain ⟨a', cap', a2, c2, ev, -, hw2, hsl, h1⟩ := dead_pop hw hA
 obtain ⟨W1, hW1⟩ : ∃ W1, W1 = (w.alloc (enO x)).setCell ⟨db, 1, none⟩ (.slice a2 W.length c2) := ⟨_, rfl⟩
 rw [← hW1] at h1
 have k1 : W1.cell? ⟨db, 1, none⟩ = some (.slice a2 W.length c2) := h1.cell List.mem_cons_self rfl
 have hlt : (ts.map Tm.v).length = ts.length := List.length_map _
 have rest : Hid (W ≠ [] → ∃ a3 c3 W2 Z2, (Builtin.append_ #[222, 222] 0 #[v, .slice (some ⟨W1.heap.size, 0, none⟩) 1 1]).run Tryz.prog (W1.alloc (.cells #[deadI db] 221)) = .ok (.slice a3 ((ts.map Tm.v).length + 1) c3) W2 ∧
   RowIs (.slice a3 ((ts.map Tm.v).length + 1) c3) (deadI db :: ts.map Tm.v) Z2 ∧ StoIs qT B w0 W2 sb bs S ((db, deadO pb (.slice a2 W.length c2)) :: (Zw ++ (Z2 ++ (objsT ts ++ (OT ++ ((w.heap.size, enO x) :: F)))))) c) := Lib.hid fun _ => by
  have h2 := h1.permF (F' := Z ++ ((db, deadO pb (.slice a2 W.length c2)) :: (Zw ++ (objsT ts ++ (OT ++ ((w.heap.size, enO x) :: F)))))) (perm_by fun a => by simp only [List.count_append, List.count_cons]; omega)
  obtain ⟨a3, c3, W2, Z2, q1, q2, q3⟩ := row_push h2 hr (u := deadI db) rfl (by omega)
  exact ⟨a3, c3, W2, Z2, q1, q2, q3.permF (perm_by fun a => by simp only [List.count_append, List.count_cons]; omega)⟩
 have owe : Hid (∀ W2 Z2 v2 m2, (if W = [] then ts.map Tm.v else deadI db :: ts.map Tm.v).length = m2 → RowIs v2 (if W = [] then ts.map Tm.v else deadI db :: ts.map Tm.v) Z2 → StoIs qT B w0 W2 sb bs S ((db, deadO pb (.slice a2 W.length c2)) :: (Zw ++ (Z2 ++ (objsT ts ++ (OT ++ ((w.heap.size, enO x) :: F)))))) c →
   W2.cell? ⟨w.heap.size, 1, none⟩ = some (.int .i64 x.body) ∧ ∃ a3 c3 W3, (Builtin.append_ #[222, 222] 0 #[v2, .slice (some ⟨W2.heap.size, 0, none⟩) 1 1]).run Tryz.prog (W2.alloc (.cells #[owedI x.body] 221)) = .ok (.slice a3 (m2 + 1) c3) W3 ∧
    ∃ X, (db, deadO pb (.slice a2 W.length c2)) ∈ X ∧ StoIs qT B w0 W3 sb bs S (X ++ ((w.heap.size, enO x) :: F)) c ∧ ∀ w' F', StoIs qT B w0 w' sb bs S (X ++ F') c → CfIs qT B w0 w' sb bs top ⟨S, .owed x.body :: moreD i W TR, r⟩ (.slice a3 (m2 + 1) c3) F' c) := Lib.hid fun W2 Z2 v2 m2 hm2 hr2 h' => by
  have hb1 : W2.cell? ⟨w.heap.size, 1, none⟩ = some (.int .i64 x.body) := h'.cell (b := w.heap.size) (List.mem_cons_of_mem _ (List.mem_append_right _ (List.mem_append_right _ (List.mem_append_right _ (List.mem_append_right _ List.mem_cons_self))))) rfl
  have h2 := h'.permF (F' := Z2 ++ ((db, deadO pb (.slice a2 W.length c2)) :: (Zw ++ (objsT ts ++ (OT ++ ((w.heap.size, enO x) :: F)))))) (perm_by fun a => by simp only [List.count_append, List.count_cons]; omega)
  obtain ⟨a3, c3, W3, Z3, q1, q2, q3⟩ := row_push h2 hr2 (u := owedI x.body) rfl (by split <;> simp <;> omega)
  rw [hm2] at q1 q2
  have q4 := q3.permF (F' := (db, deadO pb (.slice a2 W.length c2)) :: (Zw ++ (Z3 ++ (objsT ts ++ (OT ++ ((w.heap.size, enO x) :: F)))))) (perm_by fun a => by simp only [List.count_append, List.count_cons]; omega)
  have q5 := q4
  have hX : ∀ F', (db, deadO pb (.slice a2 W.length c2)) :: (Zw ++ (Z3 ++ (objsT ts ++ (OT ++ F')))) = ((db, deadO pb (.slice a2 W.length c2)) :: (Zw ++ (Z3 ++ (objsT ts ++ OT)))) ++ F' := fun F' => by simp [List.append_assoc]
  refine ⟨hb1, a3, c3, W3, q1, (db, deadO pb (.slice a2 W.length c2)) :: (Zw ++ (Z3 ++ (objsT ts ++ OT))), List.mem_cons_self, by rw [← hX]; exact q5, fun w' F' h6 => ?_⟩
  rw [← hX] at h6
  exact dead_fin h6 q2 hw2 hpb hts hok htop hone
 obtain ⟨lt, hlt2⟩ : ∃ lt, S.letter d.o x = lt := ⟨_, rfl⟩
 have sees : Hid (∀ X G W3, (db, deadO pb (.slice a2 W.length c2)) ∈ X → (w.heap.size, enO x) ∈ G → StoIs qT B w0 W3 sb bs S (X ++ G) c → W3.cell? ⟨db, 0, none⟩ = some (bpt pb) ∧ EnAt W3 w.heap.size x) := Lib.hid fun X G W3 hX hG h' =>
  ⟨h'.cell (List.mem_append_left _ hX) rfl, (h'.enAt (List.mem_append_right _ hG)).1⟩
 have clt : Hid (∀ W3 G, StoIs qT B w0 W3 sb bs S G c → Calls Tryz.prog 367 #[bpt sb, bpt pb, enV x] W3 fun r0 w' => r0 = .returned (letV lt) ∧ StoIs qT B w0 w' sb bs S G c) := Lib.hid fun W3 G h' => by
  refine (letter_any h' hi hpb hx.hops).mono ?_
  rintro r0 w' ⟨rfl, h2⟩
  exact ⟨by rw [hlt2], h2⟩
 have hmlen : (moreD i W TR).length ≤ 900000000002 := by
  have : TR.length = ts.length := by rw [← hts, List.length_map]
  unfold moreD
  split
  ·omega
  ·rw [List.length_cons]; omega
 have cnm : Hid (∀ y, lt = some y → ∀ W4 a m cp X, CfIs qT B w0 W4 sb bs top ⟨S, .owed x.body :: moreD i W TR, r⟩ (.slice a m cp) (X ++ F) c → Calls Tryz.prog 79 #[bpt sb, enV y] W4 fun e w' => ∃ mb, e = .returned (bpt mb) ∧ ∃ a2 m2 c2 W5, (Builtin.append_ #[222, 222] 0 #[.slice a m cp, .slice (some ⟨w'.heap.size, 0, none⟩) 1 1]).run Tryz.prog (w'.alloc (.cells #[mailI mb] 221)) = .ok (.slice a2 m2 c2) W5 ∧
   StepR qT B w0 sb bs top ⟨S.born, S.mail false y :: .owed x.body :: moreD i W TR, r⟩ F c (.returned (.slice a2 m2 c2)) W5) := Lib.hid fun y hy W4 a m cp X h' => by
  have hfy := letter_fit (hlt2.trans hy) hx ho
  exact (h'.sub (List.sublist_append_right X F)).newMail y hl0 hl1 hfy.key hR (by show (Tsk.owed x.body :: moreD i W TR).length ≤ _; rw [List.length_cons]; omega)
 rw [hlt2]
 obtain ⟨va, vc, rfl⟩ := hr.form
 replace hW1 := Lib.hid hW1
 generalize hvs : ts.map Tm.v = vl at *
 generalize hC : (Cf.mk S (.owed x.body :: moreD i W TR) r) = C1 at *
 clear h h0 hA hstep hw hw2 hts hok htop hone hi hx ho hl0 hl1 hR hfew hwl hlt hvs hmlen hlt2 hpb ev
 by_cases hwn : W = []
 ·subst hwn
  simp only [List.length_nil] at *
  cases lt with
  | none =>
   simp only [letV] at clt
   go_enter Tryz.func366, Tryz.ntmps366
   go_upto_region 5 with fail
   rw [← hW1.out]
   clear hW1 y0 y1 y2 y3 y4 y5 y6 y7 y8 y9 kd kd2 ksf hsl
   obtain ⟨kb, a4, c4, W3, hrun, X, hXm, h3u, hback⟩ := owe.out _ _ _ vl.length (by simp) (by simpa using hr) h1
   clear owe rest h1 hr
   have h3 := h3u.grow (drew_b W3)
   have hs0 := Lib.hid (sees.out X _ _ hXm List.mem_cons_self h3)
   have h3a := ((h3u.alloc (enO z0E)).grow (drew_b (W3.alloc (enO z0E)))).permF (F' := X ++ ((W3.heap.size, enO z0E) :: (w.heap.size, enO x) :: F)) (perm_by fun a => by simp only [List.count_append, List.count_cons]; omega)
   have hs1 := Lib.hid (sees.out X _ _ hXm (List.mem_cons_of_mem _ List.mem_cons_self) h3a)
   replace hback := Lib.hid hback
   generalize vl.length = vn at *
   generalize vn + 1 = vn1 at *
   go_wp2_with (at_builtin; refine wpList_append_go rfl (.tmp 42) (.tmp 46) 222 222 rfl _ _ rfl rfl hrun ?_)
   go_region_held3 (fun q => q.cell? ⟨db, 0, none⟩ = some (bpt pb) ∧ q.cell? ⟨w.heap.size, 0, none⟩ = some (.int .i64 x.id) ∧ q.cell? ⟨w.heap.size, 1, none⟩ = some (.int .i64 x.body) ∧ q.cell? ⟨w.heap.size, 2, none⟩ = some (.int .i64 x.size) ∧ q.cell? ⟨w.heap.size, 3, none⟩ = some (tx x.exch) ∧ q.cell? ⟨w.heap.size, 4, none⟩ = some (tx x.key) ∧ q.cell? ⟨w.heap.size, 5, none⟩ = some (.int .i64 x.prio) ∧ q.cell? ⟨w.heap.size, 6, none⟩ = some (.int .i64 x.ttl) ∧ q.cell? ⟨w.heap.size, 7, none⟩ = some (.int .i64 x.til) ∧ q.cell? ⟨w.heap.size, 8, none⟩ = some (.bool x.again) ∧ q.cell? ⟨w.heap.size, 9, none⟩ = some (.int .i64 x.hops))
    (first | with_reducible exact kS | with_reducible exact kA | with_reducible exact kP | with_reducible exact hs0.out | with_reducible exact hs1.out)
    ((go_at_call 367; first
     | (refine (clt.out _ _ h3).mono ?_; rintro r0 w'' ⟨rfl, h4⟩; have kS := seen8 hXm List.mem_cons_self h4; obtain ⟨fz, ⟨z0, z1, z2, z3, z4, z5, z6, z7, z8, z9⟩, kA, -⟩ := alloc8 hXm h4 z0E; have h5 := (h4.alloc (enO z0E)).permF (F' := X ++ (w''.heap.size, enO z0E) :: (w.heap.size, enO x) :: F) List.perm_middle.symm)
     | (refine (clt.out _ _ h3a).mono ?_; rintro r0 w'' ⟨rfl, h4⟩; obtain ⟨fz, ⟨z0, z1, z2, z3, z4, z5, z6, z7, z8, z9⟩, kS, kP, -, h5⟩ := put8 hXm h4 z0E)))
   all_goals
    (have fin : Hid (StepR qT B w0 sb bs top C1 F c (.returned (.slice a4 vn1 c4)) _) := Lib.hid ⟨_, _, _, rfl, (hback.out _ _ h5).sub ((List.sublist_cons_self _ _).trans (List.sublist_cons_self _ _))⟩
     clear clt cnm sees hs0 hs1 h3 h3a h3u h4 h5 hback hXm kS fz z0 z1 z2 z3 z4 z5 z6 z7 z8 z9 hrun hC kb k1
     go_wp2_with fail
     go_ret
     exact fin.out)
  | some y =>
   simp only [letV] at clt
   go_enter Tryz.func366, Tryz.ntmps366
   go_upto_region 5 with fail
   rw [← hW1.out]
   clear hW1 y0 y1 y2 y3 y4 y5 y6 y7 y8 y9 kd kd2 ksf hsl
   obtain ⟨kb, a4, c4, W3, hrun, X, hXm, h3u, hback⟩ := owe.out _ _ _ vl.length (by simp) (by simpa using hr) h1
   clear owe rest h1 hr
   have h3 := h3u.grow (drew_b W3)
   have hs0 := Lib.hid (sees.out X _ _ hXm List.mem_cons_self h3)
   have h3a := ((h3u.alloc (enO z0E)).grow (drew_b (W3.alloc (enO z0E)))).permF (F' := X ++ ((W3.heap.size, enO z0E) :: (w.heap.size, enO x) :: F)) (perm_by fun a => by simp only [List.count_append, List.count_cons]; omega)
   have hs1 := Lib.hid (sees.out X _ _ hXm (List.mem_cons_of_mem _ List.mem_cons_self) h3a)
   replace hback := Lib.hid hback
   generalize vl.length = vn at *
   generalize vn + 1 = vn1 at *
   go_wp2_with (at_builtin; refine wpList_append_go rfl (.tmp 42) (.tmp 46) 222 222 rfl _ _ rfl rfl hrun ?_)
   go_region_held3 (fun q => q.cell? ⟨db, 0, none⟩ = some (bpt pb) ∧ q.cell? ⟨w.heap.size, 0, none⟩ = some (.int .i64 x.id) ∧ q.cell? ⟨w.heap.size, 1, none⟩ = some (.int .i64 x.body) ∧ q.cell? ⟨w.heap.size, 2, none⟩ = some (.int .i64 x.size) ∧ q.cell? ⟨w.heap.size, 3, none⟩ = some (tx x.exch) ∧ q.cell? ⟨w.heap.size, 4, none⟩ = some (tx x.key) ∧ q.cell? ⟨w.heap.size, 5, none⟩ = some (.int .i64 x.prio) ∧ q.cell? ⟨w.heap.size, 6, none⟩ = some (.int .i64 x.ttl) ∧ q.cell? ⟨w.heap.size, 7, none⟩ = some (.int .i64 x.til) ∧ q.cell? ⟨w.heap.size, 8, none⟩ = some (.bool x.again) ∧ q.cell? ⟨w.heap.size, 9, none⟩ = some (.int .i64 x.hops))
    (first | with_reducible exact kS | with_reducible exact kA | with_reducible exact kP | with_reducible exact hs0.out | with_reducible exact hs1.out)
    ((go_at_call 367; first
     | (refine (clt.out _ _ h3).mono ?_; rintro r0 w'' ⟨rfl, h4⟩; have kS := seen8 hXm List.mem_cons_self h4; obtain ⟨fz, ⟨z0, z1, z2, z3, z4, z5, z6, z7, z8, z9⟩, kA, -⟩ := alloc8 hXm h4 z0E; have h5 := (h4.alloc (enO y)).permF (F' := X ++ (w''.heap.size, enO y) :: (w.heap.size, enO x) :: F) List.perm_middle.symm; have kP := seen8 hXm (List.mem_cons_of_mem _ List.mem_cons_self) h5; have kE := (h5.enAt (List.mem_append_right _ List.mem_cons_self)).1)
     | (refine (clt.out _ _ h3a).mono ?_; rintro r0 w'' ⟨rfl, h4⟩; obtain ⟨fz, ⟨z0, z1, z2, z3, z4, z5, z6, z7, z8, z9⟩, kS, kP, kE, h5⟩ := put8 hXm h4 y)))
   all_goals
    (have ch := Lib.hid (cnm.out y rfl _ _ _ _ [_, _] (hback.out _ _ h5))
     obtain ⟨p0, p1, p2, p3, p4, p5, p6, p7, p8, p9⟩ := kE
     clear clt cnm sees hs0 hs1 h3 h3a h3u h4 h5 hback hXm kS fz z0 z1 z2 z3 z4 z5 z6 z7 z8 z9 hrun hC kb k1
     go_wp2_with fail
     refine ch.out.mono ?_
     rintro e w4 ⟨mb, rfl, a5, m5, c5, W5, hrun5, fin⟩
     replace fin := Lib.hid fin
     clear ch p0 p1 p2 p3 p4 p5 p6 p7 p8 p9 kP
     go_wp2_with (at_builtin; refine wpList_append_go rfl (.tmp 59) (.tmp 64) 222 222 rfl _ _ rfl rfl hrun5 ?_)
     go_ret
     exact fin.out)
 ·have hwp : (0 : Int) < W.length := by
   have : 0 < W.length := List.length_pos_iff.2 hwn
   omega
  cases lt with
  | none =>
   simp only [letV] at clt
   go_enter Tryz.func366, Tryz.ntmps366
   go_upto_region 5 with fail
   rw [← hW1.out]
   clear hW1 y0 y1 y2 y3 y4 y5 y6 y7 y8 y9 kd kd2 ksf hsl
   obtain ⟨a3, c3, W2, Z2, hrunD, hr2, h2⟩ := rest.out hwn
   obtain ⟨kb, a4, c4, W3, hrun, X, hXm, h3u, hback⟩ := owe.out _ _ _ (vl.length + 1) (by rw [if_neg hwn]; rfl) (by rw [if_neg hwn]; exact hr2) h2
   clear owe rest h1 hr h2 hr2
   have h3 := h3u.grow (drew_b W3)
   have hs0 := Lib.hid (sees.out X _ _ hXm List.mem_cons_self h3)
   have h3a := ((h3u.alloc (enO z0E)).grow (drew_b (W3.alloc (enO z0E)))).permF (F' := X ++ ((W3.heap.size, enO z0E) :: (w.heap.size, enO x) :: F)) (perm_by fun a => by simp only [List.count_append, List.count_cons]; omega)
   have hs1 := Lib.hid (sees.out X _ _ hXm (List.mem_cons_of_mem _ List.mem_cons_self) h3a)
   replace hback := Lib.hid hback
   generalize vl.length = vn at *
   generalize vn + 1 = vn1 at *
   generalize vn1 + 1 = vn2 at *
   go_wp2_with (at_builtin; first | refine wpList_append_go rfl (.tmp 37) (.tmp 40) 222 222 rfl _ _ rfl rfl hrunD ?_ | refine wpList_append_go rfl (.tmp 42) (.tmp 46) 222 222 rfl _ _ rfl rfl hrun ?_)
   go_region_held3 (fun q => q.cell? ⟨db, 0, none⟩ = some (bpt pb) ∧ q.cell? ⟨w.heap.size, 0, none⟩ = some (.int .i64 x.id) ∧ q.cell? ⟨w.heap.size, 1, none⟩ = some (.int .i64 x.body) ∧ q.cell? ⟨w.heap.size, 2, none⟩ = some (.int .i64 x.size) ∧ q.cell? ⟨w.heap.size, 3, none⟩ = some (tx x.exch) ∧ q.cell? ⟨w.heap.size, 4, none⟩ = some (tx x.key) ∧ q.cell? ⟨w.heap.size, 5, none⟩ = some (.int .i64 x.prio) ∧ q.cell? ⟨w.heap.size, 6, none⟩ = some (.int .i64 x.ttl) ∧ q.cell? ⟨w.heap.size, 7, none⟩ = some (.int .i64 x.til) ∧ q.cell? ⟨w.heap.size, 8, none⟩ = some (.bool x.again) ∧ q.cell? ⟨w.heap.size, 9, none⟩ = some (.int .i64 x.hops))
    (first | with_reducible exact kS | with_reducible exact kA | with_reducible exact kP | with_reducible exact hs0.out | with_reducible exact hs1.out)
    ((go_at_call 367; first
     | (refine (clt.out _ _ h3).mono ?_; rintro r0 w'' ⟨rfl, h4⟩; have kS := seen8 hXm List.mem_cons_self h4; obtain ⟨fz, ⟨z0, z1, z2, z3, z4, z5, z6, z7, z8, z9⟩, kA, -⟩ := alloc8 hXm h4 z0E; have h5 := (h4.alloc (enO z0E)).permF (F' := X ++ (w''.heap.size, enO z0E) :: (w.heap.size, enO x) :: F) List.perm_middle.symm)
     | (refine (clt.out _ _ h3a).mono ?_; rintro r0 w'' ⟨rfl, h4⟩; obtain ⟨fz, ⟨z0, z1, z2, z3, z4, z5, z6, z7, z8, z9⟩, kS, kP, -, h5⟩ := put8 hXm h4 z0E)))
   all_goals
    (have fin : Hid (StepR qT B w0 sb bs top C1 F c (.returned (.slice a4 vn2 c4)) _) := Lib.hid ⟨_, _, _, rfl, (hback.out _ _ h5).sub ((List.sublist_cons_self _ _).trans (List.sublist_cons_self _ _))⟩
     clear clt cnm sees hs0 hs1 h3 h3a h3u h4 h5 hback hXm kS fz z0 z1 z2 z3 z4 z5 z6 z7 z8 z9 hrun hC kb k1
     go_wp2_with fail
     go_ret
     exact fin.out)
  | some y =>
   simp only [letV] at clt
   go_enter Tryz.func366, Tryz.ntmps366
   go_upto_region 5 with fail
   rw [← hW1.out]
   clear hW1 y0 y1 y2 y3 y4 y5 y6 y7 y8 y9 kd kd2 ksf hsl
   obtain ⟨a3, c3, W2, Z2, hrunD, hr2, h2⟩ := rest.out hwn
   obtain ⟨kb, a4, c4, W3, hrun, X, hXm, h3u, hback⟩ := owe.out _ _ _ (vl.length + 1) (by rw [if_neg hwn]; rfl) (by rw [if_neg hwn]; exact hr2) h2
   clear owe rest h1 hr h2 hr2
   have h3 := h3u.grow (drew_b W3)
   have hs0 := Lib.hid (sees.out X _ _ hXm List.mem_cons_self h3)
   have h3a := ((h3u.alloc (enO z0E)).grow (drew_b (W3.alloc (enO z0E)))).permF (F' := X ++ ((W3.heap.size, enO z0E) :: (w.heap.size, enO x) :: F)) (perm_by fun a => by simp only [List.count_append, List.count_cons]; omega)
   have hs1 := Lib.hid (sees.out X _ _ hXm (List.mem_cons_of_mem _ List.mem_cons_self) h3a)
   replace hback := Lib.hid hback
   generalize vl.length = vn at *
   generalize vn + 1 = vn1 at *
   generalize vn1 + 1 = vn2 at *
   go_wp2_with (at_builtin; first | refine wpList_append_go rfl (.tmp 37) (.tmp 40) 222 222 rfl _ _ rfl rfl hrunD ?_ | refine wpList_append_go rfl (.tmp 42) (.tmp 46) 222 222 rfl _ _ rfl rfl hrun ?_)
   go_region_held3 (fun q => q.cell? ⟨db, 0, none⟩ = some (bpt pb) ∧ q.cell? ⟨w.heap.size, 0, none⟩ = some (.int .i64 x.id) ∧ q.cell? ⟨w.heap.size, 1, none⟩ = some (.int .i64 x.body) ∧ q.cell? ⟨w.heap.size, 2, none⟩ = some (.int .i64 x.size) ∧ q.cell? ⟨w.heap.size, 3, none⟩ = some (tx x.exch) ∧ q.cell? ⟨w.heap.size, 4, none⟩ = some (tx x.key) ∧ q.cell? ⟨w.heap.size, 5, none⟩ = some (.int .i64 x.prio) ∧ q.cell? ⟨w.heap.size, 6, none⟩ = some (.int .i64 x.ttl) ∧ q.cell? ⟨w.heap.size, 7, none⟩ = some (.int .i64 x.til) ∧ q.cell? ⟨w.heap.size, 8, none⟩ = some (.bool x.again) ∧ q.cell? ⟨w.heap.size, 9, none⟩ = some (.int .i64 x.hops))
    (first | with_reducible exact kS | with_reducible exact kA | with_reducible exact kP | with_reducible exact hs0.out | with_reducible exact hs1.out)
    ((go_at_call 367; first
     | (refine (clt.out _ _ h3).mono ?_; rintro r0 w'' ⟨rfl, h4⟩; have kS := seen8 hXm List.mem_cons_self h4; obtain ⟨fz, ⟨z0, z1, z2, z3, z4, z5, z6, z7, z8, z9⟩, kA, -⟩ := alloc8 hXm h4 z0E; have h5 := (h4.alloc (enO y)).permF (F' := X ++ (w''.heap.size, enO y) :: (w.heap.size, enO x) :: F) List.perm_middle.symm; have kP := seen8 hXm (List.mem_cons_of_mem _ List.mem_cons_self) h5; have kE := (h5.enAt (List.mem_append_right _ List.mem_cons_self)).1)
     | (refine (clt.out _ _ h3a).mono ?_; rintro r0 w'' ⟨rfl, h4⟩; obtain ⟨fz, ⟨z0, z1, z2, z3, z4, z5, z6, z7, z8, z9⟩, kS, kP, kE, h5⟩ := put8 hXm h4 y)))
   all_goals
    (have ch := Lib.hid (cnm.out y rfl _ _ _ _ [_, _] (hback.out _ _ h5))
     obtain ⟨p0, p1, p2, p3, p4, p5, p6, p7, p8, p9⟩ := kE
     clear clt cnm sees hs0 hs1 h3 h3a h3u h4 h5 hback hXm kS fz z0 z1 z2 z3 z4 z5 z6 z7 z8 z9 hrun hC kb k1
     go_wp2_with fail
     refine ch.out.mono ?_
     rintro e w4 ⟨mb, rfl, a5, m5, c5, W5, hrun5, fin⟩
     replace fin := Lib.hid fin
     clear ch p0 p1 p2 p3 p4 p5 p6 p7 p8 p9 kP
     go_wp2_with (at_builtin; refine wpList_append_go rfl (.tmp 59) (.tmp 64) 222 222 rfl _ _ rfl rfl hrun5 ?_)
     go_ret
     exact fin.out)
end
section
variable {qT : Bool} {B : Nat} {w0 w w' : World} {sb slb xb pb qb gb c c' i k b mb db : Nat} {bs : List Nat} {S S' : Sto} {L : List Pq} {xv v wv : Value} {d d' : Plq} {R SX SS F F' Z Y Zw OT : List (Nat × Obj)} {o : Opt} {M W : List Ent} {G : List Gst} {T : Nat} {n : List UInt8} {q z bt : Int} {e e0 x : Ent} {g : Gst} {tv : Value} {rf r ok tp r' : Bool} {vs : List Value} {way : List Nat} {top : Option Nat} {ts : List Tm} {TR : List Tsk} {K : Int} {C C' : Cf}
structure RunOk (K : Int) (k : Nat) (C : Cf) : Prop where
 ok : C.Ok K k
 pot : C.pot ≤ 900000000000
 last : -1 ≤ C.S.last
theorem step_last (C : Cf) : C.S.last ≤ (stepF C).S.last := by
 obtain ⟨S, R, r⟩ := C
 have hg : ∀ (S : Sto) b, (S.letGo b).last = S.last := fun S b => by unfold Sto.letGo; split <;> rfl
 have hh : ∀ (S : Sto) b, (S.hold b).last = S.last := fun S b => by unfold Sto.hold; split <;> rfl
 cases R with
 | nil => exact Int.le_refl _
 | cons t R =>
  cases t with
  | owed b => exact Int.le_of_eq (hg S b).symm
  | mail top e way =>
   cases way with
   | nil => exact Int.le_refl _
   | cons i way =>
    cases hp : S.L[i]? with
    | none => simp only [stepF, hp]; exact Int.le_refl _
    | some p =>
     simp only [stepF, hp]
     split
     ·exact Int.le_of_eq (hh S e.body).symm
     ·rw [hg]; exact Int.le_of_eq (hh S e.body).symm
  | dead i W =>
   cases W with
   | nil => exact Int.le_refl _
   | cons x W =>
    cases hy : (S.L[i]?).bind fun p => S.letter p.o x with
    | none => simp only [stepF, hy]; exact Int.le_refl _
    | some y =>
     simp only [stepF, hy]
     show S.last ≤ S.last + 1
     omega
theorem RunOk.step (h : RunOk K k C) (hR : C.R ≠ []) : RunOk K k (stepF C) := by
 have := step_pot C h.ok.few hR
 have h2 := h.pot
 have h3 := h.last
 have h4 := step_last C
 exact ⟨h.ok.step hR, by omega, by omega⟩
theorem tsk_pot (t : Tsk) : 1 ≤ t.pot := by cases t <;> simp only [Tsk.pot] <;> omega
theorem potR_len : ∀ R : List Tsk, R.length ≤ potR R
 | [] => Nat.zero_le _
 | t :: R => by
  have := potR_len R
  have := tsk_pot t
  rw [potR_cons, List.length_cons]; omega
theorem sumE_len : ∀ W : List Ent, W.length ≤ sumE dieF W
 | [] => Nat.zero_le _
 | x :: W => by
  have := sumE_len W
  have := die_two x
  rw [sumE_cons, List.length_cons]; omega
theorem RunOk.held (h : RunOk K k C) (hK : K < 4611686018427387904) : HeldOk C.S := fun x hx => by
 have := h.ok.held x hx
 omega
theorem RunOk.held2 (h : RunOk K k C) (hK : K < 4611686018427387904) (b : Int) : HeldOk (C.S.hold b) := fun x hx => by
 obtain ⟨y, hy, hle⟩ := hold_held hx
 have := h.ok.held y hy
 omega
theorem run_head (h : CfIs qT B w0 w sb bs top C v F c) (hR : C.R ≠ []) (ok : RunOk K k C) (hK : K < 4611686018427387904) (hk : k < 90000) (hR2 : RouC B w0 C.S.P C.S.A c) :
  ∃ g off m cap a1 c1 u, v = .slice (some ⟨g, off, none⟩) (m + 1) cap ∧ m ≤ 900000000000 ∧ w.cell? ⟨g, off + m, none⟩ = some u ∧ (∀ w, (Instr.slice 222 v none (some (.int .i64 m)) none).run Tryz.prog w = .ok (.slice a1 m c1) w) ∧
   ((∃ mb, u = mailI mb ∧ Calls Tryz.prog 356 #[bpt mb, bpt sb, .slice a1 m c1] w (StepR qT B w0 sb bs top (stepF C) F c)) ∨
    (∃ db, u = deadI db ∧ Calls Tryz.prog 366 #[bpt db, bpt sb, .slice a1 m c1] w (StepR qT B w0 sb bs top (stepF C) F c)) ∨
    (∃ b, u = owedI b ∧ Calls Tryz.prog 372 #[.int .i64 b, bpt sb, .slice a1 m c1] w (StepR qT B w0 sb bs top (stepF C) F c))) := by
 have hh := ok.held hK
 have hh2 := ok.held2 hK
 have hpot := ok.pot
 have hl0 := ok.last
 have hl1 := ok.ok.last
 have hqs := ok.ok.qs
 have htf := ok.ok.ts
 obtain ⟨S, R, r⟩ := C
 obtain ⟨ts, Z, OT, hts, hr, hok, htop, hone, h1⟩ := h
 simp only at hts hok htop hone h1 hR hh hh2 hl0 hl1 hqs htf hR2
 cases R with
 | nil => exact absurd rfl hR
 | cons t TR =>
  cases ts with
  | nil => cases hts
  | cons m ts =>
   rw [List.map_cons, List.cons.injEq] at hts
   obtain ⟨hm, hts⟩ := hts
   have hlen : ts.length ≤ 900000000000 ∧ t.pot ≤ 900000000000 := by
    have e1 : ts.length = TR.length := by rw [← hts, List.length_map]
    have e2 := potR_len TR
    unfold Cf.pot at hpot
    simp only [potR_cons] at hpot
    omega
   have hm0 := hok m List.mem_cons_self
   have hok' : ∀ u ∈ ts, TmOk bs top r u := fun u hu => hok u (List.mem_cons_of_mem _ hu)
   have hf0 := htf t List.mem_cons_self
   rw [List.map_cons] at hr
   obtain ⟨a, cap, a1, c1, rfl, ⟨g, off, rfl, hcell⟩, hr1, hsl⟩ := row_pop hr h1
   rw [objsT_cons] at h1
   obtain ⟨mt, mv, mO⟩ := m
   simp only at hm hm0 hcell
   subst hm
   refine ⟨g, off, (ts.map Tm.v).length, cap, a1, c1, mv, rfl, by rw [List.length_map]; exact hlen.1, hcell, hsl, ?_⟩
   cases mt with
   | owed b =>
    obtain ⟨rfl, rfl⟩ := hm0
    refine .inr (.inr ⟨b, rfl, ?_⟩)
    exact owed_step h1 hr1 hts hok' (top_uncons htop rfl) (one_tail hone) hh b
   | mail tp e way =>
    obtain ⟨mb, tv, Zw, rf, rfl, hrf, rfl, hw⟩ := hm0
    refine .inl ⟨mb, rfl, ?_⟩
    have h2 : StoIs qT B w0 w sb bs S (Z ++ ((mb, mailO e tv rf) :: (Zw ++ (objsT ts ++ (OT ++ F))))) c := by simpa [List.append_assoc] using h1
    cases way with
    | nil => exact mail_step0 h2 hw hr1 hts hok' htop hone hrf
    | cons i way =>
     have hi := hf0.2 i List.mem_cons_self
     have hd := List.getElem?_eq_getElem hi
     have hq := hqs _ (List.getElem_mem hi)
     have hwl : way.length ≤ 900000000000 := by
      have h3 := hlen.2
      simp only [Tsk.pot, List.length_cons] at h3
      have h4 : (way.length + 1) * 1 ≤ (way.length + 1) * (dieF e + 2) := Nat.mul_le_mul_left _ (by omega)
      omega
     exact mail_step1 h2 hw hr1 hts hok' htop hone hrf hd hf0.1.exch hf0.1.key (by have := hq.len; omega) hh (hh2 _) hlen.1 hwl
   | dead i W =>
    obtain ⟨db, wv, Zw, pb, hpb, rfl, rfl, hw⟩ := hm0
    refine .inr (.inl ⟨db, rfl, ?_⟩)
    have h2 : StoIs qT B w0 w sb bs S (Z ++ ((db, deadO pb wv) :: (Zw ++ (objsT ts ++ (OT ++ F))))) c := by simpa [List.append_assoc] using h1
    cases W with
    | nil => exact dead_step0 h2 hw hr1 hts hok' htop hone
    | cons x W =>
     have hd := List.getElem?_eq_getElem hf0.2
     have hq := hqs _ (List.getElem_mem hf0.2)
     have hwl : W.length ≤ 900000000000 := by
      have h3 := hlen.2
      simp only [Tsk.pot, sumE_cons] at h3
      have := sumE_len W
      omega
     exact dead_step1 h2 hw hr1 hts hok' htop hone hpb hd (hf0.1 x List.mem_cons_self) hq.opts hl0 (by omega) hR2 hlen.1 hwl
end
end Go.Proofs.YtknjamfjonapiaaGreatDoor
