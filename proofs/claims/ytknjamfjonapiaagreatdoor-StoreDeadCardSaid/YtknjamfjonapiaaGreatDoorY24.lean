import Derived.Test.YtknjamfjonapiaaGreatDoorY23
import Derived.Handy
import Derived.StillTailTactics
import Derived.Test.YtknjamfjonapiaaGreatDoorY22
namespace Go.Proofs.YtknjamfjonapiaaGreatDoor
open Go.RowKit
set_option linter.unusedVariables false
set_option linter.unusedSectionVars false
set_option linter.unusedSimpArgs false
set_option maxRecDepth 100000
section
variable {qT : Bool} {B : Nat} {w0 w w' : World} {sb slb xb pb qb gb c c' i k b mb db : Nat} {bs : List Nat} {S S' : Sto} {L : List Pq} {xv v wv : Value} {d d' : Plq} {R SX SS F F' Z Y Zw OT : List (Nat × Obj)} {o : Opt} {M W : List Ent} {G : List Gst} {T : Nat} {n : List UInt8} {q z bt : Int} {e e0 x : Ent} {g : Gst} {tv : Value} {rf r ok tp r' : Bool} {vs : List Value} {way : List Nat} {top : Option Nat} {ts : List Tm} {TR : List Tsk}
theorem top_cons {t : Tsk} {OT : List (Nat × Obj)} (h : TopOk top TR r OT) (ht : isTop t = false) : TopOk top (t :: TR) r OT := by
 have e : (t :: TR).any isTop = TR.any isTop := by rw [List.any_cons, ht, Bool.false_or]
 cases top with
 | none => exact ⟨h.1, by rw [e]; exact h.2⟩
 | some mb =>
  rcases h with ⟨h1, h2⟩ | ⟨h1, h2⟩
  ·exact .inl ⟨by rw [e]; exact h1, h2⟩
  ·exact .inr ⟨by rw [e]; exact h1, h2⟩
theorem top_uncons {t : Tsk} {OT : List (Nat × Obj)} (h : TopOk top (t :: TR) r OT) (ht : isTop t = false) : TopOk top TR r OT := by
 have e : (t :: TR).any isTop = TR.any isTop := by rw [List.any_cons, ht, Bool.false_or]
 cases top with
 | none => exact ⟨h.1, by rw [← e]; exact h.2⟩
 | some mb =>
  rcases h with ⟨h1, h2⟩ | ⟨h1, h2⟩
  ·exact .inl ⟨by rw [← e]; exact h1, h2⟩
  ·exact .inr ⟨by rw [← e]; exact h1, h2⟩
theorem one_cons {t : Tsk} (h : OneTop TR) (ht : isTop t = false) : OneTop (t :: TR) := by
 unfold OneTop at *
 rw [List.filter_cons, if_neg (by rw [ht]; decide)]
 exact h
theorem dead_fin {v3 : Value} {wv2 : Value} {Z3 : List (Nat × Obj)} (h : StoIs qT B w0 w sb bs S ((db, deadO pb wv2) :: (Zw ++ (Z3 ++ (objsT ts ++ (OT ++ F))))) c)
  (hr3 : RowIs v3 (owedI x.body :: (if W = [] then ts.map Tm.v else deadI db :: ts.map Tm.v)) Z3) (hw : EnsIs wv2 W Zw) (hb : bs[i]? = some pb) (hts : ts.map Tm.t = TR) (hok : ∀ m ∈ ts, TmOk bs top r m)
  (htop : TopOk top (.dead i (x :: W) :: TR) r OT) (hone : OneTop (.dead i (x :: W) :: TR)) : CfIs qT B w0 w sb bs top ⟨S, .owed x.body :: moreD i W TR, r⟩ v3 F c := by
 have htop2 := top_uncons htop rfl
 have hone2 := one_tail hone
 by_cases hW : W = []
 ·subst hW
  rw [if_pos rfl] at hr3
  refine ⟨⟨.owed x.body, owedI x.body, []⟩ :: ts, Z3, OT, by rw [List.map_cons, hts]; rfl, hr3, ?_, top_cons htop2 rfl, one_cons hone2 rfl, ?_⟩
  ·intro m hm
   rcases List.mem_cons.1 hm with rfl | hm
   ·exact ⟨rfl, rfl⟩
   ·exact hok m hm
  ·refine (h.permF ?_).sub (List.sublist_append_right ((db, deadO pb wv2) :: Zw) _)
   exact perm_by fun a => by simp only [objsT_cons, List.count_append, List.count_cons, List.count_nil]; omega
 ·rw [if_neg hW] at hr3
  have hm0 : moreD i W TR = .dead i W :: TR := if_neg hW
  rw [hm0]
  refine ⟨⟨.owed x.body, owedI x.body, []⟩ :: ⟨.dead i W, deadI db, (db, deadO pb wv2) :: Zw⟩ :: ts, Z3, OT, by rw [List.map_cons, List.map_cons, hts], hr3, ?_, top_cons (top_cons htop2 rfl) rfl, one_cons (one_cons hone2 rfl) rfl, ?_⟩
  ·intro m hm
   rcases List.mem_cons.1 hm with rfl | hm
   ·exact ⟨rfl, rfl⟩
   ·rcases List.mem_cons.1 hm with rfl | hm
    ·exact ⟨db, wv2, Zw, pb, hb, rfl, rfl, hw⟩
    ·exact hok m hm
  ·exact h.permF (perm_by fun a => by simp only [objsT_cons, List.count_append, List.count_cons, List.count_nil]; omega)
theorem CfIs.pushMail {v4 : Value} {Z4 Zm : List (Nat × Obj)} {y : Ent} {way : List Nat} {RR : List Tsk} (hts : ts.map Tm.t = RR) (hok : ∀ m ∈ ts, TmOk bs top r m) (htop : TopOk top RR r OT) (hone : OneTop RR)
  (h : StoIs qT B w0 w sb bs S ((mb, mailO y tv false) :: (Zm ++ (Z4 ++ (objsT ts ++ (OT ++ F))))) c) (hr : RowIs v4 (mailI mb :: ts.map Tm.v) Z4) (hw : WayIs bs tv way Zm) : CfIs qT B w0 w sb bs top ⟨S, .mail false y way :: RR, r⟩ v4 F c := by
 refine ⟨⟨.mail false y way, mailI mb, (mb, mailO y tv false) :: Zm⟩ :: ts, Z4, OT, by rw [List.map_cons, hts], hr, ?_, top_cons htop rfl, one_cons hone rfl, ?_⟩
 ·intro m hm
  rcases List.mem_cons.1 hm with rfl | hm
  ·exact ⟨mb, tv, Zm, false, rfl, by simp, rfl, hw⟩
  ·exact hok m hm
 ·exact h.permF (perm_by fun a => by simp only [objsT_cons, List.count_append, List.count_cons]; omega)
theorem CfIs.newMail {C : Cf} {a : Option Addr} {m cp : Nat} (h : CfIs qT B w0 w sb bs top C (.slice a m cp) F c) (y : Ent) (hl0 : -1 ≤ C.S.last) (hl1 : C.S.last < 4611686018427387904) (hk : y.key.length ≤ 1000) (hc : c ≤ 100000) (hfew : C.R.length ≤ 990000000000) :
  Calls Tryz.prog 79 #[bpt sb, enV y] w fun e w' => ∃ mb, e = .returned (bpt mb) ∧ ∃ a2 m2 c2 W2, (Builtin.append_ #[222, 222] 0 #[.slice a m cp, .slice (some ⟨w'.heap.size, 0, none⟩) 1 1]).run Tryz.prog (w'.alloc (.cells #[mailI mb] 221)) = .ok (.slice a2 m2 c2) W2 ∧
   StepR qT B w0 sb bs top ⟨C.S.born, C.S.mail false y :: C.R, C.r⟩ F c (.returned (.slice a2 m2 c2)) W2 := by
 obtain ⟨ts, Z, OT, hts, hr, hok, htop, hone, h1⟩ := h
 refine (newmail_any h1 y hl0 hl1 hk hc).mono ?_
 rintro e w' ⟨mb, tv, Zm, rfl, hw, h2⟩
 have hlen : (ts.map Tm.v).length ≤ 1000000000000 := by
  have : ts.length = C.R.length := by rw [← hts, List.length_map]
  rw [List.length_map]; omega
 obtain ⟨a', cap', e'⟩ := hr.form
 have h3 := h2.permF (F' := Z ++ ((mb, mailO { y with id := C.S.last + 1 } tv false) :: (Zm ++ (objsT ts ++ (OT ++ F))))) (perm_by fun a => by simp only [List.count_append, List.count_cons]; omega)
 obtain ⟨a2, c2, W2, Z2, q1, q2, q3⟩ := row_push h3 hr (u := mailI mb) rfl hlen
 refine ⟨mb, rfl, a2, _, c2, W2, q1, _, _, _, rfl, ?_⟩
 exact CfIs.pushMail hts hok htop hone (q3.permF (perm_by fun a => by simp only [List.count_append, List.count_cons]; omega)) q2 hw
theorem CfIs.sub {C : Cf} {F1 F2 : List (Nat × Obj)} (h : CfIs qT B w0 w sb bs top C v F1 c) (hs : F2.Sublist F1) : CfIs qT B w0 w sb bs top C v F2 c := by
 obtain ⟨ts, Z, OT, hts, hr, hok, htop, hone, h1⟩ := h
 exact ⟨ts, Z, OT, hts, hr, hok, htop, hone, h1.sub ((List.Sublist.refl Z).append ((List.Sublist.refl _).append ((List.Sublist.refl OT).append hs)))⟩
theorem CfIs.sto {C : Cf} (h : CfIs qT B w0 w sb bs top C v F c) : ∃ X, StoIs qT B w0 w sb bs C.S (X ++ F) c ∧ ∀ w' F', StoIs qT B w0 w' sb bs C.S (X ++ F') c → CfIs qT B w0 w' sb bs top C v F' c := by
 obtain ⟨ts, Z, OT, hts, hr, hok, htop, hone, h1⟩ := h
 exact ⟨Z ++ (objsT ts ++ OT), by simpa [List.append_assoc] using h1, fun w' F' h' => ⟨ts, Z, OT, hts, hr, hok, htop, hone, by simpa [List.append_assoc] using h'⟩⟩
set_option maxHeartbeats 1000000 in
theorem dead_step0 (h : StoIs qT B w0 w sb bs S (Z ++ ((db, deadO pb wv) :: (Zw ++ (objsT ts ++ (OT ++ F))))) c) (hw : EnsIs wv [] Zw) (hr : RowIs v (ts.map Tm.v) Z) (hts : ts.map Tm.t = TR) (hok : ∀ m ∈ ts, TmOk bs top r m)
  (htop : TopOk top (.dead i [] :: TR) r OT) (hone : OneTop (.dead i [] :: TR)) :
  Calls Tryz.prog 366 #[bpt db, bpt sb, v] w (StepR qT B w0 sb bs top (stepF ⟨S, .dead i [] :: TR, r⟩) F c) := by
 have hc : CfIs qT B w0 w sb bs top ⟨S, TR, r⟩ v F c := ⟨ts, Z, OT, hts, hr, hok, top_uncons htop rfl, one_tail hone, (h.permF (perm_by fun a => by simp only [List.count_append, List.count_cons]; omega)).sub (List.sublist_append_right ((db, deadO pb wv) :: Zw) _)⟩
 have km : w.cell? ⟨db, 1, none⟩ = some wv := h.cell (b := db) (List.mem_append_right _ List.mem_cons_self) rfl
 obtain ⟨a, cap, rfl⟩ := hr.form
 obtain ⟨a1, c1, e1, -⟩ := SlIs.form hw
 subst e1
 have fin : Hid (StepR qT B w0 sb bs top (stepF ⟨S, .dead i [] :: TR, r⟩) F c (.returned (.slice a (ts.map Tm.v).length cap)) w) := Lib.hid ⟨_, _, _, rfl, hc⟩
 generalize (ts.map Tm.v).length = m at *
 generalize stepF _ = C2 at *
 clear h hr hts hok htop hone hc hw
 go_enter Tryz.func366, Tryz.ntmps366
 go_wp2_with fail
 go_ret
 exact fin.out
end
end Go.Proofs.YtknjamfjonapiaaGreatDoor
namespace Go.Proofs.YtknjamfjonapiaaGreatDoor
open Go.RowKit
set_option linter.unusedVariables false
set_option linter.unusedSectionVars false
set_option linter.unusedSimpArgs false
set_option maxRecDepth 100000
section
variable {qT : Bool} {B : Nat} {w0 w w' : World} {sb slb xb pb qb gb c c' i k b mb db : Nat} {bs : List Nat} {S S' : Sto} {L : List Pq} {xv v wv : Value} {d d' : Plq} {R SX SS F F' Z Y Zw OT : List (Nat × Obj)} {o : Opt} {M W : List Ent} {G : List Gst} {T : Nat} {n : List UInt8} {q z bt : Int} {e e0 x : Ent} {g : Gst} {tv : Value} {rf r ok tp r' : Bool} {vs : List Value} {way : List Nat} {top : Option Nat} {ts : List Tm} {TR : List Tsk}
abbrev Sn8 (w : World) (db pb k : Nat) (x : Ent) : Prop := w.cell? ⟨db, 0, none⟩ = some (bpt pb) ∧ EnAt w k x
theorem seen8 {X : List (Nat × Obj)} (hX : (db, deadO pb wv) ∈ X) (hm : (k, enO x) ∈ F) (h : StoIs qT B w0 w sb bs S (X ++ F) c) : Sn8 w db pb k x :=
 ⟨h.cell (List.mem_append_left _ hX) rfl, (h.enAt (List.mem_append_right _ hm)).1⟩
theorem put8 {X : List (Nat × Obj)} (hX : (db, deadO pb wv) ∈ X) (h : StoIs qT B w0 w sb bs S (X ++ (b, enO z0E) :: (k, enO x) :: F) c) (z : Ent) :
  (∀ i, w.frozen? ⟨b, i, none⟩ = false) ∧ EnAt w b z0E ∧ Sn8 w db pb k x ∧ Sn8 (enPut w b z) db pb k x ∧ EnAt (enPut w b z) b z ∧ StoIs qT B w0 (enPut w b z) sb bs S (X ++ (b, enO z) :: (k, enO x) :: F) c := by
 have h1 := h.permF List.perm_middle
 have h2 := (h1.putE (e := z)).permF List.perm_middle.symm
 exact ⟨(h1.enAt List.mem_cons_self).2, (h1.enAt List.mem_cons_self).1, seen8 hX (List.mem_cons_of_mem _ List.mem_cons_self) h, seen8 hX (List.mem_cons_of_mem _ List.mem_cons_self) h2, (h2.enAt (List.mem_append_right _ List.mem_cons_self)).1, h2⟩
theorem alloc8 {X : List (Nat × Obj)} (hX : (db, deadO pb wv) ∈ X) (h : StoIs qT B w0 w sb bs S (X ++ (k, enO x) :: F) c) (z : Ent) :
  (∀ i, (w.alloc (enO z0E)).frozen? ⟨w.heap.size, i, none⟩ = false) ∧ EnAt (w.alloc (enO z0E)) w.heap.size z0E ∧ Sn8 (w.alloc (enO z0E)) db pb k x ∧ Sn8 (enPut (w.alloc (enO z0E)) w.heap.size z) db pb k x ∧ EnAt (enPut (w.alloc (enO z0E)) w.heap.size z) w.heap.size z ∧
   StoIs qT B w0 (enPut (w.alloc (enO z0E)) w.heap.size z) sb bs S (X ++ (w.heap.size, enO z) :: (k, enO x) :: F) c :=
 put8 hX ((h.alloc (enO z0E)).permF List.perm_middle.symm) z
set_option maxHeartbeats 8000000 in
theorem dead_step1 (h : StoIs qT B w0 w sb bs S (Z ++ ((db, deadO pb wv) :: (Zw ++ (objsT ts ++ (OT ++ F))))) c) (hw : EnsIs wv (x :: W) Zw) (hr : RowIs v (ts.map Tm.v) Z) (hts : ts.map Tm.t = TR) (hok : ∀ m ∈ ts, TmOk bs top r m)
  (htop : TopOk top (.dead i (x :: W) :: TR) r OT) (hone : OneTop (.dead i (x :: W) :: TR)) (hpb : bs[i]? = some pb) (hi : S.L[i]? = some d)
  (hx : FitE x) (ho : FitO d.o) (hl0 : -1 ≤ S.last) (hl1 : S.last < 4611686018427387904) (hc : c ≤ 100000) (hfew : ts.length ≤ 900000000000) (hwl : W.length ≤ 900000000000) :
  Calls Tryz.prog 366 #[bpt db, bpt sb, v] w (StepR qT B w0 sb bs top (stepF ⟨S, .dead i (x :: W) :: TR, r⟩) F c) := by
 have hstep : stepF ⟨S, .dead i (x :: W) :: TR, r⟩ = match S.letter d.o x with | none => ⟨S, .owed x.body :: moreD i W TR, r⟩ | some y => ⟨S.born, S.mail false y :: .owed x.body :: moreD i W TR, r⟩ := by
  simp only [stepF, hi, Option.bind_some]
  cases S.letter d.o x <;> rfl
 rw [hstep]
 have h0 := h.permF (F' := (db, deadO pb wv) :: (Zw ++ (Z ++ (objsT ts ++ (OT ++ F))))) (perm_by fun a => by simp only [List.count_append, List.count_cons]; omega)
 obtain ⟨a, cap, a9, c9, rfl, ⟨g1, o1, rfl, y0, y1, y2, y3, y4, y5, y6, y7, y8, y9⟩, -⟩ := dead_pop hw h0
 have kd : w.cell? ⟨db, 1, none⟩ = some (.slice (some ⟨g1, o1, none⟩) (W.length + 1) cap) := h0.cell List.mem_cons_self rfl
 have hA := (h0.alloc (enO x)).permF (F' := (db, deadO pb (.slice (some ⟨g1, o1, none⟩) (W.length + 1) cap)) :: (Zw ++ (Z ++ (objsT ts ++ (OT ++ ((w.heap.size, enO x) :: F)))))) (perm_by fun a => by simp only [List.count_append, List.count_cons]; omega)
 have kd2 : (w.alloc (enO x)).cell? ⟨db, 1, none⟩ = some (.slice (some ⟨g1, o1, none⟩) (W.length + 1) cap) := hA.cell List.mem_cons_self rfl
 have ksf : (w.alloc (enO x)).frozen? ⟨db, 1, none⟩ = false := hA.soft (b := db) List.mem_cons_self 1
 obtain ⟨a', cap', a2, c2, ev, -, hw2, hsl, h1⟩ := dead_pop hw hA
 obtain ⟨W1, hW1⟩ : ∃ W1, W1 = (w.alloc (enO x)).setCell ⟨db, 1, none⟩ (.slice a2 W.length c2) := ⟨_, rfl⟩
 rw [← hW1] at h1
 have k1 : W1.cell? ⟨db, 1, none⟩ = some (.slice a2 W.length c2) := h1.cell List.mem_cons_self rfl
 have hlt : (ts.map Tm.v).length = ts.length := List.length_map _
 have rest : Hid (W ≠ [] → ∃ a3 c3 W2 Z2, (Builtin.append_ #[222, 222] 0 #[v, .slice (some ⟨W1.heap.size, 0, none⟩) 1 1]).run Tryz.prog (W1.alloc (.cells #[deadI db] 221)) = .ok (.slice a3 ((ts.map Tm.v).length + 1) c3) W2 ∧
   RowIs (.slice a3 ((ts.map Tm.v).length + 1) c3) (deadI db :: ts.map Tm.v) Z2 ∧ StoIs qT B w0 W2 sb bs S ((db, deadO pb (.slice a2 W.length c2)) :: (Zw ++ (Z2 ++ (objsT ts ++ (OT ++ ((w.heap.size, enO x) :: F)))))) c) := Lib.hid fun _ => by
  have h2 := h1.permF (F' := Z ++ ((db, deadO pb (.slice a2 W.length c2)) :: (Zw ++ (objsT ts ++ (OT ++ ((w.heap.size, enO x) :: F)))))) (perm_by fun a => by simp only [List.count_append, List.count_cons]; omega)
  obtain ⟨a3, c3, W2, Z2, q1, q2, q3⟩ := row_push h2 hr (u := deadI db) rfl (by omega)
  exact ⟨a3, c3, W2, Z2, q1, q2, q3.permF (perm_by fun a => by simp only [List.count_append, List.count_cons]; omega)⟩
 have owe : Hid (∀ W2 Z2 v2 m2, (if W = [] then ts.map Tm.v else deadI db :: ts.map Tm.v).length = m2 → RowIs v2 (if W = [] then ts.map Tm.v else deadI db :: ts.map Tm.v) Z2 → StoIs qT B w0 W2 sb bs S ((db, deadO pb (.slice a2 W.length c2)) :: (Zw ++ (Z2 ++ (objsT ts ++ (OT ++ ((w.heap.size, enO x) :: F)))))) c →
   W2.cell? ⟨w.heap.size, 1, none⟩ = some (.int .i64 x.body) ∧ ∃ a3 c3 W3, (Builtin.append_ #[222, 222] 0 #[v2, .slice (some ⟨W2.heap.size, 0, none⟩) 1 1]).run Tryz.prog (W2.alloc (.cells #[owedI x.body] 221)) = .ok (.slice a3 (m2 + 1) c3) W3 ∧
    ∃ X, (db, deadO pb (.slice a2 W.length c2)) ∈ X ∧ StoIs qT B w0 W3 sb bs S (X ++ ((w.heap.size, enO x) :: F)) c ∧ ∀ w' F', StoIs qT B w0 w' sb bs S (X ++ F') c → CfIs qT B w0 w' sb bs top ⟨S, .owed x.body :: moreD i W TR, r⟩ (.slice a3 (m2 + 1) c3) F' c) := Lib.hid fun W2 Z2 v2 m2 hm2 hr2 h' => by
  have hb1 : W2.cell? ⟨w.heap.size, 1, none⟩ = some (.int .i64 x.body) := h'.cell (b := w.heap.size) (List.mem_cons_of_mem _ (List.mem_append_right _ (List.mem_append_right _ (List.mem_append_right _ (List.mem_append_right _ List.mem_cons_self))))) rfl
  have h2 := h'.permF (F' := Z2 ++ ((db, deadO pb (.slice a2 W.length c2)) :: (Zw ++ (objsT ts ++ (OT ++ ((w.heap.size, enO x) :: F)))))) (perm_by fun a => by simp only [List.count_append, List.count_cons]; omega)
  obtain ⟨a3, c3, W3, Z3, q1, q2, q3⟩ := row_push h2 hr2 (u := owedI x.body) rfl (by split <;> simp <;> omega)
  rw [hm2] at q1 q2
  have q4 := q3.permF (F' := (db, deadO pb (.slice a2 W.length c2)) :: (Zw ++ (Z3 ++ (objsT ts ++ (OT ++ ((w.heap.size, enO x) :: F)))))) (perm_by fun a => by simp only [List.count_append, List.count_cons]; omega)
  have q5 := q4
  have hX : ∀ F', (db, deadO pb (.slice a2 W.length c2)) :: (Zw ++ (Z3 ++ (objsT ts ++ (OT ++ F')))) = ((db, deadO pb (.slice a2 W.length c2)) :: (Zw ++ (Z3 ++ (objsT ts ++ OT)))) ++ F' := fun F' => by simp [List.append_assoc]
  refine ⟨hb1, a3, c3, W3, q1, (db, deadO pb (.slice a2 W.length c2)) :: (Zw ++ (Z3 ++ (objsT ts ++ OT))), List.mem_cons_self, by rw [← hX]; exact q5, fun w' F' h6 => ?_⟩
  rw [← hX] at h6
  exact dead_fin h6 q2 hw2 hpb hts hok htop hone
 obtain ⟨lt, hlt2⟩ : ∃ lt, S.letter d.o x = lt := ⟨_, rfl⟩
 have sees : Hid (∀ X G W3, (db, deadO pb (.slice a2 W.length c2)) ∈ X → (w.heap.size, enO x) ∈ G → StoIs qT B w0 W3 sb bs S (X ++ G) c → W3.cell? ⟨db, 0, none⟩ = some (bpt pb) ∧ EnAt W3 w.heap.size x) := Lib.hid fun X G W3 hX hG h' =>
  ⟨h'.cell (List.mem_append_left _ hX) rfl, (h'.enAt (List.mem_append_right _ hG)).1⟩
 have clt : Hid (∀ W3 G, StoIs qT B w0 W3 sb bs S G c → Calls Tryz.prog 367 #[bpt sb, bpt pb, enV x] W3 fun r0 w' => r0 = .returned (letV lt) ∧ StoIs qT B w0 w' sb bs S G c) := Lib.hid fun W3 G h' => by
  refine (letter_any h' hi hpb hx.hops).mono ?_
  rintro r0 w' ⟨rfl, h2⟩
  exact ⟨by rw [hlt2], h2⟩
 have hmlen : (moreD i W TR).length ≤ 900000000002 := by
  have : TR.length = ts.length := by rw [← hts, List.length_map]
  unfold moreD
  split
  ·omega
  ·rw [List.length_cons]; omega
 have cnm : Hid (∀ y, lt = some y → ∀ W4 a m cp X, CfIs qT B w0 W4 sb bs top ⟨S, .owed x.body :: moreD i W TR, r⟩ (.slice a m cp) (X ++ F) c → Calls Tryz.prog 79 #[bpt sb, enV y] W4 fun e w' => ∃ mb, e = .returned (bpt mb) ∧ ∃ a2 m2 c2 W5, (Builtin.append_ #[222, 222] 0 #[.slice a m cp, .slice (some ⟨w'.heap.size, 0, none⟩) 1 1]).run Tryz.prog (w'.alloc (.cells #[mailI mb] 221)) = .ok (.slice a2 m2 c2) W5 ∧
   StepR qT B w0 sb bs top ⟨S.born, S.mail false y :: .owed x.body :: moreD i W TR, r⟩ F c (.returned (.slice a2 m2 c2)) W5) := Lib.hid fun y hy W4 a m cp X h' => by
  have hfy := letter_fit (hlt2.trans hy) hx ho
  exact (h'.sub (List.sublist_append_right X F)).newMail y hl0 hl1 hfy.key hc (by show (Tsk.owed x.body :: moreD i W TR).length ≤ _; rw [List.length_cons]; omega)
 rw [hlt2]
 obtain ⟨va, vc, rfl⟩ := hr.form
 replace hW1 := Lib.hid hW1
 generalize hvs : ts.map Tm.v = vl at *
 generalize hC : (Cf.mk S (.owed x.body :: moreD i W TR) r) = C1 at *
 clear h h0 hA hstep hw hw2 hts hok htop hone hi hx ho hl0 hl1 hc hfew hwl hlt hvs hmlen hlt2 hpb ev
 by_cases hwn : W = []
 ·subst hwn
  simp only [List.length_nil] at *
  cases lt with
  | none =>
   simp only [letV] at clt
   go_enter Tryz.func366, Tryz.ntmps366
   go_upto_region 5 with fail
   rw [← hW1.out]
   clear hW1 y0 y1 y2 y3 y4 y5 y6 y7 y8 y9 kd kd2 ksf hsl
   obtain ⟨kb, a4, c4, W3, hrun, X, hXm, h3u, hback⟩ := owe.out _ _ _ vl.length (by simp) (by simpa using hr) h1
   clear owe rest h1 hr
   have h3 := h3u.grow (drew_b W3)
   have hs0 := Lib.hid (sees.out X _ _ hXm List.mem_cons_self h3)
   have h3a := ((h3u.alloc (enO z0E)).grow (drew_b (W3.alloc (enO z0E)))).permF (F' := X ++ ((W3.heap.size, enO z0E) :: (w.heap.size, enO x) :: F)) (perm_by fun a => by simp only [List.count_append, List.count_cons]; omega)
   have hs1 := Lib.hid (sees.out X _ _ hXm (List.mem_cons_of_mem _ List.mem_cons_self) h3a)
   replace hback := Lib.hid hback
   generalize vl.length = vn at *
   generalize vn + 1 = vn1 at *
   go_wp2_with (at_builtin; refine wpList_append_go rfl (.tmp 42) (.tmp 46) 222 222 rfl _ _ rfl rfl hrun ?_)
   go_region_held3 (fun q => q.cell? ⟨db, 0, none⟩ = some (bpt pb) ∧ q.cell? ⟨w.heap.size, 0, none⟩ = some (.int .i64 x.id) ∧ q.cell? ⟨w.heap.size, 1, none⟩ = some (.int .i64 x.body) ∧ q.cell? ⟨w.heap.size, 2, none⟩ = some (.int .i64 x.size) ∧ q.cell? ⟨w.heap.size, 3, none⟩ = some (tx x.exch) ∧ q.cell? ⟨w.heap.size, 4, none⟩ = some (tx x.key) ∧ q.cell? ⟨w.heap.size, 5, none⟩ = some (.int .i64 x.prio) ∧ q.cell? ⟨w.heap.size, 6, none⟩ = some (.int .i64 x.ttl) ∧ q.cell? ⟨w.heap.size, 7, none⟩ = some (.int .i64 x.til) ∧ q.cell? ⟨w.heap.size, 8, none⟩ = some (.bool x.again) ∧ q.cell? ⟨w.heap.size, 9, none⟩ = some (.int .i64 x.hops))
    (first | with_reducible exact kS | with_reducible exact kA | with_reducible exact kP | with_reducible exact hs0.out | with_reducible exact hs1.out)
    ((go_at_call 367; first
     | (refine (clt.out _ _ h3).mono ?_; rintro r0 w'' ⟨rfl, h4⟩; have kS := seen8 hXm List.mem_cons_self h4; obtain ⟨fz, ⟨z0, z1, z2, z3, z4, z5, z6, z7, z8, z9⟩, kA, -⟩ := alloc8 hXm h4 z0E; have h5 := (h4.alloc (enO z0E)).permF (F' := X ++ (w''.heap.size, enO z0E) :: (w.heap.size, enO x) :: F) List.perm_middle.symm)
     | (refine (clt.out _ _ h3a).mono ?_; rintro r0 w'' ⟨rfl, h4⟩; obtain ⟨fz, ⟨z0, z1, z2, z3, z4, z5, z6, z7, z8, z9⟩, kS, kP, -, h5⟩ := put8 hXm h4 z0E)))
   all_goals
    (have fin : Hid (StepR qT B w0 sb bs top C1 F c (.returned (.slice a4 vn1 c4)) _) := Lib.hid ⟨_, _, _, rfl, (hback.out _ _ h5).sub ((List.sublist_cons_self _ _).trans (List.sublist_cons_self _ _))⟩
     clear clt cnm sees hs0 hs1 h3 h3a h3u h4 h5 hback hXm kS fz z0 z1 z2 z3 z4 z5 z6 z7 z8 z9 hrun hC kb k1
     go_wp2_with fail
     go_ret
     exact fin.out)
  | some y =>
   simp only [letV] at clt
   go_enter Tryz.func366, Tryz.ntmps366
   go_upto_region 5 with fail
   rw [← hW1.out]
   clear hW1 y0 y1 y2 y3 y4 y5 y6 y7 y8 y9 kd kd2 ksf hsl
   obtain ⟨kb, a4, c4, W3, hrun, X, hXm, h3u, hback⟩ := owe.out _ _ _ vl.length (by simp) (by simpa using hr) h1
   clear owe rest h1 hr
   have h3 := h3u.grow (drew_b W3)
   have hs0 := Lib.hid (sees.out X _ _ hXm List.mem_cons_self h3)
   have h3a := ((h3u.alloc (enO z0E)).grow (drew_b (W3.alloc (enO z0E)))).permF (F' := X ++ ((W3.heap.size, enO z0E) :: (w.heap.size, enO x) :: F)) (perm_by fun a => by simp only [List.count_append, List.count_cons]; omega)
   have hs1 := Lib.hid (sees.out X _ _ hXm (List.mem_cons_of_mem _ List.mem_cons_self) h3a)
   replace hback := Lib.hid hback
   generalize vl.length = vn at *
   generalize vn + 1 = vn1 at *
   go_wp2_with (at_builtin; refine wpList_append_go rfl (.tmp 42) (.tmp 46) 222 222 rfl _ _ rfl rfl hrun ?_)
   go_region_held3 (fun q => q.cell? ⟨db, 0, none⟩ = some (bpt pb) ∧ q.cell? ⟨w.heap.size, 0, none⟩ = some (.int .i64 x.id) ∧ q.cell? ⟨w.heap.size, 1, none⟩ = some (.int .i64 x.body) ∧ q.cell? ⟨w.heap.size, 2, none⟩ = some (.int .i64 x.size) ∧ q.cell? ⟨w.heap.size, 3, none⟩ = some (tx x.exch) ∧ q.cell? ⟨w.heap.size, 4, none⟩ = some (tx x.key) ∧ q.cell? ⟨w.heap.size, 5, none⟩ = some (.int .i64 x.prio) ∧ q.cell? ⟨w.heap.size, 6, none⟩ = some (.int .i64 x.ttl) ∧ q.cell? ⟨w.heap.size, 7, none⟩ = some (.int .i64 x.til) ∧ q.cell? ⟨w.heap.size, 8, none⟩ = some (.bool x.again) ∧ q.cell? ⟨w.heap.size, 9, none⟩ = some (.int .i64 x.hops))
    (first | with_reducible exact kS | with_reducible exact kA | with_reducible exact kP | with_reducible exact hs0.out | with_reducible exact hs1.out)
    ((go_at_call 367; first
     | (refine (clt.out _ _ h3).mono ?_; rintro r0 w'' ⟨rfl, h4⟩; have kS := seen8 hXm List.mem_cons_self h4; obtain ⟨fz, ⟨z0, z1, z2, z3, z4, z5, z6, z7, z8, z9⟩, kA, -⟩ := alloc8 hXm h4 z0E; have h5 := (h4.alloc (enO y)).permF (F' := X ++ (w''.heap.size, enO y) :: (w.heap.size, enO x) :: F) List.perm_middle.symm; have kP := seen8 hXm (List.mem_cons_of_mem _ List.mem_cons_self) h5; have kE := (h5.enAt (List.mem_append_right _ List.mem_cons_self)).1)
     | (refine (clt.out _ _ h3a).mono ?_; rintro r0 w'' ⟨rfl, h4⟩; obtain ⟨fz, ⟨z0, z1, z2, z3, z4, z5, z6, z7, z8, z9⟩, kS, kP, kE, h5⟩ := put8 hXm h4 y)))
   all_goals
    (have ch := Lib.hid (cnm.out y rfl _ _ _ _ [_, _] (hback.out _ _ h5))
     obtain ⟨p0, p1, p2, p3, p4, p5, p6, p7, p8, p9⟩ := kE
     clear clt cnm sees hs0 hs1 h3 h3a h3u h4 h5 hback hXm kS fz z0 z1 z2 z3 z4 z5 z6 z7 z8 z9 hrun hC kb k1
     go_wp2_with fail
     refine ch.out.mono ?_
     rintro e w4 ⟨mb, rfl, a5, m5, c5, W5, hrun5, fin⟩
     replace fin := Lib.hid fin
     clear ch p0 p1 p2 p3 p4 p5 p6 p7 p8 p9 kP
     go_wp2_with (at_builtin; refine wpList_append_go rfl (.tmp 59) (.tmp 64) 222 222 rfl _ _ rfl rfl hrun5 ?_)
     go_ret
     exact fin.out)
 ·have hwp : (0 : Int) < W.length := by
   have : 0 < W.length := List.length_pos_iff.2 hwn
   omega
  cases lt with
  | none =>
   simp only [letV] at clt
   go_enter Tryz.func366, Tryz.ntmps366
   go_upto_region 5 with fail
   rw [← hW1.out]
   clear hW1 y0 y1 y2 y3 y4 y5 y6 y7 y8 y9 kd kd2 ksf hsl
   obtain ⟨a3, c3, W2, Z2, hrunD, hr2, h2⟩ := rest.out hwn
   obtain ⟨kb, a4, c4, W3, hrun, X, hXm, h3u, hback⟩ := owe.out _ _ _ (vl.length + 1) (by rw [if_neg hwn]; rfl) (by rw [if_neg hwn]; exact hr2) h2
   clear owe rest h1 hr h2 hr2
   have h3 := h3u.grow (drew_b W3)
   have hs0 := Lib.hid (sees.out X _ _ hXm List.mem_cons_self h3)
   have h3a := ((h3u.alloc (enO z0E)).grow (drew_b (W3.alloc (enO z0E)))).permF (F' := X ++ ((W3.heap.size, enO z0E) :: (w.heap.size, enO x) :: F)) (perm_by fun a => by simp only [List.count_append, List.count_cons]; omega)
   have hs1 := Lib.hid (sees.out X _ _ hXm (List.mem_cons_of_mem _ List.mem_cons_self) h3a)
   replace hback := Lib.hid hback
   generalize vl.length = vn at *
   generalize vn + 1 = vn1 at *
   generalize vn1 + 1 = vn2 at *
   go_wp2_with (at_builtin; first | refine wpList_append_go rfl (.tmp 37) (.tmp 40) 222 222 rfl _ _ rfl rfl hrunD ?_ | refine wpList_append_go rfl (.tmp 42) (.tmp 46) 222 222 rfl _ _ rfl rfl hrun ?_)
   go_region_held3 (fun q => q.cell? ⟨db, 0, none⟩ = some (bpt pb) ∧ q.cell? ⟨w.heap.size, 0, none⟩ = some (.int .i64 x.id) ∧ q.cell? ⟨w.heap.size, 1, none⟩ = some (.int .i64 x.body) ∧ q.cell? ⟨w.heap.size, 2, none⟩ = some (.int .i64 x.size) ∧ q.cell? ⟨w.heap.size, 3, none⟩ = some (tx x.exch) ∧ q.cell? ⟨w.heap.size, 4, none⟩ = some (tx x.key) ∧ q.cell? ⟨w.heap.size, 5, none⟩ = some (.int .i64 x.prio) ∧ q.cell? ⟨w.heap.size, 6, none⟩ = some (.int .i64 x.ttl) ∧ q.cell? ⟨w.heap.size, 7, none⟩ = some (.int .i64 x.til) ∧ q.cell? ⟨w.heap.size, 8, none⟩ = some (.bool x.again) ∧ q.cell? ⟨w.heap.size, 9, none⟩ = some (.int .i64 x.hops))
    (first | with_reducible exact kS | with_reducible exact kA | with_reducible exact kP | with_reducible exact hs0.out | with_reducible exact hs1.out)
    ((go_at_call 367; first
     | (refine (clt.out _ _ h3).mono ?_; rintro r0 w'' ⟨rfl, h4⟩; have kS := seen8 hXm List.mem_cons_self h4; obtain ⟨fz, ⟨z0, z1, z2, z3, z4, z5, z6, z7, z8, z9⟩, kA, -⟩ := alloc8 hXm h4 z0E; have h5 := (h4.alloc (enO z0E)).permF (F' := X ++ (w''.heap.size, enO z0E) :: (w.heap.size, enO x) :: F) List.perm_middle.symm)
     | (refine (clt.out _ _ h3a).mono ?_; rintro r0 w'' ⟨rfl, h4⟩; obtain ⟨fz, ⟨z0, z1, z2, z3, z4, z5, z6, z7, z8, z9⟩, kS, kP, -, h5⟩ := put8 hXm h4 z0E)))
   all_goals
    (have fin : Hid (StepR qT B w0 sb bs top C1 F c (.returned (.slice a4 vn2 c4)) _) := Lib.hid ⟨_, _, _, rfl, (hback.out _ _ h5).sub ((List.sublist_cons_self _ _).trans (List.sublist_cons_self _ _))⟩
     clear clt cnm sees hs0 hs1 h3 h3a h3u h4 h5 hback hXm kS fz z0 z1 z2 z3 z4 z5 z6 z7 z8 z9 hrun hC kb k1
     go_wp2_with fail
     go_ret
     exact fin.out)
  | some y =>
   simp only [letV] at clt
   go_enter Tryz.func366, Tryz.ntmps366
   go_upto_region 5 with fail
   rw [← hW1.out]
   clear hW1 y0 y1 y2 y3 y4 y5 y6 y7 y8 y9 kd kd2 ksf hsl
   obtain ⟨a3, c3, W2, Z2, hrunD, hr2, h2⟩ := rest.out hwn
   obtain ⟨kb, a4, c4, W3, hrun, X, hXm, h3u, hback⟩ := owe.out _ _ _ (vl.length + 1) (by rw [if_neg hwn]; rfl) (by rw [if_neg hwn]; exact hr2) h2
   clear owe rest h1 hr h2 hr2
   have h3 := h3u.grow (drew_b W3)
   have hs0 := Lib.hid (sees.out X _ _ hXm List.mem_cons_self h3)
   have h3a := ((h3u.alloc (enO z0E)).grow (drew_b (W3.alloc (enO z0E)))).permF (F' := X ++ ((W3.heap.size, enO z0E) :: (w.heap.size, enO x) :: F)) (perm_by fun a => by simp only [List.count_append, List.count_cons]; omega)
   have hs1 := Lib.hid (sees.out X _ _ hXm (List.mem_cons_of_mem _ List.mem_cons_self) h3a)
   replace hback := Lib.hid hback
   generalize vl.length = vn at *
   generalize vn + 1 = vn1 at *
   generalize vn1 + 1 = vn2 at *
   go_wp2_with (at_builtin; first | refine wpList_append_go rfl (.tmp 37) (.tmp 40) 222 222 rfl _ _ rfl rfl hrunD ?_ | refine wpList_append_go rfl (.tmp 42) (.tmp 46) 222 222 rfl _ _ rfl rfl hrun ?_)
   go_region_held3 (fun q => q.cell? ⟨db, 0, none⟩ = some (bpt pb) ∧ q.cell? ⟨w.heap.size, 0, none⟩ = some (.int .i64 x.id) ∧ q.cell? ⟨w.heap.size, 1, none⟩ = some (.int .i64 x.body) ∧ q.cell? ⟨w.heap.size, 2, none⟩ = some (.int .i64 x.size) ∧ q.cell? ⟨w.heap.size, 3, none⟩ = some (tx x.exch) ∧ q.cell? ⟨w.heap.size, 4, none⟩ = some (tx x.key) ∧ q.cell? ⟨w.heap.size, 5, none⟩ = some (.int .i64 x.prio) ∧ q.cell? ⟨w.heap.size, 6, none⟩ = some (.int .i64 x.ttl) ∧ q.cell? ⟨w.heap.size, 7, none⟩ = some (.int .i64 x.til) ∧ q.cell? ⟨w.heap.size, 8, none⟩ = some (.bool x.again) ∧ q.cell? ⟨w.heap.size, 9, none⟩ = some (.int .i64 x.hops))
    (first | with_reducible exact kS | with_reducible exact kA | with_reducible exact kP | with_reducible exact hs0.out | with_reducible exact hs1.out)
    ((go_at_call 367; first
     | (refine (clt.out _ _ h3).mono ?_; rintro r0 w'' ⟨rfl, h4⟩; have kS := seen8 hXm List.mem_cons_self h4; obtain ⟨fz, ⟨z0, z1, z2, z3, z4, z5, z6, z7, z8, z9⟩, kA, -⟩ := alloc8 hXm h4 z0E; have h5 := (h4.alloc (enO y)).permF (F' := X ++ (w''.heap.size, enO y) :: (w.heap.size, enO x) :: F) List.perm_middle.symm; have kP := seen8 hXm (List.mem_cons_of_mem _ List.mem_cons_self) h5; have kE := (h5.enAt (List.mem_append_right _ List.mem_cons_self)).1)
     | (refine (clt.out _ _ h3a).mono ?_; rintro r0 w'' ⟨rfl, h4⟩; obtain ⟨fz, ⟨z0, z1, z2, z3, z4, z5, z6, z7, z8, z9⟩, kS, kP, kE, h5⟩ := put8 hXm h4 y)))
   all_goals
    (have ch := Lib.hid (cnm.out y rfl _ _ _ _ [_, _] (hback.out _ _ h5))
     obtain ⟨p0, p1, p2, p3, p4, p5, p6, p7, p8, p9⟩ := kE
     clear clt cnm sees hs0 hs1 h3 h3a h3u h4 h5 hback hXm kS fz z0 z1 z2 z3 z4 z5 z6 z7 z8 z9 hrun hC kb k1
     go_wp2_with fail
     refine ch.out.mono ?_
     rintro e w4 ⟨mb, rfl, a5, m5, c5, W5, hrun5, fin⟩
     replace fin := Lib.hid fin
     clear ch p0 p1 p2 p3 p4 p5 p6 p7 p8 p9 kP
     go_wp2_with (at_builtin; refine wpList_append_go rfl (.tmp 59) (.tmp 64) 222 222 rfl _ _ rfl rfl hrun5 ?_)
     go_ret
     exact fin.out)
end
end Go.Proofs.YtknjamfjonapiaaGreatDoor
namespace Go.Proofs.YtknjamfjonapiaaGreatDoor
open Go.RowKit
set_option linter.unusedVariables false
set_option linter.unusedSectionVars false
set_option linter.unusedSimpArgs false
set_option maxRecDepth 100000
section
variable {qT : Bool} {B : Nat} {w0 w w' : World} {sb slb xb pb qb gb c c' i k b mb db : Nat} {bs : List Nat} {S S' : Sto} {L : List Pq} {xv v wv : Value} {d d' : Plq} {R SX SS F F' Z Y Zw OT : List (Nat × Obj)} {o : Opt} {M W : List Ent} {G : List Gst} {T : Nat} {n : List UInt8} {q z bt : Int} {e e0 x : Ent} {g : Gst} {tv : Value} {rf r ok tp r' : Bool} {vs : List Value} {way : List Nat} {top : Option Nat} {ts : List Tm} {TR : List Tsk} {K : Int} {C C' : Cf}
structure RunOk (K : Int) (k : Nat) (C : Cf) : Prop where
 ok : C.Ok K k
 pot : C.pot ≤ 900000000000
 last : -1 ≤ C.S.last
theorem step_last (C : Cf) : C.S.last ≤ (stepF C).S.last := by
 obtain ⟨S, R, r⟩ := C
 have hg : ∀ (S : Sto) b, (S.letGo b).last = S.last := fun S b => by unfold Sto.letGo; split <;> rfl
 have hh : ∀ (S : Sto) b, (S.hold b).last = S.last := fun S b => by unfold Sto.hold; split <;> rfl
 cases R with
 | nil => exact Int.le_refl _
 | cons t R =>
  cases t with
  | owed b => exact Int.le_of_eq (hg S b).symm
  | mail top e way =>
   cases way with
   | nil => exact Int.le_refl _
   | cons i way =>
    cases hp : S.L[i]? with
    | none => simp only [stepF, hp]; exact Int.le_refl _
    | some p =>
     simp only [stepF, hp]
     split
     ·exact Int.le_of_eq (hh S e.body).symm
     ·rw [hg]; exact Int.le_of_eq (hh S e.body).symm
  | dead i W =>
   cases W with
   | nil => exact Int.le_refl _
   | cons x W =>
    cases hy : (S.L[i]?).bind fun p => S.letter p.o x with
    | none => simp only [stepF, hy]; exact Int.le_refl _
    | some y =>
     simp only [stepF, hy]
     show S.last ≤ S.last + 1
     omega
theorem RunOk.step (h : RunOk K k C) (hR : C.R ≠ []) : RunOk K k (stepF C) := by
 have := step_pot C h.ok.few hR
 have h2 := h.pot
 have h3 := h.last
 have h4 := step_last C
 exact ⟨h.ok.step hR, by omega, by omega⟩
theorem tsk_pot (t : Tsk) : 1 ≤ t.pot := by cases t <;> simp only [Tsk.pot] <;> omega
theorem potR_len : ∀ R : List Tsk, R.length ≤ potR R
 | [] => Nat.zero_le _
 | t :: R => by
  have := potR_len R
  have := tsk_pot t
  rw [potR_cons, List.length_cons]; omega
theorem sumE_len : ∀ W : List Ent, W.length ≤ sumE dieF W
 | [] => Nat.zero_le _
 | x :: W => by
  have := sumE_len W
  have := die_two x
  rw [sumE_cons, List.length_cons]; omega
theorem RunOk.held (h : RunOk K k C) (hK : K < 4611686018427387904) : HeldOk C.S := fun x hx => by
 have := h.ok.held x hx
 omega
theorem RunOk.held2 (h : RunOk K k C) (hK : K < 4611686018427387904) (b : Int) : HeldOk (C.S.hold b) := fun x hx => by
 obtain ⟨y, hy, hle⟩ := hold_held hx
 have := h.ok.held y hy
 omega
theorem run_head (h : CfIs qT B w0 w sb bs top C v F c) (hR : C.R ≠ []) (ok : RunOk K k C) (hK : K < 4611686018427387904) (hk : k < 90000) (hc : c ≤ 100000) :
  ∃ g off m cap a1 c1 u, v = .slice (some ⟨g, off, none⟩) (m + 1) cap ∧ m ≤ 900000000000 ∧ w.cell? ⟨g, off + m, none⟩ = some u ∧ (∀ w, (Instr.slice 222 v none (some (.int .i64 m)) none).run Tryz.prog w = .ok (.slice a1 m c1) w) ∧
   ((∃ mb, u = mailI mb ∧ Calls Tryz.prog 356 #[bpt mb, bpt sb, .slice a1 m c1] w (StepR qT B w0 sb bs top (stepF C) F c)) ∨
    (∃ db, u = deadI db ∧ Calls Tryz.prog 366 #[bpt db, bpt sb, .slice a1 m c1] w (StepR qT B w0 sb bs top (stepF C) F c)) ∨
    (∃ b, u = owedI b ∧ Calls Tryz.prog 372 #[.int .i64 b, bpt sb, .slice a1 m c1] w (StepR qT B w0 sb bs top (stepF C) F c))) := by
 have hh := ok.held hK
 have hh2 := ok.held2 hK
 have hpot := ok.pot
 have hl0 := ok.last
 have hl1 := ok.ok.last
 have hqs := ok.ok.qs
 have htf := ok.ok.ts
 obtain ⟨S, R, r⟩ := C
 obtain ⟨ts, Z, OT, hts, hr, hok, htop, hone, h1⟩ := h
 simp only at hts hok htop hone h1 hR hh hh2 hl0 hl1 hqs htf
 cases R with
 | nil => exact absurd rfl hR
 | cons t TR =>
  cases ts with
  | nil => cases hts
  | cons m ts =>
   rw [List.map_cons, List.cons.injEq] at hts
   obtain ⟨hm, hts⟩ := hts
   have hlen : ts.length ≤ 900000000000 ∧ t.pot ≤ 900000000000 := by
    have e1 : ts.length = TR.length := by rw [← hts, List.length_map]
    have e2 := potR_len TR
    unfold Cf.pot at hpot
    simp only [potR_cons] at hpot
    omega
   have hm0 := hok m List.mem_cons_self
   have hok' : ∀ u ∈ ts, TmOk bs top r u := fun u hu => hok u (List.mem_cons_of_mem _ hu)
   have hf0 := htf t List.mem_cons_self
   rw [List.map_cons] at hr
   obtain ⟨a, cap, a1, c1, rfl, ⟨g, off, rfl, hcell⟩, hr1, hsl⟩ := row_pop hr h1
   rw [objsT_cons] at h1
   obtain ⟨mt, mv, mO⟩ := m
   simp only at hm hm0 hcell
   subst hm
   refine ⟨g, off, (ts.map Tm.v).length, cap, a1, c1, mv, rfl, by rw [List.length_map]; exact hlen.1, hcell, hsl, ?_⟩
   cases mt with
   | owed b =>
    obtain ⟨rfl, rfl⟩ := hm0
    refine .inr (.inr ⟨b, rfl, ?_⟩)
    exact owed_step h1 hr1 hts hok' (top_uncons htop rfl) (one_tail hone) hh b
   | mail tp e way =>
    obtain ⟨mb, tv, Zw, rf, rfl, hrf, rfl, hw⟩ := hm0
    refine .inl ⟨mb, rfl, ?_⟩
    have h2 : StoIs qT B w0 w sb bs S (Z ++ ((mb, mailO e tv rf) :: (Zw ++ (objsT ts ++ (OT ++ F))))) c := by simpa [List.append_assoc] using h1
    cases way with
    | nil => exact mail_step0 h2 hw hr1 hts hok' htop hone hrf
    | cons i way =>
     have hi := hf0.2 i List.mem_cons_self
     have hd := List.getElem?_eq_getElem hi
     have hq := hqs _ (List.getElem_mem hi)
     have hwl : way.length ≤ 900000000000 := by
      have h3 := hlen.2
      simp only [Tsk.pot, List.length_cons] at h3
      have h4 : (way.length + 1) * 1 ≤ (way.length + 1) * (dieF e + 2) := Nat.mul_le_mul_left _ (by omega)
      omega
     exact mail_step1 h2 hw hr1 hts hok' htop hone hrf hd hf0.1.exch hf0.1.key (by have := hq.len; omega) hh (hh2 _) hlen.1 hwl
   | dead i W =>
    obtain ⟨db, wv, Zw, pb, hpb, rfl, rfl, hw⟩ := hm0
    refine .inr (.inl ⟨db, rfl, ?_⟩)
    have h2 : StoIs qT B w0 w sb bs S (Z ++ ((db, deadO pb wv) :: (Zw ++ (objsT ts ++ (OT ++ F))))) c := by simpa [List.append_assoc] using h1
    cases W with
    | nil => exact dead_step0 h2 hw hr1 hts hok' htop hone
    | cons x W =>
     have hd := List.getElem?_eq_getElem hf0.2
     have hq := hqs _ (List.getElem_mem hf0.2)
     have hwl : W.length ≤ 900000000000 := by
      have h3 := hlen.2
      simp only [Tsk.pot, sumE_cons] at h3
      have := sumE_len W
      omega
     exact dead_step1 h2 hw hr1 hts hok' htop hone hpb hd (hf0.1 x List.mem_cons_self) hq.opts hl0 (by omega) hc hlen.1 hwl
end
end Go.Proofs.YtknjamfjonapiaaGreatDoor
namespace Go.Proofs.YtknjamfjonapiaaGreatDoor
open Go.RowKit
set_option linter.unusedVariables false
set_option linter.unusedSectionVars false
set_option linter.unusedSimpArgs false
set_option maxRecDepth 100000
section
variable {qT : Bool} {B : Nat} {w0 w w' : World} {sb slb xb pb qb gb c c' i k b mb db : Nat} {bs : List Nat} {S S' : Sto} {L : List Pq} {xv v wv : Value} {d d' : Plq} {R SX SS F F' Z Y Zw OT : List (Nat × Obj)} {o : Opt} {M W : List Ent} {G : List Gst} {T : Nat} {n : List UInt8} {q z bt : Int} {e e0 x : Ent} {g : Gst} {tv : Value} {rf r ok tp r' : Bool} {vs : List Value} {way : List Nat} {top : Option Nat} {ts : List Tm} {TR : List Tsk} {K : Int} {C C' : Cf}
theorem CfIs.grow (h : CfIs qT B w0 w sb bs top C v F c) (hb : Below w.heap.size w w') : CfIs qT B w0 w' sb bs top C v F c := by
 obtain ⟨X, h1, h2⟩ := h.sto
 exact h2 _ _ (h1.grow hb)
theorem CfIs.none (h : CfIs qT B w0 w sb bs top C v F c) (hR : C.R = []) : ∃ a cap, v = .slice a 0 cap := by
 obtain ⟨ts, Z, OT, hts, hr, -⟩ := h
 obtain ⟨a, cap, e⟩ := hr.form
 have : ts = [] := by
  rw [hR] at hts
  exact List.map_eq_nil_iff.1 hts
 subst this
 exact ⟨a, cap, e⟩
def RunJ (qT : Bool) (B : Nat) (w0 : World) (sb : Nat) (bs : List Nat) (top : Option Nat) (Cf1 : Cf) (F : List (Nat × Obj)) (c : Nat) (K : Int) (k : Nat) (n : Nat) (a' : Act) (w' : World) : Prop :=
 ∃ C v, Fr 25 [(0, bpt sb), (4, v)] a' ∧ CfIs qT B w0 w' sb bs top C v F c ∧ RunOk K k C ∧ C.fin = Cf1 ∧ C.pot = n
set_option maxHeartbeats 4000000 in
theorem run_any {t : Nat} {u : Value} (hu : u = .iface t (bpt b)) (h0 : CfIs qT B w0 (w.alloc (.cells #[u] 221)) sb bs top C (.slice (some ⟨w.heap.size, 0, none⟩) 1 1) F c) (ok : RunOk K k C) (hK : K < 4611686018427387904) (hk : k < 90000) (hc : c ≤ 100000) :
  Calls Tryz.prog 80 #[bpt sb, u] w fun e w' => e = noneV ∧ ∃ v, CfIs qT B w0 w' sb bs top C.fin v F c := by
 subst hu
 have start : Hid (RunJ qT B w0 sb bs top C.fin F c K k C.pot { tmps := #[], defers := [] } w → True) := Lib.hid fun _ => trivial
 replace h0 := Lib.hid h0
 generalize hfin : C.fin = Cf1 at *
 clear start
 go_enter Tryz.func80, Tryz.ntmps80
 go_wp2_with fail
 refine wp_scope_ghost 0 (RunJ qT B w0 sb bs top Cf1 F c K k) rfl ?_ ?_
 ·clear h0 ok hfin
  rintro n a' w' ⟨C, v, hfr, hC, ok, hfin, hpn⟩
  obtain ⟨q, rfl, hl'⟩ := hfr.lit
  clear hfr
  simp only [List.mem_cons, List.not_mem_nil, or_false, forall_eq_or_imp, forall_eq] at hl'
  obtain ⟨f0, f4⟩ := hl'
  simp only [List.range, List.range.loop, List.map, f0, f4]
  clear f0 f4
  by_cases hR : C.R = []
  ·obtain ⟨a, cap, rfl⟩ := hC.none hR
   rw [fin_nil hR] at hfin
   subst hfin
   replace hC := Lib.hid hC
   clear ok hpn hR
   go_wp2_with fail
   simp only [Exit.jump]
   exact bodyPost_ret (results_none rfl _ _ _) rfl ⟨rfl, _, hC.out⟩
  ·obtain ⟨g, off, m, cap, a1, c1, u, rfl, hm, hcell, hsl, -⟩ := run_head hC hR ok hK hk hc
   clear hsl
   obtain ⟨g', off', m', cap', a1', c1', u', e', -, hcell', hsl', ways⟩ := run_head (hC.grow (drew_b w')) hR ok hK hk hc
   cases e'
   have hcu : u' = u := by
    have : w'.drew.cell? ⟨g, off + m, none⟩ = some u := hcell
    rw [this] at hcell'
    exact (Option.some.inj hcell').symm
   subst hcu
   have ok2 := ok.step hR
   have hlt := step_pot C ok.ok.few hR
   rw [fin_step ok.ok.few hR] at hfin
   have nxt : Hid (∀ e w2, StepR qT B w0 sb bs top (stepF C) F c e w2 → ∃ a n2 cp, e = .returned (.slice a n2 cp) ∧ ∀ a', Fr 25 [(0, bpt sb), (4, .slice a n2 cp)] a' → ∃ k2, k2 < n ∧ RunJ qT B w0 sb bs top Cf1 F c K k k2 a' w2) := Lib.hid fun e w2 ⟨a, n2, cp, e1, h2⟩ =>
    ⟨a, n2, cp, e1, fun a' hf => ⟨_, by omega, stepF C, _, hf, h2, ok2, hfin, rfl⟩⟩
   clear hC ok ok2 hlt hfin hpn hR hcell'
   have hne : ((m : Int) + 1 == 0) = false := by rw [beq_eq_false_iff_ne]; omega
   have hwr : IntKind.i64.wrap ((m : Int) + 1 - 1) = m ∧ wrap64 ((m : Int) + 1 - 1) = m := ⟨by rw [IntKind.wrap_i64]; omega, by unfold wrap64; omega⟩
   obtain ⟨hw1, hw2⟩ := hwr
   have hm0 : (0 : Int) ≤ m := by omega
   have hm1 : (m : Int) < m + 1 := by omega
   rcases ways with ⟨mb, rfl, cw⟩ | ⟨db, rfl, cw⟩ | ⟨ob, rfl, cw⟩
   all_goals
    (replace cw := Lib.hid cw
     go_upto_region 3 with fail
     go_still_tail 10, (by kernel_rfl)
     change wpList _ _ _ _ _ w'.drew
     go_wp2_with fail
     refine cw.out.mono ?_
     rintro e w2 hs
     obtain ⟨a, n2, cp, rfl, hn⟩ := nxt.out _ _ hs
     replace hn := Lib.hid hn
     clear hs cw nxt hcell hsl'
     go_wp2_with fail
     refine wp_goto ?_
     exact ⟨rfl, hn.out _ ⟨rfl, rfl, fun p hp => by
      simp only [List.mem_cons, List.not_mem_nil, or_false] at hp
      rcases hp with rfl | rfl <;> rfl⟩⟩)
 ·intro H
  go_wp2_with fail
  refine wp_label ?_
  go_step
  go_step
  exact H _ _ _ ⟨C, _, ⟨rfl, rfl, by simp⟩, h0.out, ok, hfin, rfl⟩
end
end Go.Proofs.YtknjamfjonapiaaGreatDoor
namespace Go.Proofs.YtknjamfjonapiaaGreatDoor
open Go.RowKit
set_option linter.unusedVariables false
set_option linter.unusedSectionVars false
set_option linter.unusedSimpArgs false
set_option maxRecDepth 100000
section
variable {qT : Bool} {B : Nat} {w0 w w' : World} {sb slb xb pb qb gb c c' i k b mb db : Nat} {bs : List Nat} {S S' : Sto} {L : List Pq} {xv v wv : Value} {d d' : Plq} {R SX SS F F' Z Y Zw OT : List (Nat × Obj)} {o : Opt} {M W : List Ent} {G : List Gst} {T : Nat} {n : List UInt8} {q z bt : Int} {e e0 x : Ent} {g : Gst} {tv : Value} {rf r ok tp r' : Bool} {vs : List Value} {way : List Nat} {top : Option Nat} {ts : List Tm} {TR : List Tsk} {K : Int} {C C' : Cf}
theorem row_one (u : Value) (b : Nat) : RowIs (.slice (some ⟨b, 0, none⟩) 1 1) [u] [(b, .cells #[u] 221)] :=
 SlIs.of (L := [u]) (Nat.le_refl _) (by unfold maxLen; omega) (by simp) (by simp)
theorem run_start {tm : Tm} (h : StoIs qT B w0 w sb bs S (tm.O ++ (OT ++ F)) c) (hok : TmOk bs top r tm) (htop : TopOk top [tm.t] r OT) :
  CfIs qT B w0 (w.alloc (.cells #[tm.v] 221)) sb bs top ⟨S, [tm.t], r⟩ (.slice (some ⟨w.heap.size, 0, none⟩) 1 1) F c := by
 refine ⟨[tm], [(w.heap.size, .cells #[tm.v] 221)], OT, rfl, row_one _ _, ?_, htop, ?_, ?_⟩
 ·intro m hm
  rw [List.mem_singleton] at hm
  subst hm
  exact hok
 ·show ([tm.t].filter isTop).length ≤ 1
  exact List.length_filter_le _ _
 ·have h1 := h.alloc (.cells #[tm.v] 221)
  simpa [objsT] using h1
theorem run_done (h : CfIs qT B w0 w sb bs none C v F c) : StoIs qT B w0 w sb bs C.S F c := by
 obtain ⟨ts, Z, OT, hts, hr, hok, htop, hone, h1⟩ := h
 exact h1.sub ((List.sublist_append_right OT F).trans ((List.sublist_append_right _ _).trans (List.sublist_append_right Z _)))
theorem run_done_top (h : CfIs qT B w0 w sb bs (some mb) C v F c) (hR : C.R = []) : w.cell? ⟨mb, 11, none⟩ = some (.bool C.r) ∧ StoIs qT B w0 w sb bs C.S F c := by
 obtain ⟨ts, Z, OT, hts, hr, hok, htop, hone, h1⟩ := h
 rw [hR] at htop
 rcases htop with ⟨h2, -⟩ | ⟨-, e, tv, rfl⟩
 ·cases h2
 ·have h2 : StoIs qT B w0 w sb bs C.S ((mb, mailO e tv C.r) :: F) c := h1.sub ((List.sublist_append_right _ _).trans (List.sublist_append_right Z _))
  exact ⟨(h2.mail List.mem_cons_self).2.2.1, h2.sub (List.sublist_cons_self _ _)⟩
set_option maxHeartbeats 2000000 in
theorem st_publish (h : StoIs qT B w0 w sb bs S F c) (e : Ent) (hl0 : -1 ≤ S.last) (hl1 : S.last < 4611686018427387904) (hkey : e.key.length ≤ 1000) (ok : RunOk K k ⟨S.born, [S.mail true e], false⟩) (hK : K < 4611686018427387904) (hk : k < 90000) (hc : c ≤ 100000) :
  Calls Tryz.prog 30 #[bpt sb, enV e] w fun r w' => r = .returned (.tuple #[.bool (S.publish e).2.1, .int .i64 (S.publish e).2.2]) ∧ StoIs qT B w0 w' sb bs (S.publish e).1 F c := by
 have h0 := h.alloc (enO e)
 have c0 := (h0.enAt (k := w.heap.size) (e := e) List.mem_cons_self).1
 have cn : Hid (Calls Tryz.prog 79 #[bpt sb, enV e] (w.alloc (enO e)) fun r w' => ∃ mb a cp, r = .returned (bpt mb) ∧ w'.cell? ⟨mb, 10, none⟩ = some (.slice a (S.tos e.exch e.key).length cp) ∧
   Hid (Calls Tryz.prog 80 #[bpt sb, mailI mb] w' fun r w' => r = noneV ∧ w'.cell? ⟨mb, 11, none⟩ = some (.bool (S.pubC e).r) ∧ StoIs qT B w0 w' sb bs (S.pubC e).S F c)) := Lib.hid ((newmail_any h0 e hl0 hl1 hkey hc).mono (by
  rintro r w' ⟨mb, tv, Z, rfl, hw, h1⟩
  obtain ⟨a, cp, rfl, -⟩ := SlIs.form hw
  refine ⟨mb, a, cp, rfl, (h1.mail List.mem_cons_self).2.1, Lib.hid ?_⟩
  have hs : CfIs qT B w0 (w'.alloc (.cells #[mailI mb] 221)) sb bs (some mb) ⟨S.born, [S.mail true e], false⟩ (.slice (some ⟨w'.heap.size, 0, none⟩) 1 1) ((w.heap.size, enO e) :: F) c :=
   run_start (tm := ⟨S.mail true e, mailI mb, (mb, mailO { e with id := S.last + 1 } (.slice a (S.tos e.exch e.key).length cp) false) :: Z⟩) (OT := []) h1 ⟨mb, _, Z, false, rfl, fun _ => ⟨rfl, rfl⟩, rfl, hw⟩ (.inl ⟨rfl, rfl⟩)
  refine (run_any (b := mb) rfl hs ok hK hk hc).mono ?_
  rintro r w2 ⟨rfl, v, h2⟩
  obtain ⟨k1, h3⟩ := run_done_top h2 (fin_R _ _ ok.ok.few (Nat.le_refl _)).1
  exact ⟨rfl, k1, h3.sub (List.sublist_cons_self _ _)⟩))
 show Calls Tryz.prog 30 #[bpt sb, enV e] w fun r w' => r = .returned (.tuple #[.bool (!(S.pubC e).r), .int .i64 ((S.tos e.exch e.key).length : Nat)]) ∧ StoIs qT B w0 w' sb bs (S.pubC e).S F c
 generalize (S.tos e.exch e.key).length = nt at *
 generalize S.pubC e = C at *
 obtain ⟨y0, y1, y2, y3, y4, y5, y6, y7, y8, y9⟩ := c0
 clear h h0 ok hl0 hl1 hkey hK hk hc
 go_enter Tryz.func30, Tryz.ntmps30
 go_wp2_with fail
 refine cn.out.mono ?_
 rintro r w1 ⟨mb, a, cp, rfl, k1, cr⟩
 clear cn y0 y1 y2 y3 y4 y5 y6 y7 y8 y9
 go_wp2_with fail
 refine cr.out.mono ?_
 rintro r w2 ⟨rfl, k2, h2⟩
 replace h2 := Lib.hid h2
 clear cr k1
 go_wp2_with fail
 go_ret2
 exact ⟨rfl, h2.out⟩
set_option maxHeartbeats 2000000 in
theorem st_dead (h : StoIs qT B w0 w sb bs S F c) (kq : Int) (e : Ent) (hh : HeldOk S) (ok : ∀ i, S.byNum kq = some i → RunOk K k ⟨S, [.dead i [e]], false⟩) (hK : K < 4611686018427387904) (hk : k < 90000) (hc : c ≤ 100000) :
  Calls Tryz.prog 33 #[bpt sb, .int .i64 kq, enV e] w fun r w' => r = noneV ∧ StoIs qT B w0 w' sb bs (S.dead kq e) F c := by
 have h0 := h.alloc (enO e)
 obtain ⟨y0, y1, y2, y3, y4, y5, y6, y7, y8, y9⟩ := (h0.enAt (k := w.heap.size) (e := e) List.mem_cons_self).1
 have cn := Lib.hid (numbered_any h0 kq)
 have seen : Hid (∀ w1, Below (w.alloc (enO e)).heap.size (w.alloc (enO e)) w1 → EnAt w1 w.heap.size e) := Lib.hid fun w1 hb => ((h0.grow hb).enAt (k := w.heap.size) (e := e) List.mem_cons_self).1
 unfold Sto.dead
 cases hn : S.byNum kq with
 | none =>
  rw [hn, ptrQ_none] at cn
  have cd : Hid (∀ w1, Below (w.alloc (enO e)).heap.size (w.alloc (enO e)) w1 → Calls Tryz.prog 24 #[bpt sb, enV e] w1 fun r w' => r = noneV ∧ StoIs qT B w0 w' sb bs (S.letGo e.body) F c) := Lib.hid fun w1 hb =>
   (st_done (h0.grow hb) hh e rfl).mono fun r w' ⟨a, b⟩ => ⟨a, b.sub (List.sublist_cons_self _ _)⟩
  simp only
  clear h h0 hn ok hh y0 y1 y2 y3 y4 y5 y6 y7 y8 y9
  go_enter Tryz.func33, Tryz.ntmps33
  go_wp2_with fail
  refine cn.out.mono ?_
  rintro r w1 ⟨rfl, hb⟩
  obtain ⟨y0, y1, y2, y3, y4, y5, y6, y7, y8, y9⟩ := seen.out _ hb
  replace cd := Lib.hid (cd.out _ hb)
  clear cn seen hb
  go_wp2_with fail
  refine cd.out.mono ?_
  rintro r w2 ⟨rfl, h2⟩
  replace h2 := Lib.hid h2
  clear cd y0 y1 y2 y3 y4 y5 y6 y7 y8 y9
  go_wp2_with fail
  exact bodyPost_ret (results_none rfl _ _ _) rfl ⟨rfl, h2.out⟩
 | some i =>
  obtain ⟨hil, -, -⟩ := List.findIdx?_eq_some_iff_getElem.1 hn
  obtain ⟨pb, hpb⟩ := h.blk (List.getElem?_eq_getElem hil)
  rw [hn, ptrQ_some hpb] at cn
  have hok := ok i hn
  have cr : Hid (∀ w1, Below (w.alloc (enO e)).heap.size (w.alloc (enO e)) w1 → Calls Tryz.prog 80 #[bpt sb, deadI (w1.heap.size + 1)] ((w1.alloc (ensO [e])).alloc (deadO pb (.slice (some ⟨w1.heap.size, 0, none⟩) 1 1))) fun r w' => r = noneV ∧ StoIs qT B w0 w' sb bs (Cf.mk S [.dead i [e]] false).fin.S F c) := Lib.hid fun w1 hb => by
   have h1 := ((h0.grow hb).alloc (ensO [e])).alloc (deadO pb (.slice (some ⟨w1.heap.size, 0, none⟩) 1 1))
   rw [World.size_alloc] at h1
   have hs := run_start (tm := ⟨.dead i [e], deadI (w1.heap.size + 1), (w1.heap.size + 1, deadO pb (.slice (some ⟨w1.heap.size, 0, none⟩) 1 1)) :: [(w1.heap.size, ensO [e])]⟩) (top := none) (r := false) (OT := []) (F := (w.heap.size, enO e) :: F) h1
    ⟨w1.heap.size + 1, _, _, pb, hpb, rfl, rfl, EnsIs.made w1.heap.size [e] (by simp)⟩ ⟨rfl, rfl⟩
   refine (run_any (b := w1.heap.size + 1) rfl hs hok hK hk hc).mono ?_
   rintro r w2 ⟨rfl, v, h2⟩
   exact ⟨rfl, (run_done h2).sub (List.sublist_cons_self _ _)⟩
  simp only
  generalize (Cf.mk S [.dead i [e]] false).fin.S = S2 at *
  clear h h0 hn ok hh hok y0 y1 y2 y3 y4 y5 y6 y7 y8 y9
  go_enter Tryz.func33, Tryz.ntmps33
  go_wp2_with fail
  refine cn.out.mono ?_
  rintro r w1 ⟨rfl, hb⟩
  obtain ⟨y0, y1, y2, y3, y4, y5, y6, y7, y8, y9⟩ := seen.out _ hb
  replace cr := Lib.hid (cr.out _ hb)
  clear cn seen hb
  go_wp2_with fail
  refine cr.out.mono ?_
  rintro r w2 ⟨rfl, h2⟩
  replace h2 := Lib.hid h2
  clear cr y0 y1 y2 y3 y4 y5 y6 y7 y8 y9
  go_wp2_with fail
  exact bodyPost_end (results_none rfl _ _ _) rfl ⟨rfl, h2.out⟩
end
end Go.Proofs.YtknjamfjonapiaaGreatDoor
namespace Go.Proofs.YtknjamfjonapiaaGreatDoor
open Go.RowKit
set_option linter.unusedVariables false
set_option maxRecDepth 100000
abbrev oZ : Opt := ⟨[], [], 0, 0, 0, 0⟩
abbrev kE : Ent := ⟨0, 1, 3, [], [113], 0, 0, 0, false, 0⟩
abbrev kE1 : Ent := ⟨1, 1, 3, [], [113], 0, 0, 0, false, 0⟩
abbrev kG : Gst := ⟨1, 1, [116], 0, false, false⟩
def kS1 : Sto := ((newS 1000).queue [113] oZ 1).1
theorem k1 : (newS 1000).queue [113] oZ 1 = (kS1, 0, 0, 0) := by kernel_rfl
def kS2 : Sto := { kS1 with sl := (kS1.sl.put [97, 98, 99]).2 }
theorem k2 : kS1.sl.put [97, 98, 99] = ((1, 0), kS2.sl) := by kernel_rfl
def kS3 : Sto := (kS2.publish kE).1
theorem k3 : kS2.publish kE = (kS3, true, 1) := by kernel_rfl
def kS4 : Sto := kS3.letGo 1
theorem k4r : kS4.readyOf [113] = [kE1] := by kernel_rfl
def kS5 : Sto := (kS4.take [113] 2).1
theorem k5 : kS4.take [113] 2 = (kS5, kE1, 1, 0, 0) := by kernel_rfl
def kS6 : Sto := (kS5.consume [113] kG).1
theorem k6 : kS5.consume [113] kG = (kS6, 0) := by kernel_rfl
theorem k7 : kS6.take [110, 111, 110, 101] 1 = (kS6, z0E, 0, 0, 404) := by kernel_rfl
def kS8 : Sto := kS6.letGo 1
theorem k8g : kS8.guestsOf [113] = [kG] := by kernel_rfl
theorem k8l : kS8.sl.bs = [] := by kernel_rfl
theorem k8n : kS8.L.map (·.name) = [[113]] := by kernel_rfl
theorem k8h : hasX kS8.P [] = true := by kernel_rfl
theorem k8w : kS8.now = 0 := by kernel_rfl
theorem k2L : kS2.L = [⟨[113], 1, 1, oZ, [], [], 0⟩] := by kernel_rfl
theorem k2R : RunOk 4611686018427387903 60 ⟨kS2.born, [kS2.mail true kE], false⟩ := by
 refine ⟨⟨by decide +kernel, Nat.le_refl _, by decide +kernel, by decide +kernel, ?_, ?_⟩, by decide +kernel, by decide +kernel⟩
 ·intro p hp
  have hp' : p ∈ kS2.L := hp
  rw [k2L, List.mem_singleton] at hp'
  subst hp'
  exact ⟨⟨by decide, by decide⟩, (fun e he => nomatch he), by decide, RkOk.nil⟩
 ·intro t ht
  rw [List.mem_singleton] at ht
  subst ht
  refine ⟨⟨by decide, by decide, by decide⟩, ?_⟩
  have : ∀ i ∈ kS2.tos [] [113], i < kS2.L.length := by decide +kernel
  exact this
theorem k3h : HeldOk kS3 := by
 have : ∀ x ∈ kS3.sl.bs, x.2.1 < 9223372036854775807 := by decide +kernel
 exact this
theorem k6h : HeldOk kS6 := by
 have : ∀ x ∈ kS6.sl.bs, x.2.1 < 9223372036854775807 := by decide +kernel
 exact this
theorem k5G : ∀ p ∈ kS5.L, p.G.length < 60000 := by decide +kernel
theorem k2l0 : -1 ≤ kS2.last := by decide +kernel
theorem k2l1 : kS2.last < 4611686018427387904 := by decide +kernel
end Go.Proofs.YtknjamfjonapiaaGreatDoor
namespace Go.Proofs.YtknjamfjonapiaaGreatDoor
open Go.RowKit
set_option linter.unusedVariables false
set_option linter.unusedSectionVars false
set_option maxRecDepth 100000
set_option maxHeartbeats 8000000 in
theorem known19_true (w : World) (hM : Most w.heap.size w) : Calls Tryz.prog 11 #[] w fun e w' => e = .returned (.bool true) ∧ Below w.heap.size w w' := by
 have c0 := Lib.hid (st_new (qT := false) (fun h => nomatch h) hM (St.start w) 1000)
 clear hM
 go_enter Tryz.func11, Tryz.ntmps11
 go_wp2_with fail
 refine c0.out.mono ?_
 rintro r w1 ⟨sb, rfl, h1⟩
 obtain ⟨slb, Z1, s1, hs1, hb1⟩ := h1.slab
 have c1 := Lib.hid (st_slab s1)
 have cq := Lib.hid (st_queue h1 [113] oZ 1 (by decide) k1)
 clear c0 h1 hs1 hb1 s1
 go_wp2_with fail
 refine c1.out.mono ?_
 rintro r w2 ⟨rfl, rfl⟩
 clear c1
 go_wp2_with fail
 refine cq.out.mono ?_
 rintro r w3 ⟨rfl, bs, h2⟩
 obtain ⟨slb2, Z2, s2, hs2, hb2⟩ := h2.slab
 have c2 := Lib.hid (st_slab s2)
 have cp := Lib.hid (sb_put_to hs2 ⟨#[97, 98, 99]⟩ (by unfold maxLen; decide) (by decide +kernel) k2)
 replace hb2 := Lib.hid (fun w' (h' : SlabIs w.heap.size w w' slb2 kS2.sl (Z2 ++ [])) => hb2 w' kS2.sl [] h')
 clear cq h2 hs2 s2
 go_wp2_with fail
 refine c2.out.mono ?_
 rintro r w4 ⟨rfl, rfl⟩
 clear c2
 go_wp2_with fail
 refine cp.out.mono ?_
 rintro r w5 ⟨rfl, hs3⟩
 have h3 : StoIs false w.heap.size w w5 sb bs kS2 [] 1 := hb2.out _ hs3
 have c3 := Lib.hid (st_publish h3 kE k2l0 k2l1 (by decide) k2R (by decide) (by decide) (by decide))
 rw [k3] at c3
 clear cp hb2 hs3 h3
 go_wp2_with fail
 refine c3.out.mono ?_
 rintro r w6 ⟨rfl, h4⟩
 have c4 := Lib.hid (st_done h4 k3h { z0E with body := 1 } (S' := kS4) rfl)
 clear c3 h4
 go_wp2_with fail
 refine c4.out.mono ?_
 rintro r w7 ⟨rfl, h5⟩
 have c5 := Lib.hid (st_ready h5 [113])
 rw [k4r] at c5
 clear c4 h5
 go_wp2_with fail
 refine c5.out.mono ?_
 rintro r w8 ⟨a, cpp, Y, rfl, hY, h6⟩
 have c6 := Lib.hid (st_take h6 [113] 2 k5)
 clear c5 h6
 go_wp2_with fail
 refine c6.out.mono ?_
 rintro r w9 ⟨rfl, h7⟩
 have h7' := h7.alloc (enO kE1)
 have c7 := Lib.hid (st_consume h7' [113] kG (by decide) k5G k6)
 clear c6 h7 h7'
 go_wp2_with fail
 refine c7.out.mono ?_
 rintro r w10 ⟨rfl, h8⟩
 have c8 := Lib.hid (st_take h8 [110, 111, 110, 101] 1 k7)
 clear c7 h8
 go_wp2_with fail
 refine c8.out.mono ?_
 rintro r w11 ⟨rfl, h9⟩
 have h9' := h9.alloc (enO z0E)
 obtain ⟨y0, y1, y2, y3, y4, y5, y6, y7, y8, y9⟩ := (h9'.enAt (k := w9.heap.size) (e := kE1) (List.mem_cons_of_mem _ List.mem_cons_self)).1
 have c9 := Lib.hid (st_done h9' k6h kE1 (S' := kS8) rfl)
 clear c8 h9 h9'
 go_wp2_with fail
 refine c9.out.mono ?_
 rintro r w12 ⟨rfl, h10⟩
 obtain ⟨g, off, rfl, q0, -⟩ := h10.reads (M := [kE1]) (Y := Y) (F' := [(w11.heap.size, enO z0E), (w9.heap.size, enO kE1)]) hY (perm_by fun a => by simp only [List.count_append, List.count_cons, List.count_nil]; omega) 0 kE1 rfl
 simp only [Nat.zero_mul, Nat.add_zero] at q0
 simp only [List.length_cons, List.length_nil, Nat.zero_add] at hY
 have d1 := Lib.hid (st_guests h10 [113])
 rw [k8g] at d1
 clear c9 h10 hY y0 y1 y2 y3 y4 y5 y6 y7 y8 y9
 go_wp2_with fail
 refine d1.out.mono ?_
 rintro r w13 ⟨a2, cp2, Y2, rfl, -, h11⟩
 obtain ⟨slb3, Z3, s3, hs3, -⟩ := h11.slab
 have d2 := Lib.hid (st_slab s3)
 have d3 := live_is hs3
 rw [k8l] at d3
 replace d3 := Lib.hid d3
 have d4 := Lib.hid (st_names h11)
 clear d1 h11 hs3 s3 q0
 go_wp2_with fail
 refine d2.out.mono ?_
 rintro r w14 ⟨rfl, rfl⟩
 clear d2
 go_wp2_with fail
 refine d3.out.mono ?_
 rintro r w15 ⟨rfl, rfl⟩
 clear d3
 go_wp2_with fail
 refine d4.out.mono ?_
 rintro r w16 ⟨u, Z4, rfl, hu, h12⟩
 obtain ⟨a3, cp3, rfl⟩ := hu.form
 rw [k8n] at *
 clear hu
 have d5 := st_has h12 []
 rw [k8h] at d5
 replace d5 := Lib.hid d5
 clear d4 h12
 go_wp2_with fail
 refine d5.out.mono ?_
 rintro r w17 ⟨rfl, h13⟩
 have d6 := st_now h13
 rw [k8w] at d6
 replace d6 := Lib.hid d6
 have fin := Lib.hid h13.below
 clear d5 h13
 go_wp2_with fail
 refine d6.out.mono ?_
 rintro r w18 ⟨rfl, rfl⟩
 clear d6
 go_wp2_with fail
 go_ret
 exact ⟨rfl, fin.out⟩
end Go.Proofs.YtknjamfjonapiaaGreatDoor
