import Derived.StillTailTactics
import Derived.Test.YtknjamfjonapiaaGreatDoorZ27
import Derived.Test.YtknjamfjonapiaaGreatDoorZ25
namespace Go.Proofs.YtknjamfjonapiaaGreatDoor
open Go.RowKit
set_option linter.unusedVariables false
set_option linter.unusedSectionVars false
set_option linter.unusedSimpArgs false
set_option maxRecDepth 100000
section
variable {qT : Bool} {B : Nat} {w0 w w' : World} {sb slb xb pb qb gb c c' i k b mb db : Nat} {bs : List Nat} {S S' : Sto} {L : List Pq} {xv v wv : Value} {d d' : Plq} {R SX SS F F' Z Y Zw OT : List (Nat × Obj)} {o : Opt} {M W : List Ent} {G : List Gst} {T : Nat} {n : List UInt8} {q z bt : Int} {e e0 x : Ent} {g : Gst} {tv : Value} {rf r ok tp r' : Bool} {vs : List Value} {way : List Nat} {top : Option Nat} {ts : List Tm} {TR : List Tsk} {K : Int} {C C' : Cf}
theorem CfIs.grow (h : CfIs qT B w0 w sb bs top C v F c) (hb : Below w.heap.size w w') : CfIs qT B w0 w' sb bs top C v F c := by
 obtain ⟨X, h1, h2⟩ := h.sto
 exact h2 _ _ (h1.grow hb)
theorem CfIs.none (h : CfIs qT B w0 w sb bs top C v F c) (hR : C.R = []) : ∃ a cap, v = .slice a 0 cap := by
 obtain ⟨ts, Z, OT, hts, hr, -⟩ := h
 obtain ⟨a, cap, e⟩ := hr.form
 have : ts = [] := by
  rw [hR] at hts
  exact List.map_eq_nil_iff.1 hts
 subst this
 exact ⟨a, cap, e⟩
theorem step_P (C : Cf) : (stepF C).S.P = C.S.P := by
 obtain ⟨S, R, r⟩ := C
 have hg : ∀ (S : Sto) b, (S.letGo b).P = S.P := fun S b => by unfold Sto.letGo; split <;> rfl
 have hh : ∀ (S : Sto) b, (S.hold b).P = S.P := fun S b => by unfold Sto.hold; split <;> rfl
 cases R with
 | nil => rfl
 | cons t R =>
  cases t with
  | owed b => exact hg S b
  | mail top e way =>
   cases way with
   | nil => rfl
   | cons i way =>
    cases hp : S.L[i]? with
    | none => simp only [stepF, hp]
    | some p =>
     simp only [stepF, hp]
     split
     ·exact hh S e.body
     ·rw [hg]; exact hh S e.body
  | dead i W =>
   cases W with
   | nil => rfl
   | cons x W =>
    cases hy : (S.L[i]?).bind fun p => S.letter p.o x with
    | none => simp only [stepF, hy]
    | some y => simp only [stepF, hy]; rfl
def RunJ (qT : Bool) (B : Nat) (w0 : World) (sb : Nat) (bs : List Nat) (top : Option Nat) (Cf1 : Cf) (F : List (Nat × Obj)) (c : Nat) (K : Int) (k : Nat) (n : Nat) (a' : Act) (w' : World) : Prop :=
 ∃ C v, Fr 25 [(0, bpt sb), (4, v)] a' ∧ CfIs qT B w0 w' sb bs top C v F c ∧ RunOk K k C ∧ C.fin = Cf1 ∧ C.pot = n ∧ RouC B w0 C.S.P C.S.A c
set_option maxHeartbeats 4000000 in
theorem run_any {t : Nat} {u : Value} (hu : u = .iface t (bpt b)) (h0 : CfIs qT B w0 (w.alloc (.cells #[u] 221)) sb bs top C (.slice (some ⟨w.heap.size, 0, none⟩) 1 1) F c) (ok : RunOk K k C) (hK : K < 4611686018427387904) (hk : k < 90000) (hR2 : RouC B w0 C.S.P C.S.A c) :
  Calls Tryz.prog 80 #[bpt sb, u] w fun e w' => e = noneV ∧ ∃ v, CfIs qT B w0 w' sb bs top C.fin v F c := by
 subst hu
 have start : Hid (RunJ qT B w0 sb bs top C.fin F c K k C.pot { tmps := #[], defers := [] } w → True) := Lib.hid fun _ => trivial
 replace h0 := Lib.hid h0
 generalize hfin : C.fin = Cf1 at *
 clear start
 go_enter Tryz.func80, Tryz.ntmps80
 go_wp2_with fail
 refine wp_scope_ghost 0 (RunJ qT B w0 sb bs top Cf1 F c K k) rfl ?_ ?_
 ·clear h0 ok hfin hR2
  rintro n a' w' ⟨C, v, hfr, hC, ok, hfin, hpn, hR2⟩
  obtain ⟨q, rfl, hl'⟩ := hfr.lit
  clear hfr
  simp only [List.mem_cons, List.not_mem_nil, or_false, forall_eq_or_imp, forall_eq] at hl'
  obtain ⟨f0, f4⟩ := hl'
  simp only [List.range, List.range.loop, List.map, f0, f4]
  clear f0 f4
  by_cases hR : C.R = []
  ·obtain ⟨a, cap, rfl⟩ := hC.none hR
   rw [fin_nil hR] at hfin
   subst hfin
   replace hC := Lib.hid hC
   clear ok hpn hR hR2
   go_wp2_with fail
   simp only [Exit.jump]
   exact bodyPost_ret (results_none rfl _ _ _) rfl ⟨rfl, _, hC.out⟩
  ·obtain ⟨g, off, m, cap, a1, c1, u, rfl, hm, hcell, hsl, -⟩ := run_head hC hR ok hK hk hR2
   clear hsl
   obtain ⟨g', off', m', cap', a1', c1', u', e', -, hcell', hsl', ways⟩ := run_head (hC.grow (drew_b w')) hR ok hK hk hR2
   cases e'
   have hcu : u' = u := by
    have : w'.drew.cell? ⟨g, off + m, none⟩ = some u := hcell
    rw [this] at hcell'
    exact (Option.some.inj hcell').symm
   subst hcu
   have ok2 := ok.step hR
   have hR3 : RouC B w0 (stepF C).S.P (stepF C).S.A c := by rw [step_P, step_A]; exact hR2
   have hlt := step_pot C ok.ok.few hR
   rw [fin_step ok.ok.few hR] at hfin
   have nxt : Hid (∀ e w2, StepR qT B w0 sb bs top (stepF C) F c e w2 → ∃ a n2 cp, e = .returned (.slice a n2 cp) ∧ ∀ a', Fr 25 [(0, bpt sb), (4, .slice a n2 cp)] a' → ∃ k2, k2 < n ∧ RunJ qT B w0 sb bs top Cf1 F c K k k2 a' w2) := Lib.hid fun e w2 ⟨a, n2, cp, e1, h2⟩ =>
    ⟨a, n2, cp, e1, fun a' hf => ⟨_, by omega, stepF C, _, hf, h2, ok2, hfin, rfl, hR3⟩⟩
   clear hC ok ok2 hlt hfin hpn hR hcell' hR2 hR3
   have hne : ((m : Int) + 1 == 0) = false := by rw [beq_eq_false_iff_ne]; omega
   have hwr : IntKind.i64.wrap ((m : Int) + 1 - 1) = m ∧ wrap64 ((m : Int) + 1 - 1) = m := ⟨by rw [IntKind.wrap_i64]; omega, by unfold wrap64; omega⟩
   obtain ⟨hw1, hw2⟩ := hwr
   have hm0 : (0 : Int) ≤ m := by omega
   have hm1 : (m : Int) < m + 1 := by omega
   rcases ways with ⟨mb, rfl, cw⟩ | ⟨db, rfl, cw⟩ | ⟨ob, rfl, cw⟩
   all_goals
    (replace cw := Lib.hid cw
     go_upto_region 3 with fail
     go_still_tail 10, (by kernel_rfl)
     change wpList _ _ _ _ _ w'.drew
     go_wp2_with fail
     refine cw.out.mono ?_
     rintro e w2 hs
     obtain ⟨a, n2, cp, rfl, hn⟩ := nxt.out _ _ hs
     replace hn := Lib.hid hn
     clear hs cw nxt hcell hsl'
     go_wp2_with fail
     refine wp_goto ?_
     exact ⟨rfl, hn.out _ ⟨rfl, rfl, fun p hp => by
      simp only [List.mem_cons, List.not_mem_nil, or_false] at hp
      rcases hp with rfl | rfl <;> rfl⟩⟩)
 ·intro H
  go_wp2_with fail
  refine wp_label ?_
  go_step
  go_step
  exact H _ _ _ ⟨C, _, ⟨rfl, rfl, by simp⟩, h0.out, ok, hfin, rfl, hR2⟩
end
section
variable {qT : Bool} {B : Nat} {w0 w w' : World} {sb slb xb pb qb gb c c' i k b mb db : Nat} {bs : List Nat} {S S' : Sto} {L : List Pq} {xv v wv : Value} {d d' : Plq} {R SX SS F F' Z Y Zw OT : List (Nat × Obj)} {o : Opt} {M W : List Ent} {G : List Gst} {T : Nat} {n : List UInt8} {q z bt : Int} {e e0 x : Ent} {g : Gst} {tv : Value} {rf r ok tp r' : Bool} {vs : List Value} {way : List Nat} {top : Option Nat} {ts : List Tm} {TR : List Tsk} {K : Int} {C C' : Cf}
theorem row_one (u : Value) (b : Nat) : RowIs (.slice (some ⟨b, 0, none⟩) 1 1) [u] [(b, .cells #[u] 221)] :=
 SlIs.of (L := [u]) (Nat.le_refl _) (by unfold maxLen; omega) (by simp) (by simp)
theorem run_start {tm : Tm} (h : StoIs qT B w0 w sb bs S (tm.O ++ (OT ++ F)) c) (hok : TmOk bs top r tm) (htop : TopOk top [tm.t] r OT) :
  CfIs qT B w0 (w.alloc (.cells #[tm.v] 221)) sb bs top ⟨S, [tm.t], r⟩ (.slice (some ⟨w.heap.size, 0, none⟩) 1 1) F c := by
 refine ⟨[tm], [(w.heap.size, .cells #[tm.v] 221)], OT, rfl, row_one _ _, ?_, htop, ?_, ?_⟩
 ·intro m hm
  rw [List.mem_singleton] at hm
  subst hm
  exact hok
 ·show ([tm.t].filter isTop).length ≤ 1
  exact List.length_filter_le _ _
 ·have h1 := h.alloc (.cells #[tm.v] 221)
  simpa [objsT] using h1
theorem run_done_top (h : CfIs qT B w0 w sb bs (some mb) C v F c) (hR : C.R = []) : w.cell? ⟨mb, 11, none⟩ = some (.bool C.r) ∧ StoIs qT B w0 w sb bs C.S F c := by
 obtain ⟨ts, Z, OT, hts, hr, hok, htop, hone, h1⟩ := h
 rw [hR] at htop
 rcases htop with ⟨h2, -⟩ | ⟨-, e, tv, rfl⟩
 ·cases h2
 ·have h2 : StoIs qT B w0 w sb bs C.S ((mb, mailO e tv C.r) :: F) c := h1.sub ((List.sublist_append_right _ _).trans (List.sublist_append_right Z _))
  exact ⟨(h2.mail List.mem_cons_self).2.2.1, h2.sub (List.sublist_cons_self _ _)⟩
set_option maxHeartbeats 2000000 in
theorem st_publish_by (h : StoIs qT B w0 w sb bs S F c) (e : Ent) (hl0 : -1 ≤ S.last) (hl1 : S.last < 4611686018427387904) (hkey : e.key.length ≤ 1000) (ok : RunOk K k ⟨S.born, [S.mail true e], false⟩) (hK : K < 4611686018427387904) (hk : k < 90000) (hR : RouC B w0 S.P S.A c) :
  Calls Tryz.prog 30 #[bpt sb, enV e] w fun r w' => r = .returned (.tuple #[.bool (S.publish e).2.1, .int .i64 (S.publish e).2.2]) ∧ StoIs qT B w0 w' sb bs (S.publish e).1 F c := by
 have h0 := h.alloc (enO e)
 have c0 := (h0.enAt (k := w.heap.size) (e := e) List.mem_cons_self).1
 have cn : Hid (Calls Tryz.prog 79 #[bpt sb, enV e] (w.alloc (enO e)) fun r w' => ∃ mb a cp, r = .returned (bpt mb) ∧ w'.cell? ⟨mb, 10, none⟩ = some (.slice a (S.tos e.exch e.key).length cp) ∧
   Hid (Calls Tryz.prog 80 #[bpt sb, mailI mb] w' fun r w' => r = noneV ∧ w'.cell? ⟨mb, 11, none⟩ = some (.bool (S.pubC e).r) ∧ StoIs qT B w0 w' sb bs (S.pubC e).S F c)) := Lib.hid ((newmail_any h0 e hl0 hl1 hkey hR).mono (by
  rintro r w' ⟨mb, tv, Z, rfl, hw, h1⟩
  obtain ⟨a, cp, rfl, -⟩ := SlIs.form hw
  refine ⟨mb, a, cp, rfl, (h1.mail List.mem_cons_self).2.1, Lib.hid ?_⟩
  have hs : CfIs qT B w0 (w'.alloc (.cells #[mailI mb] 221)) sb bs (some mb) ⟨S.born, [S.mail true e], false⟩ (.slice (some ⟨w'.heap.size, 0, none⟩) 1 1) ((w.heap.size, enO e) :: F) c :=
   run_start (tm := ⟨S.mail true e, mailI mb, (mb, mailO { e with id := S.last + 1 } (.slice a (S.tos e.exch e.key).length cp) false) :: Z⟩) (OT := []) h1 ⟨mb, _, Z, false, rfl, fun _ => ⟨rfl, rfl⟩, rfl, hw⟩ (.inl ⟨rfl, rfl⟩)
  refine (run_any (b := mb) rfl hs ok hK hk hR).mono ?_
  rintro r w2 ⟨rfl, v, h2⟩
  obtain ⟨k1, h3⟩ := run_done_top h2 (fin_R _ _ ok.ok.few (Nat.le_refl _)).1
  exact ⟨rfl, k1, h3.sub (List.sublist_cons_self _ _)⟩))
 show Calls Tryz.prog 30 #[bpt sb, enV e] w fun r w' => r = .returned (.tuple #[.bool (!(S.pubC e).r), .int .i64 ((S.tos e.exch e.key).length : Nat)]) ∧ StoIs qT B w0 w' sb bs (S.pubC e).S F c
 generalize (S.tos e.exch e.key).length = nt at *
 generalize S.pubC e = C at *
 obtain ⟨y0, y1, y2, y3, y4, y5, y6, y7, y8, y9⟩ := c0
 clear h h0 ok hl0 hl1 hkey hK hk hR
 go_enter Tryz.func30, Tryz.ntmps30
 go_wp2_with fail
 refine cn.out.mono ?_
 rintro r w1 ⟨mb, a, cp, rfl, k1, cr⟩
 clear cn y0 y1 y2 y3 y4 y5 y6 y7 y8 y9
 go_wp2_with fail
 refine cr.out.mono ?_
 rintro r w2 ⟨rfl, k2, h2⟩
 replace h2 := Lib.hid h2
 clear cr k1
 go_wp2_with fail
 go_ret2
 exact ⟨rfl, h2.out⟩
theorem rouC_any {P : List Plc} {A : List Bnd} (hc : c ≤ 100000) : RouC B w0 P A c := fun _ _ _ _ _ _ _ h hk e => rou_is h hk hc e
theorem st_publish (h : StoIs qT B w0 w sb bs S F c) (e : Ent) (hl0 : -1 ≤ S.last) (hl1 : S.last < 4611686018427387904) (hkey : e.key.length ≤ 1000) (ok : RunOk K k ⟨S.born, [S.mail true e], false⟩) (hK : K < 4611686018427387904) (hk : k < 90000) (hc : c ≤ 100000) :
  Calls Tryz.prog 30 #[bpt sb, enV e] w fun r w' => r = .returned (.tuple #[.bool (S.publish e).2.1, .int .i64 (S.publish e).2.2]) ∧ StoIs qT B w0 w' sb bs (S.publish e).1 F c := st_publish_by h e hl0 hl1 hkey ok hK hk (rouC_any hc)
end
abbrev oZ : Opt := ⟨[], [], 0, 0, 0, 0⟩
abbrev kE : Ent := ⟨0, 1, 3, [], [113], 0, 0, 0, false, 0⟩
abbrev kE1 : Ent := ⟨1, 1, 3, [], [113], 0, 0, 0, false, 0⟩
abbrev kG : Gst := ⟨1, 1, [116], 0, false, false⟩
def kS1 : Sto := ((newS 1000).queue [113] oZ 1).1
theorem k1 : (newS 1000).queue [113] oZ 1 = (kS1, 0, 0, 0) := by kernel_rfl
def kS2 : Sto := { kS1 with sl := (kS1.sl.put [97, 98, 99]).2 }
theorem k2 : kS1.sl.put [97, 98, 99] = ((1, 0), kS2.sl) := by kernel_rfl
def kS3 : Sto := (kS2.publish kE).1
theorem k3 : kS2.publish kE = (kS3, true, 1) := by kernel_rfl
def kS4 : Sto := kS3.letGo 1
theorem k4r : kS4.readyOf [113] = [kE1] := by kernel_rfl
def kS5 : Sto := (kS4.take [113] 2).1
theorem k5 : kS4.take [113] 2 = (kS5, kE1, 1, 0, 0) := by kernel_rfl
def kS6 : Sto := (kS5.consume [113] kG).1
theorem k6 : kS5.consume [113] kG = (kS6, 0) := by kernel_rfl
theorem k7 : kS6.take [110, 111, 110, 101] 1 = (kS6, z0E, 0, 0, 404) := by kernel_rfl
def kS8 : Sto := kS6.letGo 1
theorem k8g : kS8.guestsOf [113] = [kG] := by kernel_rfl
theorem k8l : kS8.sl.bs = [] := by kernel_rfl
theorem k8n : kS8.L.map (·.name) = [[113]] := by kernel_rfl
theorem k8h : hasX kS8.P [] = true := by kernel_rfl
theorem k8w : kS8.now = 0 := by kernel_rfl
theorem k2L : kS2.L = [⟨[113], 1, 1, oZ, [], [], 0⟩] := by kernel_rfl
theorem k2R : RunOk 4611686018427387903 60 ⟨kS2.born, [kS2.mail true kE], false⟩ := by
 refine ⟨⟨by decide +kernel, Nat.le_refl _, by decide +kernel, by decide +kernel, ?_, ?_⟩, by decide +kernel, by decide +kernel⟩
 ·intro p hp
  have hp' : p ∈ kS2.L := hp
  rw [k2L, List.mem_singleton] at hp'
  subst hp'
  exact ⟨⟨by decide, by decide⟩, (fun e he => nomatch he), by decide, RkOk.nil⟩
 ·intro t ht
  rw [List.mem_singleton] at ht
  subst ht
  refine ⟨⟨by decide, by decide, by decide⟩, ?_⟩
  have : ∀ i ∈ kS2.tos [] [113], i < kS2.L.length := by decide +kernel
  exact this
theorem k3h : HeldOk kS3 := by
 have : ∀ x ∈ kS3.sl.bs, x.2.1 < 9223372036854775807 := by decide +kernel
 exact this
theorem k6h : HeldOk kS6 := by
 have : ∀ x ∈ kS6.sl.bs, x.2.1 < 9223372036854775807 := by decide +kernel
 exact this
theorem k5G : ∀ p ∈ kS5.L, p.G.length < 60000 := by decide +kernel
theorem k2l0 : -1 ≤ kS2.last := by decide +kernel
theorem k2l1 : kS2.last < 4611686018427387904 := by decide +kernel
set_option maxHeartbeats 8000000 in
theorem known19_true (w : World) (hM : Most w.heap.size w) : Calls Tryz.prog 11 #[] w fun e w' => e = .returned (.bool true) ∧ Below w.heap.size w w' := by
 have c0 := Lib.hid (st_new (qT := false) (fun h => nomatch h) hM (St.start w) 1000)
 clear hM
 go_enter Tryz.func11, Tryz.ntmps11
 go_wp2_with fail
 refine c0.out.mono ?_
 rintro r w1 ⟨sb, rfl, h1⟩
 obtain ⟨slb, Z1, s1, hs1, hb1⟩ := h1.slab
 have c1 := Lib.hid (st_slab s1)
 have cq := Lib.hid (st_queue h1 [113] oZ 1 (by decide) k1)
 clear c0 h1 hs1 hb1 s1
 go_wp2_with fail
 refine c1.out.mono ?_
 rintro r w2 ⟨rfl, rfl⟩
 clear c1
 go_wp2_with fail
 refine cq.out.mono ?_
 rintro r w3 ⟨rfl, bs, h2⟩
 obtain ⟨slb2, Z2, s2, hs2, hb2⟩ := h2.slab
 have c2 := Lib.hid (st_slab s2)
 have cp := Lib.hid (sb_put_to hs2 ⟨#[97, 98, 99]⟩ (by unfold maxLen; decide) (by decide +kernel) k2)
 replace hb2 := Lib.hid (fun w' (h' : SlabIs w.heap.size w w' slb2 kS2.sl (Z2 ++ [])) => hb2 w' kS2.sl [] h')
 clear cq h2 hs2 s2
 go_wp2_with fail
 refine c2.out.mono ?_
 rintro r w4 ⟨rfl, rfl⟩
 clear c2
 go_wp2_with fail
 refine cp.out.mono ?_
 rintro r w5 ⟨rfl, hs3⟩
 have h3 : StoIs false w.heap.size w w5 sb bs kS2 [] 1 := hb2.out _ hs3
 have c3 := Lib.hid (st_publish h3 kE k2l0 k2l1 (by decide) k2R (by decide) (by decide) (by decide))
 rw [k3] at c3
 clear cp hb2 hs3 h3
 go_wp2_with fail
 refine c3.out.mono ?_
 rintro r w6 ⟨rfl, h4⟩
 have c4 := Lib.hid (st_done h4 k3h { z0E with body := 1 } (S' := kS4) rfl)
 clear c3 h4
 go_wp2_with fail
 refine c4.out.mono ?_
 rintro r w7 ⟨rfl, h5⟩
 have c5 := Lib.hid (st_ready h5 [113])
 rw [k4r] at c5
 clear c4 h5
 go_wp2_with fail
 refine c5.out.mono ?_
 rintro r w8 ⟨a, cpp, Y, rfl, hY, h6⟩
 have c6 := Lib.hid (st_take h6 [113] 2 k5)
 clear c5 h6
 go_wp2_with fail
 refine c6.out.mono ?_
 rintro r w9 ⟨rfl, h7⟩
 have h7' := h7.alloc (enO kE1)
 have c7 := Lib.hid (st_consume h7' [113] kG (by decide) k5G k6)
 clear c6 h7 h7'
 go_wp2_with fail
 refine c7.out.mono ?_
 rintro r w10 ⟨rfl, h8⟩
 have c8 := Lib.hid (st_take h8 [110, 111, 110, 101] 1 k7)
 clear c7 h8
 go_wp2_with fail
 refine c8.out.mono ?_
 rintro r w11 ⟨rfl, h9⟩
 have h9' := h9.alloc (enO z0E)
 obtain ⟨y0, y1, y2, y3, y4, y5, y6, y7, y8, y9⟩ := (h9'.enAt (k := w9.heap.size) (e := kE1) (List.mem_cons_of_mem _ List.mem_cons_self)).1
 have c9 := Lib.hid (st_done h9' k6h kE1 (S' := kS8) rfl)
 clear c8 h9 h9'
 go_wp2_with fail
 refine c9.out.mono ?_
 rintro r w12 ⟨rfl, h10⟩
 obtain ⟨g, off, rfl, q0, -⟩ := h10.reads (M := [kE1]) (Y := Y) (F' := [(w11.heap.size, enO z0E), (w9.heap.size, enO kE1)]) hY (perm_by fun a => by simp only [List.count_append, List.count_cons, List.count_nil]; omega) 0 kE1 rfl
 simp only [Nat.zero_mul, Nat.add_zero] at q0
 simp only [List.length_cons, List.length_nil, Nat.zero_add] at hY
 have d1 := Lib.hid (st_guests h10 [113])
 rw [k8g] at d1
 clear c9 h10 hY y0 y1 y2 y3 y4 y5 y6 y7 y8 y9
 go_wp2_with fail
 refine d1.out.mono ?_
 rintro r w13 ⟨a2, cp2, Y2, rfl, -, h11⟩
 obtain ⟨slb3, Z3, s3, hs3, -⟩ := h11.slab
 have d2 := Lib.hid (st_slab s3)
 have d3 := live_is hs3
 rw [k8l] at d3
 replace d3 := Lib.hid d3
 have d4 := Lib.hid (st_names h11)
 clear d1 h11 hs3 s3 q0
 go_wp2_with fail
 refine d2.out.mono ?_
 rintro r w14 ⟨rfl, rfl⟩
 clear d2
 go_wp2_with fail
 refine d3.out.mono ?_
 rintro r w15 ⟨rfl, rfl⟩
 clear d3
 go_wp2_with fail
 refine d4.out.mono ?_
 rintro r w16 ⟨u, Z4, rfl, hu, h12⟩
 obtain ⟨a3, cp3, rfl⟩ := hu.form
 rw [k8n] at *
 clear hu
 have d5 := st_has h12 []
 rw [k8h] at d5
 replace d5 := Lib.hid d5
 clear d4 h12
 go_wp2_with fail
 refine d5.out.mono ?_
 rintro r w17 ⟨rfl, h13⟩
 have d6 := st_now h13
 rw [k8w] at d6
 replace d6 := Lib.hid d6
 have fin := Lib.hid h13.below
 clear d5 h13
 go_wp2_with fail
 refine d6.out.mono ?_
 rintro r w18 ⟨rfl, rfl⟩
 clear d6
 go_wp2_with fail
 go_ret
 exact ⟨rfl, fin.out⟩
section
variable {qT : Bool} {B : Nat} {w0 w w' : World} {sb slb xb pb qb gb c c' i k b : Nat} {bs : List Nat} {S S' : Sto} {L : List Pq} {xv v : Value} {d d' : Plq} {F F' Z : List (Nat × Obj)} {o : Opt} {n : List UInt8} {q z bt : Int} {e e0 : Ent} {a : Int}
set_option maxHeartbeats 2000000 in
theorem st_purge (h : StoIs qT B w0 w sb bs S F c) (n : List UInt8) (q : Int) (hM : ∀ p ∈ S.L, p.M.length ≤ 100000) (hh : HeldOk S) (hS : S.purge n q = (S', a, z)) :
  Calls Tryz.prog 34 #[bpt sb, tx n, .int .i64 q] w fun e w' => e = .returned (.tuple #[.int .i64 a, .int .i64 z]) ∧ StoIs qT B w0 w' sb bs S' F c := by
 unfold Sto.purge at hS
 rcases open_ways S n q with ⟨y, ho, hy⟩ | ⟨i, d, ho, e1, hi, e2, -⟩
 ·rw [ho] at hS
  obtain ⟨rfl, e2⟩ := Prod.mk.inj hS
  obtain ⟨rfl, rfl⟩ := Prod.mk.inj e2
  have co := Lib.hid (st_open_no h ho)
  have hyb : (y != 0) = true := by rcases hy with rfl | rfl <;> rfl
  clear h ho hy hS hM hh e2
  go_enter Tryz.func34, Tryz.ntmps34
  go_wp2_with fail
  refine co.out.mono ?_
  rintro e w1 ⟨rfl, hx⟩
  replace hx := Lib.hid hx
  clear co
  go_wp2_with fail
  go_ret2
  exact ⟨rfl, hx.out⟩
 ·rw [ho] at hS
  simp only at hS
  obtain ⟨rfl, e3⟩ := Prod.mk.inj hS
  obtain ⟨rfl, rfl⟩ := Prod.mk.inj e3
  obtain ⟨pb, hpb⟩ := h.blk hi
  have co := Lib.hid (st_open_yes h ho hpb)
  have ce : Hid (∀ w1, StoIs qT B w0 w1 sb bs S F c → Calls Tryz.prog 85 #[bpt sb, bpt pb] w1 fun e w' => e = .returned (.int .i64 d.M.length) ∧ StoIs qT B w0 w' sb bs (S.emptied i d) F c) := Lib.hid fun w1 h' => st_empty h' hi hpb (hM d (List.mem_of_getElem? hi)) hh
  generalize d.M.length = m at *
  generalize S.emptied i d = S2 at *
  clear h ho hS hM hh e1 e2 e3 hi hpb
  go_enter Tryz.func34, Tryz.ntmps34
  go_wp2_with fail
  refine co.out.mono ?_
  rintro e w1 ⟨rfl, hx⟩
  replace ce := Lib.hid (ce.out _ hx)
  clear co hx
  go_wp2_with fail
  refine ce.out.mono ?_
  rintro e w2 ⟨rfl, hx⟩
  replace hx := Lib.hid hx
  clear ce
  go_wp2_with fail
  go_ret2
  exact ⟨rfl, hx.out⟩
end
section
variable {qT : Bool} {B : Nat} {w0 w w' : World} {sb slb xb pb qb gb c c' i k b : Nat} {bs : List Nat} {S S' : Sto} {L : List Pq} {xv v : Value} {d d' : Plq} {F F' Z : List (Nat × Obj)} {o : Opt} {n : List UInt8} {q z bt : Int} {e e0 : Ent} {a : Int}
def DelR (qT : Bool) (B : Nat) (w0 : World) (sb : Nat) (S : Sto) (F : List (Nat × Obj)) (c : Nat) (a z : Int) (e : Ending) (w' : World) : Prop := e = .returned (.tuple #[.int .i64 a, .int .i64 z]) ∧ ∃ bs', StoIs qT B w0 w' sb bs' S F c
set_option maxHeartbeats 4000000 in
theorem st_delete (h : StoIs qT B w0 w sb bs S F c) (n : List UInt8) (bt q : Int) (hM : ∀ p ∈ S.L, p.M.length ≤ 100000) (hh : HeldOk S) (hc : c ≤ 100000) (hS : S.delete n bt q = (S', a, z)) :
  Calls Tryz.prog 25 #[bpt sb, tx n, .int .i64 bt, .int .i64 q] w (DelR qT B w0 sb S' F c a z) := by
 unfold Sto.delete at hS
 rcases open_ways S n q with ⟨y, ho, hy⟩ | ⟨i, d, ho, e1, hi, e2, -⟩
 ·rw [ho] at hS
  obtain ⟨rfl, e2⟩ := Prod.mk.inj hS
  obtain ⟨rfl, rfl⟩ := Prod.mk.inj e2
  have co := Lib.hid (st_open_no h ho)
  have hyb : (y != 0) = true := by rcases hy with rfl | rfl <;> rfl
  clear h ho hy hS hM hh e2
  go_enter Tryz.func25, Tryz.ntmps25
  go_wp2_with fail
  refine co.out.mono ?_
  rintro e w1 ⟨rfl, hx⟩
  replace hx := Lib.hid hx
  clear co
  go_wp2_with fail
  go_ret2
  exact ⟨rfl, _, hx.out⟩
 rw [ho] at hS
 simp only at hS
 obtain ⟨pb, hpb⟩ := h.blk hi
 have co := Lib.hid (st_open_yes h ho hpb)
 have cg : Hid (∀ w1, StoIs qT B w0 w1 sb bs S F c → ∃ gb, w1.cell? ⟨pb, 4, none⟩ = some (gup gb) ∧ Calls Tryz.prog 72 #[gup gb] w1 fun e w' => e = .returned (.int .i64 d.G.length) ∧ StoIs qT B w0 w' sb bs S F c) := Lib.hid fun w1 h' => by
  obtain ⟨qb, gb, hs⟩ := h'.seeP hpb hi
  exact ⟨gb, hs.c4, (pl_glen h' hi hpb hs.c4 rfl).mono fun r w' ⟨x, _, y⟩ => ⟨x, y⟩⟩
 have cm : Hid (∀ w1, StoIs qT B w0 w1 sb bs S F c → ∃ qb, w1.cell? ⟨pb, 3, none⟩ = some (rptr qb) ∧ Calls Tryz.prog 73 #[rptr qb] w1 fun e w' => e = .returned (.int .i64 d.M.length) ∧ StoIs qT B w0 w' sb bs S F c) := Lib.hid fun w1 h' => by
  obtain ⟨qb, gb, hs⟩ := h'.seeP hpb hi
  exact ⟨qb, hs.c3, (pl_len h' hi hpb hs.c3).mono fun r w' ⟨x, _, y⟩ => ⟨x, y⟩⟩
 have cr : Hid (∀ w1, StoIs qT B w0 w1 sb bs S F c → Calls Tryz.prog 74 #[bpt sb, bpt pb] w1 fun e w' => e = .returned (.int .i64 d.M.length) ∧ StoIs qT B w0 w' sb (bs.eraseIdx i) (S.removed i d) F c) := Lib.hid fun w1 h' => st_remove h' hi hpb (hM d (List.mem_of_getElem? hi)) hh hc
 generalize S.removed i d = S2 at *
 generalize d.G.length = g at *
 generalize d.M.length = m at *
 clear h hM hh hc e1 e2 hi hpb ho
 have g0 : (0 : Int) ≤ g := by omega
 have m0 : (0 : Int) ≤ m := by omega
 cases hu : unuB bt with
 | true =>
  by_cases hg : g = 0
  ·subst hg
   cases ha : autoB bt with
   | true =>
    by_cases hm : m = 0
    ·subst hm
     have hS2 := hS
     rw [if_neg (by simp_all)] at hS2
     obtain ⟨rfl, e3⟩ := Prod.mk.inj hS2
     obtain ⟨rfl, rfl⟩ := Prod.mk.inj e3
     unfold unuB at hu
     unfold autoB at ha
     clear hS hS2 e3
     go_enter Tryz.func25, Tryz.ntmps25
     go_wp2_with fail
     refine co.out.mono ?_
     rintro e w1 ⟨rfl, hx⟩
     clear co
     obtain ⟨gb, k4, c4⟩ := cg.out _ hx
     replace c4 := Lib.hid c4
     clear cg hx
     go_wp2_with fail
     refine c4.out.mono ?_
     rintro e w2 ⟨rfl, hx⟩
     clear c4 k4
     obtain ⟨qb, k3, c3⟩ := cm.out _ hx
     replace c3 := Lib.hid c3
     clear cm hx
     go_wp2_with fail
     refine c3.out.mono ?_
     rintro e w3 ⟨rfl, hx⟩
     clear c3 k3
     replace cr := Lib.hid (cr.out _ hx)
     clear hx
     go_wp2_with fail
     refine cr.out.mono ?_
     rintro e w4 ⟨rfl, hx⟩
     clear cr
     replace hx := Lib.hid hx
     go_wp2_with fail
     go_ret2
     exact ⟨rfl, _, hx.out⟩
    ·have hm1 : (0 : Int) < m := by omega
     have hm2 : 0 < m := by omega
     have hS2 := hS
     rw [if_pos (by simp_all)] at hS2
     obtain ⟨rfl, e3⟩ := Prod.mk.inj hS2
     obtain ⟨rfl, rfl⟩ := Prod.mk.inj e3
     unfold unuB at hu
     unfold autoB at ha
     clear hS hS2 e3
     go_enter Tryz.func25, Tryz.ntmps25
     go_wp2_with fail
     refine co.out.mono ?_
     rintro e w1 ⟨rfl, hx⟩
     clear co
     obtain ⟨gb, k4, c4⟩ := cg.out _ hx
     replace c4 := Lib.hid c4
     clear cg hx
     go_wp2_with fail
     refine c4.out.mono ?_
     rintro e w2 ⟨rfl, hx⟩
     clear c4 k4
     obtain ⟨qb, k3, c3⟩ := cm.out _ hx
     replace c3 := Lib.hid c3
     clear cm hx
     go_wp2_with fail
     refine c3.out.mono ?_
     rintro e w3 ⟨rfl, hx⟩
     clear c3 k3
     replace hx := Lib.hid hx
     go_wp2_with fail
     go_ret2
     exact ⟨rfl, _, hx.out⟩
   | false =>
    have hS2 := hS
    rw [if_neg (by simp_all)] at hS2
    obtain ⟨rfl, e3⟩ := Prod.mk.inj hS2
    obtain ⟨rfl, rfl⟩ := Prod.mk.inj e3
    unfold unuB at hu
    unfold autoB at ha
    clear hS hS2 e3
    go_enter Tryz.func25, Tryz.ntmps25
    go_wp2_with fail
    refine co.out.mono ?_
    rintro e w1 ⟨rfl, hx⟩
    clear co
    obtain ⟨gb, k4, c4⟩ := cg.out _ hx
    replace c4 := Lib.hid c4
    clear cg hx
    go_wp2_with fail
    refine c4.out.mono ?_
    rintro e w2 ⟨rfl, hx⟩
    clear c4 k4
    replace cr := Lib.hid (cr.out _ hx)
    clear hx
    go_wp2_with fail
    refine cr.out.mono ?_
    rintro e w4 ⟨rfl, hx⟩
    clear cr
    replace hx := Lib.hid hx
    go_wp2_with fail
    go_ret2
    exact ⟨rfl, _, hx.out⟩
  ·have hg1 : (0 : Int) < g := by omega
   have hg2 : 0 < g := by omega
   have hS2 := hS
   rw [if_pos (by simp_all)] at hS2
   obtain ⟨rfl, e3⟩ := Prod.mk.inj hS2
   obtain ⟨rfl, rfl⟩ := Prod.mk.inj e3
   unfold unuB at hu
   clear hS hS2 e3
   go_enter Tryz.func25, Tryz.ntmps25
   go_wp2_with fail
   refine co.out.mono ?_
   rintro e w1 ⟨rfl, hx⟩
   clear co
   obtain ⟨gb, k4, c4⟩ := cg.out _ hx
   replace c4 := Lib.hid c4
   clear cg hx
   go_wp2_with fail
   refine c4.out.mono ?_
   rintro e w2 ⟨rfl, hx⟩
   clear c4 k4
   replace hx := Lib.hid hx
   go_wp2_with fail
   go_ret2
   exact ⟨rfl, _, hx.out⟩
 | false =>
  cases ha : autoB bt with
  | true =>
   by_cases hm : m = 0
   ·subst hm
    have hS2 := hS
    rw [if_neg (by simp_all)] at hS2
    obtain ⟨rfl, e3⟩ := Prod.mk.inj hS2
    obtain ⟨rfl, rfl⟩ := Prod.mk.inj e3
    unfold unuB at hu
    unfold autoB at ha
    clear hS hS2 e3
    go_enter Tryz.func25, Tryz.ntmps25
    go_wp2_with fail
    refine co.out.mono ?_
    rintro e w1 ⟨rfl, hx⟩
    clear co
    obtain ⟨qb, k3, c3⟩ := cm.out _ hx
    replace c3 := Lib.hid c3
    clear cm hx
    go_wp2_with fail
    refine c3.out.mono ?_
    rintro e w3 ⟨rfl, hx⟩
    clear c3 k3
    replace cr := Lib.hid (cr.out _ hx)
    clear hx
    go_wp2_with fail
    refine cr.out.mono ?_
    rintro e w4 ⟨rfl, hx⟩
    clear cr
    replace hx := Lib.hid hx
    go_wp2_with fail
    go_ret2
    exact ⟨rfl, _, hx.out⟩
   ·have hm1 : (0 : Int) < m := by omega
    have hm2 : 0 < m := by omega
    have hS2 := hS
    rw [if_pos (by simp_all)] at hS2
    obtain ⟨rfl, e3⟩ := Prod.mk.inj hS2
    obtain ⟨rfl, rfl⟩ := Prod.mk.inj e3
    unfold unuB at hu
    unfold autoB at ha
    clear hS hS2 e3
    go_enter Tryz.func25, Tryz.ntmps25
    go_wp2_with fail
    refine co.out.mono ?_
    rintro e w1 ⟨rfl, hx⟩
    clear co
    obtain ⟨qb, k3, c3⟩ := cm.out _ hx
    replace c3 := Lib.hid c3
    clear cm hx
    go_wp2_with fail
    refine c3.out.mono ?_
    rintro e w3 ⟨rfl, hx⟩
    clear c3 k3
    replace hx := Lib.hid hx
    go_wp2_with fail
    go_ret2
    exact ⟨rfl, _, hx.out⟩
  | false =>
   have hS2 := hS
   rw [if_neg (by simp_all)] at hS2
   obtain ⟨rfl, e3⟩ := Prod.mk.inj hS2
   obtain ⟨rfl, rfl⟩ := Prod.mk.inj e3
   unfold unuB at hu
   unfold autoB at ha
   clear hS hS2 e3
   go_enter Tryz.func25, Tryz.ntmps25
   go_wp2_with fail
   refine co.out.mono ?_
   rintro e w1 ⟨rfl, hx⟩
   clear co
   replace cr := Lib.hid (cr.out _ hx)
   clear hx
   go_wp2_with fail
   refine cr.out.mono ?_
   rintro e w4 ⟨rfl, hx⟩
   clear cr
   replace hx := Lib.hid hx
   go_wp2_with fail
   go_ret2
   exact ⟨rfl, _, hx.out⟩
end
section
variable {qT : Bool} {B : Nat} {w0 w w' : World} {sb slb xb pb qb gb c c' i k b : Nat} {bs : List Nat} {S S' : Sto} {L : List Pq} {xv v : Value} {d d' : Plq} {F F' Z : List (Nat × Obj)} {o : Opt} {n : List UInt8} {q z bt : Int} {e e0 : Ent} {a : Int}
theorem pl_autod (h : StoIs qT B w0 w sb bs S F c) (hi : S.L[i]? = some d) (hb : bs[i]? = some pb) : Calls Tryz.prog 155 #[bpt pb] w fun e w' => e = .returned (.bool (autoB d.o.bits)) ∧ StoIs qT B w0 w' sb bs S F c := by
 obtain ⟨pb', qb', gb, k1, k2, ⟨Zp, k3, k4⟩, -⟩ := h.place hi
 rw [hb] at k1
 obtain rfl := Option.some.inj k1
 refine (autod_any k3 k2.c3).mono ?_
 rintro r w' ⟨rfl, h5⟩
 have h7 := (k4 _ _ F h5).2
 rw [setM_same hi] at h7
 exact ⟨rfl, h7⟩
theorem pl_excl (h : StoIs qT B w0 w sb bs S F c) (hi : S.L[i]? = some d) (hb : bs[i]? = some pb) : Calls Tryz.prog 92 #[bpt pb] w fun e w' => e = .returned (.bool (exclB d.o.bits)) ∧ StoIs qT B w0 w' sb bs S F c := by
 obtain ⟨pb', qb', gb, k1, k2, ⟨Zp, k3, k4⟩, -⟩ := h.place hi
 rw [hb] at k1
 obtain rfl := Option.some.inj k1
 refine (excl_any k3 k2.c3).mono ?_
 rintro r w' ⟨rfl, h5⟩
 have h7 := (k4 _ _ F h5).2
 rw [setM_same hi] at h7
 exact ⟨rfl, h7⟩
def leftB (bad : Bool) (bs : List Nat) (i : Nat) : List Nat := if bad = true then bs.eraseIdx i else bs
def unusB (d : Plq) : Bool := autoB d.o.bits && d.G.isEmpty
theorem unused_is (hi : S.L[i]? = some d) : S.unused i = if unusB d = true then S.removed i d else S := by
 unfold Sto.unused unusB
 rw [hi]
 simp only [Bool.and_eq_true, List.isEmpty_iff]
set_option maxHeartbeats 2000000 in
theorem st_unused (h : StoIs qT B w0 w sb bs S F c) (hi : S.L[i]? = some d) (hb : bs[i]? = some pb) (hM : d.M.length ≤ 100000) (hh : HeldOk S) (hc : c ≤ 100000) :
  Calls Tryz.prog 90 #[bpt sb, bpt pb] w fun e w' => e = noneV ∧ StoIs qT B w0 w' sb (leftB (unusB d) bs i) (S.unused i) F c := by
 rw [unused_is hi]
 have ca := Lib.hid (pl_autod h hi hb)
 have cg : Hid (∀ w1, StoIs qT B w0 w1 sb bs S F c → ∃ gb, w1.cell? ⟨pb, 4, none⟩ = some (gup gb) ∧ Calls Tryz.prog 72 #[gup gb] w1 fun e w' => e = .returned (.int .i64 d.G.length) ∧ StoIs qT B w0 w' sb bs S F c) := Lib.hid fun w1 h' => by
  obtain ⟨qb, gb, hs⟩ := h'.seeP hb hi
  exact ⟨gb, hs.c4, (pl_glen h' hi hb hs.c4 rfl).mono fun r w' ⟨x, _, y⟩ => ⟨x, y⟩⟩
 have cr : Hid (∀ w1, StoIs qT B w0 w1 sb bs S F c → Calls Tryz.prog 74 #[bpt sb, bpt pb] w1 fun e w' => e = .returned (.int .i64 d.M.length) ∧ StoIs qT B w0 w' sb (bs.eraseIdx i) (S.removed i d) F c) := Lib.hid fun w1 h' => st_remove h' hi hb hM hh hc
 unfold unusB leftB
 generalize S.removed i d = S2 at *
 generalize d.M.length = m at *
 clear h hM hh hc hi hb
 cases ha : autoB d.o.bits with
 | false =>
  rw [ha] at ca
  rw [Bool.false_and, if_neg (by decide), if_neg (by decide)]
  clear cg cr ha
  go_enter Tryz.func90, Tryz.ntmps90
  go_wp2_with fail
  refine ca.out.mono ?_
  rintro e w1 ⟨rfl, hx⟩
  replace hx := Lib.hid hx
  clear ca
  go_wp2_with fail
  exact bodyPost_end (results_none rfl _ _ _) rfl ⟨rfl, hx.out⟩
 | true =>
  rw [ha] at ca
  rw [Bool.true_and]
  cases hG : d.G with
  | nil =>
   rw [hG] at cg
   rw [if_pos (by rfl), if_pos (by rfl)]
   simp only [List.length_nil] at cg
   clear ha hG
   go_enter Tryz.func90, Tryz.ntmps90
   go_wp2_with fail
   refine ca.out.mono ?_
   rintro e w1 ⟨rfl, hx⟩
   obtain ⟨gb, k4, c4⟩ := cg.out _ hx
   replace c4 := Lib.hid c4
   clear ca cg hx
   go_wp2_with fail
   refine c4.out.mono ?_
   rintro e w2 ⟨rfl, hx⟩
   replace cr := Lib.hid (cr.out _ hx)
   clear c4 k4 hx
   go_wp2_with fail
   refine cr.out.mono ?_
   rintro e w3 ⟨rfl, hx⟩
   replace hx := Lib.hid hx
   clear cr
   go_wp2_with fail
   exact bodyPost_end (results_none rfl _ _ _) rfl ⟨rfl, hx.out⟩
  | cons g G =>
   rw [hG] at cg
   rw [if_neg (by simp), if_neg (by simp)]
   generalize hgl : (g :: G).length = gl at *
   have g1 : (0 : Int) < gl := by rw [← hgl, List.length_cons]; omega
   have g2 : ((gl : Int) == 0) = false := by rw [beq_eq_false_iff_ne]; omega
   clear ha hG hgl cr
   go_enter Tryz.func90, Tryz.ntmps90
   go_wp2_with fail
   refine ca.out.mono ?_
   rintro e w1 ⟨rfl, hx⟩
   obtain ⟨gb, k4, c4⟩ := cg.out _ hx
   replace c4 := Lib.hid c4
   clear ca cg hx
   go_wp2_with fail
   refine c4.out.mono ?_
   rintro e w2 ⟨rfl, hx⟩
   replace hx := Lib.hid hx
   clear c4 k4
   go_wp2_with fail
   exact bodyPost_end (results_none rfl _ _ _) rfl ⟨rfl, hx.out⟩
end
def goW (c : Int) : List Gst → List Gst × Nat × Bool → List Gst × Nat × Bool
 | [], x => x
 | g :: l, x => if g.conn = c then (dropM (goW c l x).1 g.conn g.chan g.tag, dropT (goW c l x).1 (goW c l x).2.1 g.conn g.chan g.tag, (idxG (goW c l x).1 g.conn g.chan g.tag).isSome) else goW c l x
def goI (q : Int) (d : Plq) (i : Nat) : List Gst × Nat × Bool := goW q (d.G.drop i) (d.G, d.T, false)
theorem goI_end (q : Int) (d : Plq) : goI q d d.G.length = (d.G, d.T, false) := by unfold goI; rw [List.drop_length]; rfl
theorem goI_same {q : Int} {d : Plq} {j : Nat} {g : Gst} (h : d.G[j]? = some g) (hc : g.conn ≠ q) : goI q d j = goI q d (j + 1) := by
 obtain ⟨hl, rfl⟩ := List.getElem?_eq_some_iff.1 h
 unfold goI
 rw [List.drop_eq_getElem_cons hl]
 simp only [goW, hc, if_false]
theorem goI_drop {q : Int} {d : Plq} {j : Nat} {g : Gst} (h : d.G[j]? = some g) (hc : g.conn = q) : goI q d j = (dropM (goI q d (j + 1)).1 g.conn g.chan g.tag, dropT (goI q d (j + 1)).1 (goI q d (j + 1)).2.1 g.conn g.chan g.tag, (idxG (goI q d (j + 1)).1 g.conn g.chan g.tag).isSome) := by
 obtain ⟨hl, rfl⟩ := List.getElem?_eq_some_iff.1 h
 unfold goI
 rw [List.drop_eq_getElem_cons hl]
 simp only [goW, hc, if_true]
def Sto.goneI (S : Sto) (q : Int) (i0 : Nat) (d : Plq) (i : Nat) : Sto := S.setG i0 d (goI q d i).1 (goI q d i).2.1
def DismJ (qT : Bool) (B : Nat) (w0 : World) (sb pb : Nat) (bs : List Nat) (S : Sto) (F : List (Nat × Obj)) (c : Nat) (q : Int) (i0 : Nat) (d : Plq) (m : Nat) (a' : Act) (w' : World) : Prop :=
 ∃ (cp : Nat) (a : Option Addr) (Y : List (Nat × Obj)), m ≤ d.G.length ∧ Fr 40 [(0, bpt pb), (1, .int .i64 q), (5, .slice a d.G.length cp), (6, .int .i64 m), (7, .bool (goI q d m).2.2)] a' ∧ GssIs (.slice a d.G.length cp) d.G Y ∧ StoIs qT B w0 w' sb bs (S.goneI q i0 d m) (Y ++ F) c
section
variable {qT : Bool} {B : Nat} {w0 w w' : World} {sb slb xb pb qb gb c c' i k b : Nat} {bs : List Nat} {S S' : Sto} {L : List Pq} {xv v : Value} {d d' : Plq} {F F' Z Y : List (Nat × Obj)} {o : Opt} {n : List UInt8} {q z bt : Int} {e e0 : Ent} {a : Int} {g : Gst} {G : List Gst} {T : Nat}
theorem StoIs.readsG {a : Option Addr} {cp : Nat} (h : StoIs qT B w0 w sb bs S F c) (hs : GssIs (.slice a G.length cp) G Y) (hp : F.Perm (F' ++ Y)) : ReadGs w a G := by
 obtain ⟨O, o1, -⟩ := h.beside
 refine GssIs.read (X := O ++ F') hs (o1.perm ?_)
 rw [List.append_assoc]
 exact hp.append_left O
theorem setG_get (hi : S.L[i]? = some d) : (S.setG i d G T).L[i]? = some { d with G := G, T := T } := set_get hi
theorem setG_set (hi : S.L[i]? = some d) {G' : List Gst} {T' : Nat} : (S.setG i d G T).setG i { d with G := G, T := T } G' T' = S.setG i d G' T' := by
 unfold Sto.setG
 simp only [List.set_set]
theorem pl_gall (h : StoIs qT B w0 w sb bs S F c) (hi : S.L[i]? = some d) (hb : bs[i]? = some pb) (hc : w.cell? ⟨pb, 4, none⟩ = some (gup gb)) :
  Calls Tryz.prog 97 #[gup gb] w fun r w' => ∃ a cp Y, r = .returned (.slice a d.G.length cp) ∧ GssIs (.slice a d.G.length cp) d.G Y ∧ StoIs qT B w0 w' sb bs S (Y ++ F) c := by
 obtain ⟨gb', Z, h1, h2, h3⟩ := h.placeG hi hb
 rw [hc] at h1
 cases h1
 refine (gu_all h2).mono ?_
 rintro r w' ⟨a, cp, Y, rfl, hs, h4⟩
 have := (h3 w' d.G d.T (Y ++ F) (h4.permF (perm_by fun a => by simp only [List.count_append]; omega))).2
 rw [setG_same hi] at this
 exact ⟨a, cp, Y, rfl, hs, this⟩
theorem pl_gdrop (h : StoIs qT B w0 w sb bs S F c) (hi : S.L[i]? = some d) (hb : bs[i]? = some pb) (hc : w.cell? ⟨pb, 4, none⟩ = some (gup gb)) (p q : Int) (t : List UInt8) :
  Calls Tryz.prog 94 #[gup gb, .int .i64 p, .int .i64 q, tx t] w fun r w' => r = .returned (.bool (idxG d.G p q t).isSome) ∧ w'.cell? ⟨pb, 4, none⟩ = some (gup gb) ∧ StoIs qT B w0 w' sb bs (S.setG i d (dropM d.G p q t) (dropT d.G d.T p q t)) F c := by
 obtain ⟨gb', Z, h1, h2, h3⟩ := h.placeG hi hb
 rw [hc] at h1
 cases h1
 refine (gu_drop h2 p q t rfl rfl rfl).mono ?_
 rintro r w' ⟨rfl, h4⟩
 exact ⟨rfl, h3 _ _ _ _ h4⟩
theorem StoIs.fewG (h : StoIs qT B w0 w sb bs S F c) (hi : S.L[i]? = some d) : d.G.length ≤ 60000 := by
 obtain ⟨pb, hb⟩ := h.blk hi
 obtain ⟨gb', Z, h1, h2, h3⟩ := h.placeG hi hb
 exact h2.few
set_option maxHeartbeats 4000000 in
theorem dismiss_any (h : StoIs qT B w0 w sb bs S F c) (hi : S.L[i]? = some d) (hb : bs[i]? = some pb) (q : Int) :
  Calls Tryz.prog 89 #[bpt pb, .int .i64 q] w fun e w' => e = .returned (.bool (goI q d 0).2.2) ∧ StoIs qT B w0 w' sb bs (S.goneI q i d 0) F c := by
 obtain ⟨qb, gb, hs⟩ := h.seeP hb hi
 have c4 := hs.c4
 have hfew := h.fewG hi
 have ca : Hid (Calls Tryz.prog 97 #[gup gb] w fun r w' => ∃ a cp Y, r = .returned (.slice a d.G.length cp) ∧ GssIs (.slice a d.G.length cp) d.G Y ∧ StoIs qT B w0 w' sb bs (S.goneI q i d d.G.length) (Y ++ F) c) := Lib.hid (by
  have e : S.goneI q i d d.G.length = S := by unfold Sto.goneI; rw [goI_end]; exact setG_same hi
  rw [e]
  exact pl_gall h hi hb c4)
 have see : Hid (∀ j F1 w1, StoIs qT B w0 w1 sb bs (S.goneI q i d j) F1 c → ∃ gb1, w1.cell? ⟨pb, 4, none⟩ = some (gup gb1)) := Lib.hid fun j F1 w1 h' => by
  obtain ⟨gb1, Z, h1, -⟩ := h'.placeG (setG_get hi) hb
  exact ⟨gb1, h1⟩
 have cd : Hid (∀ j F1 w1 gb1 (g : Gst), d.G[j]? = some g → g.conn = q → w1.cell? ⟨pb, 4, none⟩ = some (gup gb1) → StoIs qT B w0 w1 sb bs (S.goneI q i d (j + 1)) F1 c → Calls Tryz.prog 94 #[gup gb1, .int .i64 g.conn, .int .i64 g.chan, tx g.tag] w1 fun r w' => r = .returned (.bool (goI q d j).2.2) ∧ w'.cell? ⟨pb, 4, none⟩ = some (gup gb1) ∧ StoIs qT B w0 w' sb bs (S.goneI q i d j) F1 c) := Lib.hid fun j F1 w1 gb1 g hj hc h4 h' => by
  have := pl_gdrop h' (setG_get hi) hb h4 g.conn g.chan g.tag
  have e : ∀ G' T', (S.goneI q i d (j + 1)).setG i { d with G := (goI q d (j + 1)).1, T := (goI q d (j + 1)).2.1 } G' T' = S.setG i d G' T' := fun _ _ => setG_set hi
  rw [e] at this
  unfold Sto.goneI
  rw [goI_drop hj hc]
  exact this
 have same : Hid (∀ j (g : Gst), d.G[j]? = some g → g.conn ≠ q → goI q d j = goI q d (j + 1) ∧ S.goneI q i d j = S.goneI q i d (j + 1)) := Lib.hid fun j g hj hc => ⟨goI_same hj hc, by unfold Sto.goneI; rw [goI_same hj hc]⟩
 have wend : (goI q d d.G.length).2.2 = false := by rw [goI_end]
 clear h hi hb hs
 go_enter Tryz.func89, Tryz.ntmps89
 go_wp2_with fail
 refine wp_scope_ghost 0 (DismJ qT B w0 sb pb bs S F c q i d) rfl ?_ ?_
 ·clear ca c4 wend
  rintro m a' w' ⟨cp, a, Y, hm, hfr, hs, hI⟩
  obtain ⟨qq, rfl, hl'⟩ := hfr.lit
  clear hfr
  simp only [List.mem_cons, List.not_mem_nil, or_false, forall_eq_or_imp, forall_eq] at hl'
  obtain ⟨f0, f1, f5, f6, f7⟩ := hl'
  simp only [List.range, List.range.loop, List.map, f0, f1, f5, f6, f7]
  clear f0 f1 f5 f6 f7
  have hMi : (d.G.length : Int) ≤ 60000 := by omega
  cases m with
  | zero =>
   have fin := Lib.hid (hI.sub (List.sublist_append_right Y F))
   clear hI hs see cd same
   simp only [Int.cast_ofNat_Int]
   go_wp2_with fail
   simp only [Exit.jump]
   go_ret
   exact ⟨rfl, fin.out⟩
  | succ j =>
   have hx : d.G[j]? = some d.G[j] := List.getElem?_eq_getElem (by omega)
   generalize d.G[j] = x at hx
   have hj0 : (0 : Int) ≤ j := by omega
   have hj1 : (j : Int) < d.G.length := by omega
   have hw1 : IntKind.i64.wrap (((j + 1 : Nat) : Int) - 1) = j ∧ wrap64 (((j + 1 : Nat) : Int) - 1) = j := ⟨by rw [IntKind.wrap_i64]; omega, by unfold wrap64; omega⟩
   have hne : (((j + 1 : Nat) : Int) == 0) = false := by rw [beq_eq_false_iff_ne]; omega
   obtain ⟨jj, hjj⟩ : ∃ jj : Int, jj = ((j + 1 : Nat) : Int) := ⟨_, rfl⟩
   rw [← hjj] at hw1 hne
   rw [← hjj]
   clear hjj
   obtain ⟨hw1, hw2⟩ := hw1
   obtain ⟨g1, o1, rfl, z0, z1, z2, z3, z4, z5⟩ := hI.readsG hs List.perm_append_comm j x hx
   have hI2 := hI.alloc (gsO x)
   obtain ⟨y0, y1, y2, y3, y4, y5⟩ := hI2.gsAt (k := w'.heap.size) (g := x) List.mem_cons_self
   have nxt : Hid (∀ w2 a', StoIs qT B w0 w2 sb bs (S.goneI q i d j) (Y ++ F) c → Fr 40 [(0, bpt pb), (1, .int .i64 q), (5, .slice (some ⟨g1, o1, none⟩) d.G.length cp), (6, .int .i64 j), (7, .bool (goI q d j).2.2)] a' → ∃ k, k < j + 1 ∧ DismJ qT B w0 sb pb bs S F c q i d k a' w2) :=
    Lib.hid fun w2 a' h2 hf => ⟨j, by omega, cp, _, Y, by omega, hf, hs, h2⟩
   by_cases hc : x.conn = q
   ·subst hc
    obtain ⟨gb1, k4⟩ := see.out _ _ _ hI2
    have hI3 := hI2.grow (drew_b _)
    have k4d : (w'.alloc (gsO x)).drew.cell? ⟨pb, 4, none⟩ = some (gup gb1) := cellUp k4 (drew_b _)
    obtain ⟨x0, x1, x2, -, -, -⟩ := hI3.gsAt (k := w'.heap.size) (g := x) List.mem_cons_self
    have hs0 : Hid ((w'.alloc (gsO x)).drew.cell? ⟨pb, 4, none⟩ = some (gup gb1) ∧ (w'.alloc (gsO x)).drew.cell? ⟨w'.heap.size, 0, none⟩ = some (.int .i64 x.conn) ∧ (w'.alloc (gsO x)).drew.cell? ⟨w'.heap.size, 1, none⟩ = some (.int .i64 x.chan) ∧ (w'.alloc (gsO x)).drew.cell? ⟨w'.heap.size, 2, none⟩ = some (tx x.tag)) := Lib.hid ⟨k4d, x0, x1, x2⟩
    have ca : Hid (Calls Tryz.prog 94 #[gup gb1, .int .i64 x.conn, .int .i64 x.chan, tx x.tag] (w'.alloc (gsO x)).drew fun r w2 => r = .returned (.bool (goI x.conn d j).2.2) ∧ StoIs qT B w0 w2 sb bs (S.goneI x.conn i d j) ((w'.heap.size, gsO x) :: (Y ++ F)) c ∧ (w2.cell? ⟨pb, 4, none⟩ = some (gup gb1) ∧ w2.cell? ⟨w'.heap.size, 0, none⟩ = some (.int .i64 x.conn) ∧ w2.cell? ⟨w'.heap.size, 1, none⟩ = some (.int .i64 x.chan) ∧ w2.cell? ⟨w'.heap.size, 2, none⟩ = some (tx x.tag))) := Lib.hid ((cd.out _ _ _ _ x hx rfl k4d hI3).mono (by
     rintro r w2 ⟨rfl, k5, h5⟩
     obtain ⟨x0, x1, x2, -, -, -⟩ := h5.gsAt (k := w'.heap.size) (g := x) List.mem_cons_self
     exact ⟨rfl, h5, k5, x0, x1, x2⟩))
    generalize (goI x.conn d (j + 1)).2.2 = wt at *
    generalize (goI x.conn d j).2.2 = wt2 at *
    generalize d.G.length = ml at *
    clear hI hI2 hI3 hs see cd same hx k4 k4d x0 x1 x2
    go_upto_region 8 with fail
    clear z0 z1 z2 z3 z4 z5 y0 y1 y2 y3 y4 y5
    go_region_held3 (fun X => X.cell? ⟨pb, 4, none⟩ = some (gup gb1) ∧ X.cell? ⟨w'.heap.size, 0, none⟩ = some (.int .i64 x.conn) ∧ X.cell? ⟨w'.heap.size, 1, none⟩ = some (.int .i64 x.chan) ∧ X.cell? ⟨w'.heap.size, 2, none⟩ = some (tx x.tag)) (first | with_reducible exact kS | with_reducible exact hs0.out)
     ((go_at_call 94; refine ca.out.mono ?_; rintro r w2 ⟨rfl, h5, kS⟩))
    replace nxt := Lib.hid (fun a' => nxt.out _ a' (h5.sub (List.sublist_cons_self _ _)))
    clear kS hs0 ca h5
    go_wp2_with fail
    refine wp_goto ?_
    exact ⟨rfl, nxt.out _ ⟨rfl, rfl, fun p hp => by
     simp only [List.mem_cons, List.not_mem_nil, or_false] at hp
     rcases hp with rfl | rfl | rfl | rfl | rfl <;> rfl⟩⟩
   ·obtain ⟨s1, s2⟩ := same.out j x hx hc
    rw [s1, s2] at nxt
    replace nxt := Lib.hid (fun a' => nxt.out _ a' (hI2.sub (List.sublist_cons_self _ _)))
    have hcb : (x.conn == q) = false := by rw [beq_eq_false_iff_ne]; exact hc
    generalize (goI q d (j + 1)).2.2 = wt at *
    generalize d.G.length = ml at *
    clear hI hI2 hs see cd same hx s1 s2 hc
    go_wp2_with fail
    refine wp_goto ?_
    exact ⟨rfl, nxt.out _ ⟨rfl, rfl, fun p hp => by
     simp only [List.mem_cons, List.not_mem_nil, or_false] at hp
     rcases hp with rfl | rfl | rfl | rfl | rfl <;> rfl⟩⟩
 ·intro H
  go_wp2_with fail
  refine ca.out.mono ?_
  rintro e w1 ⟨a, cp, Y, rfl, hs, hI⟩
  replace hs := Lib.hid hs
  replace hI := Lib.hid hI
  have hlen := Lib.hid (Nat.le_refl d.G.length)
  clear ca c4 see cd same
  go_wp2_with fail
  refine wp_label ?_
  go_step
  go_step
  exact H d.G.length _ _ ⟨cp, a, Y, hlen.out, ⟨rfl, rfl, by rw [wend]; simp⟩, hs.out, hI.out⟩
end
abbrev boxO (sb : Nat) : Obj := .cells #[bpt sb] 26
section
variable {qT : Bool} {B : Nat} {w0 w w' : World} {sb slb xb pb qb gb c c' i k b bx : Nat} {bs : List Nat} {S S' : Sto} {L : List Pq} {xv v : Value} {d d' : Plq} {F F' Z Y : List (Nat × Obj)} {o : Opt} {M : List Ent} {G : List Gst} {T : Nat} {n : List UInt8} {q z bt : Int} {e e0 : Ent} {a : Int} {K : Int}
end
def swp (f : Sto → Nat → Sto) (rm : Sto → Nat → Bool) (S : Sto) : Nat → Sto × Nat
 | 0 => (S, 0)
 | i + 1 => (f (swp f rm S i).1 (swp f rm S i).2, if rm (swp f rm S i).1 (swp f rm S i).2 = true then (swp f rm S i).2 else (swp f rm S i).2 + 1)
def SweepJ (qT : Bool) (B : Nat) (w0 : World) (sb : Nat) (bs : List Nat) (f : Sto → Nat → Sto) (rm : Sto → Nat → Bool) (S : Sto) (F : List (Nat × Obj)) (c : Nat) (Y : List (Nat × Obj)) (i : Nat) (w' : World) : Prop :=
 ∃ bs', StoIs qT B w0 w' sb bs' (swp f rm S i).1 (Y ++ F) c ∧ bs'.drop (swp f rm S i).2 = bs.drop i
theorem drop_head {bs bs' : List Nat} {p i b : Nat} (h : bs'.drop p = bs.drop i) (hb : bs[i]? = some b) : bs'[p]? = some b := by
 have h2 : (bs'.drop p)[0]? = (bs.drop i)[0]? := by rw [h]
 rw [List.getElem?_drop, List.getElem?_drop, Nat.add_zero, Nat.add_zero] at h2
 rw [h2, hb]
theorem drop_left {bs bs' : List Nat} {p i b : Nat} (h : bs'.drop p = bs.drop i) (hb : bs[i]? = some b) (bad : Bool) : (leftB bad bs' p).drop (if bad = true then p else p + 1) = bs.drop (i + 1) := by
 have hp := (List.getElem?_eq_some_iff.1 (drop_head h hb)).1
 have h3 : bs'.drop (p + 1) = bs.drop (i + 1) := by
  rw [← List.drop_drop, h, List.drop_drop]
 unfold leftB
 cases bad with
 | false => rw [if_neg (by decide), if_neg (by decide)]; exact h3
 | true =>
  rw [if_pos rfl, if_pos rfl, List.eraseIdx_eq_take_drop_succ, List.drop_append, List.length_take, Nat.min_eq_left (by omega), Nat.sub_self, List.drop_zero, List.drop_of_length_le (by rw [List.length_take]; omega), List.nil_append]
  exact h3
section
variable {qT : Bool} {B : Nat} {w0 w w' : World} {sb slb xb pb qb gb c c' i k b bx cx hx tx1 : Nat} {bs : List Nat} {S S' : Sto} {L : List Pq} {xv v : Value} {d d' : Plq} {F F' Z Y : List (Nat × Obj)} {o : Opt} {n : List UInt8} {q z bt : Int} {e e0 : Ent} {a : Int} {g : Gst} {G : List Gst} {T : Nat}
theorem sweep_any {g : Nat} {cb : Array Value} {f : Sto → Nat → Sto} {rm : Sto → Nat → Bool} (hgo : ∀ args w, (callFunc g args).run Tryz.prog w = .ok (.enter g args) w) (h : StoIs qT B w0 w sb bs S F c)
  (hs : ∀ Y i bs' pb w', bs'[(swp f rm S i).2]? = some pb → StoIs qT B w0 w' sb bs' (swp f rm S i).1 (Y ++ F) c → Calls Tryz.prog g (#[bpt pb] ++ cb) w' fun e w2 => e = noneV ∧ StoIs qT B w0 w2 sb (leftB (rm (swp f rm S i).1 (swp f rm S i).2) bs' (swp f rm S i).2) (f (swp f rm S i).1 (swp f rm S i).2) (Y ++ F) c) :
  Calls Tryz.prog 66 #[bpt sb, .func (.func g) #[] cb] w fun e w' => e = noneV ∧ ∃ bs', StoIs qT B w0 w' sb bs' (swp f rm S S.L.length).1 F c := by
 have hlen := h.len
 refine (seach_any (J := SweepJ qT B w0 sb bs f rm S F c) hgo h (fun Y w' h' => ⟨bs, h', rfl⟩) ?_ ?_).mono ?_
 ·rintro Y i w' ⟨bs', h', -⟩
  obtain ⟨O, o1, -⟩ := h'.beside
  exact ⟨O ++ F, o1.perm (perm_by fun a => by simp only [List.count_append]; omega)⟩
 ·rintro Y i b w' hb ⟨bs', h', hd⟩
  refine (hs Y i bs' b w' (drop_head hd hb) h').mono ?_
  rintro e w2 ⟨rfl, h2⟩
  exact ⟨rfl, _, h2, drop_left hd hb _⟩
 ·rintro e w' ⟨rfl, Y, bs', h', -⟩
  rw [hlen] at h'
  exact ⟨rfl, bs', h'.sub (List.sublist_append_right Y F)⟩
abbrev intO (z : Int) : Obj := .cells #[.int .i64 z] 3
abbrev strO (t : List UInt8) : Obj := .cells #[tx t] 9
def cancR (p q : Int) (t : List UInt8) (S : Sto) (i : Nat) : Bool := match S.L[i]? with
 | none => false
 | some d => (idxG d.G p q t).isSome && unusB { d with G := dropM d.G p q t, T := dropT d.G d.T p q t }
def FineM (S : Sto) : Prop := HeldOk S ∧ ∀ p ∈ S.L, p.M.length ≤ 100000
set_option maxHeartbeats 4000000 in
theorem cancell_any (h : StoIs qT B w0 w sb bs S F c) (hb : bs[i]? = some pb) (m0 : (bx, boxO sb) ∈ F) {p q : Int} {t : List UInt8} (m1 : (cx, intO p) ∈ F) (m2 : (hx, intO q) ∈ F) (m3 : (tx1, strO t) ∈ F) (hm : FineM S) (hc : c ≤ 100000) :
  Calls Tryz.prog 93 #[bpt pb, bpt cx, bpt hx, bpt tx1, bpt bx] w fun e w' => e = noneV ∧ StoIs qT B w0 w' sb (leftB (cancR p q t S i) bs i) (S.cancel1 p q t i) F c := by
 obtain ⟨hh, hM⟩ := hm
 have hil : i < S.L.length := by have := (List.getElem?_eq_some_iff.1 hb).1; rw [← h.len]; exact this
 have hi : S.L[i]? = some S.L[i] := List.getElem?_eq_getElem hil
 generalize S.L[i] = d at hi
 unfold cancR Sto.cancel1
 rw [hi]
 simp only
 have h1 := h.grow (drew_b w)
 obtain ⟨qb, gb, hs⟩ := h1.seeP hb hi
 have c4 := hs.c4
 have hs0 : Hid (w.drew.cell? ⟨pb, 4, none⟩ = some (gup gb) ∧ w.drew.cell? ⟨cx, 0, none⟩ = some (.int .i64 p) ∧ w.drew.cell? ⟨hx, 0, none⟩ = some (.int .i64 q) ∧ w.drew.cell? ⟨tx1, 0, none⟩ = some (tx t)) := Lib.hid ⟨c4, h1.cell m1 rfl, h1.cell m2 rfl, h1.cell m3 rfl⟩
 obtain ⟨ok, hok⟩ : ∃ ok, ok = (idxG d.G p q t).isSome := ⟨_, rfl⟩
 obtain ⟨S2, hS2⟩ : ∃ S2, S2 = S.setG i d (dropM d.G p q t) (dropT d.G d.T p q t) := ⟨_, rfl⟩
 rw [← hok, ← hS2]
 have cd : Hid (Calls Tryz.prog 94 #[gup gb, .int .i64 p, .int .i64 q, tx t] w.drew fun r w' => r = .returned (.bool ok) ∧ StoIs qT B w0 w' sb bs S2 F c ∧ (w'.cell? ⟨pb, 4, none⟩ = some (gup gb) ∧ w'.cell? ⟨cx, 0, none⟩ = some (.int .i64 p) ∧ w'.cell? ⟨hx, 0, none⟩ = some (.int .i64 q) ∧ w'.cell? ⟨tx1, 0, none⟩ = some (tx t))) := Lib.hid ((pl_gdrop h1 hi hb c4 p q t).mono (by
  rintro r w' ⟨rfl, k4, h2⟩
  rw [← hS2] at h2
  exact ⟨by rw [hok], h2, k4, h2.cell m1 rfl, h2.cell m2 rfl, h2.cell m3 rfl⟩))
 have hbx : Hid (∀ w1, StoIs qT B w0 w1 sb bs S2 F c → w1.cell? ⟨bx, 0, none⟩ = some (bpt sb)) := Lib.hid fun w1 h' => h'.cell m0 rfl
 have hi2 : S2.L[i]? = some { d with G := dropM d.G p q t, T := dropT d.G d.T p q t } := by rw [hS2]; exact setG_get hi
 have cu : Hid (∀ w1, StoIs qT B w0 w1 sb bs S2 F c → Calls Tryz.prog 90 #[bpt sb, bpt pb] w1 fun e w' => e = noneV ∧ StoIs qT B w0 w' sb (leftB (unusB { d with G := dropM d.G p q t, T := dropT d.G d.T p q t }) bs i) (S2.unused i) F c) := Lib.hid fun w1 h' =>
  st_unused h' hi2 hb (hM d (List.mem_of_getElem? hi)) (fun x hx => hh x (by rw [hS2] at hx; exact hx)) hc
 have same : ok = false → S2 = S := fun hf => by
  rw [hS2]
  have hn : idxG d.G p q t = none := by
   rw [hok] at hf
   simpa using hf
  unfold dropM dropT
  rw [hn]
  exact setG_same hi
 generalize unusB { d with G := dropM d.G p q t, T := dropT d.G d.T p q t } = un at *
 clear h h1 hs c4 hi hi2 hb hh hM hc m0 m1 m2 m3 hil hok hS2
 cases ok with
 | false =>
  rw [same rfl] at cd
  clear cu hbx same
  simp only [Bool.false_and, leftB, Bool.false_eq_true, if_false]
  go_enter Tryz.func93, Tryz.ntmps93
  go_wp2_with fail
  go_region_held3 (fun X => X.cell? ⟨pb, 4, none⟩ = some (gup gb) ∧ X.cell? ⟨cx, 0, none⟩ = some (.int .i64 p) ∧ X.cell? ⟨hx, 0, none⟩ = some (.int .i64 q) ∧ X.cell? ⟨tx1, 0, none⟩ = some (tx t)) (first | with_reducible exact kS | with_reducible exact hs0.out)
   ((go_at_call 94; refine cd.out.mono ?_; rintro r w1 ⟨rfl, h2, kS⟩))
  clear kS hs0 cd
  replace h2 := Lib.hid h2
  go_wp2_with fail
  exact bodyPost_end (results_none rfl _ _ _) rfl ⟨rfl, h2.out⟩
 | true =>
  clear same
  simp only [Bool.true_and, if_true]
  go_enter Tryz.func93, Tryz.ntmps93
  go_wp2_with fail
  go_region_held3 (fun X => X.cell? ⟨pb, 4, none⟩ = some (gup gb) ∧ X.cell? ⟨cx, 0, none⟩ = some (.int .i64 p) ∧ X.cell? ⟨hx, 0, none⟩ = some (.int .i64 q) ∧ X.cell? ⟨tx1, 0, none⟩ = some (tx t)) (first | with_reducible exact kS | with_reducible exact hs0.out)
   ((go_at_call 94; refine cd.out.mono ?_; rintro r w1 ⟨rfl, h2, kS⟩))
  clear kS hs0 cd
  have kb := hbx.out _ h2
  replace cu := Lib.hid (cu.out _ h2)
  clear hbx h2
  go_wp2_with fail
  refine cu.out.mono ?_
  rintro e w2 ⟨rfl, h3⟩
  replace h3 := Lib.hid h3
  clear cu kb
  go_wp2_with fail
  exact bodyPost_end (results_none rfl _ _ _) rfl ⟨rfl, h3.out⟩
set_option maxHeartbeats 2000000 in
theorem st_cancel (h : StoIs qT B w0 w sb bs S F c) (p q : Int) (t : List UInt8) (hm : ∀ i, FineM (swp (fun S i => S.cancel1 p q t i) (cancR p q t) S i).1) (hc : c ≤ 100000) (hS : (swp (fun S i => S.cancel1 p q t i) (cancR p q t) S S.L.length).1 = S') :
  Calls Tryz.prog 37 #[bpt sb, .int .i64 p, .int .i64 q, tx t] w fun e w' => e = noneV ∧ ∃ bs', StoIs qT B w0 w' sb bs' S' F c := by
 have h1 := (((h.alloc (boxO sb)).alloc (intO p)).alloc (intO q)).alloc (strO t)
 simp only [World.size_alloc] at h1
 have hgo : ∀ (args : Array Value) (w : World), (callFunc 93 args).run Tryz.prog w = .ok (.enter 93 args) w := fun args w => by kernel_rfl
 have k0 : ((((w.alloc (boxO sb)).alloc (intO p)).alloc (intO q)).alloc (strO t)).cell? ⟨w.heap.size, 0, none⟩ = some (bpt sb) := h1.cell (b := w.heap.size) (cs := #[bpt sb]) (U := 26) (fr := (0, 0)) (by simp) rfl
 have ce : Hid (Calls Tryz.prog 66 #[bpt sb, .func (.func 93) #[] #[bpt (w.heap.size + 1), bpt (w.heap.size + 1 + 1), bpt (w.heap.size + 1 + 1 + 1), bpt w.heap.size]] ((((w.alloc (boxO sb)).alloc (intO p)).alloc (intO q)).alloc (strO t)) fun e w' => e = noneV ∧ ∃ bs', StoIs qT B w0 w' sb bs' S' F c) := by
  refine Lib.hid ((sweep_any (g := 93) (f := fun S i => S.cancel1 p q t i) (rm := cancR p q t) hgo h1 ?_).mono ?_)
  ·intro Y i bs' pb w' hb h'
   exact cancell_any h' hb (bx := w.heap.size) (cx := w.heap.size + 1) (hx := w.heap.size + 1 + 1) (tx1 := w.heap.size + 1 + 1 + 1) (List.mem_append_right _ (by simp)) (List.mem_append_right _ (by simp)) (List.mem_append_right _ (by simp)) (List.mem_append_right _ (by simp)) (hm i) hc
  ·rintro e w' ⟨rfl, bs', h'⟩
   rw [hS] at h'
   exact ⟨rfl, bs', h'.sub (((List.sublist_cons_self _ _).trans (List.sublist_cons_self _ _)).trans ((List.sublist_cons_self _ _).trans (List.sublist_cons_self _ _)))⟩
 clear h h1 hm hc hS hgo
 go_enter Tryz.func37, Tryz.ntmps37
 go_wp2_with fail
 refine ce.out.mono ?_
 rintro e w1 ⟨rfl, h3⟩
 replace h3 := Lib.hid h3
 clear ce k0
 go_wp2_with fail
 exact bodyPost_end (results_none rfl _ _ _) rfl ⟨rfl, h3.out⟩
end
end Go.Proofs.YtknjamfjonapiaaGreatDoor
