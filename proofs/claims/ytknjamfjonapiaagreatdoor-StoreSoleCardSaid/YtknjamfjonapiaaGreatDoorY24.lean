/- namespace Go.Proofs.YtknjamfjonapiaaGreatDoor, namespace Go.Proofs.YtknjamfjonapiaaGreatDoor, namespace Go.Proofs.YtknjamfjonapiaaGreatDoor, namespace Go.Proofs.YtknjamfjonapiaaGreatDoor, namespace Go.Proofs.YtknjamfjonapiaaGreatDoor, namespace Go.Proofs.YtknjamfjonapiaaGreatDoor. -/
import Derived.StillTailTactics
import Derived.Test.YtknjamfjonapiaaGreatDoorY23
import Derived.Test.YtknjamfjonapiaaGreatDoorY21
import Derived.Test.YtknjamfjonapiaaGreatDoorY01
import Derived.Test.YtknjamfjonapiaaGreatDoorY18
namespace Go.Proofs.YtknjamfjonapiaaGreatDoor
open Go.RowKit
set_option linter.unusedVariables false
set_option linter.unusedSectionVars false
set_option linter.unusedSimpArgs false
set_option maxRecDepth 100000
section
variable {qT : Bool} {B : Nat} {w0 w w' : World} {sb slb xb pb qb gb c c' i k b mb db : Nat} {bs : List Nat} {S S' : Sto} {L : List Pq} {xv v wv : Value} {d d' : Plq} {R SX SS F F' Z Y Zw OT : List (Nat × Obj)} {o : Opt} {M W : List Ent} {G : List Gst} {T : Nat} {n : List UInt8} {q z bt : Int} {e e0 x : Ent} {g : Gst} {tv : Value} {rf r ok tp r' : Bool} {vs : List Value} {way : List Nat} {top : Option Nat} {ts : List Tm} {TR : List Tsk} {K : Int} {C C' : Cf}
theorem CfIs.grow (h : CfIs qT B w0 w sb bs top C v F c) (hb : Below w.heap.size w w') : CfIs qT B w0 w' sb bs top C v F c := by
  obtain ⟨X, h1, h2⟩ := h.sto
  exact h2 _ _ (h1.grow hb)
theorem CfIs.none (h : CfIs qT B w0 w sb bs top C v F c) (hR : C.R = []) : ∃ a cap, v = .slice a 0 cap := by
  obtain ⟨ts, Z, OT, hts, hr, -⟩ := h
  obtain ⟨a, cap, e⟩ := hr.form
  have : ts = [] := by
    rw [hR] at hts
    exact List.map_eq_nil_iff.1 hts
  subst this
  exact ⟨a, cap, e⟩
def RunJ (qT : Bool) (B : Nat) (w0 : World) (sb : Nat) (bs : List Nat) (top : Option Nat) (Cf1 : Cf) (F : List (Nat × Obj)) (c : Nat) (K : Int) (k : Nat) (n : Nat) (a' : Act) (w' : World) : Prop :=
  ∃ C v, Fr 25 [(0, bpt sb), (4, v)] a' ∧ CfIs qT B w0 w' sb bs top C v F c ∧ RunOk K k C ∧ C.fin = Cf1 ∧ C.pot = n
set_option maxHeartbeats 4000000 in
theorem run_any {t : Nat} {u : Value} (hu : u = .iface t (bpt b)) (h0 : CfIs qT B w0 (w.alloc (.cells #[u] 221)) sb bs top C (.slice (some ⟨w.heap.size, 0, none⟩) 1 1) F c) (ok : RunOk K k C) (hK : K < 4611686018427387904) (hk : k < 90000) (hc : c ≤ 100000) :
    Calls Tryz.prog 80 #[bpt sb, u] w fun e w' => e = noneV ∧ ∃ v, CfIs qT B w0 w' sb bs top C.fin v F c := by
  subst hu
  have start : Hid (RunJ qT B w0 sb bs top C.fin F c K k C.pot { tmps := #[], defers := [] } w → True) := Lib.hid fun _ => trivial
  replace h0 := Lib.hid h0
  generalize hfin : C.fin = Cf1 at *
  clear start
  go_enter Tryz.func80, Tryz.ntmps80
  go_wp2_with fail
  refine wp_scope_ghost 0 (RunJ qT B w0 sb bs top Cf1 F c K k) rfl ?_ ?_
  · clear h0 ok hfin
    rintro n a' w' ⟨C, v, hfr, hC, ok, hfin, hpn⟩
    obtain ⟨q, rfl, hl'⟩ := hfr.lit
    clear hfr
    simp only [List.mem_cons, List.not_mem_nil, or_false, forall_eq_or_imp, forall_eq] at hl'
    obtain ⟨f0, f4⟩ := hl'
    simp only [List.range, List.range.loop, List.map, f0, f4]
    clear f0 f4
    by_cases hR : C.R = []
    · obtain ⟨a, cap, rfl⟩ := hC.none hR
      rw [fin_nil hR] at hfin
      subst hfin
      replace hC := Lib.hid hC
      clear ok hpn hR
      go_wp2_with fail
      simp only [Exit.jump]
      exact bodyPost_ret (results_none rfl _ _ _) rfl ⟨rfl, _, hC.out⟩
    · obtain ⟨g, off, m, cap, a1, c1, u, rfl, hm, hcell, hsl, -⟩ := run_head hC hR ok hK hk hc
      clear hsl
      obtain ⟨g', off', m', cap', a1', c1', u', e', -, hcell', hsl', ways⟩ := run_head (hC.grow (drew_b w')) hR ok hK hk hc
      cases e'
      have hcu : u' = u := by
        have : w'.drew.cell? ⟨g, off + m, none⟩ = some u := hcell
        rw [this] at hcell'
        exact (Option.some.inj hcell').symm
      subst hcu
      have ok2 := ok.step hR
      have hlt := step_pot C ok.ok.few hR
      rw [fin_step ok.ok.few hR] at hfin
      have nxt : Hid (∀ e w2, StepR qT B w0 sb bs top (stepF C) F c e w2 → ∃ a n2 cp, e = .returned (.slice a n2 cp) ∧ ∀ a', Fr 25 [(0, bpt sb), (4, .slice a n2 cp)] a' → ∃ k2, k2 < n ∧ RunJ qT B w0 sb bs top Cf1 F c K k k2 a' w2) := Lib.hid fun e w2 ⟨a, n2, cp, e1, h2⟩ =>
        ⟨a, n2, cp, e1, fun a' hf => ⟨_, by omega, stepF C, _, hf, h2, ok2, hfin, rfl⟩⟩
      clear hC ok ok2 hlt hfin hpn hR hcell'
      have hne : ((m : Int) + 1 == 0) = false := by rw [beq_eq_false_iff_ne]; omega
      have hwr : IntKind.i64.wrap ((m : Int) + 1 - 1) = m ∧ wrap64 ((m : Int) + 1 - 1) = m := ⟨by rw [IntKind.wrap_i64]; omega, by unfold wrap64; omega⟩
      obtain ⟨hw1, hw2⟩ := hwr
      have hm0 : (0 : Int) ≤ m := by omega
      have hm1 : (m : Int) < m + 1 := by omega
      rcases ways with ⟨mb, rfl, cw⟩ | ⟨db, rfl, cw⟩ | ⟨ob, rfl, cw⟩
      all_goals
        (replace cw := Lib.hid cw
         go_upto_region 3 with fail
         go_still_tail 10, (by kernel_rfl)
         change wpList _ _ _ _ _ w'.drew
         go_wp2_with fail
         refine cw.out.mono ?_
         rintro e w2 hs
         obtain ⟨a, n2, cp, rfl, hn⟩ := nxt.out _ _ hs
         replace hn := Lib.hid hn
         clear hs cw nxt hcell hsl'
         go_wp2_with fail
         refine wp_goto ?_
         exact ⟨rfl, hn.out _ ⟨rfl, rfl, fun p hp => by
           simp only [List.mem_cons, List.not_mem_nil, or_false] at hp
           rcases hp with rfl | rfl <;> rfl⟩⟩)
  · intro H
    go_wp2_with fail
    refine wp_label ?_
    go_step
    go_step
    exact H _ _ _ ⟨C, _, ⟨rfl, rfl, by simp⟩, h0.out, ok, hfin, rfl⟩
end
end Go.Proofs.YtknjamfjonapiaaGreatDoor

namespace Go.Proofs.YtknjamfjonapiaaGreatDoor
open Go.RowKit
set_option linter.unusedVariables false
set_option linter.unusedSectionVars false
set_option linter.unusedSimpArgs false
set_option maxRecDepth 100000
section
variable {qT : Bool} {B : Nat} {w0 w w' : World} {sb slb xb pb qb gb c c' i k b mb db : Nat} {bs : List Nat} {S S' : Sto} {L : List Pq} {xv v wv : Value} {d d' : Plq} {R SX SS F F' Z Y Zw OT : List (Nat × Obj)} {o : Opt} {M W : List Ent} {G : List Gst} {T : Nat} {n : List UInt8} {q z bt : Int} {e e0 x : Ent} {g : Gst} {tv : Value} {rf r ok tp r' : Bool} {vs : List Value} {way : List Nat} {top : Option Nat} {ts : List Tm} {TR : List Tsk} {K : Int} {C C' : Cf}
theorem row_one (u : Value) (b : Nat) : RowIs (.slice (some ⟨b, 0, none⟩) 1 1) [u] [(b, .cells #[u] 221)] :=
  SlIs.of (L := [u]) (Nat.le_refl _) (by unfold maxLen; omega) (by simp) (by simp)
theorem run_start {tm : Tm} (h : StoIs qT B w0 w sb bs S (tm.O ++ (OT ++ F)) c) (hok : TmOk bs top r tm) (htop : TopOk top [tm.t] r OT) :
    CfIs qT B w0 (w.alloc (.cells #[tm.v] 221)) sb bs top ⟨S, [tm.t], r⟩ (.slice (some ⟨w.heap.size, 0, none⟩) 1 1) F c := by
  refine ⟨[tm], [(w.heap.size, .cells #[tm.v] 221)], OT, rfl, row_one _ _, ?_, htop, ?_, ?_⟩
  · intro m hm
    rw [List.mem_singleton] at hm
    subst hm
    exact hok
  · show ([tm.t].filter isTop).length ≤ 1
    exact List.length_filter_le _ _
  · have h1 := h.alloc (.cells #[tm.v] 221)
    simpa [objsT] using h1
theorem run_done_top (h : CfIs qT B w0 w sb bs (some mb) C v F c) (hR : C.R = []) : w.cell? ⟨mb, 11, none⟩ = some (.bool C.r) ∧ StoIs qT B w0 w sb bs C.S F c := by
  obtain ⟨ts, Z, OT, hts, hr, hok, htop, hone, h1⟩ := h
  rw [hR] at htop
  rcases htop with ⟨h2, -⟩ | ⟨-, e, tv, rfl⟩
  · cases h2
  · have h2 : StoIs qT B w0 w sb bs C.S ((mb, mailO e tv C.r) :: F) c := h1.sub ((List.sublist_append_right _ _).trans (List.sublist_append_right Z _))
    exact ⟨(h2.mail List.mem_cons_self).2.2.1, h2.sub (List.sublist_cons_self _ _)⟩
set_option maxHeartbeats 2000000 in
theorem st_publish (h : StoIs qT B w0 w sb bs S F c) (e : Ent) (hl0 : -1 ≤ S.last) (hl1 : S.last < 4611686018427387904) (hkey : e.key.length ≤ 1000) (ok : RunOk K k ⟨S.born, [S.mail true e], false⟩) (hK : K < 4611686018427387904) (hk : k < 90000) (hc : c ≤ 100000) :
    Calls Tryz.prog 30 #[bpt sb, enV e] w fun r w' => r = .returned (.tuple #[.bool (S.publish e).2.1, .int .i64 (S.publish e).2.2]) ∧ StoIs qT B w0 w' sb bs (S.publish e).1 F c := by
  have h0 := h.alloc (enO e)
  have c0 := (h0.enAt (k := w.heap.size) (e := e) List.mem_cons_self).1
  have cn : Hid (Calls Tryz.prog 79 #[bpt sb, enV e] (w.alloc (enO e)) fun r w' => ∃ mb a cp, r = .returned (bpt mb) ∧ w'.cell? ⟨mb, 10, none⟩ = some (.slice a (S.tos e.exch e.key).length cp) ∧
      Hid (Calls Tryz.prog 80 #[bpt sb, mailI mb] w' fun r w' => r = noneV ∧ w'.cell? ⟨mb, 11, none⟩ = some (.bool (S.pubC e).r) ∧ StoIs qT B w0 w' sb bs (S.pubC e).S F c)) := Lib.hid ((newmail_any h0 e hl0 hl1 hkey hc).mono (by
    rintro r w' ⟨mb, tv, Z, rfl, hw, h1⟩
    obtain ⟨a, cp, rfl, -⟩ := SlIs.form hw
    refine ⟨mb, a, cp, rfl, (h1.mail List.mem_cons_self).2.1, Lib.hid ?_⟩
    have hs : CfIs qT B w0 (w'.alloc (.cells #[mailI mb] 221)) sb bs (some mb) ⟨S.born, [S.mail true e], false⟩ (.slice (some ⟨w'.heap.size, 0, none⟩) 1 1) ((w.heap.size, enO e) :: F) c :=
      run_start (tm := ⟨S.mail true e, mailI mb, (mb, mailO { e with id := S.last + 1 } (.slice a (S.tos e.exch e.key).length cp) false) :: Z⟩) (OT := []) h1 ⟨mb, _, Z, false, rfl, fun _ => ⟨rfl, rfl⟩, rfl, hw⟩ (.inl ⟨rfl, rfl⟩)
    refine (run_any (b := mb) rfl hs ok hK hk hc).mono ?_
    rintro r w2 ⟨rfl, v, h2⟩
    obtain ⟨k1, h3⟩ := run_done_top h2 (fin_R _ _ ok.ok.few (Nat.le_refl _)).1
    exact ⟨rfl, k1, h3.sub (List.sublist_cons_self _ _)⟩))
  show Calls Tryz.prog 30 #[bpt sb, enV e] w fun r w' => r = .returned (.tuple #[.bool (!(S.pubC e).r), .int .i64 ((S.tos e.exch e.key).length : Nat)]) ∧ StoIs qT B w0 w' sb bs (S.pubC e).S F c
  generalize (S.tos e.exch e.key).length = nt at *
  generalize S.pubC e = C at *
  obtain ⟨y0, y1, y2, y3, y4, y5, y6, y7, y8, y9⟩ := c0
  clear h h0 ok hl0 hl1 hkey hK hk hc
  go_enter Tryz.func30, Tryz.ntmps30
  go_wp2_with fail
  refine cn.out.mono ?_
  rintro r w1 ⟨mb, a, cp, rfl, k1, cr⟩
  clear cn y0 y1 y2 y3 y4 y5 y6 y7 y8 y9
  go_wp2_with fail
  refine cr.out.mono ?_
  rintro r w2 ⟨rfl, k2, h2⟩
  replace h2 := Lib.hid h2
  clear cr k1
  go_wp2_with fail
  go_ret2
  exact ⟨rfl, h2.out⟩
end
end Go.Proofs.YtknjamfjonapiaaGreatDoor

namespace Go.Proofs.YtknjamfjonapiaaGreatDoor
open Go.RowKit
set_option linter.unusedVariables false
set_option maxRecDepth 100000
abbrev oZ : Opt := ⟨[], [], 0, 0, 0, 0⟩
abbrev kE : Ent := ⟨0, 1, 3, [], [113], 0, 0, 0, false, 0⟩
abbrev kE1 : Ent := ⟨1, 1, 3, [], [113], 0, 0, 0, false, 0⟩
abbrev kG : Gst := ⟨1, 1, [116], 0, false, false⟩
def kS1 : Sto := ((newS 1000).queue [113] oZ 1).1
theorem k1 : (newS 1000).queue [113] oZ 1 = (kS1, 0, 0, 0) := by kernel_rfl
def kS2 : Sto := { kS1 with sl := (kS1.sl.put [97, 98, 99]).2 }
theorem k2 : kS1.sl.put [97, 98, 99] = ((1, 0), kS2.sl) := by kernel_rfl
def kS3 : Sto := (kS2.publish kE).1
theorem k3 : kS2.publish kE = (kS3, true, 1) := by kernel_rfl
def kS4 : Sto := kS3.letGo 1
theorem k4r : kS4.readyOf [113] = [kE1] := by kernel_rfl
def kS5 : Sto := (kS4.take [113] 2).1
theorem k5 : kS4.take [113] 2 = (kS5, kE1, 1, 0, 0) := by kernel_rfl
def kS6 : Sto := (kS5.consume [113] kG).1
theorem k6 : kS5.consume [113] kG = (kS6, 0) := by kernel_rfl
theorem k7 : kS6.take [110, 111, 110, 101] 1 = (kS6, z0E, 0, 0, 404) := by kernel_rfl
def kS8 : Sto := kS6.letGo 1
theorem k8g : kS8.guestsOf [113] = [kG] := by kernel_rfl
theorem k8l : kS8.sl.bs = [] := by kernel_rfl
theorem k8n : kS8.L.map (·.name) = [[113]] := by kernel_rfl
theorem k8h : hasX kS8.P [] = true := by kernel_rfl
theorem k8w : kS8.now = 0 := by kernel_rfl
theorem k2L : kS2.L = [⟨[113], 1, 1, oZ, [], [], 0⟩] := by kernel_rfl
theorem k2R : RunOk 4611686018427387903 60 ⟨kS2.born, [kS2.mail true kE], false⟩ := by
  refine ⟨⟨by decide +kernel, Nat.le_refl _, by decide +kernel, by decide +kernel, ?_, ?_⟩, by decide +kernel, by decide +kernel⟩
  · intro p hp
    have hp' : p ∈ kS2.L := hp
    rw [k2L, List.mem_singleton] at hp'
    subst hp'
    exact ⟨⟨by decide, by decide⟩, (fun e he => nomatch he), by decide, RkOk.nil⟩
  · intro t ht
    rw [List.mem_singleton] at ht
    subst ht
    refine ⟨⟨by decide, by decide, by decide⟩, ?_⟩
    have : ∀ i ∈ kS2.tos [] [113], i < kS2.L.length := by decide +kernel
    exact this
theorem k3h : HeldOk kS3 := by
  have : ∀ x ∈ kS3.sl.bs, x.2.1 < 9223372036854775807 := by decide +kernel
  exact this
theorem k6h : HeldOk kS6 := by
  have : ∀ x ∈ kS6.sl.bs, x.2.1 < 9223372036854775807 := by decide +kernel
  exact this
theorem k5G : ∀ p ∈ kS5.L, p.G.length < 60000 := by decide +kernel
theorem k2l0 : -1 ≤ kS2.last := by decide +kernel
theorem k2l1 : kS2.last < 4611686018427387904 := by decide +kernel
end Go.Proofs.YtknjamfjonapiaaGreatDoor

namespace Go.Proofs.YtknjamfjonapiaaGreatDoor
open Go.RowKit
set_option linter.unusedVariables false
set_option linter.unusedSectionVars false
set_option maxRecDepth 100000
set_option maxHeartbeats 8000000 in
theorem known19_true (w : World) (hM : Most w.heap.size w) : Calls Tryz.prog 11 #[] w fun e w' => e = .returned (.bool true) ∧ Below w.heap.size w w' := by
  have c0 := Lib.hid (st_new (qT := false) (fun h => nomatch h) hM (St.start w) 1000)
  clear hM
  go_enter Tryz.func11, Tryz.ntmps11
  go_wp2_with fail
  refine c0.out.mono ?_
  rintro r w1 ⟨sb, rfl, h1⟩
  obtain ⟨slb, Z1, s1, hs1, hb1⟩ := h1.slab
  have c1 := Lib.hid (st_slab s1)
  have cq := Lib.hid (st_queue h1 [113] oZ 1 (by decide) k1)
  clear c0 h1 hs1 hb1 s1
  go_wp2_with fail
  refine c1.out.mono ?_
  rintro r w2 ⟨rfl, rfl⟩
  clear c1
  go_wp2_with fail
  refine cq.out.mono ?_
  rintro r w3 ⟨rfl, bs, h2⟩
  obtain ⟨slb2, Z2, s2, hs2, hb2⟩ := h2.slab
  have c2 := Lib.hid (st_slab s2)
  have cp := Lib.hid (sb_put_to hs2 ⟨#[97, 98, 99]⟩ (by unfold maxLen; decide) (by decide +kernel) k2)
  replace hb2 := Lib.hid (fun w' (h' : SlabIs w.heap.size w w' slb2 kS2.sl (Z2 ++ [])) => hb2 w' kS2.sl [] h')
  clear cq h2 hs2 s2
  go_wp2_with fail
  refine c2.out.mono ?_
  rintro r w4 ⟨rfl, rfl⟩
  clear c2
  go_wp2_with fail
  refine cp.out.mono ?_
  rintro r w5 ⟨rfl, hs3⟩
  have h3 : StoIs false w.heap.size w w5 sb bs kS2 [] 1 := hb2.out _ hs3
  have c3 := Lib.hid (st_publish h3 kE k2l0 k2l1 (by decide) k2R (by decide) (by decide) (by decide))
  rw [k3] at c3
  clear cp hb2 hs3 h3
  go_wp2_with fail
  refine c3.out.mono ?_
  rintro r w6 ⟨rfl, h4⟩
  have c4 := Lib.hid (st_done h4 k3h { z0E with body := 1 } (S' := kS4) rfl)
  clear c3 h4
  go_wp2_with fail
  refine c4.out.mono ?_
  rintro r w7 ⟨rfl, h5⟩
  have c5 := Lib.hid (st_ready h5 [113])
  rw [k4r] at c5
  clear c4 h5
  go_wp2_with fail
  refine c5.out.mono ?_
  rintro r w8 ⟨a, cpp, Y, rfl, hY, h6⟩
  have c6 := Lib.hid (st_take h6 [113] 2 k5)
  clear c5 h6
  go_wp2_with fail
  refine c6.out.mono ?_
  rintro r w9 ⟨rfl, h7⟩
  have h7' := h7.alloc (enO kE1)
  have c7 := Lib.hid (st_consume h7' [113] kG (by decide) k5G k6)
  clear c6 h7 h7'
  go_wp2_with fail
  refine c7.out.mono ?_
  rintro r w10 ⟨rfl, h8⟩
  have c8 := Lib.hid (st_take h8 [110, 111, 110, 101] 1 k7)
  clear c7 h8
  go_wp2_with fail
  refine c8.out.mono ?_
  rintro r w11 ⟨rfl, h9⟩
  have h9' := h9.alloc (enO z0E)
  obtain ⟨y0, y1, y2, y3, y4, y5, y6, y7, y8, y9⟩ := (h9'.enAt (k := w9.heap.size) (e := kE1) (List.mem_cons_of_mem _ List.mem_cons_self)).1
  have c9 := Lib.hid (st_done h9' k6h kE1 (S' := kS8) rfl)
  clear c8 h9 h9'
  go_wp2_with fail
  refine c9.out.mono ?_
  rintro r w12 ⟨rfl, h10⟩
  obtain ⟨g, off, rfl, q0, -⟩ := h10.reads (M := [kE1]) (Y := Y) (F' := [(w11.heap.size, enO z0E), (w9.heap.size, enO kE1)]) hY (perm_by fun a => by simp only [List.count_append, List.count_cons, List.count_nil]; omega) 0 kE1 rfl
  simp only [Nat.zero_mul, Nat.add_zero] at q0
  simp only [List.length_cons, List.length_nil, Nat.zero_add] at hY
  have d1 := Lib.hid (st_guests h10 [113])
  rw [k8g] at d1
  clear c9 h10 hY y0 y1 y2 y3 y4 y5 y6 y7 y8 y9
  go_wp2_with fail
  refine d1.out.mono ?_
  rintro r w13 ⟨a2, cp2, Y2, rfl, -, h11⟩
  obtain ⟨slb3, Z3, s3, hs3, -⟩ := h11.slab
  have d2 := Lib.hid (st_slab s3)
  have d3 := live_is hs3
  rw [k8l] at d3
  replace d3 := Lib.hid d3
  have d4 := Lib.hid (st_names h11)
  clear d1 h11 hs3 s3 q0
  go_wp2_with fail
  refine d2.out.mono ?_
  rintro r w14 ⟨rfl, rfl⟩
  clear d2
  go_wp2_with fail
  refine d3.out.mono ?_
  rintro r w15 ⟨rfl, rfl⟩
  clear d3
  go_wp2_with fail
  refine d4.out.mono ?_
  rintro r w16 ⟨u, Z4, rfl, hu, h12⟩
  obtain ⟨a3, cp3, rfl⟩ := hu.form
  rw [k8n] at *
  clear hu
  have d5 := st_has h12 []
  rw [k8h] at d5
  replace d5 := Lib.hid d5
  clear d4 h12
  go_wp2_with fail
  refine d5.out.mono ?_
  rintro r w17 ⟨rfl, h13⟩
  have d6 := st_now h13
  rw [k8w] at d6
  replace d6 := Lib.hid d6
  have fin := Lib.hid h13.below
  clear d5 h13
  go_wp2_with fail
  refine d6.out.mono ?_
  rintro r w18 ⟨rfl, rfl⟩
  clear d6
  go_wp2_with fail
  go_ret
  exact ⟨rfl, fin.out⟩
end Go.Proofs.YtknjamfjonapiaaGreatDoor

namespace Go.Proofs.YtknjamfjonapiaaGreatDoor
open Go.RowKit
set_option linter.unusedVariables false
set_option linter.unusedSectionVars false
set_option maxRecDepth 100000
def solG (first : Bool) (i : Nat) : Gst := ⟨i, 0, [], 0, false, first && i == 0⟩
def solL (first : Bool) (i : Nat) : List Gst := if first = true then (if i = 0 then [] else [solG true 0]) else (List.range i).map (solG false)
def solS (first : Bool) (i : Nat) : Sto := { ((newS 1000).queue [113] oZ 0).1 with L := [⟨[113], 1, 0, oZ, [], solL first i, 0⟩] }
theorem sol_new (first : Bool) : (newS 1000).queue [113] oZ 0 = (solS first 0, 0, 0, 0) := by cases first <;> kernel_rfl
theorem sol_step (first : Bool) (i : Nat) (h : i < 4) : (solS first i).consume [113] (solG first i) = (solS first (i + 1), if first = true ∧ i ≠ 0 then 403 else 0) := by
  obtain rfl | rfl | rfl | rfl : i = 0 ∨ i = 1 ∨ i = 2 ∨ i = 3 := by omega
  all_goals (cases first <;> kernel_rfl)
theorem sol_more (first : Bool) (k : Nat) (h0 : 0 < k) (h : k ≤ 4) : (solS first k).consume [113] ⟨9, 0, [], 0, false, true⟩ = (solS first k, 403) := by
  obtain rfl | rfl | rfl | rfl : k = 1 ∨ k = 2 ∨ k = 3 ∨ k = 4 := by omega
  all_goals (cases first <;> kernel_rfl)
theorem sol_again (first : Bool) (k : Nat) (h0 : 0 < k) (h : k ≤ 4) : (solS first k).consume [113] z0G = (solS first k, if first = true then 403 else 406) := by
  obtain rfl | rfl | rfl | rfl : k = 1 ∨ k = 2 ∨ k = 3 ∨ k = 4 := by omega
  all_goals (cases first <;> kernel_rfl)
theorem sol_few (first : Bool) (k : Nat) (h : k ≤ 4) : ∀ p ∈ (solS first k).L, p.G.length < 60000 := by
  intro p hp
  have hp' : p ∈ [(⟨[113], 1, 0, oZ, [], solL first k, 0⟩ : Plq)] := hp
  rw [List.mem_singleton] at hp'
  subst hp'
  show (solL first k).length < 60000
  unfold solL
  split
  · split <;> simp
  · simp; omega
set_option maxHeartbeats 4000000 in
theorem sole19_walk {w : World} {n0 : Nat} {first : Bool} (h0 : n0 < 256) (hM : Most w.heap.size w) :
    Calls Tryz.prog 8 #[.int .u8 n0, .bool first] w fun e w' => e = .returned (.bool true) ∧ Below w.heap.size w w' := by
  have ck := Lib.hid (known19_true w hM)
  obtain ⟨m, hm⟩ : ∃ m, m = n0 % 4 := ⟨_, rfl⟩
  have hmt : (n0 : Int).tmod 4 = m := by rw [Int.tmod_eq_emod_of_nonneg (by omega)]; omega
  have hme : (n0 : Int) % 4 = m := by omega
  have m0 : (0 : Int) ≤ m := by omega
  have m4 : (m : Int) < 4 := by omega
  have n00 : (0 : Int) ≤ n0 := by omega
  have n01 : (n0 : Int) < 256 := by omega
  obtain ⟨k, hk⟩ : ∃ k : Nat, k = m + 1 := ⟨_, rfl⟩
  have hki : (m : Int) + 1 = k := by omega
  have k1 : 0 < k := by omega
  have k4 : k ≤ 4 := by omega
  replace hm := Lib.hid hm
  replace hk := Lib.hid hk
  replace hki := Lib.hid hki
  go_enter Tryz.func8, Tryz.ntmps8
  go_wp2_with fail
  refine ck.out.mono ?_
  rintro e w1 ⟨rfl, hb⟩
  have c2 := Lib.hid (st_new (qT := false) (fun h => nomatch h) hM ((St.start w).grow hb) 1000)
  clear ck hb hM
  go_wp2_with fail
  refine c2.out.mono ?_
  rintro r w2 ⟨sb, rfl, h1⟩
  have c3 := Lib.hid (st_queue h1 [113] oZ 0 (by decide) (sol_new first))
  clear c2 h1
  go_wp2_with fail
  refine c3.out.mono ?_
  rintro r w3 ⟨rfl, bs, h2⟩
  replace h2 := Lib.hid h2
  clear c3
  go_upto_region 6 with fail
  rw [hki.out]
  clear hmt hme m0 m4 hki hm hk n00 n01
  have k40 : (k : Int) ≤ 4 := by omega
  have k00 : (0 : Int) < k := by omega
  go_wp2_with fail
  go_loopg [7] k (fun g v7 wr => ∃ i : Nat, v7 = .int .i64 i ∧ i + g = k ∧ Hid (StoIs false w.heap.size w wr sb bs (solS first i) [] 1))
  case atStart => exact ⟨0, rfl, by omega, h2⟩
  case round =>
    clear h2
    obtain ⟨i, rfl, hi, h⟩ := hrel
    have i0 : (0 : Int) ≤ i := by omega
    by_cases hik : i < k
    · have i1 : (i : Int) < k := by omega
      have ca := Lib.hid (st_consume h.out [113] (solG first i) (by simp [solG]) (sol_few first i (by omega)) (sol_step first i (by omega)))
      clear h
      unfold solG at ca
      by_cases hz : i = 0
      · subst hz
        cases first with
        | true =>
          go_wp2_with fail
          refine ca.out.mono ?_
          rintro r w5 ⟨rfl, h5⟩
          replace h5 := Lib.hid h5
          clear ca
          go_wp2_with fail
          go_roundg (k - 1)
          case measure => omega
          case rel => exact ⟨1, by go_num, by omega, h5⟩
        | false =>
          go_wp2_with fail
          refine ca.out.mono ?_
          rintro r w5 ⟨rfl, h5⟩
          replace h5 := Lib.hid h5
          clear ca
          go_wp2_with fail
          go_roundg (k - 1)
          case measure => omega
          case rel => exact ⟨1, by go_num, by omega, h5⟩
      · have hzi : ((i : Int) == 0) = false := by rw [beq_eq_false_iff_ne]; omega
        have hzn : (i == 0) = false := by rw [beq_eq_false_iff_ne]; exact hz
        cases first with
        | true =>
          rw [if_pos ⟨rfl, hz⟩, hzn] at ca
          go_wp2_with fail
          refine ca.out.mono ?_
          rintro r w5 ⟨rfl, h5⟩
          replace h5 := Lib.hid h5
          clear ca
          go_wp2_with fail
          go_roundg (k - (i + 1))
          case measure => omega
          case rel => exact ⟨i + 1, by go_num, by omega, h5⟩
        | false =>
          rw [if_neg (by simp), hzn] at ca
          go_wp2_with fail
          refine ca.out.mono ?_
          rintro r w5 ⟨rfl, h5⟩
          replace h5 := Lib.hid h5
          clear ca
          go_wp2_with fail
          go_roundg (k - (i + 1))
          case measure => omega
          case rel => exact ⟨i + 1, by go_num, by omega, h5⟩
    · obtain rfl : i = k := by omega
      have ce := Lib.hid (st_consume h.out [113] ⟨9, 0, [], 0, false, true⟩ (by simp) (sol_few first i k4) (sol_more first i k1 k4))
      clear h
      go_wp2_with fail
      refine ce.out.mono ?_
      rintro r w5 ⟨rfl, h5⟩
      have cg := st_consume h5 [113] z0G (by simp) (sol_few first i k4) (sol_again first i k1 k4)
      replace cg := Lib.hid cg
      clear ce h5
      cases first with
      | true =>
        rw [if_pos rfl] at cg
        go_wp2_with fail
        refine cg.out.mono ?_
        rintro r w6 ⟨rfl, h6⟩
        have fin := Lib.hid h6.below
        clear cg h6
        go_wp2_with fail
        go_ret
        exact ⟨rfl, fin.out⟩
      | false =>
        rw [if_neg (by decide)] at cg
        go_wp2_with fail
        refine cg.out.mono ?_
        rintro r w6 ⟨rfl, h6⟩
        have fin := Lib.hid h6.below
        clear cg h6
        go_wp2_with fail
        go_ret
        exact ⟨rfl, fin.out⟩
theorem sole19_row {z0 : Int} {b1 : Bool} {w : World} (hM : Most w.heap.size w) (r0 : Read Tryz.prog w 5 [.int .u8 z0]) :
    Calls Tryz.prog 8 #[.int .u8 z0, .bool b1] w fun e w' => e = .returned (.bool true) ∧ Below w.heap.size w w' := by
  obtain ⟨y, hy, wf⟩ := r0.int (by kernel_rfl : Tryz.prog.underlying 5 = some (.int .u8))
  simp only [List.cons.injEq, Value.int.injEq, true_and, and_true] at hy
  subst hy
  obtain ⟨h1, h2⟩ := bounds_u8 wf
  obtain ⟨t, rfl⟩ := Int.eq_ofNat_of_zero_le h1
  exact sole19_walk (by omega) hM
end Go.Proofs.YtknjamfjonapiaaGreatDoor

namespace Go.Proofs.YtknjamfjonapiaaGreatDoor
open Go.RowKit
theorem door_met19 (os : Os) (args : Array Value) : laidMetH Tryz.prog laidT ((World.doorLaid Tryz.prog 19 os).forCall (fun _ _ => 0) ⟨#[], args, []⟩).memory :=
  laidMetH_of_parts3 (fuel := 8) (laidMet_of_run' 8 (by kernel_rfl) (by kernel_rfl)) (by kernel_rfl) (by kernel_rfl)
end Go.Proofs.YtknjamfjonapiaaGreatDoor
