/- Slips: one comes. -/
import Derived.Test.YtdkchcbmhmlhnaaSpD
namespace Go.Proofs.Ytdkchcbmhmlhnaa
open Go.RowKit
open Go.ChangeMaps (setBlock)
set_option linter.unusedVariables false
set_option linter.unusedSectionVars false
set_option linter.unusedSimpArgs false
set_option maxRecDepth 100000

def addOkS (M : List Slp) (x : Slp) : Bool := decide (x.tag ∉ tagsL M ∧ 1 ≤ x.tag ∧ x.tag ≤ 1000000)
def addS (M : List Slp) (x : Slp) : List Slp := if addOkS M x = true then insS x M else M
theorem uEqMapSl (w : World) (m : Option Nat) : (binOp .eql 52 (.map m) (.map none)).run Try.prog w = .ok (.bool m.isNone) w := by
  simp only [binOp]
  simp [run_equal_map_nil w 52 _ _ m uMapSl]
section
variable {B : Nat} {w0 w w' : World} {sb rb hb nb most b k : Nat} {l l' : List Row} {M L : List Slp} {F F' G S X Y : List (Nat × Obj)} {tv : Value} {g1 g1' : Int → Option Value} {g2 g2' : List UInt8 → Option Value} {x y : Slp} {t : Int}
theorem WithM.slPut (h : WithM B w0 w sb tv hb nb most g1 g2 ((b, slO y) :: F)) : WithM B w0 (slPut w b x) sb tv hb nb most g1 g2 ((b, slO x) :: F) := by
  obtain ⟨S, h1, -, h2⟩ := h.beside
  exact h2 _ _ (((h1.perm List.perm_middle).slPut (x := x)).perm List.perm_middle.symm)
theorem put_held (hM : OkS M) (hx : 1 ≤ x.tag ∧ x.tag ≤ 1000000) (hn : x.tag ∉ tagsL M) (t : Int) : updG (heldG M) x.tag (some (slV x)) t = heldG (insS x M) t := by
  have hI := hM.ins hx hn
  unfold updG
  by_cases ht : t = x.tag
  · subst ht
    rw [if_pos rfl]
    unfold heldG
    rw [getS_some hI (mem_ins.2 (.inl rfl))]
    rfl
  · rw [if_neg ht]
    unfold heldG
    cases hg : getS M t with
    | none =>
      have : getS (insS x M) t = none := getS_none.2 fun h => (ins_tags.1 h).elim ht (getS_none.1 hg)
      rw [this]
    | some y =>
      obtain ⟨h1, h2⟩ := getS_mem hg
      have := getS_some hI (mem_ins.2 (.inr h1))
      rw [h2] at this
      rw [this]
theorem put_cnt (c : List UInt8) : updG (cntG M) x.cons (some (.int .i64 ((ofS M x.cons : Int) + 1))) c = cntG (insS x M) c := by
  unfold updG cntG
  rw [of_ins]
  by_cases hc : c = x.cons
  · subst hc
    rw [if_pos rfl, if_pos rfl, if_neg (by omega), Nat.add_comm]
    rfl
  · rw [if_neg hc, show (if x.cons = c then 1 else 0) + ofS M c = ofS M c by rw [if_neg fun e : x.cons = c => hc e.symm]; omega]

theorem set_op (h : MidIs B w0 w sb l M ((k, slO x) :: G)) : Calls Try.prog 21 #[gptr sb] w fun r w' => ∃ rb, r = .returned (gptr rb) ∧ SetAt B w0 w' sb rb l M ((k, slO x) :: G) ∧ w'.cell? ⟨k, 0, none⟩ = some (.int .i64 x.tag) := by
  refine (set_any h).mono ?_
  rintro r w' ⟨rb, rfl, h'⟩
  exact ⟨rb, rfl, h', (h'.is.slip (b := k) (x := x) List.mem_cons_self).1.1⟩
theorem addr_yes (hl : RowsOf l M) (hok : addOkS M x = true) (h : SetAt B w0 w sb rb l M ((k, slO x) :: G)) : Calls Try.prog 22 #[gptr rb, .int .i64 x.tag, .int .i64 x.tag] w fun r w' =>
    r = .returned (.int .i64 1) ∧ (∃ l', RowsOf l' (insS x M) ∧ MidIs B w0 w' sb l' M ((k, slO x) :: G)) ∧ w'.cell? ⟨k, 0, none⟩ = some (.int .i64 x.tag) := by
  simp only [addOkS, decide_eq_true_eq] at hok
  obtain ⟨Z, h1, h2⟩ := h
  refine (rgs_add h1 x.tag x.tag).mono ?_
  rintro r w' ⟨l', rfl, hm, h3⟩
  have hm2 : ∀ q, Inn l' q ↔ Inn l q ∨ q = x.tag := fun q => by
    rw [hm]
    exact or_congr Iff.rfl ⟨fun _ => by omega, fun _ => by omega⟩
  have h4 := h2 _ _ _ h3
  refine ⟨?_, ⟨l', fun q => ?_, h4⟩, (h4.slip (b := k) (x := x) List.mem_cons_self).1.1⟩
  · rw [cnt_more h1.canon h3.canon hok.2 (fun hi => hok.1 ((hl _).1 hi)) hm2]
    congr 2
    omega
  · rw [hm2, hl, ins_tags, or_comm]
theorem addr_no (hl : RowsOf l M) (hok : addOkS M x = false) (h : SetAt B w0 w sb rb l M ((k, slO x) :: G)) : Calls Try.prog 22 #[gptr rb, .int .i64 x.tag, .int .i64 x.tag] w fun r w' =>
    r = .returned (.int .i64 0) ∧ SlipsIs B w0 w' sb M ((k, slO x) :: G) ∧ w'.cell? ⟨k, 0, none⟩ = some (.int .i64 x.tag) := by
  simp only [addOkS, decide_eq_false_iff_not] at hok
  have hM := h.is.ok
  obtain ⟨Z, h1, h2⟩ := h
  refine (rgs_add h1 x.tag x.tag).mono ?_
  rintro r w' ⟨l', rfl, hm, h3⟩
  have e : l' = l := cnt_same h1.canon h3.canon fun q => by
    rw [hm]
    refine ⟨fun h => h.elim id fun hq => ?_, .inl⟩
    rw [hl]
    by_cases hq2 : x.tag ∈ tagsL M
    · rw [show q = x.tag by omega]
      exact hq2
    · exact absurd ⟨hq2, by omega, by omega⟩ hok
  subst e
  have h4 := h2 _ _ _ h3
  exact ⟨by rw [Int.sub_self], ⟨_, hl, h4⟩, (h4.slip (b := k) (x := x) List.mem_cons_self).1.1⟩

set_option maxHeartbeats 4000000 in
theorem sl_add (h : SlipsIs B w0 w sb M F) (hf : FitL x) : Calls Try.prog 8 #[gptr sb, slV x] w fun e w' => e = .returned (.bool (addOkS M x)) ∧ SlipsIs B w0 w' sb (addS M x) F := by
  have hM := h.ok
  obtain ⟨l, hl, h⟩ := h
  have ha : MidIs B w0 (w.alloc (slO x)).drew sb l M ((w.heap.size, slO x) :: F) := (h.alloc (slO x)).grow (drew_b _)
  have hs0 := Lib.hid (ha.slip (b := w.heap.size) (x := x) List.mem_cons_self).1.1
  have ca := Lib.hid (fun W (h : MidIs B w0 W sb l M ((w.heap.size, slO x) :: F)) => set_op h)
  clear h
  cases hok : addOkS M x with
  | false =>
    have cb := Lib.hid (fun W rb (h : SetAt B w0 W sb rb l M ((w.heap.size, slO x) :: F)) => addr_no hl hok h)
    have fin : Hid (∀ W, SlipsIs B w0 W sb M ((w.heap.size, slO x) :: F) → SlipsIs B w0 W sb (addS M x) F) := Lib.hid fun W h => by
      unfold addS
      rw [hok]
      exact h.sub (List.sublist_cons_self _ _)
    clear hl hok hM
    go_enter Try.func8, Try.ntmps8
    go_wp2_with fail
    go_region_held3 (fun q => q.cell? ⟨w.heap.size, 0, none⟩ = some (.int .i64 x.tag)) (first | exact kS | exact hs0.out) (first
      | (go_at_call 21; refine (ca.out _ (by assumption)).mono ?_; rintro r w4 ⟨rb, rfl, hA, kS⟩)
      | (go_at_call 22; refine (cb.out _ _ (by assumption)).mono ?_; rintro r w4 ⟨rfl, hQ, kS⟩))
    have hfin := Lib.hid (fin.out _ hQ)
    clear hQ kS hA ha hs0 ca cb fin
    go_wp2_with fail
    go_ret
    exact ⟨rfl, hfin.out⟩
  | true =>
    have cb := Lib.hid (fun W rb (h : SetAt B w0 W sb rb l M ((w.heap.size, slO x) :: F)) => addr_yes hl hok h)
    have hok2 := hok
    simp only [addOkS, decide_eq_true_eq] at hok2
    have hadd : Hid (addS M x = insS x M) := Lib.hid (by unfold addS; rw [hok]; rfl)
    have hI := Lib.hid (hM.ins hok2.2 hok2.1)
    have hH := Lib.hid (put_held hM hok2.2 hok2.1)
    have hfew := Lib.hid hI.out.few
    have hxc : Hid (ofS M x.cons ≤ 1000000) := Lib.hid (Nat.le_trans (of_le _) hM.few)
    replace hM := Lib.hid hM
    replace hf := Lib.hid hf
    clear hl hok hok2
    go_enter Try.func8, Try.ntmps8
    go_wp2_with fail
    go_region_held3 (fun q => q.cell? ⟨w.heap.size, 0, none⟩ = some (.int .i64 x.tag)) (first | exact kS | exact hs0.out) (first
      | (go_at_call 21; refine (ca.out _ (by assumption)).mono ?_; rintro r w4 ⟨rb, rfl, hA, kS⟩)
      | (go_at_call 22; refine (cb.out _ _ (by assumption)).mono ?_; rintro r w4 ⟨rfl, ⟨l', hl', hQ⟩, kS⟩))
    replace hl' := Lib.hid hl'
    generalize w.heap.size = xb at *
    clear hA ha hs0 ca cb kS
    obtain ⟨-, tv, X, most, hm, ht, hQ⟩ := hQ
    replace hm := Lib.hid hm
    replace ht := Lib.hid ht
    obtain ⟨hv, c1, hQ2⟩ : ∃ hv, w4.cell? ⟨sb, 1, none⟩ = some (.map hv) ∧ ((hv = none ∧ M = [] ∧ St B w0 w4 ((sb, slipsO tv none none most) :: (X ++ (xb, slO x) :: F))) ∨ ∃ hb nb, hv = some hb ∧ WithM B w0 w4 sb tv hb nb most (heldG M) (cntG M) (X ++ (xb, slO x) :: F)) := by
      rcases hQ with ⟨hnil, hst⟩ | ⟨hb, nb, hW⟩
      · exact ⟨none, hst.cell (b := sb) List.mem_cons_self rfl, .inl ⟨rfl, hnil, hst⟩⟩
      · exact ⟨some hb, hW.head.2.1, .inr ⟨hb, nb, rfl, hW⟩⟩
    have heq := uEqMapSl w4 hv
    replace hQ2 := Lib.hid hQ2
    clear hQ
    go_upto_if 17 with fail
    go_cut [] (fun wy => ∃ hb nb, Hid (WithM B w0 wy sb tv hb nb most (heldG M) (cntG M) ((xb, slO x) :: (X ++ F))))
    case first =>
      rcases hQ2.out with ⟨rfl, hnil, hst⟩ | ⟨hb, nb, rfl, hW⟩
      · clear hQ2
        have hmk1 := fun w => @run_makeMap Try.prog 52 w
        have hmk2 := fun w => @run_makeMap Try.prog 53 w
        have h2 := (hst.alloc (.map #[] 0)).alloc (.map #[] 0)
        rw [World.size_alloc] at h2
        have h3 := h2.perm (H' := (sb, slipsO tv none none most) :: (w4.heap.size, .map (entsE encI []) 0) :: (w4.heap.size + 1, .map (entsE encS []) 0) :: ((xb, slO x) :: (X ++ F))) (by
          classical
          exact List.perm_iff_count.2 fun a => by
            simp only [List.count_append, List.count_cons]
            have e1 : entsE encI [] = #[] := rfl
            have e2 : entsE encS [] = #[] := rfl
            rw [e1, e2]
            omega)
        have f1 := h3.soft (b := sb) List.mem_cons_self 1
        have d1 := h3.cell (b := sb) (i := 1) List.mem_cons_self rfl
        have f2 := h3.soft (b := sb) List.mem_cons_self 2
        have d2 := h3.cell (b := sb) (i := 2) List.mem_cons_self rfl
        have h4 := (h3.set0 1 (.map (some w4.heap.size))).set0 2 (.map (some (w4.heap.size + 1)))
        have fin : Hid (WithM B w0 ((((w4.alloc (.map #[] 0)).alloc (.map #[] 0)).setCell ⟨sb, 1, none⟩ (.map (some w4.heap.size))).setCell ⟨sb, 2, none⟩ (.map (some (w4.heap.size + 1)))) sb tv w4.heap.size (w4.heap.size + 1) most (heldG M) (cntG M) ((xb, slO x) :: (X ++ F))) := Lib.hid (by
          rw [hnil]
          exact ⟨[], 0, [], 0, MapFn.nil, MapFn.nil, h4⟩)
        clear h2 h3 h4 hst hnil
        go_wp2_with fail
        go_meet
        case rel => exact ⟨_, _, fin⟩
      · have hW2 := hW.permF (F' := (xb, slO x) :: (X ++ F)) List.perm_middle
        replace hW2 := Lib.hid hW2
        clear hW hQ2
        go_wp2_with fail
        go_meet
        case rel => exact ⟨_, _, hW2⟩
    case rest =>
      clear hQ2 c1 heq
      obtain ⟨hb, nb, hW⟩ := hcut
      obtain ⟨k0, k1, k2, k3, k4, k5, k6, k7, k8, k9, k10, k11, k12⟩ := (hW.out.slip (b := xb) (x := x) List.mem_cons_self).1
      have co := Lib.hid (lown_any x hf.out wc)
      go_wp2_with fail
      refine co.out.mono ?_
      rintro r w5 ⟨rfl, hbel⟩
      have hW5 := hW.out.grow hbel
      obtain ⟨⟨j0, j1, j2, j3, j4, j5, j6, j7, j8, j9, j10, j11, j12⟩, js⟩ := hW5.slip (b := xb) (x := x) List.mem_cons_self
      have hW6 := hW5.slPut (x := x)
      obtain ⟨W7, hW7⟩ : ∃ W, W = slPut w5 xb x := ⟨_, rfl⟩
      rw [← hW7] at hW6
      unfold slPut at hW7
      replace hW6 := Lib.hid hW6
      clear hW hbel hW5 co k0 k1 k2 k3 k4 k5 k6 k7 k8 k9 k10 k11 k12
      go_upto_region 6 with fail
      rw [← hW7]
      clear hW7 j0 j1 j2 j3 j4 j5 j6 j7 j8 j9 j10 j11 j12 js
      obtain ⟨-, c1, -⟩ := hW6.out.head
      obtain ⟨⟨k0, k1, k2, k3, k4, k5, k6, k7, k8, k9, k10, k11, k12⟩, -⟩ := hW6.out.slip (b := xb) (x := x) List.mem_cons_self
      obtain ⟨W8, hmu, hW8⟩ := (hW6.out.grow (drew_b _)).putH x.tag (slV x)
      have hW9 := Lib.hid ((hW8.congr hH.out (fun _ => rfl)).grow (drew_b _))
      obtain ⟨-, -, c2', -⟩ := hW8.head
      have kc' : W8.cell? ⟨xb, 2, none⟩ = some (tx x.cons) := (hW8.slip (b := xb) (x := x) List.mem_cons_self).1.2.2.1
      clear hW6 hW8
      go_still_tail 7, (by kernel_rfl)
      change wpList _ _ _ _ _ W7.drew
      go_wp2_with fail
      clear hmu c1 k0 k1 k2 k3 k4 k5 k6 k7 k8 k9 k10 k11 k12
      have hlk := hW9.out.lookN x.cons false
      rw [if_neg (by decide), cntG_getD] at hlk
      obtain ⟨W10, hmu, hW10⟩ := hW9.out.putN x.cons (.int .i64 ((ofS M x.cons : Int) + 1))
      have hW11 := Lib.hid ((hW10.congr (fun _ => rfl) (fun c => put_cnt c)).grow (drew_b _))
      obtain ⟨-, d1, d2, d3, df⟩ := hW10.head
      have gl := hW11.out.lenH hI.out
      obtain ⟨n1, hn1⟩ : ∃ n1, n1 = (ofS M x.cons : Int) + 1 := ⟨_, rfl⟩
      have hwr : IntKind.i64.wrap ((ofS M x.cons : Int) + 1) = n1 := by
        have := hxc.out
        rw [hn1]
        exact IntWalk.i64_in _ (by omega)
      rw [← hn1] at hmu
      have fin : Hid (∀ m : Nat, m ≤ 1000000 → SlipsIs B w0 (W10.drew.setCell ⟨sb, 3, none⟩ (.int .i64 m)) sb (addS M x) F) := Lib.hid fun m hm' => by
        rw [hadd.out]
        refine ⟨l', hl'.out, hI.out, tv, X, m, hm', ht.out, .inr ⟨hb, nb, ?_⟩⟩
        obtain ⟨S, s1, -, s2⟩ := (hW11.out.most_ m).beside
        exact s2 _ _ (s1.sub ((List.Sublist.refl S).append (List.sublist_cons_self _ _)))
      have hL : (insS x M).length ≤ 1000000 := hfew.out
      clear hW9 hW10 hW11 hH hI hadd hfew hxc hM hf hl' ht hn1
      generalize (insS x M).length = L at *
      generalize ofS M x.cons = n at *
      go_still_tail 8, (by kernel_rfl)
      change wpList _ _ _ _ _ W8.drew
      go_wp2_with fail
      clear hmu hlk c2' kc' hwr
      by_cases hml : most < L
      · have hm1 : (most : Int) < L := by omega
        have fin := Lib.hid (fin.out L hL)
        go_still_tail 13, (by kernel_rfl)
        change wpList _ _ _ _ _ W10.drew
        go_wp2_with fail
        go_ret
        exact ⟨rfl, fin.out⟩
      · have hm1 : ¬ (most : Int) < L := by omega
        have fin := Lib.hid (fin.out most hm.out)
        go_still_tail 13, (by kernel_rfl)
        change wpList _ _ _ _ _ W10.drew
        go_wp2_with fail
        go_ret
        exact ⟨rfl, fin.out⟩
end
end Go.Proofs.Ytdkchcbmhmlhnaa
