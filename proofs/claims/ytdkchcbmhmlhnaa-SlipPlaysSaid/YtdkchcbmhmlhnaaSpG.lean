/- Slips: one that is no longer in the set goes. -/
import Derived.Test.YtdkchcbmhmlhnaaSpF
namespace Go.Proofs.Ytdkchcbmhmlhnaa
open Go.RowKit
open Go.ChangeMaps (setBlock)
set_option linter.unusedVariables false
set_option linter.unusedSectionVars false
set_option linter.unusedSimpArgs false
set_option maxRecDepth 100000

section
variable {B : Nat} {w0 w w' : World} {sb hb nb most : Nat} {M : List Slp} {F : List (Nat × Obj)} {tv : Value} {x : Slp}
theorem del_held (hM : OkS M) (hx : x ∈ M) (t : Int) : updG (heldG M) x.tag none t = heldG (dropS M x.tag) t := by
  have hD := hM.drop x.tag
  unfold updG heldG
  by_cases ht : t = x.tag
  · subst ht
    rw [if_pos rfl, getS_none.2 fun h => (drop_tags.1 h).2 rfl]
    rfl
  · rw [if_neg ht]
    cases hg : getS M t with
    | none => rw [getS_none.2 fun h => getS_none.1 hg (drop_tags.1 h).1]
    | some y =>
      obtain ⟨h1, h2⟩ := getS_mem hg
      have hy : y ∈ dropS M x.tag := List.mem_filter.2 ⟨h1, by simp; omega⟩
      have := getS_some hD hy
      rw [h2] at this
      rw [this]
theorem del_cnt0 (hM : OkS M) (hx : x ∈ M) (h : ofS M x.cons = 1) (v : Value) (c : List UInt8) : updG (updG (cntG M) x.cons (some v)) x.cons none c = cntG (dropS M x.tag) c := by
  have h1 := drop_of hM hx c
  have h2 := drop_of hM hx x.cons
  rw [if_pos rfl] at h2
  unfold updG cntG
  by_cases hc : c = x.cons
  · subst hc
    rw [if_pos rfl, if_pos (by omega)]
  · rw [if_neg fun e : x.cons = c => hc e.symm] at h1
    rw [if_neg hc, if_neg hc, h1, Nat.zero_add]
theorem del_cnt1 (hM : OkS M) (hx : x ∈ M) (h : ofS M x.cons ≠ 1) (c : List UInt8) : updG (cntG M) x.cons (some (.int .i64 ((ofS M x.cons : Int) - 1))) c = cntG (dropS M x.tag) c := by
  have h1 := drop_of hM hx c
  have h2 := drop_of hM hx x.cons
  rw [if_pos rfl] at h2
  unfold updG cntG
  by_cases hc : c = x.cons
  · subst hc
    rw [if_pos rfl, if_neg (by omega), show (ofS M x.cons : Int) - 1 = (ofS (dropS M x.tag) x.cons : Int) by omega]
  · rw [if_neg fun e : x.cons = c => hc e.symm] at h1
    rw [if_neg hc, h1, Nat.zero_add]
def Forgot (B : Nat) (w0 : World) (sb : Nat) (tv : Value) (N : List Slp) (F : List (Nat × Obj)) (w' : World) : Prop := ∃ hb nb m, m ≤ 1000000 ∧ WithM B w0 w' sb tv hb nb m (heldG N) (cntG N) F

set_option maxHeartbeats 2000000 in
theorem forget_any (h : WithM B w0 w sb tv hb nb most (heldG M) (cntG M) F) (hM : OkS M) (hm : most ≤ 1000000) (hx : x ∈ M) : Calls Try.prog 25 #[gptr sb, slV x] w fun e w' => e = .returned (.tuple #[]) ∧ Forgot B w0 sb tv (dropS M x.tag) F w' := by
  have hA : WithM B w0 (w.alloc (slO x)) sb tv hb nb most (heldG M) (cntG M) ((w.heap.size, slO x) :: F) := by
    obtain ⟨S, h1, -, h2⟩ := h.beside
    exact h2 _ _ ((h1.alloc (slO x)).perm List.perm_middle.symm)
  obtain ⟨-, c1, -⟩ := hA.head
  have k0 := (hA.slip (b := w.heap.size) (x := x) List.mem_cons_self).1.1
  obtain ⟨es, clk, hg, hB⟩ := (hA.grow (drew_b _)).delH x.tag
  have hB1 := hB.congr (fun t => del_held hM hx t) (fun _ => rfl)
  have hof : 1 ≤ ofS M x.cons := by rw [drop_of hM hx x.cons, if_pos rfl]; omega
  have hof2 : ofS M x.cons ≤ 1000000 := Nat.le_trans (of_le _) hM.few
  have hD := Lib.hid (hM.drop x.tag)
  have hz0 := Lib.hid (fun h v c => del_cnt0 hM hx h v c)
  have hz1 := Lib.hid (fun h c => del_cnt1 hM hx h c)
  replace hM := Lib.hid hM
  clear h hA hB hx
  generalize hW0 : w.alloc (slO x) = W0 at *
  replace hW0 := Lib.hid hW0
  generalize hW : setBlock W0.drew hb (.map (entsE encI (es.eraseP fun y => decide (y.1 = x.tag))) clk) = W1 at *
  replace hW := Lib.hid hW
  replace hm := Lib.hid hm
  obtain ⟨-, -, c2, -⟩ := hB1.head
  have k2 : W1.cell? ⟨w.heap.size, 2, none⟩ = some (tx x.cons) := (hB1.slip (b := w.heap.size) (x := x) List.mem_cons_self).1.2.2.1
  have hB2 := hB1.grow (drew_b _)
  have hlk := hB2.lookN x.cons false
  rw [if_neg (by decide), cntG_getD] at hlk
  obtain ⟨n1, hn1⟩ : ∃ n1, n1 = (ofS M x.cons : Int) - 1 := ⟨_, rfl⟩
  have hwr : IntKind.i64.wrap ((ofS M x.cons : Int) - 1) = n1 := by
    rw [hn1]
    exact IntWalk.i64_in _ (by omega)
  obtain ⟨W3, hmu, hB3⟩ := hB2.putN x.cons (.int .i64 n1)
  have gd := fun n => hB3.grow (drewN_below _ n)
  have q2 := hB3.head.2.2.1
  have j2 : W3.cell? ⟨w.heap.size, 2, none⟩ = some (tx x.cons) := (hB3.slip (b := w.heap.size) (x := x) List.mem_cons_self).1.2.2.1
  have hl3 : ∀ n, (Instr.lookup 53 (.map (some nb)) (tx x.cons) false).run Try.prog (W3.drewN n) = .ok (.int .i64 n1) (W3.drewN n) := fun n => by
    have := (gd n).lookN x.cons false
    rw [if_neg (by decide)] at this
    unfold updG at this
    rw [if_pos rfl] at this
    exact this
  replace gd := Lib.hid gd
  clear hB1 hB2 hB3
  by_cases h1 : ofS M x.cons = 1
  · have hn0 : (n1 == 0) = true := by rw [hn1, h1]; rfl
    have gd2 := Lib.hid (fun n => ((gd.out n).grow (drew_b _)).delN x.cons)
    have hfin : Hid (∀ W, WithM B w0 W sb tv hb nb most (heldG (dropS M x.tag)) (updG (updG (cntG M) x.cons (some (.int .i64 n1))) x.cons none) ((w.heap.size, slO x) :: F) → Calls Try.prog 33 #[gptr sb] W fun e w' => e = .returned (.tuple #[]) ∧ Forgot B w0 sb tv (dropS M x.tag) F w') := Lib.hid fun W h => by
      have h2 := h.congr (fun _ => rfl) (hz0.out h1 _)
      obtain ⟨S, s1, -, s2⟩ := h2.beside
      exact give_any (s2 _ F (s1.sub ((List.Sublist.refl S).append (List.sublist_cons_self _ _)))) hD.out hm.out
    clear hz0 hz1 hD hM hm hn1 gd hof hof2 h1
    generalize ofS M x.cons = n at *
    go_enter Try.func25, Try.ntmps25
    go_upto_region 1 with fail
    rw [hW0.out]
    generalize w.heap.size = xb at *
    clear hW0
    go_still_tail 6, (by kernel_rfl)
    change wpList _ _ _ _ _ W0.drew
    go_wp2_with (at_delete; refine wpList_delE rfl (.tmp 7) (.tmp 9) rfl keyI uMapSl rfl hg (k := x.tag) trivial (fun _ _ => trivial) rfl ?_; intro w9 hw9; replace hw9 := Lib.hid (hw9.out.trans hW.out); rw [hw9.out])
    clear hg c1 k0
    go_still_tail 8, (by kernel_rfl)
    change wpList _ _ _ _ _ W1.drew
    go_wp2_with fail
    clear hmu hlk c2 k2 hwr
    go_quiet (fail)
    go_wp2_with fail
    obtain ⟨cs, ck, hg, hB4⟩ := gd2.out nq
    have hc4 := Lib.hid (hfin.out _ hB4)
    clear gd2 hfin hB4 hl3
    generalize hV : setBlock (W3.drewN nq).drew nb (.map (entsE encS (cs.eraseP fun y => decide (y.1 = x.cons))) ck) = V1 at *
    replace hV := Lib.hid hV
    have q2' : (W3.drewN nq).cell? ⟨sb, 2, none⟩ = some (.map (some nb)) := q2
    have j2' : (W3.drewN nq).cell? ⟨xb, 2, none⟩ = some (tx x.cons) := j2
    clear q2 j2
    generalize W3.drewN nq = W4 at *
    go_still_tail 6, (by kernel_rfl)
    change wpList _ _ _ _ _ W4.drew
    go_wp2_with (at_delete; refine wpList_delE rfl (.tmp 29) (.tmp 31) rfl keyS uMapN rfl hg (k := x.cons) trivial (fun _ _ => trivial) rfl ?_; intro w9 hw9; replace hw9 := Lib.hid (hw9.out.trans hV.out); rw [hw9.out])
    refine hc4.out.mono ?_
    rintro e w6 ⟨rfl, hF⟩
    replace hF := Lib.hid hF
    clear hc4 hg q2' j2'
    go_wp2_with fail
    exact bodyPost_end (results_none rfl _ _ _) rfl ⟨rfl, hF.out⟩
  · have hn0 : (n1 == 0) = false := by rw [hn1, beq_eq_false_iff_ne]; omega
    have hfin : Hid (∀ n, Calls Try.prog 33 #[gptr sb] (W3.drewN n) fun e w' => e = .returned (.tuple #[]) ∧ Forgot B w0 sb tv (dropS M x.tag) F w') := Lib.hid fun n => by
      have h2 := (gd.out n).congr (fun _ => rfl) (g2' := cntG (dropS M x.tag)) (fun c => by rw [hn1]; exact hz1.out h1 c)
      obtain ⟨S, s1, -, s2⟩ := h2.beside
      exact give_any (s2 _ F (s1.sub ((List.Sublist.refl S).append (List.sublist_cons_self _ _)))) hD.out hm.out
    clear hz0 hz1 hD hM hm hn1 gd hof hof2 h1
    generalize ofS M x.cons = n at *
    go_enter Try.func25, Try.ntmps25
    go_upto_region 1 with fail
    rw [hW0.out]
    generalize w.heap.size = xb at *
    clear hW0
    go_still_tail 6, (by kernel_rfl)
    change wpList _ _ _ _ _ W0.drew
    go_wp2_with (at_delete; refine wpList_delE rfl (.tmp 7) (.tmp 9) rfl keyI uMapSl rfl hg (k := x.tag) trivial (fun _ _ => trivial) rfl ?_; intro w9 hw9; replace hw9 := Lib.hid (hw9.out.trans hW.out); rw [hw9.out])
    clear hg c1 k0
    go_still_tail 8, (by kernel_rfl)
    change wpList _ _ _ _ _ W1.drew
    go_wp2_with fail
    clear hmu hlk c2 k2 hwr
    go_quiet (fail)
    go_wp2_with fail
    refine (hfin.out _).mono ?_
    rintro e w6 ⟨rfl, hF⟩
    replace hF := Lib.hid hF
    clear hfin hl3
    go_wp2_with fail
    exact bodyPost_end (results_none rfl _ _ _) rfl ⟨rfl, hF.out⟩
end
end Go.Proofs.Ytdkchcbmhmlhnaa
