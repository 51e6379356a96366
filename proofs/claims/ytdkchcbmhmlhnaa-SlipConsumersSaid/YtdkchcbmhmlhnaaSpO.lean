/- SlipConsumers, walked. -/
import Derived.Test.YtdkchcbmhmlhnaaSpK
import Derived.Test.YtdkchcbmhmlhnaaInR
import Derived.Test.YtdkchcbmhmlhnaaOcA
import Derived.Deep.DeepCutAuto
import Derived.Deep.CutBlock
namespace Go.Proofs.Ytdkchcbmhmlhnaa
open Go.RowKit
set_option linter.unusedVariables false
set_option linter.unusedSectionVars false
set_option linter.unusedSimpArgs false
set_option maxRecDepth 100000

/-- A consumer's name by its number. -/
abbrev cN (p : Nat) : List UInt8 := [oct (97 + (p : Int))]
theorem cN_inj {p q : Nat} (hp : p < 4) (hq : q < 4) (h : cN p = cN q) : p = q := by
  have h1 := congrArg (fun l : List UInt8 => l.map UInt8.toNat) h
  simp only [cN, List.map_cons, List.map_nil, List.cons.injEq, and_true] at h1
  have e1 := oct_nat (97 + (p : Int))
  have e2 := oct_nat (97 + (q : Int))
  omega
theorem cN_z {p : Nat} (hp : p < 4) : cN p ≠ [122] := fun h => by
  have h1 := congrArg (fun l : List UInt8 => l.map UInt8.toNat) h
  simp only [cN, List.map_cons, List.map_nil, List.cons.injEq, and_true] at h1
  have e1 := oct_nat (97 + (p : Int))
  have e2 : (122 : UInt8).toNat = 122 := rfl
  omega
def numR (M : List Slp) : List Value := (List.range 4).map fun p => .int .i64 (ofS M (cN p))
abbrev numO (M : List Slp) : Obj := .cells (numR M).toArray 49
theorem num0 : numO [] = .cells #[.int .i64 0, .int .i64 0, .int .i64 0, .int .i64 0] 49 := rfl
theorem numR_at (M : List Slp) {p : Nat} (hp : p < 4) : (numR M)[p]? = some (.int .i64 (ofS M (cN p))) := by simp [numR, hp]
theorem numR_set {M N : List Slp} {p : Nat} {v : Int} (hp : p < 4) (h1 : (ofS N (cN p) : Int) = v) (h2 : ∀ q, q < 4 → q ≠ p → ofS N (cN q) = ofS M (cN q)) : (numR M).set p (.int .i64 v) = numR N := by
  apply List.ext_getElem?
  intro i
  rw [List.getElem?_set]
  by_cases hi : i < 4
  · by_cases e : p = i
    · subst e
      rw [if_pos rfl, if_pos (by simp [numR]; omega), numR_at N hi, h1]
    · rw [if_neg e, numR_at M hi, numR_at N hi, h2 i hi fun h => e h.symm]
  · rw [List.getElem?_eq_none (l := numR N) (by simp [numR]; omega)]
    split
    · rw [if_neg (by simp [numR]; omega)]
    · exact List.getElem?_eq_none (by simp [numR]; omega)
structure FamX (zs : List Int) (i : Nat) (M : List Slp) : Prop where
  form : ∀ x ∈ M, ∃ (j p : Nat), j < i ∧ p < 4 ∧ x = lO ((j : Int) + 1) 0 (cN p)
  has : ∀ (j : Nat) (z : Int) (p : Nat), j < i → zs[j]? = some z → z % 4 = p → lO ((j : Int) + 1) 0 (cN p) ∈ M
  len : M.length = i
section
variable {zs : List Int} {i p : Nat} {M : List Slp} {z : Int}
theorem FamX.nil : FamX zs 0 [] := ⟨by simp, fun j z p h => by omega, rfl⟩
theorem FamX.noTag (h : FamX zs i M) : ((i : Int) + 1) ∉ tagsL M := fun hm => by
  obtain ⟨x, hx, e⟩ := List.mem_map.1 hm
  obtain ⟨j, p, h1, h2, rfl⟩ := h.form x hx
  simp only at e
  omega
theorem FamX.ok (h : FamX zs i M) (hi : i ≤ 60) (c : List UInt8) : addOkS M (lO ((i : Int) + 1) 0 c) = true := by
  simp only [addOkS, decide_eq_true_eq]
  exact ⟨h.noTag, by omega, by omega⟩
theorem FamX.add (h : FamX zs i M) (hz : zs[i]? = some z) (hp : z % 4 = p) (hp4 : p < 4) : FamX zs (i + 1) (insS (lO ((i : Int) + 1) 0 (cN p)) M) := by
  refine ⟨fun x hx => ?_, fun j z' p' hj hz' hp' => ?_, by rw [ins_len, h.len]⟩
  · rcases mem_ins.1 hx with rfl | hx
    · exact ⟨i, p, by omega, hp4, rfl⟩
    · obtain ⟨j, q, a, b, c⟩ := h.form x hx
      exact ⟨j, q, by omega, b, c⟩
  · rcases (by omega : j < i ∨ j = i) with hj | rfl
    · exact mem_ins.2 (.inr (h.has j z' p' hj hz' hp'))
    · rw [hz] at hz'
      cases hz'
      have : p' = p := by omega
      rw [this]
      exact mem_ins.2 (.inl rfl)
theorem FamX.few (h : FamX zs i M) (c : List UInt8) : ofS M c ≤ i := by
  have := of_le (M := M) c
  rw [h.len] at this
  exact this
end
theorem row_ins {M : List Slp} {t : Int} {p : Nat} (hp : p < 4) : (numR M).set p (.int .i64 ((ofS M (cN p) : Int) + 1)) = numR (insS (lO t 0 (cN p)) M) :=
  numR_set hp (by rw [of_ins, if_pos rfl]; omega) fun q hq hne => by
    rw [of_ins, if_neg fun e : cN p = cN q => hne (cN_inj hp hq e).symm, Nat.zero_add]
theorem row_drop {M : List Slp} {t : Int} {p : Nat} (hM : OkS M) (hx : lO t 0 (cN p) ∈ M) (hp : p < 4) : (numR M).set p (.int .i64 ((ofS M (cN p) : Int) - 1)) = numR (dropS M t) :=
  numR_set hp (by have := drop_of hM hx (cN p); rw [if_pos rfl] at this; simp only at this; omega) fun q hq hne => by
    have := drop_of hM hx (cN q)
    rw [if_neg fun e : cN p = cN q => hne (cN_inj hp hq e).symm, Nat.zero_add] at this
    exact this.symm
section
variable {B : Nat} {w0 w : World} {sb nb k p : Nat} {M N N' : List Slp} {F : List (Nat × Obj)}
theorem SlipsIs.numAt (h : SlipsIs B w0 w sb M F) (hm : (nb, numO N) ∈ F) (hp : p < 4) : w.cell? ⟨nb, p, none⟩ = some (.int .i64 (ofS N (cN p))) := by
  obtain ⟨S, h1, -⟩ := h.beside
  exact h1.cell (List.mem_append_right _ hm) (by rw [List.getElem?_toArray, numR_at N hp])
theorem SlipsIs.numSoft (h : SlipsIs B w0 w sb M F) (hm : (nb, numO N) ∈ F) (j : Nat) : w.frozen? ⟨nb, j, none⟩ = false := by
  obtain ⟨S, h1, -⟩ := h.beside
  exact h1.soft (List.mem_append_right _ hm) j
theorem SlipsIs.numSet (h : SlipsIs B w0 w sb M ((nb, numO N) :: F)) {v : Int} (e : (numR N).set p (.int .i64 v) = numR N') : SlipsIs B w0 (w.setCell ⟨nb, p, none⟩ (.int .i64 v)) sb M ((nb, numO N') :: F) := by
  obtain ⟨S, h1, h2⟩ := h.beside
  have h3 := h1.set p (.int .i64 v)
  rw [List.setIfInBounds_toArray, e] at h3
  exact h2 _ _ h3
end
/-- What is left behind the one that was taken. -/
def LeftX (n : Nat) (M : List Slp) : Prop := M.length = n - 1 ∧ ofS M [122] = 0
theorem FamX.noZ {zs : List Int} {i : Nat} {M : List Slp} (h : FamX zs i M) : ofS M [122] = 0 := by
  unfold ofS
  rw [List.length_eq_zero_iff, List.filter_eq_nil_iff]
  intro x hx
  obtain ⟨j, p, -, hp, rfl⟩ := h.form x hx
  have := cN_z hp
  simpa using this
abbrev byO (z : Int) : Obj := .cells #[.int .u8 z] 5

set_option maxHeartbeats 4000000 in
theorem fam17_walk {w : World} {a : Option Addr} {n cap t0 : Nat} {zs : List Int} (hz : IntsAt .u8 w a n zs) (ht : t0 < 256) :
    Calls Try.prog 5 #[.slice a n cap, .int .u8 t0] w fun e w' => e = .returned (.bool true) ∧ Below w.heap.size w w' := by
  have c1 := Lib.hid (known17_true w)
  have hlen := hz.size
  have t00 : (0 : Int) ≤ t0 := by omega
  have t01 : (t0 : Int) < 256 := by omega
  replace hz := Lib.hid hz
  go_enter Try.func5, Try.ntmps5
  go_wp2_with fail
  refine c1.out.mono ?_
  rintro e w1 ⟨rfl, hb⟩
  by_cases hn : (n : Int) > 60
  · replace hb := Lib.hid hb
    go_wp2_with fail
    go_ret
    exact ⟨rfl, hb.out⟩
  have hn5 : (n : Int) ≤ 60 := by omega
  have c2 := Lib.hid (sl_new ((St.start w).grow hb))
  clear c1 hb hn
  go_wp2_with fail
  refine c2.out.mono ?_
  rintro e w2 ⟨rfl, h⟩
  generalize w1.heap.size = sb at *
  have h0 := h.alloc (numO [])
  replace h0 := Lib.hid h0
  clear c2 h
  go_upto_region 7 with fail
  rw [← num0]
  generalize w2.heap.size = nb at *
  go_wp2_with fail
  go_loopg [7] n (fun g v7 wr => ∃ (i : Nat) (M : List Slp), v7 = .int .i64 i ∧ i + g = n ∧ Hid (FamX zs i M) ∧ Hid (SlipsIs w.heap.size w wr sb M [(nb, numO M)]))
  case atStart => exact ⟨0, [], rfl, by omega, Lib.hid FamX.nil, h0⟩
  case round =>
    clear h0
    obtain ⟨i, M, rfl, hi, hM, h⟩ := hrel
    have i0 : (0 : Int) ≤ i := by omega
    by_cases hlt : i < n
    · have i1 : (i : Int) < n := by omega
      have hx : zs[i]? = some zs[i] := List.getElem?_eq_getElem (by omega)
      generalize zs[i]'(by omega) = z at hx
      obtain ⟨ba, oa, rfl, cz⟩ := (hz.out.below h.out.below).at_ i z hx
      obtain ⟨z0, z1⟩ := bounds_u8 (hz.out.wf z (List.mem_of_getElem? hx))
      obtain ⟨p, hp⟩ : ∃ p : Nat, p = (z % 4).toNat := ⟨_, rfl⟩
      have hp4 : p < 4 := by omega
      have hpz : z % 4 = p := by omega
      have hzt : z.tmod 4 = p := by rw [Int.tmod_eq_emod_of_nonneg (by omega)]; exact hpz
      have hM2 := Lib.hid (hM.out.add hx hpz hp4)
      have hok := hM.out.ok (by omega) (cN p)
      have p0 : (0 : Int) ≤ p := by omega
      have p3 : (p : Int) < 4 := by omega
      have cv : ∀ W : World, (convert 46 9 (.slice (some ⟨W.heap.size, 0, none⟩) 1 1)).run Try.prog (W.alloc (byO (97 + (p : Int)))) = .ok (tx (cN p)) (W.alloc (byO (97 + (p : Int)))) := fun W => conv_byte10 (by simp) (by omega) (by omega)
      have ca := Lib.hid (add_lo (t := (i : Int) + 1) (q := 0) (c := cN p) (ok := true) (N := insS (lO ((i : Int) + 1) 0 (cN p)) M) hok (by unfold addS; rw [if_pos hok]) (by simp) (h.out.alloc (byO (97 + (p : Int)))))
      have hfew := hM.out.few (cN p)
      obtain ⟨v, hv⟩ : ∃ v : Nat, v = ofS M (cN p) := ⟨_, rfl⟩
      have hfin : Hid (∀ w5, SlipsIs w.heap.size w w5 sb (insS (lO ((i : Int) + 1) 0 (cN p)) M) [(wr.heap.size, byO (97 + (p : Int))), (nb, numO M)] → w5.cell? ⟨nb, p, none⟩ = some (.int .i64 v) ∧ w5.frozen? ⟨nb, p, none⟩ = false ∧
          SlipsIs w.heap.size w (w5.setCell ⟨nb, p, none⟩ (.int .i64 ((v : Int) + 1))) sb (insS (lO ((i : Int) + 1) 0 (cN p)) M) [(nb, numO (insS (lO ((i : Int) + 1) 0 (cN p)) M))]) := Lib.hid fun w5 h5 => by
        have h6 := h5.sub (List.sublist_cons_self _ _)
        subst hv
        exact ⟨h6.numAt List.mem_cons_self hp4, h6.numSoft List.mem_cons_self p, h6.numSet (row_ins hp4)⟩
      have hv0 : (0 : Int) ≤ v := by omega
      have hv1 : (v : Int) ≤ 60 := by omega
      clear hx hM h hok hp hpz hfew hv
      generalize insS (lO ((i : Int) + 1) 0 (cN p)) M = M2 at *
      go_wp2_with fail
      refine ca.out.mono ?_
      rintro r w5 ⟨rfl, h5⟩
      obtain ⟨e1, e2, h6⟩ := hfin.out _ h5
      replace h6 := Lib.hid h6
      clear ca hfin h5
      go_wp2_with fail
      go_roundg (n - (i + 1))
      case measure => omega
      case rel => exact ⟨i + 1, M2, by go_num, by omega, hM2, h6⟩
    · have hin : i = n := by omega
      subst hin
      clear hlt hi
      go_upto_if 49 with fail
      go_cut [] (fun wy => ∃ M, Hid (LeftX i M) ∧ Hid (SlipsIs w.heap.size w wy sb M [(nb, numO M)]))
      case first =>
        obtain ⟨bb, hbb⟩ : ∃ bb, bb = decide (0 < i) := ⟨_, rfl⟩
        rw [← hbb]
        replace hbb := Lib.hid hbb
        cases bb with
        | false =>
          have hl : Hid (LeftX i M) := Lib.hid ⟨by have := of_decide_eq_false hbb.out.symm; rw [hM.out.len]; omega, hM.out.noZ⟩
          clear hM hz
          go_wp2_with fail
          go_meet
          case rel => exact ⟨M, hl, h⟩
        | true =>
          have hn1 : 0 < i := of_decide_eq_true hbb.out.symm
          obtain ⟨q, hq⟩ : ∃ q, q = t0 % i := ⟨_, rfl⟩
          have hqk : q < i := by rw [hq]; exact Nat.mod_lt _ (by omega)
          have hq1 : (t0 : Int) % i = q := by rw [hq]; simp
          have hnz : ¬ (i : Int) = 0 := by omega
          replace hq1 := Lib.hid hq1
          replace hq := Lib.hid hq
          go_upto_region 16 with fail
          have hw : wrap64 ((q : Int) + 1) = (q : Int) + 1 := IntWalk.wrap64_in _ (by omega)
          simp only [hq1.out, hw]
          clear hw hq1 hq hnz
          have hx : zs[q]? = some zs[q] := List.getElem?_eq_getElem (by omega)
          generalize zs[q]'(by omega) = z at hx
          obtain ⟨z0, z1⟩ := bounds_u8 (hz.out.wf z (List.mem_of_getElem? hx))
          obtain ⟨p, hp⟩ : ∃ p : Nat, p = (z % 4).toNat := ⟨_, rfl⟩
          have hp4 : p < 4 := by omega
          have hpz : z % 4 = p := by omega
          have hzt : z.tmod 4 = p := by rw [Int.tmod_eq_emod_of_nonneg (by omega)]; exact hpz
          have hmem := hM.out.has q z p hqk hx hpz
          have hOk := h.out.ok
          have hl : Hid (LeftX i (dropS M ((q : Int) + 1))) := Lib.hid (by
            have h1 := drop_len hOk hmem
            have h2 := drop_of hOk hmem [122]
            rw [hM.out.noZ] at h2
            rw [hM.out.len] at h1
            exact ⟨by simp only at h1; omega, by simp only at h2; omega⟩)
          have cp := Lib.hid (take_lo hmem rfl h.out)
          have hv9 : ofS M (cN p) ≤ i := hM.out.few _
          obtain ⟨v, hv⟩ : ∃ v : Nat, v = ofS M (cN p) := ⟨_, rfl⟩
          have hfin : Hid (∀ w5, SlipsIs w.heap.size w w5 sb (dropS M ((q : Int) + 1)) [(nb, numO M)] → SlAt (w5.alloc (slO (lO ((q : Int) + 1) 0 (cN p)))) w5.heap.size (lO ((q : Int) + 1) 0 (cN p)) ∧
              (w5.alloc (slO (lO ((q : Int) + 1) 0 (cN p)))).cell? ⟨nb, p, none⟩ = some (.int .i64 v) ∧ (w5.alloc (slO (lO ((q : Int) + 1) 0 (cN p)))).frozen? ⟨nb, p, none⟩ = false ∧
              (∃ ba oa, a = some ⟨ba, oa, none⟩ ∧ (w5.alloc (slO (lO ((q : Int) + 1) 0 (cN p)))).cell? ⟨ba, oa + q, none⟩ = some (.int .u8 z)) ∧
              SlipsIs w.heap.size w ((w5.alloc (slO (lO ((q : Int) + 1) 0 (cN p)))).setCell ⟨nb, p, none⟩ (.int .i64 ((v : Int) - 1))) sb (dropS M ((q : Int) + 1)) [(nb, numO (dropS M ((q : Int) + 1)))]) := Lib.hid fun w5 h5 => by
            have h6 := h5.alloc (slO (lO ((q : Int) + 1) 0 (cN p)))
            have m1 : (nb, numO M) ∈ (w5.heap.size, slO (lO ((q : Int) + 1) 0 (cN p))) :: [(nb, numO M)] := by simp
            obtain ⟨ba, oa, ea, cz⟩ := (hz.out.below h6.below).at_ q z hx
            subst hv
            exact ⟨(h6.slip List.mem_cons_self).1, h6.numAt m1 hp4, h6.numSoft m1 p, ⟨ba, oa, ea, cz⟩, (h5.alloc (slO (lO ((q : Int) + 1) 0 (cN p)))).permF (List.Perm.swap _ _ _) |>.numSet (row_drop hOk hmem hp4) |>.sub (List.Sublist.cons_cons _ (List.sublist_cons_self _ _))⟩
          have hv0 : (0 : Int) ≤ v := by omega
          have hv1 : (v : Int) ≤ 60 := by omega
          have q0 : (0 : Int) ≤ q := by omega
          have q1 : (q : Int) < i := by omega
          have p0 : (0 : Int) ≤ p := by omega
          have p3 : (p : Int) < 4 := by omega
          clear hx hM h hp hpz hmem hOk hv9 hv hz
          generalize dropS M ((q : Int) + 1) = M2 at *
          go_wp2_with fail
          refine cp.out.mono ?_
          rintro r w5 ⟨rfl, h5⟩
          obtain ⟨⟨x0, -⟩, e1, e2, ⟨ba, oa, rfl, cz⟩, h6⟩ := hfin.out _ h5
          replace h6 := Lib.hid h6
          clear cp hfin h5
          go_wp2_with fail
          go_meet
          case rel => exact ⟨M2, hl, h6⟩
      case rest =>
        clear h hM
        obtain ⟨M, hl, h⟩ := hcut
        have hOk := Lib.hid h.out.ok
        go_wp2_with fail
        go_loopg [12] 4 (fun g v12 wr => ∃ k : Nat, v12 = .int .i64 k ∧ k + g = 4 ∧ Hid (SlipsIs w.heap.size w wr sb M [(nb, numO M)]))
        case atStart => exact ⟨0, rfl, by omega, h⟩
        case round =>
          clear h
          obtain ⟨k, rfl, hk, h⟩ := hrel
          have k0 : (0 : Int) ≤ k := by omega
          by_cases hlt : k < 4
          · have k1 : (k : Int) < 4 := by omega
            have cv : (convert 46 9 (.slice (some ⟨wr.heap.size, 0, none⟩) 1 1)).run Try.prog ((wr.alloc (byO (97 + (k : Int)))).drew) = .ok (tx (cN k)) ((wr.alloc (byO (97 + (k : Int)))).drew) := conv_byte10 (w := (wr.alloc (byO (97 + (k : Int)))).drew) (by simp) (by omega) (by omega)
            have hw1 : IntKind.i64.wrap (97 + (k : Int)) = 97 + k := IntWalk.i64_in _ (by omega)
            have hw2 : IntKind.u8.wrap (97 + (k : Int)) = 97 + k := IntWalk.u8_in _ (by omega)
            have hd : SlipsIs w.heap.size w (wr.alloc (byO (97 + (k : Int)))).drew sb M [(nb, numO M)] := (h.out.grow (new_below _ _)).grow (drew_b _)
            have hs0 := Lib.hid (h.out.numAt List.mem_cons_self hlt)
            have hs1 := Lib.hid (hd.numAt List.mem_cons_self hlt)
            obtain ⟨v, hv⟩ : ∃ v, v = ofS M (cN k) := ⟨_, rfl⟩
            have ca : Hid (Calls Try.prog 17 #[gptr sb, tx (cN k)] ((wr.alloc (byO (97 + (k : Int)))).drew) fun e w' => e = .returned (.int .i64 v) ∧ SlipsIs w.heap.size w w' sb M [(nb, numO M)] ∧ w'.cell? ⟨nb, k, none⟩ = some (.int .i64 v)) := Lib.hid (by
              refine (sl_of hd (cN k)).mono ?_
              rintro e w' ⟨rfl, rfl⟩
              rw [hv]
              exact ⟨rfl, hd, hd.numAt List.mem_cons_self hlt⟩)
            rw [← hv] at hs0 hs1
            replace hv := Lib.hid hv
            clear h hd
            go_wp2_with fail
            have e0 := hs0.out
            have e1 := hs1.out
            go_region_law (go_simp; go_at_call 17; refine ca.out.mono ?_; rintro r w4 ⟨rfl, hQ, kS⟩)
            all_goals
              replace hQ := Lib.hid hQ
              clear ca hs0 hs1 kS cv hw1 hw2 e0 e1
              go_wp2_with fail
              go_roundg (4 - (k + 1))
              case measure => omega
              case rel => exact ⟨k + 1, by go_num, by omega, hQ⟩
          · have hk4 : k = 4 := by omega
            subst hk4
            have cz := Lib.hid (sl_of h.out [122])
            rw [hl.out.2] at cz
            have cu := Lib.hid (sl_upto h.out 0 (m := 1000000) rfl (W := M) (N := []) (upto_all hOk.out) (over_all hOk.out))
            have hm := hl.out.1
            clear h hl hOk hz
            simp only [Int.cast_ofNat_Int] at cz
            go_wp2_with fail
            refine cz.out.mono ?_
            rintro r w5 ⟨rfl, rfl⟩
            clear cz
            go_wp2_with fail
            refine cu.out.mono ?_
            rintro r w6 ⟨au, nu, Su, rfl, hsu, h6⟩
            have cl := Lib.hid (sl_len h6)
            have fin := Lib.hid h6.below
            clear cu hsu h6
            generalize M.length = m at *
            simp only [List.length_nil, Int.cast_ofNat_Int] at cl
            go_wp2_with fail
            all_goals
              refine cl.out.mono ?_
              rintro r w7 ⟨rfl, rfl⟩
              clear cl
              go_wp2_with fail
              go_ret
              exact ⟨rfl, fin.out⟩
theorem fam17_row {a0 : Option Addr} {n cap : Nat} {t : Int} {w : World} (r0 : Read Try.prog w 46 [.slice a0 n cap]) (r1 : Read Try.prog w 5 [.int .u8 t]) :
    Calls Try.prog 5 #[.slice a0 n cap, .int .u8 t] w fun e w' => e = .returned (.bool true) ∧ Below w.heap.size w w' := by
  have u8 : Try.prog.underlying 5 = some (.int .u8) := by kernel_rfl
  obtain ⟨rd, hr⟩ := r0.slice (by kernel_rfl : Try.prog.underlying 46 = some (.slice 5)) (by decide +kernel)
  obtain ⟨zs, hz⟩ := IntsAt.rows u8 (by kernel_rfl) hr
  obtain ⟨y, hy, wf⟩ := r1.int u8
  simp only [List.cons.injEq, Value.int.injEq, true_and, and_true] at hy
  subst hy
  obtain ⟨h1, h2⟩ := bounds_u8 wf
  obtain ⟨t, rfl⟩ := Int.eq_ofNat_of_zero_le h1
  exact fam17_walk hz (by omega)
end Go.Proofs.Ytdkchcbmhmlhnaa
