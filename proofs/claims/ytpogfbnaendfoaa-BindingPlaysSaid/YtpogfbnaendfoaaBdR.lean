/- BindingPlays. -/
import Derived.Test.YtpogfbnaendfoaaBdQ
import Derived.Deep.RegionHeld3
import Derived.Deep.DeepCutAuto
import Derived.Deep.CutBlock
namespace Go.Proofs.Ytpogfbnaendfoaa
open Go.RowKit
set_option linter.unusedVariables false

abbrev stO (n : Int) (b1 b2 b3 : List UInt8) : Obj := .cells #[.int .i64 n, tx b1, tx b2, tx b3] 33
section
variable {w0 w w' : World} {tb rb xb : Nat} {L : List Bnd}

/-- What holds behind each step. -/
def Play (w0 : World) (tb rb : Nat) (w : World) : Prop := ∃ L, FineL L ∧ Two w0.heap.size w0 w tb rb L L []
theorem Two.play {E : List (Nat × Obj)} (h : Two w0.heap.size w0 w tb rb L L E) (hf : FineL L) : Play w0 tb rb w := ⟨L, hf, h.sub (List.nil_sublist _)⟩

/-- What the law keeps of those of a key, on the way. -/
def KyAt (w : World) (K : List Bnd) (key : List UInt8) (v : Value) (k : Nat) (w' : World) : Prop := ∃ S, TssIs v (((K.take k).filter fun b => b.2.2 == key).map (·.2.1)) S ∧ St w.heap.size w w' S
def keyL (K : List Bnd) (key : List UInt8) (k : Nat) : List (List UInt8) := ((K.take k).filter fun b => b.2.2 == key).map (·.2.1)
theorem keyL_len (K : List Bnd) (key : List UInt8) (k : Nat) : (keyL K key k).length ≤ k := by
  unfold keyL
  rw [List.length_map]
  exact filter_len_take _ _
def TailD (w w' : World) : Prop := Below w.heap.size w w'

set_option maxHeartbeats 16000000 in
set_option maxRecDepth 100000 in
theorem plays11_walk {a0 : Option Addr} {n cap : Nat} {G : List (Int × Bnd)} {ex key : List UInt8} {w : World} (hG : StpAt w a0 n G) :
    Calls Try.prog 3 #[.slice a0 n cap, tx ex, tx key] w fun e w' => e = .returned (.bool true) ∧ Below w.heap.size w w' := by
  have c1 := Lib.hid (known11_true w)
  by_cases h80 : 80 < n
  · have h80' : (80 : Int) < n := by omega
    clear hG
    go_enter Try.func3, Try.ntmps3
    go_wp2_with fail
    refine c1.out.mono ?_
    rintro e w1 ⟨rfl, hb⟩
    replace hb := Lib.hid hb
    go_wp2_with fail
    go_ret
    exact ⟨rfl, hb.out⟩
  have h80' : (n : Int) ≤ 80 := by omega
  have hGl := hG.size
  replace hG := Lib.hid hG
  go_enter Try.func3, Try.ntmps3
  go_wp2_with fail
  refine c1.out.mono ?_
  rintro e w1 ⟨rfl, hb⟩
  have c2 := Lib.hid (new_any ((St.start w).grow hb))
  clear c1 hb
  go_wp2_with fail
  refine c2.out.mono ?_
  rintro e w2 ⟨rfl, h⟩
  generalize w1.heap.size = tb at *
  have h0 : Hid (Play w tb w2.heap.size (w2.alloc (.cells #[.slice none 0 0] 29))) := Lib.hid ⟨[], FineL.nil, .slice none 0 0, [], BnsIs.nil, h.alloc _⟩
  clear c2 h
  go_wp2_with fail
  generalize w2.heap.size = rb at *
  go_loopg [9] n (fun g v9 wr => ∃ i : Nat, v9 = .int .i64 i ∧ i + g = n ∧ Hid (Play w tb rb wr))
  case atStart => exact ⟨0, rfl, by omega, h0⟩
  case round =>
    clear h0
    obtain ⟨i, rfl, hi, hP⟩ := hrel
    obtain ⟨L, hF, hT⟩ := hP.out
    have hi0 : (0 : Int) ≤ i := by omega
    by_cases hlt : i < n
    · have hi1 : (i : Int) < n := by omega
      have hx : G[i]? = some G[i] := List.getElem?_eq_getElem (by omega)
      generalize G[i] = s at hx
      obtain ⟨hfit, ba, oa, rfl, k0, k1, k2, k3⟩ := (hG.out.below hT.below).at_ i s hx
      obtain ⟨what, b1, b2, b3⟩ := s
      simp only at hfit k0 k1 k2 k3
      have h1 := hT.alloc (stO what b1 b2 b3)
      have x0 := h1.cell (k := wr.heap.size) (i := 0) List.mem_cons_self rfl
      have x1 := h1.cell (k := wr.heap.size) (i := 1) List.mem_cons_self rfl
      have x2 := h1.cell (k := wr.heap.size) (i := 2) List.mem_cons_self rfl
      have x3 := h1.cell (k := wr.heap.size) (i := 3) List.mem_cons_self rfl
      have hfew := hF.few
      clear hx hP hT
      go_upto_block 2 with fail
      clear k0 k1 k2 k3
      generalize wr.heap.size = xb at *
      obtain ⟨W1, hW1⟩ : ∃ W1, W1 = wr.alloc (.cells #[.int .i64 what, tx b1, tx b2, tx b3] 33) := ⟨_, rfl⟩
      have h1' : Two w.heap.size w W1 tb rb L L [(xb, stO what b1 b2 b3)] := by rw [hW1]; exact h1
      have y0 : W1.cell? ⟨xb, 0, none⟩ = some (.int .i64 what) := by rw [hW1]; exact x0
      have y1 : W1.cell? ⟨xb, 1, none⟩ = some (tx b1) := by rw [hW1]; exact x1
      have y2 : W1.cell? ⟨xb, 2, none⟩ = some (tx b2) := by rw [hW1]; exact x2
      have y3 : W1.cell? ⟨xb, 3, none⟩ = some (tx b3) := by rw [hW1]; exact x3
      rw [← hW1]
      clear hW1 h1 x0 x1 x2 x3
      go_cut [11] (fun v11 wx => v11 = .bool true ∧ Hid (Play w tb rb wx))
      case first =>
        by_cases hw5 : what ≤ 5
        · have ea : addL L (b1, b2, b3) = ((addL L (b1, b2, b3)).1, (addL L (b1, b2, b3)).2.1, (addL L (b1, b2, b3)).2.2) := rfl
          have hF2 := Lib.hid (hF.add hfit)
          have ca := Lib.hid (two_add h1' hfew hfit ea)
          have cells := Lib.hid (fun (w9 : World) (L9 M9 : List Bnd) (h9 : Two w.heap.size w w9 tb rb L9 M9 [(xb, stO what b1 b2 b3)]) => (⟨h9.cell (k := xb) (i := 1) List.mem_cons_self rfl, h9.cell (k := xb) (i := 2) List.mem_cons_self rfl, h9.cell (k := xb) (i := 3) List.mem_cons_self rfl⟩ :
            w9.cell? ⟨xb, 1, none⟩ = some (tx b1) ∧ w9.cell? ⟨xb, 2, none⟩ = some (tx b2) ∧ w9.cell? ⟨xb, 3, none⟩ = some (tx b3)))
          have cr := Lib.hid (fun (w9 : World) (L9 : List Bnd) (h9 : Two w.heap.size w w9 tb rb L9 L [(xb, stO what b1 b2 b3)]) => two_radd h9 hfew ea)
          generalize (addL L (b1, b2, b3)).1 = L' at *
          generalize (addL L (b1, b2, b3)).2.1 = ok at *
          generalize (addL L (b1, b2, b3)).2.2 = en at *
          clear h1' ea hF hfit
          go_wp2_with fail
          refine ca.out.mono ?_
          rintro e w3 ⟨rfl, h3⟩
          obtain ⟨z1, z2, z3⟩ := cells.out _ _ _ h3
          replace cr := Lib.hid (cr.out _ _ h3)
          clear h3 ca y0 y1 y2 y3
          go_wp2_with fail
          refine cr.out.mono ?_
          rintro e w4 ⟨rfl, h4⟩
          have fin := Lib.hid (h4.play hF2.out)
          clear h4 cr cells z1 z2 z3
          go_wp2_with fail
          all_goals
            go_meet
            case rel => exact ⟨by simp, fin⟩
        have hw5b : ¬ what ≤ 5 := hw5
        have hdr : Below W1.heap.size W1 W1.drew := (Below.refl _ W1).drew
        have hT0 := h1'.grow hdr
        by_cases hw6 : what = 6
        · subst hw6
          have hF2 := Lib.hid (hF.filter (fun b => !(b == (b1, b2, b3))))
          have ed := drop_same L (b1, b2, b3)
          have cd : Hid (∀ w9, Two w.heap.size w w9 tb rb L L [(xb, stO 6 b1 b2 b3)] → Calls Try.prog 10 #[bpt tb, .agg #[tx b1, tx b2, tx b3]] w9 fun e w' => e = .returned (.bool (decide ((L.filter fun b => !(b == (b1, b2, b3))).length < L.length))) ∧
              Two w.heap.size w w' tb rb (L.filter fun b => !(b == (b1, b2, b3))) L [(xb, stO 6 b1 b2 b3)] ∧ (w'.cell? ⟨xb, 1, none⟩ = some (tx b1) ∧ w'.cell? ⟨xb, 2, none⟩ = some (tx b2) ∧ w'.cell? ⟨xb, 3, none⟩ = some (tx b3))) := Lib.hid fun w9 h9 =>
            (two_drop h9 (by omega) rfl ed).mono fun e w' ⟨he, h⟩ => ⟨he, h, h.cell (k := xb) (i := 1) List.mem_cons_self rfl, h.cell (k := xb) (i := 2) List.mem_cons_self rfl, h.cell (k := xb) (i := 3) List.mem_cons_self rfl⟩
          have cr : Hid (∀ w9, Two w.heap.size w w9 tb rb (L.filter fun b => !(b == (b1, b2, b3))) L [(xb, stO 6 b1 b2 b3)] → Calls Try.prog 11 #[bpt rb, .agg #[tx b1, tx b2, tx b3]] w9 fun e w' => e = .returned (.bool (decide ((L.filter fun b => !(b == (b1, b2, b3))).length < L.length))) ∧
              Two w.heap.size w w' tb rb (L.filter fun b => !(b == (b1, b2, b3))) (L.filter fun b => !(b == (b1, b2, b3))) [(xb, stO 6 b1 b2 b3)] ∧ (w'.cell? ⟨xb, 1, none⟩ = some (tx b1) ∧ w'.cell? ⟨xb, 2, none⟩ = some (tx b2) ∧ w'.cell? ⟨xb, 3, none⟩ = some (tx b3))) := Lib.hid fun w9 h9 =>
            (two_rdrop h9 (by omega) rfl rfl).mono fun e w' ⟨he, h⟩ => ⟨he, h, h.cell (k := xb) (i := 1) List.mem_cons_self rfl, h.cell (k := xb) (i := 2) List.mem_cons_self rfl, h.cell (k := xb) (i := 3) List.mem_cons_self rfl⟩
          have hs0 : Hid (W1.drew.cell? ⟨xb, 1, none⟩ = some (tx b1) ∧ W1.drew.cell? ⟨xb, 2, none⟩ = some (tx b2) ∧ W1.drew.cell? ⟨xb, 3, none⟩ = some (tx b3)) := Lib.hid ⟨y1, y2, y3⟩
          generalize decide ((L.filter fun b => !(b == (b1, b2, b3))).length < L.length) = ok at *
          generalize (L.filter fun b => !(b == (b1, b2, b3))) = L' at *
          clear h1' ed hF hfit hdr hw5b
          go_wp2_with fail
          go_region_held3 (fun x => x.cell? ⟨xb, 1, none⟩ = some (tx b1) ∧ x.cell? ⟨xb, 2, none⟩ = some (tx b2) ∧ x.cell? ⟨xb, 3, none⟩ = some (tx b3)) (first | exact kS | exact hs0.out) (first
            | (go_at_call 10; refine (cd.out _ (by assumption)).mono ?_; rintro e w'' ⟨rfl, hT2, kS⟩)
            | (go_at_call 11; refine (cr.out _ (by assumption)).mono ?_; rintro e w'' ⟨rfl, hT3, kS⟩))
          have fin := Lib.hid (hT3.play hF2.out)
          clear cd cr
          go_wp2_with fail
          all_goals
            go_meet
            case rel => exact ⟨by simp, fin⟩
        by_cases hw7 : what = 7
        · subst hw7
          have hF2 := Lib.hid (hF.filter (fun b => !(b.2.1 == b2)))
          have hL1 : L.length ≤ 10000 := by omega
          have hm1 := once_len (f := fun b => b.1) (L := L.filter fun b => b.2.1 == b2) (fun b hb => (hF.fit b (List.mem_filter.1 hb).1).max.1)
          have hl1 : (onceL [] ((L.filter fun b => b.2.1 == b2).map (·.1))).length ≤ 1073741824 := by
            have h1 := onceL_len [] ((L.filter fun b => b.2.1 == b2).map (·.1))
            have h2 := List.length_filter_le (fun b : Bnd => b.2.1 == b2) L
            rw [List.length_map, List.length_nil] at h1
            omega
          have cd : Hid (∀ w9, Two w.heap.size w w9 tb rb L L [(xb, stO 7 b1 b2 b3)] → Calls Try.prog 13 #[bpt tb, tx b2] w9 fun e w' => ∃ u S, e = .returned u ∧ TssIs u (onceL [] ((L.filter fun b => b.2.1 == b2).map (·.1))) S ∧
              Two w.heap.size w w' tb rb (L.filter fun b => !(b.2.1 == b2)) L ([(xb, stO 7 b1 b2 b3)] ++ S) ∧ w'.cell? ⟨xb, 2, none⟩ = some (tx b2)) := Lib.hid fun w9 h9 =>
            (two_dropQ h9 hL1 hF.fit b2).mono fun e w' ⟨u, S, he, hu, h⟩ => ⟨u, S, he, hu, h, h.cell (k := xb) (i := 2) (List.mem_append_left _ List.mem_cons_self) rfl⟩
          have cr : Hid (∀ w9 S, Two w.heap.size w w9 tb rb (L.filter fun b => !(b.2.1 == b2)) L ([(xb, stO 7 b1 b2 b3)] ++ S) → Calls Try.prog 14 #[bpt rb, tx b2] w9 fun e w' => ∃ z R, e = .returned z ∧ TssIs z (onceL [] ((L.filter fun b => b.2.1 == b2).map (·.1))) R ∧
              Two w.heap.size w w' tb rb (L.filter fun b => !(b.2.1 == b2)) (L.filter fun b => !(b.2.1 == b2)) ([(xb, stO 7 b1 b2 b3)] ++ S ++ R) ∧ w'.cell? ⟨xb, 2, none⟩ = some (tx b2)) := Lib.hid fun w9 S h9 =>
            (two_rdropQ h9 hL1 hF.fit b2).mono fun e w' ⟨u, R, he, hu, h⟩ => ⟨u, R, he, hu, h, h.cell (k := xb) (i := 2) (List.mem_append_left _ (List.mem_append_left _ List.mem_cons_self)) rfl⟩
          have cs : Hid (∀ w9 u z S R, TssIs u (onceL [] ((L.filter fun b => b.2.1 == b2).map (·.1))) S → TssIs z (onceL [] ((L.filter fun b => b.2.1 == b2).map (·.1))) R →
              Two w.heap.size w w9 tb rb (L.filter fun b => !(b.2.1 == b2)) (L.filter fun b => !(b.2.1 == b2)) ([(xb, stO 7 b1 b2 b3)] ++ S ++ R) → Calls Try.prog 12 #[u, z] w9 fun e w' => e = .returned (.bool true) ∧
              Two w.heap.size w w' tb rb (L.filter fun b => !(b.2.1 == b2)) (L.filter fun b => !(b.2.1 == b2)) ([(xb, stO 7 b1 b2 b3)] ++ S ++ R) ∧ w'.cell? ⟨xb, 2, none⟩ = some (tx b2)) := Lib.hid fun w9 u z S R hu hz h9 => by
            obtain ⟨u', R', hu', ht⟩ := id h9
            obtain ⟨X, hX, -⟩ := ht.beside
            have r1 : ReadTs w9 u (onceL [] ((L.filter fun b => b.2.1 == b2).map (·.1))) := TssIs.read (X := X ++ [(xb, stO 7 b1 b2 b3)]) hu (hX.sub (by
              simp only [List.append_assoc]
              refine (List.Sublist.refl X).append ((List.Sublist.refl _).append (List.sublist_append_left _ _)))) hm1
            have r2 : ReadTs w9 z (onceL [] ((L.filter fun b => b.2.1 == b2).map (·.1))) := TssIs.read (X := X ++ ([(xb, stO 7 b1 b2 b3)] ++ S)) hz (hX.sub (by
              simp only [List.append_assoc]
              refine (List.Sublist.refl X).append ((List.Sublist.refl _).append ((List.Sublist.refl _).append (List.sublist_append_left _ _))))) hm1
            refine (sameTexts_true r1 r2 hl1).mono ?_
            rintro e w' ⟨rfl, hb⟩
            have h := h9.grow hb
            exact ⟨rfl, h, h.cell (k := xb) (i := 2) (List.mem_append_left _ (List.mem_append_left _ List.mem_cons_self)) rfl⟩
          have hs0 : Hid (W1.drew.cell? ⟨xb, 2, none⟩ = some (tx b2)) := Lib.hid y2
          generalize onceL [] ((L.filter fun b => b.2.1 == b2).map (·.1)) = names at *
          generalize (L.filter fun b => !(b.2.1 == b2)) = L' at *
          clear h1' hF hfit hdr hw5b hL1 hm1 hl1
          go_wp2_with fail
          go_region_held3 (fun x => x.cell? ⟨xb, 2, none⟩ = some (tx b2)) (first | exact kS | exact hs0.out) (first
            | (go_at_call 13; refine (cd.out _ (by assumption)).mono ?_; rintro e w'' ⟨u, S, rfl, hu, hT2, kS⟩)
            | (go_at_call 14; refine (cr.out _ _ (by assumption)).mono ?_; rintro e w'' ⟨z, R, rfl, hz, hT3, kS⟩)
            | (go_at_call 12; refine (cs.out _ _ _ _ _ hu hz (by assumption)).mono ?_; rintro e w'' ⟨rfl, hT4, kS⟩))
          have fin := Lib.hid (hT4.play hF2.out)
          clear cd cr cs
          go_wp2_with fail
          all_goals
            go_meet
            case rel => exact ⟨rfl, fin⟩
        · have n6 : (what == 6) = false := by rw [beq_eq_false_iff_ne]; exact hw6
          have n7 : (what == 7) = false := by rw [beq_eq_false_iff_ne]; exact hw7
          have hF2 := Lib.hid (hF.filter (fun b => !(b.1 == b1)))
          have ca := Lib.hid (two_dropE h1' (by omega) b1)
          have cr := Lib.hid (fun (w9 : World) (L9 : List Bnd) (h9 : Two w.heap.size w w9 tb rb L9 L [(xb, stO what b1 b2 b3)]) => two_rdropE h9 (by omega) b1)
          generalize (L.filter fun b => !(b.1 == b1)) = L' at *
          clear h1' hF hfit hdr hT0 hw6 hw7
          go_wp2_with fail
          refine ca.out.mono ?_
          rintro e w3 ⟨rfl, h3⟩
          have z1 := h3.cell (k := xb) (i := 1) List.mem_cons_self rfl
          replace cr := Lib.hid (cr.out _ _ h3)
          clear h3 ca y0 y1 y2 y3
          go_wp2_with fail
          refine cr.out.mono ?_
          rintro e w4 ⟨rfl, h4⟩
          have fin := Lib.hid (h4.play hF2.out)
          clear h4 cr z1
          go_wp2_with fail
          all_goals
            go_meet
            case rel => exact ⟨rfl, fin⟩
      case rest =>
        obtain ⟨rfl, hP⟩ := hcut
        clear h1' y0 y1 y2 y3 hF hfew hfit
        obtain ⟨L', hF, hT⟩ := hP.out
        have hfew := hF.few
        obtain ⟨v, ho, hv⟩ := hT.rone
        have cof := Lib.hid (rof_any ho hv (by omega) ex)
        obtain ⟨K, hK⟩ : ∃ K, K = L'.filter fun b => b.1 == ex := ⟨_, rfl⟩
        rw [← hK] at cof
        have hKl : K.length ≤ 40 := by rw [hK]; exact Nat.le_trans (List.length_filter_le _ _) hfew
        have hKf : ∀ b ∈ K, FitB b := fun b hb => by rw [hK] at hb; exact hF.fit b (List.mem_filter.1 hb).1
        replace hK := Lib.hid hK
        replace hKf := Lib.hid hKf
        replace hF := Lib.hid hF
        replace hT := Lib.hid hT
        clear hP ho hv
        go_wp2_with fail
        refine cof.out.mono ?_
        rintro e w4 ⟨u, rfl, hu, hb4⟩
        obtain ⟨au, cu, rfl, -⟩ := id hu
        replace hu := Lib.hid hu
        replace hb4 := Lib.hid hb4
        have h0 : Hid (KyAt w4 K key (.slice none 0 0) 0 w4) := Lib.hid ⟨[], TssIs.nil, St.start w4⟩
        clear cof
        go_wp2_with fail
        go_loopg [17, 18] K.length (fun g v17 v18 wt => ∃ k : Nat, v18 = .int .i64 k ∧ k + g = K.length ∧ Hid (KyAt w4 K key v17 k wt))
        case atStart => exact ⟨0, rfl, by omega, h0⟩
        case round =>
          clear h0
          obtain ⟨k, rfl, hk, hR⟩ := hrel
          have hk0 : (0 : Int) ≤ k := by omega
          obtain ⟨S, hs, hst⟩ := hR.out
          have hlen := keyL_len K key k
          have hs' : TssIs _ (keyL K key k) S := hs
          by_cases hkl : k < K.length
          · have hk1 : (k : Int) < K.length := by omega
            have hx : K[k]? = some K[k] := List.getElem?_eq_getElem hkl
            generalize K[k] = y at hx
            obtain ⟨a1, c1, e, hcells⟩ := hu.out.below hst.below
            cases e
            obtain ⟨bb, ob, rfl, q1, q2, q3⟩ := hcells k y hx
            have stp := filter_step (p := fun b => b.2.2 == key) hx
            cases hpx : (y.2.2 == key) with
            | true =>
              simp only [hpx, if_true] at stp
              obtain ⟨a2, cap2, W2, F2, hrun, hs2, hst2⟩ := TssIs.append (X := []) hs' hst y.2.1 (by omega)
              have nxt : Hid (KyAt w4 K key (.slice a2 ((keyL K key k).length + 1) cap2) (k + 1) W2) := Lib.hid ⟨F2, by rw [stp, List.map_append]; exact hs2, hst2⟩
              obtain ⟨sa, sc, rfl⟩ := hs'.form
              obtain ⟨y1, y2, y3⟩ := y
              simp only at q1 q2 q3 hpx hrun
              obtain rfl := beq_iff_eq.1 hpx
              generalize (keyL K y3 k).length = q0 at *
              clear hR hs hs' hst hs2 hst2 stp hx hpx hlen
              go_wp2_with (at_builtin; refine wpList_append_go rfl (.tmp 117) (.tmp 123) 41 41 rfl _ _ rfl rfl hrun ?_)
              go_roundg (K.length - (k + 1))
              case measure => omega
              case rel => exact ⟨k + 1, by go_num, by omega, nxt⟩
            | false =>
              simp only [hpx, Bool.false_eq_true, if_false, List.append_nil] at stp
              have nxt : Hid (KyAt w4 K key _ (k + 1) wr) := Lib.hid ⟨S, by rw [stp]; exact hs, hst⟩
              obtain ⟨sa, sc, rfl⟩ := hs'.form
              obtain ⟨y1, y2, y3⟩ := y
              simp only at q1 q2 q3 hpx
              generalize (keyL K key k).length = q0 at *
              clear hR hs hs' hst stp hx hlen
              go_wp2_with fail
              go_roundg (K.length - (k + 1))
              case measure => omega
              case rel => exact ⟨k + 1, by go_num, by omega, nxt⟩
          · obtain rfl : k = K.length := by omega
            have hb5 : Below wc.heap.size wc wr := bel hb4.out hst.below
            have hT5 := hT.out.grow hb5
            obtain ⟨v1, ho1, hv1⟩ := hT5.main
            obtain ⟨v2, ho2, hv2⟩ := hT5.rone
            obtain ⟨ar, cr, e2, -⟩ := id hv2
            have kr := ho2.cell
            rw [e2] at kr
            have hofv := hu.out.below hst.below
            have eK : keyL K key K.length = onceL [] ((L'.filter fun b => b.1 == ex && b.2.2 == key).map (·.2.1)) := by
              unfold keyL
              rw [List.take_of_length_le (Nat.le_refl _), hK.out, filter_and, FineL.keyed hF.out.once]
            have hkv : ReadTs wr _ (keyL K key K.length) := TssIs.read (X := []) hs' hst (fun y hy => by
              unfold keyL at hy
              obtain ⟨b, hb, rfl⟩ := List.mem_map.1 hy
              exact (hKf.out b (List.mem_of_mem_take (List.mem_filter.1 hb).1)).max.2.1)
            obtain ⟨sa, sc, rfl⟩ := hs'.form
            obtain ⟨l2, hl2⟩ : ∃ l2, l2 = keyL K key K.length := ⟨_, rfl⟩
            rw [← hl2] at eK hkv hlen ⊢
            have hmax : ∀ y ∈ l2, y.length ≤ maxLen := fun y hy => by
              rw [hl2] at hy
              unfold keyL at hy
              obtain ⟨b, hb, rfl⟩ := List.mem_map.1 hy
              exact (hKf.out b (List.mem_of_mem_take (List.mem_filter.1 hb).1)).max.2.1
            have kof : Hid (∀ w9, TailD wr w9 → Calls Try.prog 19 #[bpt tb, tx ex] w9 fun e w' => ∃ u, e = .returned u ∧ ReadBs w' u K ∧ TailD wr w' ∧ w'.cell? ⟨rb, 0, none⟩ = some (.slice ar L'.length cr)) := Lib.hid fun w9 h9 => by
              refine (of_any (ho1.below h9) (hv1.below h9) (by omega) ex).mono ?_
              rintro e w' ⟨u, rfl, hu, hb⟩
              rw [← hK.out] at hu
              have h10 : Below wr.heap.size wr w' := bel h9 hb
              exact ⟨u, rfl, hu, h10, cellOn (c := (rb, 0)) kr h10⟩
            have ksm : Hid (∀ w9 u, ReadBs w9 u K → TailD wr w9 → Calls Try.prog 18 #[u, .slice au K.length cu] w9 fun e w' => e = .returned (.bool true) ∧ TailD wr w' ∧ w'.cell? ⟨rb, 0, none⟩ = some (.slice ar L'.length cr)) := Lib.hid fun w9 u hu h9 => by
              refine (sameB_true hu (hofv.below h9) (by omega)).mono ?_
              rintro e w' ⟨rfl, hb⟩
              have h10 : Below wr.heap.size wr w' := bel h9 hb
              exact ⟨rfl, h10, cellOn (c := (rb, 0)) kr h10⟩
            have kky : Hid (∀ w9, TailD wr w9 → Calls Try.prog 20 #[bpt tb, tx ex, tx key] w9 fun e w' => ∃ u, e = .returned u ∧ ReadTs w' u l2 ∧ TailD wr w' ∧ w'.cell? ⟨rb, 0, none⟩ = some (.slice ar L'.length cr)) := Lib.hid fun w9 h9 => by
              refine (keyed_any (ho1.below h9) (hv1.below h9) (by omega) hF.out.fit ex key).mono ?_
              rintro e w' ⟨u, S9, rfl, hu, hst9⟩
              rw [← eK] at hu
              have h10 : Below wr.heap.size wr w' := bel h9 hst9.below
              exact ⟨u, rfl, TssIs.read (X := []) hu hst9 hmax, h10, cellOn (c := (rb, 0)) kr h10⟩
            have kst : Hid (∀ w9 u, ReadTs w9 u l2 → TailD wr w9 → Calls Try.prog 12 #[u, .slice sa l2.length sc] w9 fun e w' => e = .returned (.bool true) ∧ TailD wr w' ∧ w'.cell? ⟨rb, 0, none⟩ = some (.slice ar L'.length cr)) := Lib.hid fun w9 u hu h9 => by
              refine (sameTexts_true hu (hkv.below h9) (by omega)).mono ?_
              rintro e w' ⟨rfl, hb⟩
              have h10 : Below wr.heap.size wr w' := bel h9 hb
              exact ⟨rfl, h10, cellOn (c := (rb, 0)) kr h10⟩
            have kln : Hid (∀ w9, TailD wr w9 → Calls Try.prog 21 #[bpt tb] w9 fun e w' => e = .returned (.int .i64 L'.length) ∧ TailD wr w' ∧ w'.cell? ⟨rb, 0, none⟩ = some (.slice ar L'.length cr)) := Lib.hid fun w9 h9 => by
              refine (len_any (ho1.below h9) (hv1.below h9)).mono ?_
              rintro e w' ⟨rfl, rfl⟩
              exact ⟨rfl, h9, cellOn (c := (rb, 0)) kr h9⟩
            have fin : Hid (∀ w9, TailD wr w9 → Play w tb rb w9) := Lib.hid fun w9 h9 => (hT5.grow h9).play hF.out
            have hs0 : Hid (wr.drew.cell? ⟨rb, 0, none⟩ = some (.slice ar L'.length cr)) := Lib.hid kr
            have hd0 : TailD wr wr.drew := (Below.refl _ wr).drew
            clear hR hs hs' hst hlen hT5 ho1 hv1 ho2 hv2 hofv eK hkv hmax hT hF hK hKf hb5 hu hb4 hl2
            clear hk
            generalize l2.length = q2 at *
            go_wp2_with fail
            go_region_held3 (fun x => x.cell? ⟨rb, 0, none⟩ = some (.slice ar L'.length cr)) (first | exact kS | exact hs0.out) (first
              | (go_at_call 19; refine (kof.out _ (by assumption)).mono ?_; rintro e w'' ⟨uo, rfl, ro, hD1, kS⟩)
              | (go_at_call 18; refine (ksm.out _ _ (by assumption) (by assumption)).mono ?_; rintro e w'' ⟨rfl, hD2, kS⟩)
              | (go_at_call 20; refine (kky.out _ (by assumption)).mono ?_; rintro e w'' ⟨uk, rfl, rk, hD3, kS⟩)
              | (go_at_call 12; refine (kst.out _ _ (by assumption) (by assumption)).mono ?_; rintro e w'' ⟨rfl, hD4, kS⟩)
              | (go_at_call 21; refine (kln.out _ (by assumption)).mono ?_; rintro e w'' ⟨rfl, hD5, kS⟩))
            have fin5 := Lib.hid (fin.out _ hD5)
            clear kof ksm kky kst kln fin
            go_wp2_with fail
            go_roundg (n - (i + 1))
            case measure => omega
            case rel => exact ⟨i + 1, by go_num, by omega, fin5⟩
    · have fin := Lib.hid hT.below
      clear hP hT hF
      go_wp2_with fail
      go_ret
      exact ⟨rfl, fin.out⟩
end
theorem plays11_row {a0 : Option Addr} {n cap : Nat} {s1 s2 : ByteArray} {w : World} (r0 : ReadS Try.prog w 22 [.slice a0 n cap]) :
    Calls Try.prog 3 #[.slice a0 n cap, .string s1, .string s2] w fun e w' => e = .returned (.bool true) ∧ Below w.heap.size w w' := by
  obtain ⟨rd, hr⟩ := r0.slice (by kernel_rfl : Try.prog.underlying 22 = some (.slice 33)) (by decide +kernel)
  obtain ⟨G, hG⟩ := StpAt.of hr
  obtain ⟨⟨l⟩⟩ := s1
  obtain ⟨⟨m⟩⟩ := s2
  exact plays11_walk hG
end Go.Proofs.Ytpogfbnaendfoaa
