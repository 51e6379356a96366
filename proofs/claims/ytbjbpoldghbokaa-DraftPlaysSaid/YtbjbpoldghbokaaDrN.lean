/- DraftPlays: every row of steps, side by side. -/
import Derived.Test.YtbjbpoldghbokaaDrM
namespace Go.Proofs.Ytbjbpoldghbokaa
open Go.RowKit
open Go.ChangeMaps (setBlock)
set_option linter.unusedVariables false
set_option linter.unusedSectionVars false
set_option linter.unusedSimpArgs false
set_option maxRecDepth 100000

section
variable {w : World}
set_option maxHeartbeats 8000000 in
theorem plays20_walk {a0 : Option Addr} {n cap : Nat} {G : List S20} (hG : Stp20 w a0 n G) :
    Calls Try.prog 3 #[.slice a0 n cap] w fun e w' => e = .returned (.bool true) ∧ Below w.heap.size w w' := by
  have c1 := Lib.hid (known20_true w)
  by_cases h100 : 100 < n
  · have h100' : (100 : Int) < n := by omega
    clear hG
    go_enter Try.func3, Try.ntmps3
    go_wp2_with fail
    refine c1.out.mono ?_
    rintro e w1 ⟨rfl, hb⟩
    replace hb := Lib.hid hb
    go_wp2_with fail
    go_ret
    exact ⟨rfl, hb.out⟩
  have h100' : (n : Int) ≤ 100 := by omega
  have hGl := hG.size
  replace hG := Lib.hid hG
  go_enter Try.func3, Try.ntmps3
  go_wp2_with fail
  refine c1.out.mono ?_
  rintro e w1 ⟨rfl, hb⟩
  have c2 : Hid (Calls Try.prog 6 #[] w1 fun r w' => ∃ db, r = .returned (dptr db) ∧ DrIs w.heap.size w w' db [] [] []) := Lib.hid ((dr_new ((St.start w).grow hb)).mono fun r w' h => ⟨_, h⟩)
  clear c1 hb h100
  go_wp2_with fail
  refine c2.out.mono ?_
  rintro e w2 ⟨db, rfl, h⟩
  have h0 : Hid (Pl20 w db 0 [] (.slice none 0 0) (.slice none 0 0) (.slice none 0 0) w2) := Lib.hid ⟨[], [], none, 0, none, 0, none, 0, rfl, rfl, rfl, Nat.le_refl _, [], [], [], SlIs.nil, SlIs.nil, SlIs.nil, h⟩
  clear c2 h
  go_wp2_with fail
  go_loopg [4, 5, 6, 7] n (fun g v4 v5 v6 v7 wr => ∃ i : Nat, v7 = .int .i64 i ∧ i + g = n ∧ Hid (Pl20 w db i [] v4 v5 v6 wr))
  case atStart => exact ⟨0, rfl, by omega, h0⟩
  case round =>
    clear h0
    obtain ⟨i, rfl, hi, hP⟩ := hrel
    obtain ⟨P, A, a4, c4, a5, c5, a6, c6, rfl, rfl, rfl, hPl, hT⟩ := hP.out
    have hi0 : (0 : Int) ≤ i := by omega
    by_cases hlt : i < n
    rotate_left
    · have fin := Lib.hid hT.below
      clear hP hT hPl
      go_wp2_with fail
      go_ret
      exact ⟨rfl, fin.out⟩
    have hi1 : (i : Int) < n := by omega
    obtain ⟨s, hx⟩ : ∃ s, G[i]? = some s := ⟨_, List.getElem?_eq_getElem (by omega)⟩
    obtain ⟨hfit, ba, oa, rfl, k0, k1, k2, k3, k4, k5, k6, k7, k8, k9, k10, k11, k12⟩ := (hG.out.below hT.below).at_ i s hx
    have h1 := hT.alloc (stO20 s)
    obtain ⟨what, tag, num, e⟩ := s
    simp only at hfit k0 k1 k2 k3 k4 k5 k6 k7 k8 k9 k10 k11 k12
    clear hx hP hT
    go_upto_block 2 with fail
    clear k0 k1 k2 k3 k4 k5 k6 k7 k8 k9 k10 k11 k12
    generalize wr.heap.size = qb at *
    obtain ⟨W1, hW1⟩ : ∃ W1, W1 = wr.alloc (stO20 (what, tag, num, e)) := ⟨_, rfl⟩
    rw [← hW1] at h1 ⊢
    clear hW1
    obtain ⟨y1, y2, y3, y4, y5, y6, y7, y8, y9, y10, y11, y12⟩ := h1.step (st := (what, tag, num, e)) List.mem_cons_self
    have y0 : W1.cell? ⟨qb, 0, none⟩ = some (.int .i64 what) := h1.cell (q := qb) (c := #[_, _, _, _, _, _, _, _, _, _, _, _, _]) List.mem_cons_self rfl
    have hfitH := Lib.hid hfit
    have hP1 : P.length ≤ 100 := by omega
    have hA1 : A.length ≤ 100 := by omega
    go_cut [4, 5, 6] (fun v4 v5 v6 wx => Hid (Pl20 w db (i + 1) [(qb, stO20 (what, tag, num, e))] v4 v5 v6 wx))
    case first =>
      by_cases hw1 : what ≤ 3
      ·
          have cA : Hid (Calls Try.prog 7 #[dptr db, enV e, .int .i64 num] W1 fun r w' => r = .returned (.tuple #[]) ∧ Law20 w.heap.size w w' db (P ++ [(e, num)]) A (P.map (·.1)) (P.map (·.2)) A (.slice a4 P.length c4) (.slice a5 P.length c5) (.slice a6 A.length c6) [(qb, stO20 (what, tag, num, e))]) := Lib.hid (law_publish h1 (by omega) hfit num)
          clear h1 hfit
          go_wp2_with fail
          refine cA.out.mono ?_
          rintro r w3 ⟨rfl, h2⟩
          obtain ⟨s1, s2, s3, s4, s5, s6, s7, s8, s9, s10, s11, s12⟩ := h2.step (st := (what, tag, num, e)) List.mem_cons_self
          have hs0 : Hid (StB w3.drew qb tag num e) := Lib.hid ((h2.grow (drew_b _)).step (st := (what, tag, num, e)) List.mem_cons_self)
          obtain ⟨⟨a41, n41, d41, a51, n51, d51, U11, U12, O1⟩, ⟨a42, n42, d42, a52, n52, d52, U21, U22, O2⟩, ⟨a43, n43, d43, a53, n53, d53, U31, U32, O3⟩⟩ := (h2.grow (drew_b w3)).two (List.length_map _).symm (List.length_map _).symm (by rw [List.length_map]; omega) (by rw [List.length_map]; omega)
          have p41 := O1.r4
          have p51 := O1.r5
          have p42 := O2.r4
          have p52 := O2.r5
          have p43 := O3.r4
          have p53 := O3.r5
          have fin : ∀ {wa wb wc : World} {q r : Nat} {b4 : Option Addr} {n4 d4 : Nat} {b5 : Option Addr} {n5 d5 : Nat} {U1 U2 : World}, Ord20 w.heap.size w w3.drew db (P ++ [(e, num)]) A A (P.map (·.1)) (P.map (·.2)) (.slice a4 P.length c4) (.slice a5 P.length c5) (.slice a6 A.length c6) qb what tag num e wa wb wc q r b4 n4 d4 b5 n5 d5 U1 U2 → Pl20 w db (i + 1) [(qb, stO20 (what, tag, num, e))] (.slice b4 n4 d4) (.slice b5 n5 d5) (.slice a6 A.length c6) U2 := fun {wa wb wc q r b4 n4 d4 b5 n5 d5 U1 U2} O => by
            refine ⟨P ++ [(e, num)], A, b4, d4, b5, d5, a6, c6, by rw [O.l4]; simp, by rw [O.l5]; simp, rfl, by rw [List.length_append]; simp; omega, ?_⟩
            have := O.fin
            rw [List.map_append, List.map_append]
            exact this
          have f1 := Lib.hid (fin O1)
          have f2 := Lib.hid (fin O2)
          have f3 := Lib.hid (fin O3)
          replace O1 := Lib.hid O1
          replace O2 := Lib.hid O2
          replace O3 := Lib.hid O3
          clear h2 cA fin y0 y1 y2 y3 y4 y5 y6 y7 y8 y9 y10 y11 y12 s1 s2 s3 s4 s5 s6 s7 s8 s9 s10 s11 s12
          go_upto_region 17 with fail
          refine wp_region_held_drew (S := fun X => StB X qb tag num e) (by kernel_rfl) hs0.out (fun hHeld => ?_)
          generalize w3.drew = V at *
          refine wpAnyH_take (i := 0) (oi := { dst := some 43, op := Op.move (Operand.tmp 4), type := 26, pos := "exact.go:47", after := #[], guard := none }) (v := ?_) rfl (by kernel_rfl) (by kernel_rfl) (by kernel_rfl) (fun _ _ _ h => h) (Or.inl ⟨by rfl, ?_⟩) hHeld ?_
          rotate_left 1
          · (intro w' hSw; clear hSw; go_simp; (try with_reducible rfl))
          try simp only [Act.put, List.setIfInBounds_toArray, List.set_cons_zero, List.set_cons_succ]
          refine wpAnyH_take (i := 1) (oi := { dst := some 44, op := Op.fieldAddr 32 (Operand.tmp 8) 3, type := 0, pos := "exact.go:47", after := #[], guard := none }) (v := ?_) rfl (by kernel_rfl) (by kernel_rfl) (by kernel_rfl) (fun _ _ _ h => h) (Or.inl ⟨by rfl, ?_⟩) hHeld ?_
          rotate_left 1
          · (intro w' hSw; clear hSw; go_simp; (try with_reducible rfl))
          try simp only [Act.put, List.setIfInBounds_toArray, List.set_cons_zero, List.set_cons_succ]
          refine wpAnyH_take (i := 2) (oi := { dst := some 45, op := Op.load 30 (Operand.tmp 44), type := 30, pos := "exact.go:47", after := #[{ on := 1, ground := Ground.data }], guard := none }) (v := ?_) rfl (by kernel_rfl) (by kernel_rfl) (by kernel_rfl) (fun _ _ _ h => h) (Or.inl ⟨by rfl, ?_⟩) hHeld ?_
          rotate_left 1
          · (intro w' hSw; obtain ⟨s0, s1, s2, s3, s4, s5, s6, s7, s8, s9, s10, s11⟩ := hSw; go_simp; (try with_reducible rfl))
          try simp only [Act.put, List.setIfInBounds_toArray, List.set_cons_zero, List.set_cons_succ]
          refine wpAnyH_take (i := 5) (oi := { dst := some 48, op := Op.move (Operand.tmp 5), type := 27, pos := "exact.go:47", after := #[], guard := none }) (v := ?_) rfl (by kernel_rfl) (by kernel_rfl) (by kernel_rfl) (fun _ _ _ h => h) (Or.inl ⟨by rfl, ?_⟩) hHeld ?_
          rotate_left 1
          · (intro w' hSw; clear hSw; go_simp; (try with_reducible rfl))
          try simp only [Act.put, List.setIfInBounds_toArray, List.set_cons_zero, List.set_cons_succ]
          refine wpAnyH_take (i := 6) (oi := { dst := some 49, op := Op.fieldAddr 32 (Operand.tmp 8) 2, type := 0, pos := "exact.go:47", after := #[], guard := none }) (v := ?_) rfl (by kernel_rfl) (by kernel_rfl) (by kernel_rfl) (fun _ _ _ h => h) (Or.inl ⟨by rfl, ?_⟩) hHeld ?_
          rotate_left 1
          · (intro w' hSw; clear hSw; go_simp; (try with_reducible rfl))
          try simp only [Act.put, List.setIfInBounds_toArray, List.set_cons_zero, List.set_cons_succ]
          refine wpAnyH_take (i := 7) (oi := { dst := some 50, op := Op.load 3 (Operand.tmp 49), type := 3, pos := "exact.go:47", after := #[{ on := 6, ground := Ground.data }], guard := none }) (v := ?_) rfl (by kernel_rfl) (by kernel_rfl) (by kernel_rfl) (fun _ _ _ h => h) (Or.inl ⟨by rfl, ?_⟩) hHeld ?_
          rotate_left 1
          · (intro w' hSw; obtain ⟨s0, s1, s2, s3, s4, s5, s6, s7, s8, s9, s10, s11⟩ := hSw; go_simp; (try with_reducible rfl))
          try simp only [Act.put, List.setIfInBounds_toArray, List.set_cons_zero, List.set_cons_succ]
          refine wpAnyH_ready (rs := [3, 8]) (by kernel_rfl) (by simp) (AllReadyH.cons (o := { dst := some 46, op := Op.buildSlice 26 1 #[(0, Operand.tmp 45)], type := 26, pos := "exact.go:47", after := #[{ on := 2, ground := Ground.data }], guard := none }) rfl (fun K hK => ?_) (AllReadyH.cons (o := { dst := some 51, op := Op.buildSlice 27 1 #[(0, Operand.tmp 50)], type := 27, pos := "exact.go:47", after := #[{ on := 7, ground := Ground.data }], guard := none }) rfl (fun K hK => ?_) AllReadyH.nil))
          · clear hHeld
            go_simp
            refine hK.out _ _ O1.out.k0 (fun hHeld => ?_)
            clear hK K
            try simp only [Act.put, List.setIfInBounds_toArray, List.set_cons_zero, List.set_cons_succ]
            refine wpAnyH_ready (rs := [4, 8]) (by kernel_rfl) (by simp) (AllReadyH.cons (o := { dst := some 47, op := Op.call { callee := Callee.builtin Builtin.append, args := #[Operand.tmp 43, Operand.tmp 46], argTypes := #[26, 26] }, type := 26, pos := "exact.go:47", after := #[{ on := 0, ground := Ground.data }, { on := 3, ground := Ground.data }], guard := none }) rfl (fun K hK => ?_) (AllReadyH.cons (o := { dst := some 51, op := Op.buildSlice 27 1 #[(0, Operand.tmp 50)], type := 27, pos := "exact.go:47", after := #[{ on := 7, ground := Ground.data }], guard := none }) rfl (fun K hK => ?_) AllReadyH.nil))
            · clear hHeld
              refine step_app (.tmp 43) (.tmp 46) 26 p41 rfl rfl (by simp [Act.eval, Act.put]) (by simp [Act.eval, Act.put]) ?_
              refine hK.out _ _ O1.out.kb (fun hHeld => ?_)
              clear hK K
              try simp only [Act.put, List.setIfInBounds_toArray, List.set_cons_zero, List.set_cons_succ]
              refine wpAnyH_ready (rs := [8]) (by kernel_rfl) (by simp) (AllReadyH.cons (o := { dst := some 51, op := Op.buildSlice 27 1 #[(0, Operand.tmp 50)], type := 27, pos := "exact.go:47", after := #[{ on := 7, ground := Ground.data }], guard := none }) rfl (fun K hK => ?_) AllReadyH.nil)
              clear hHeld
              go_simp
              refine hK.out _ _ O1.out.kc (fun hHeld => ?_)
              clear hK K
              try simp only [Act.put, List.setIfInBounds_toArray, List.set_cons_zero, List.set_cons_succ]
              refine wpAnyH_ready (rs := [9]) (by kernel_rfl) (by simp) (AllReadyH.cons (o := { dst := some 52, op := Op.call { callee := Callee.builtin Builtin.append, args := #[Operand.tmp 48, Operand.tmp 51], argTypes := #[27, 27] }, type := 27, pos := "exact.go:47", after := #[{ on := 5, ground := Ground.data }, { on := 8, ground := Ground.data }, { on := 4, ground := Ground.chain }], guard := none }) rfl (fun K hK => ?_) AllReadyH.nil)
              clear hHeld
              refine step_app (.tmp 48) (.tmp 51) 27 p51 rfl rfl (by simp [Act.eval, Act.put]) (by simp [Act.eval, Act.put]) ?_
              refine hK.out _ _ O1.out.kd (fun hHeld => ?_)
              clear hK K
              try simp only [Act.put, List.setIfInBounds_toArray, List.set_cons_zero, List.set_cons_succ]
              refine wpAnyH_take (i := 10) (oi := { dst := some 4, op := Op.assign (Operand.tmp 47), type := 26, pos := "exact.go:47", after := #[{ on := 4, ground := Ground.data }, { on := 9, ground := Ground.chain }, { on := 0, ground := Ground.phase }, { on := 1, ground := Ground.phase }, { on := 2, ground := Ground.phase }, { on := 3, ground := Ground.phase }, { on := 4, ground := Ground.phase }, { on := 5, ground := Ground.textOnly Departure.lateStores }, { on := 6, ground := Ground.textOnly Departure.lateStores }, { on := 7, ground := Ground.textOnly Departure.lateStores }, { on := 8, ground := Ground.textOnly Departure.lateStores }, { on := 9, ground := Ground.textOnly Departure.lateStoresUnsure }], guard := none }) (v := ?_) rfl (by kernel_rfl) (by kernel_rfl) (by kernel_rfl) (fun _ _ _ h => h) (Or.inl ⟨by rfl, ?_⟩) hHeld ?_
              rotate_left 1
              · (intro w' hSw; clear hSw; go_simp; (try with_reducible rfl))
              try simp only [Act.put, List.setIfInBounds_toArray, List.set_cons_zero, List.set_cons_succ]
              refine wpAnyH_take (i := 11) (oi := { dst := some 5, op := Op.assign (Operand.tmp 52), type := 27, pos := "exact.go:47", after := #[{ on := 9, ground := Ground.data }, { on := 10, ground := Ground.chain }, { on := 0, ground := Ground.phase }, { on := 1, ground := Ground.phase }, { on := 2, ground := Ground.phase }, { on := 3, ground := Ground.phase }, { on := 4, ground := Ground.phase }, { on := 5, ground := Ground.phase }, { on := 6, ground := Ground.phase }, { on := 7, ground := Ground.phase }, { on := 8, ground := Ground.phase }, { on := 9, ground := Ground.phase }, { on := 10, ground := Ground.phase }], guard := none }) (v := ?_) rfl (by kernel_rfl) (by kernel_rfl) (by kernel_rfl) (fun _ _ _ h => h) (Or.inl ⟨by rfl, ?_⟩) hHeld ?_
              rotate_left 1
              · (intro w' hSw; clear hSw; go_simp; (try with_reducible rfl))
              try simp only [Act.put, List.setIfInBounds_toArray, List.set_cons_zero, List.set_cons_succ]
              refine wpAnyH_done (by kernel_rfl) ?_ _
              clear hHeld
              go_wp2_with fail
              go_meet
              case rel => exact f1
            · clear hHeld
              go_simp
              refine hK.out _ _ O2.out.ka (fun hHeld => ?_)
              clear hK K
              try simp only [Act.put, List.setIfInBounds_toArray, List.set_cons_zero, List.set_cons_succ]
              refine wpAnyH_ready (rs := [4]) (by kernel_rfl) (by simp) (AllReadyH.cons (o := { dst := some 47, op := Op.call { callee := Callee.builtin Builtin.append, args := #[Operand.tmp 43, Operand.tmp 46], argTypes := #[26, 26] }, type := 26, pos := "exact.go:47", after := #[{ on := 0, ground := Ground.data }, { on := 3, ground := Ground.data }], guard := none }) rfl (fun K hK => ?_) AllReadyH.nil)
              clear hHeld
              refine step_app (.tmp 43) (.tmp 46) 26 p42 rfl rfl (by simp [Act.eval, Act.put]) (by simp [Act.eval, Act.put]) ?_
              refine hK.out _ _ O2.out.kb (fun hHeld => ?_)
              clear hK K
              try simp only [Act.put, List.setIfInBounds_toArray, List.set_cons_zero, List.set_cons_succ]
              refine wpAnyH_ready (rs := [9]) (by kernel_rfl) (by simp) (AllReadyH.cons (o := { dst := some 52, op := Op.call { callee := Callee.builtin Builtin.append, args := #[Operand.tmp 48, Operand.tmp 51], argTypes := #[27, 27] }, type := 27, pos := "exact.go:47", after := #[{ on := 5, ground := Ground.data }, { on := 8, ground := Ground.data }, { on := 4, ground := Ground.chain }], guard := none }) rfl (fun K hK => ?_) AllReadyH.nil)
              clear hHeld
              refine step_app (.tmp 48) (.tmp 51) 27 p52 rfl rfl (by simp [Act.eval, Act.put]) (by simp [Act.eval, Act.put]) ?_
              refine hK.out _ _ O2.out.kd (fun hHeld => ?_)
              clear hK K
              try simp only [Act.put, List.setIfInBounds_toArray, List.set_cons_zero, List.set_cons_succ]
              refine wpAnyH_take (i := 10) (oi := { dst := some 4, op := Op.assign (Operand.tmp 47), type := 26, pos := "exact.go:47", after := #[{ on := 4, ground := Ground.data }, { on := 9, ground := Ground.chain }, { on := 0, ground := Ground.phase }, { on := 1, ground := Ground.phase }, { on := 2, ground := Ground.phase }, { on := 3, ground := Ground.phase }, { on := 4, ground := Ground.phase }, { on := 5, ground := Ground.textOnly Departure.lateStores }, { on := 6, ground := Ground.textOnly Departure.lateStores }, { on := 7, ground := Ground.textOnly Departure.lateStores }, { on := 8, ground := Ground.textOnly Departure.lateStores }, { on := 9, ground := Ground.textOnly Departure.lateStoresUnsure }], guard := none }) (v := ?_) rfl (by kernel_rfl) (by kernel_rfl) (by kernel_rfl) (fun _ _ _ h => h) (Or.inl ⟨by rfl, ?_⟩) hHeld ?_
              rotate_left 1
              · (intro w' hSw; clear hSw; go_simp; (try with_reducible rfl))
              try simp only [Act.put, List.setIfInBounds_toArray, List.set_cons_zero, List.set_cons_succ]
              refine wpAnyH_take (i := 11) (oi := { dst := some 5, op := Op.assign (Operand.tmp 52), type := 27, pos := "exact.go:47", after := #[{ on := 9, ground := Ground.data }, { on := 10, ground := Ground.chain }, { on := 0, ground := Ground.phase }, { on := 1, ground := Ground.phase }, { on := 2, ground := Ground.phase }, { on := 3, ground := Ground.phase }, { on := 4, ground := Ground.phase }, { on := 5, ground := Ground.phase }, { on := 6, ground := Ground.phase }, { on := 7, ground := Ground.phase }, { on := 8, ground := Ground.phase }, { on := 9, ground := Ground.phase }, { on := 10, ground := Ground.phase }], guard := none }) (v := ?_) rfl (by kernel_rfl) (by kernel_rfl) (by kernel_rfl) (fun _ _ _ h => h) (Or.inl ⟨by rfl, ?_⟩) hHeld ?_
              rotate_left 1
              · (intro w' hSw; clear hSw; go_simp; (try with_reducible rfl))
              try simp only [Act.put, List.setIfInBounds_toArray, List.set_cons_zero, List.set_cons_succ]
              refine wpAnyH_done (by kernel_rfl) ?_ _
              clear hHeld
              go_wp2_with fail
              go_meet
              case rel => exact f2
          · clear hHeld
            go_simp
            refine hK.out _ _ O3.out.k0 (fun hHeld => ?_)
            clear hK K
            try simp only [Act.put, List.setIfInBounds_toArray, List.set_cons_zero, List.set_cons_succ]
            refine wpAnyH_ready (rs := [3]) (by kernel_rfl) (by simp) (AllReadyH.cons (o := { dst := some 46, op := Op.buildSlice 26 1 #[(0, Operand.tmp 45)], type := 26, pos := "exact.go:47", after := #[{ on := 2, ground := Ground.data }], guard := none }) rfl (fun K hK => ?_) AllReadyH.nil)
            clear hHeld
            go_simp
            refine hK.out _ _ O3.out.ka (fun hHeld => ?_)
            clear hK K
            try simp only [Act.put, List.setIfInBounds_toArray, List.set_cons_zero, List.set_cons_succ]
            refine wpAnyH_ready (rs := [4]) (by kernel_rfl) (by simp) (AllReadyH.cons (o := { dst := some 47, op := Op.call { callee := Callee.builtin Builtin.append, args := #[Operand.tmp 43, Operand.tmp 46], argTypes := #[26, 26] }, type := 26, pos := "exact.go:47", after := #[{ on := 0, ground := Ground.data }, { on := 3, ground := Ground.data }], guard := none }) rfl (fun K hK => ?_) AllReadyH.nil)
            clear hHeld
            refine step_app (.tmp 43) (.tmp 46) 26 p43 rfl rfl (by simp [Act.eval, Act.put]) (by simp [Act.eval, Act.put]) ?_
            refine hK.out _ _ O3.out.kb (fun hHeld => ?_)
            clear hK K
            try simp only [Act.put, List.setIfInBounds_toArray, List.set_cons_zero, List.set_cons_succ]
            refine wpAnyH_ready (rs := [9]) (by kernel_rfl) (by simp) (AllReadyH.cons (o := { dst := some 52, op := Op.call { callee := Callee.builtin Builtin.append, args := #[Operand.tmp 48, Operand.tmp 51], argTypes := #[27, 27] }, type := 27, pos := "exact.go:47", after := #[{ on := 5, ground := Ground.data }, { on := 8, ground := Ground.data }, { on := 4, ground := Ground.chain }], guard := none }) rfl (fun K hK => ?_) AllReadyH.nil)
            clear hHeld
            refine step_app (.tmp 48) (.tmp 51) 27 p53 rfl rfl (by simp [Act.eval, Act.put]) (by simp [Act.eval, Act.put]) ?_
            refine hK.out _ _ O3.out.kd (fun hHeld => ?_)
            clear hK K
            try simp only [Act.put, List.setIfInBounds_toArray, List.set_cons_zero, List.set_cons_succ]
            refine wpAnyH_take (i := 10) (oi := { dst := some 4, op := Op.assign (Operand.tmp 47), type := 26, pos := "exact.go:47", after := #[{ on := 4, ground := Ground.data }, { on := 9, ground := Ground.chain }, { on := 0, ground := Ground.phase }, { on := 1, ground := Ground.phase }, { on := 2, ground := Ground.phase }, { on := 3, ground := Ground.phase }, { on := 4, ground := Ground.phase }, { on := 5, ground := Ground.textOnly Departure.lateStores }, { on := 6, ground := Ground.textOnly Departure.lateStores }, { on := 7, ground := Ground.textOnly Departure.lateStores }, { on := 8, ground := Ground.textOnly Departure.lateStores }, { on := 9, ground := Ground.textOnly Departure.lateStoresUnsure }], guard := none }) (v := ?_) rfl (by kernel_rfl) (by kernel_rfl) (by kernel_rfl) (fun _ _ _ h => h) (Or.inl ⟨by rfl, ?_⟩) hHeld ?_
            rotate_left 1
            · (intro w' hSw; clear hSw; go_simp; (try with_reducible rfl))
            try simp only [Act.put, List.setIfInBounds_toArray, List.set_cons_zero, List.set_cons_succ]
            refine wpAnyH_take (i := 11) (oi := { dst := some 5, op := Op.assign (Operand.tmp 52), type := 27, pos := "exact.go:47", after := #[{ on := 9, ground := Ground.data }, { on := 10, ground := Ground.chain }, { on := 0, ground := Ground.phase }, { on := 1, ground := Ground.phase }, { on := 2, ground := Ground.phase }, { on := 3, ground := Ground.phase }, { on := 4, ground := Ground.phase }, { on := 5, ground := Ground.phase }, { on := 6, ground := Ground.phase }, { on := 7, ground := Ground.phase }, { on := 8, ground := Ground.phase }, { on := 9, ground := Ground.phase }, { on := 10, ground := Ground.phase }], guard := none }) (v := ?_) rfl (by kernel_rfl) (by kernel_rfl) (by kernel_rfl) (fun _ _ _ h => h) (Or.inl ⟨by rfl, ?_⟩) hHeld ?_
            rotate_left 1
            · (intro w' hSw; clear hSw; go_simp; (try with_reducible rfl))
            try simp only [Act.put, List.setIfInBounds_toArray, List.set_cons_zero, List.set_cons_succ]
            refine wpAnyH_done (by kernel_rfl) ?_ _
            clear hHeld
            go_wp2_with fail
            go_meet
            case rel => exact f3
      by_cases hw2 : what ≤ 7
      · have cB : Hid (Calls Try.prog 8 #[dptr db, .int .i64 tag, .int .i64 num] W1 fun r w' => r = .returned (.tuple #[]) ∧ Law20 w.heap.size w w' db P (A ++ [(tag, num)]) (P.map (·.1)) (P.map (·.2)) A (.slice a4 P.length c4) (.slice a5 P.length c5) (.slice a6 A.length c6) [(qb, stO20 (what, tag, num, e))]) := Lib.hid (law_ack h1 (by omega) tag num)
        clear h1 hfit
        go_wp2_with fail
        refine cB.out.mono ?_
        rintro r w3 ⟨rfl, h2⟩
        obtain ⟨s1, s2, -⟩ := h2.step (st := (what, tag, num, e)) List.mem_cons_self
        obtain ⟨a', n', c', W', q1, q2, q3⟩ := (h2.alloc (prO tag num)).put6 List.mem_cons_self (by omega)
        have fin : Hid (Pl20 w db (i + 1) [(qb, stO20 (what, tag, num, e))] (.slice a4 P.length c4) (.slice a5 P.length c5) (.slice a' n' c') W') := Lib.hid
          ⟨P, A ++ [(tag, num)], a4, c4, a5, c5, a', c', rfl, rfl, by rw [q2], by rw [List.length_append]; simp; omega, q3.sub (List.sublist_cons_self _ _)⟩
        clear h2 cB y0 y1 y2 y3 y4 y5 y6 y7 y8 y9 y10 y11 y12 q2 q3
        go_wp2_with (at_builtin; refine wpList_append_go rfl (.tmp 63) (.tmp 69) 28 28 rfl _ _ rfl rfl q1.run ?_)
        go_meet
        case rel => exact fin
      · have cC : Hid (Calls Try.prog 9 #[dptr db] W1 fun r w' => r = .returned (.tuple #[]) ∧ Law20 w.heap.size w w' db [] [] [] [] [] (.slice none 0 0) (.slice none 0 0) (.slice none 0 0) [(qb, stO20 (what, tag, num, e))]) := Lib.hid (law_clear h1)
        clear h1 hfit
        go_wp2_with fail
        refine cC.out.mono ?_
        rintro r w3 ⟨rfl, h2⟩
        have fin : Hid (Pl20 w db (i + 1) [(qb, stO20 (what, tag, num, e))] (.slice none 0 0) (.slice none 0 0) (.slice none 0 0) w3) := Lib.hid
          ⟨[], [], none, 0, none, 0, none, 0, rfl, rfl, rfl, Nat.zero_le _, h2⟩
        clear h2 cC y0 y1 y2 y3 y4 y5 y6 y7 y8 y9 y10 y11 y12
        go_wp2_with fail
        go_meet
        case rel => exact fin
    case rest =>
      replace hP2 := hcut
      clear h1 y0 y1 y2 y3 y4 y5 y6 y7 y8 y9 y10 y11 y12 hfit hfitH hPl hP1 hA1
      clear P A a4 c4 a5 c5 a6 c6
      obtain ⟨P, A, a4, c4, a5, c5, a6, c6, rfl, rfl, rfl, hPl, hT⟩ := hcut.out
      clear hcut
      obtain ⟨E, hE⟩ : ∃ E, E = P.map (·.1) := ⟨_, rfl⟩
      obtain ⟨N, hN⟩ : ∃ N, N = P.map (·.2) := ⟨_, rfl⟩
      have hEl : P.length = E.length := by rw [hE, List.length_map]
      have hNl : P.length = N.length := by rw [hN, List.length_map]
      rw [← hE, ← hN] at hT
      have hP1 : P.length ≤ 101 := by omega
      have hA1 : A.length ≤ 101 := by omega
      have toPl : Hid (∀ W, Law20 w.heap.size w W db P A E N A (.slice a4 P.length c4) (.slice a5 P.length c5) (.slice a6 A.length c6) [] → Pl20 w db (i + 1) [] (.slice a4 P.length c4) (.slice a5 P.length c5) (.slice a6 A.length c6) W) := Lib.hid fun W h =>
        ⟨P, A, a4, c4, a5, c5, a6, c6, rfl, rfl, rfl, by omega, by rw [← hE, ← hN]; exact h⟩
      have cp : Hid (Calls Try.prog 10 #[dptr db] wc fun r w' => ∃ t u, r = .returned (.tuple #[.slice (some ⟨t, 0, none⟩) P.length P.length, .slice (some ⟨u, 0, none⟩) P.length P.length]) ∧ Law20 w.heap.size w w' db P A E N A (.slice a4 P.length c4) (.slice a5 P.length c5) (.slice a6 A.length c6) [(t, ensO E), (u, numsO N), (qb, stO20 (what, tag, num, e))]) := Lib.hid (by
        have := law_publishes hT (by omega)
        rw [← hE, ← hN] at this
        exact this)
      replace hE := Lib.hid hE
      replace hN := Lib.hid hN
      replace hEl := Lib.hid hEl
      replace hNl := Lib.hid hNl
      clear hP2 hT hPl
      go_wp2_with fail
      refine cp.out.mono ?_
      rintro r w3 ⟨t, u, rfl, h2⟩
      have ca := Lib.hid (law_acks h2 (by omega))
      clear cp h2
      go_wp2_with fail
      refine ca.out.mono ?_
      rintro r w4 ⟨sb, rfl, h3⟩
      have hP0 : (P.length : Int) ≤ 101 := by omega
      have hA0 : (A.length : Int) ≤ 101 := by omega
      obtain ⟨q1, q2, -⟩ := h3.read hEl.out hNl.out (t := t) (u := u) (s := sb) (by simp) (by simp) (by simp)
      have cs : Hid (Calls Try.prog 12 #[.slice (some ⟨t, 0, none⟩) P.length P.length, .slice a4 P.length c4] w4 fun r w' => r = .returned (.bool true) ∧ Law20 w.heap.size w w' db P A E N A (.slice a4 P.length c4) (.slice a5 P.length c5) (.slice a6 A.length c6) [(sb, prsO A), (t, ensO E), (u, numsO N), (qb, stO20 (what, tag, num, e))]) := Lib.hid (by
        have := rsame_any (c := P.length) (c2 := c4) q1 q2 (by rw [← hEl.out]; omega)
        rw [← hEl.out] at this
        refine this.mono ?_
        rintro r w' ⟨rfl, m, rfl⟩
        exact ⟨rfl, h3.grow (drewN_below _ m)⟩)
      clear ca h3 q1 q2
      go_wp2_with fail
      refine cs.out.mono ?_
      rintro r w5 ⟨rfl, h4⟩
      have cl : Hid (Calls Try.prog 13 #[dptr db] w5 fun r w' => r = .returned (.int .i64 ((P.length : Int) + A.length)) ∧ Law20 w.heap.size w w' db P A E N A (.slice a4 P.length c4) (.slice a5 P.length c5) (.slice a6 A.length c6) [(sb, prsO A), (t, ensO E), (u, numsO N), (qb, stO20 (what, tag, num, e))]) := Lib.hid (by
        refine (law_len h4 (by omega) (by omega)).mono ?_
        rintro r w' ⟨rfl, h⟩
        exact ⟨ret_int (by omega), h⟩)
      clear cs h4
      go_wp2_with fail
      refine cl.out.mono ?_
      rintro r w6 ⟨rfl, h5⟩
      have hrd : Hid (∀ m, Rd20 (w6.drewN m) u sb a5 a6 N A ∧ (w6.drewN m).cell? ⟨qb, 1, none⟩ = some (.int .i64 tag)) := Lib.hid fun m => by
        have h6 := h5.grow (drewN_below _ m)
        exact ⟨(h6.read hEl.out hNl.out (t := t) (u := u) (s := sb) (by simp) (by simp) (by simp)).2.2, (h6.step (q := qb) (st := (what, tag, num, e)) (by simp)).1⟩
      have hhas : Hid (∀ m, Calls Try.prog 14 #[dptr db, .int .i64 tag] (w6.drewN m) fun r w' => r = .returned (.bool (decide (tag ∈ A.map (·.1)))) ∧ Law20 w.heap.size w w' db P A E N A (.slice a4 P.length c4) (.slice a5 P.length c5) (.slice a6 A.length c6) []) := Lib.hid fun m => by
        refine (law_has (h5.grow (drewN_below _ m)) tag).mono ?_
        rintro r w' ⟨rfl, h⟩
        exact ⟨rfl, h.sub (List.nil_sublist _)⟩
      clear cl h5
      go_wp2_with fail
      go_loopg [13] P.length (fun g v13 wr => ∃ k m : Nat, v13 = .int .i64 k ∧ k + g = P.length ∧ wr = w6.drewN m)
      case atStart => exact ⟨0, 0, rfl, by omega, rfl⟩
      case round =>
        obtain ⟨k, m, rfl, hk, rfl⟩ := hrel
        have k0 : (0 : Int) ≤ k := by omega
        by_cases hlt : k < P.length
        · have k1 : (k : Int) < P.length := by omega
          obtain ⟨x, hx⟩ : ∃ x, N[k]? = some x := ⟨_, List.getElem?_eq_getElem (by rw [← hNl.out]; exact hlt)⟩
          obtain ⟨cu, b1, o1, rfl, cb⟩ := (hrd.out m).1.nums k x hx
          clear hx hrd hhas toPl
          generalize hV : w6.drewN m = V at *
          replace hV := Lib.hid hV
          go_wp2_with fail
          go_quiet (fail)
          go_wp2_with fail
          go_roundg (P.length - (k + 1))
          case measure => omega
          case rel => exact ⟨k + 1, _, by go_num, by omega, by rw [← hV.out]; exact drew_drew _ _ _⟩
        · go_wp2_with fail
          clear hk hlt k0
          go_loopg [12, 14] A.length (fun g v12 v14 wr => ∃ (k m : Nat) (b : Bool), v14 = .int .i64 k ∧ v12 = .bool b ∧ k + g = A.length ∧ Hid (b = decide (tag ∈ (A.map (·.1)).take k)) ∧ wr = w6.drewN m)
          case atStart => exact ⟨0, m, false, rfl, rfl, by omega, Lib.hid (by simp), rfl⟩
          case round =>
            clear m
            obtain ⟨k, m, b, rfl, rfl, hk, hb, rfl⟩ := hrel
            have k0 : (0 : Int) ≤ k := by omega
            by_cases hlt : k < A.length
            · have k1 : (k : Int) < A.length := by omega
              obtain ⟨x, hx⟩ : ∃ x, A[k]? = some x := ⟨_, List.getElem?_eq_getElem hlt⟩
              have hxm : (A.map (·.1))[k]? = some x.1 := by simp [hx]
              have hb2 : Hid ((b || (x.1 == tag)) = decide (tag ∈ (A.map (·.1)).take (k + 1))) := Lib.hid (by rw [take_has hxm, hb.out])
              obtain ⟨⟨cs0, cs1⟩, b1, o1, rfl, cb0, cb1⟩ := (hrd.out m).1.prs k x hx
              have hnx : Hid (∀ n, ((w6.drewN m).drewN n).cell? ⟨b1, o1 + k * 2, none⟩ = some (.int .i64 x.1) ∧ ((w6.drewN m).drewN n).cell? ⟨qb, 1, none⟩ = some (.int .i64 tag)) := Lib.hid fun n => by
                rw [drew_drew]
                obtain ⟨-, b', o', e1, h1, -⟩ := (hrd.out (m + n)).1.prs k x hx
                cases e1
                exact ⟨h1, (hrd.out (m + n)).2⟩
              obtain ⟨x1, x2⟩ := x
              simp only at cs0 cs1 cb0 cb1 hb2 hnx
              have hq := eqPr x1 x2 x1 x2
              clear hx hxm hrd hhas toPl hb
              generalize hV : w6.drewN m = V at *
              replace hV := Lib.hid hV
              go_wp2_with fail
              go_quiet (fail)
              obtain ⟨d0, d1⟩ := hnx.out nq
              clear cs0 cs1 cb0 cb1 hnx hq
              generalize hV2 : V.drewN nq = V2 at *
              replace hV2 := Lib.hid hV2
              cases b with
              | true =>
                rw [Bool.true_or] at hb2
                go_wp2_with fail
                go_quiet (fail)
                go_wp2_with fail
                go_roundg (A.length - (k + 1))
                case measure => omega
                case rel => exact ⟨k + 1, _, true, by go_num, rfl, by omega, hb2, by rw [← hV2.out, ← hV.out, drew_drew]; exact drew_drew _ _ _⟩
              | false =>
                rw [Bool.false_or] at hb2
                generalize hq : (x1 == tag) = q at *
                go_wp2_with fail
                go_quiet (fail)
                go_wp2_with fail
                go_roundg (A.length - (k + 1))
                case measure => omega
                case rel => exact ⟨k + 1, _, q, by go_num, rfl, by omega, hb2, by rw [← hV2.out, ← hV.out, drew_drew]; exact drew_drew _ _ _⟩
            · have d1 := (hrd.out m).2
              have hbe : decide (tag ∈ A.map (·.1)) = b := by
                rw [hb.out, List.take_of_length_le (by rw [List.length_map]; omega)]
              have ch := hhas.out m
              rw [hbe] at ch
              replace ch := Lib.hid ch
              clear hrd hhas hb hbe
              go_wp2_with fail
              refine ch.out.mono ?_
              rintro r w7 ⟨rfl, h8⟩
              have hPf := Lib.hid (toPl.out _ h8)
              clear ch h8 toPl d1 hk hlt k0
              go_wp2_with fail
              go_roundg (n - (i + 1))
              case measure => omega
              case rel => exact ⟨i + 1, by go_num, by omega, hPf⟩
end
end Go.Proofs.Ytbjbpoldghbokaa
