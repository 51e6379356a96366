/- Where one goes the turn stays where it was. -/
import Derived.Test.YtpnkaamijjeckaaDoorGsN
import Derived.Test.YtpnkaamijjeckaaDoorArgs
namespace Go.Proofs.YtpnkaamijjeckaaDoor
open Go.RowKit
set_option linter.unusedVariables false
set_option linter.unusedSectionVars false
set_option linter.unusedSimpArgs false
set_option maxRecDepth 100000

theorem up_zeroG : (fun j => decide (j < 0)) = fun _ : Nat => false := by
  funext j
  simp
theorem up_nextG (i : Nat) : updB (fun j => decide (j < i)) i true = fun j => decide (j < i + 1) := by
  funext j
  unfold updB
  split
  · rename_i e
    simp; omega
  · rename_i e
    simp only [decide_eq_decide]
    omega
/-- Who is next among the others. -/
theorem drop_next {k T d : Nat} (hk : 2 ≤ k) (hT : T < k) (hd : d < k) : ∃ T', turnG (k - 1) (if d < T then T - 1 else T) = T' ∧ T' < k - 1 ∧ ((crowd k).eraseIdx d)[T']? = some (gC ((if T = d then (T + 1) % k else T : Nat) : Int) [] 0) := by
  refine ⟨_, rfl, ?_⟩
  rcases Nat.lt_trichotomy d T with h | rfl | h
  · rw [if_pos h, turnG, if_neg (by omega), if_neg (by omega)]
    refine ⟨by omega, ?_⟩
    rw [List.getElem?_eraseIdx_of_ge (by omega), show T - 1 + 1 = T by omega, crowd_at hT]
  · rw [if_neg (by omega), if_pos rfl, turnG]
    split
    · have : d + 1 = k := by omega
      rw [this, Nat.mod_self]
      refine ⟨by omega, ?_⟩
      rw [List.getElem?_eraseIdx_of_lt (by omega), crowd_at (by omega)]
    · rw [Nat.mod_eq_of_lt (by omega)]
      refine ⟨by omega, ?_⟩
      rw [List.getElem?_eraseIdx_of_ge (by omega), crowd_at (by omega)]
  · rw [if_neg (by omega), if_neg (by omega), turnG, if_neg (by omega)]
    refine ⟨by omega, ?_⟩
    rw [List.getElem?_eraseIdx_of_lt (by omega), crowd_at (by omega)]
theorem drop_len {k d : Nat} (hd : d < k) : ((crowd k).eraseIdx d).length = k - 1 := by
  rw [List.length_eraseIdx, if_pos (by rw [crowd_len]; exact hd), crowd_len]
theorem drop_gone {k d : Nat} (hd : d < k) : idxG ((crowd k).eraseIdx d) (d : Int) 0 [] = none := by
  refine idx_none fun j y hj hy => ?_
  have hj' := hj
  rw [drop_len hd] at hj'
  rcases Nat.lt_or_ge j d with h | h
  · rw [List.getElem?_eraseIdx_of_lt h, crowd_at (by omega)] at hy
    cases hy
    rw [key_gC, beq_eq_false_iff_ne]
    omega
  · rw [List.getElem?_eraseIdx_of_ge h, crowd_at (by omega)] at hy
    cases hy
    rw [key_gC, beq_eq_false_iff_ne]
    omega

set_option maxHeartbeats 4000000 in
theorem drops_walk {w : World} {n0 n1 n2 : Nat} (h0 : n0 < 256) (h1 : n1 < 256) (h2 : n2 < 256) (hT : Tab w.heap.size w) :
    Calls Tryd.prog 6 #[.int .u8 n0, .int .u8 n1, .int .u8 n2] w fun e w' => e = .returned (.bool true) ∧ Below w.heap.size w w' := by
  have ck := Lib.hid (known18_true w hT)
  obtain ⟨m, hm⟩ : ∃ m, m = n0 % 8 := ⟨_, rfl⟩
  obtain ⟨p, hp⟩ : ∃ p, p = n1 % 30 := ⟨_, rfl⟩
  have m8 : (m : Int) < 8 := by omega
  have m0 : (0 : Int) ≤ m := by omega
  have p30 : (p : Int) < 30 := by omega
  have p0 : (0 : Int) ≤ p := by omega
  have hmt : (n0 : Int).tmod 8 = m := by rw [Int.tmod_eq_emod_of_nonneg (by omega)]; omega
  have hpt : (n1 : Int) % 30 = p := by omega
  have n00 : (0 : Int) ≤ n0 := by omega
  have n01 : (n0 : Int) < 256 := by omega
  have n10 : (0 : Int) ≤ n1 := by omega
  have n11 : (n1 : Int) < 256 := by omega
  have n20 : (0 : Int) ≤ n2 := by omega
  have n21 : (n2 : Int) < 256 := by omega
  obtain ⟨k, hk⟩ : ∃ k : Nat, k = m + 2 := ⟨_, rfl⟩
  have hki : (m : Int) + 2 = k := by omega
  have k2 : 2 ≤ k := by omega
  have k9 : k ≤ 9 := by omega
  replace hm := Lib.hid hm
  replace hp := Lib.hid hp
  replace hk := Lib.hid hk
  replace hki := Lib.hid hki
  replace hpt := Lib.hid hpt
  go_enter Tryd.func6, Tryd.ntmps6
  go_wp2_with fail
  refine ck.out.mono ?_
  rintro e w1 ⟨rfl, hb⟩
  have c2 := Lib.hid (gu_new hT ((St.start w).grow hb))
  clear ck hb hT
  go_upto_region 4 with fail
  rw [hki.out]
  clear hmt m8 m0 hki hm hk n00 n01
  go_wp2_with fail
  refine c2.out.mono ?_
  rintro e w2 ⟨gb, rfl, h⟩
  have hmk := mk_boolsG w2 k (by omega)
  have h0 := h.alloc (rowG k fun _ => false)
  rw [← up_zeroG] at h0 hmk
  replace h0 := Lib.hid h0
  have k20 : (2 : Int) ≤ k := by omega
  have k90 : (k : Int) ≤ 9 := by omega
  clear c2 h
  generalize w2.heap.size = ib at *
  go_wp2_with fail
  go_loopg [10] k (fun g v10 wr => ∃ i : Nat, v10 = .int .i64 i ∧ i + g = k ∧ Hid (GuIs w.heap.size w wr gb (crowd i) 0 [(ib, rowG k fun j => decide (j < i))]))
  case atStart => exact ⟨0, rfl, by omega, h0⟩
  case round =>
    clear h0 hmk
    obtain ⟨i, rfl, hi, h⟩ := hrel
    have i0 : (0 : Int) ≤ i := by omega
    by_cases hik : i < k
    · have i1 : (i : Int) < k := by omega
      have ca := Lib.hid (add_gc (q := i) (t := []) (m := 0) (crowd_ok i) (crowd_add i) (by simp) (by rw [crowd_len]; omega) h.out)
      clear h
      go_wp2_with fail
      refine ca.out.mono ?_
      rintro r w5 ⟨rfl, h5⟩
      have e1 := h5.rowAt (j := i) List.mem_cons_self hik
      have e2 := h5.rowSoft (f := fun j => decide (j < i)) (k := k) List.mem_cons_self i
      have h6 := h5.rowSet i true
      rw [up_nextG] at h6
      replace h6 := Lib.hid h6
      clear ca h5
      go_wp2_with fail
      go_roundg (k - (i + 1))
      case measure => omega
      case rel => exact ⟨i + 1, by go_num, by omega, h6⟩
    · obtain rfl : i = k := by omega
      have h3 : Hid (GuIs w.heap.size w wr gb (crowd i) 0 [(ib, rowG i fun _ => true)]) := Lib.hid (by
        have := h.out
        rw [rowG_congr (g := fun _ => true) fun j hj => by simpa using hj] at this
        exact this)
      clear h hik hi
      go_upto_region 12 with fail
      rw [hpt.out]
      clear hp n10 n11 hpt
      go_wp2_with fail
      go_loopg [12] p (fun g v12 wr => ∃ j : Nat, v12 = .int .i64 j ∧ j + g = p ∧ Hid (GuIs w.heap.size w wr gb (crowd i) (j % i) [(ib, rowG i fun _ => true)]))
      case atStart => exact ⟨0, rfl, by omega, by rw [Nat.zero_mod]; exact h3⟩
      case round =>
        clear h3
        obtain ⟨j, rfl, hj, h⟩ := hrel
        have j0 : (0 : Int) ≤ j := by omega
        have jT : j % i < i := Nat.mod_lt _ (by omega)
        by_cases hjp : j < p
        · have j1 : (j : Int) < p := by omega
          have cp := Lib.hid (pick_row (sc := i) h.out (by omega) (by rw [crowd_len]; exact pick_true jT (Nat.le_refl _)) (crowd_at jT) (T' := (j + 1) % i) (by
            rw [crowd_len, turnG]
            split
            · have : j % i + 1 = i := by omega
              rw [Nat.add_mod, show (1 : Nat) % i = 1 from Nat.mod_eq_of_lt (by omega), this, Nat.mod_self]
            · rw [Nat.add_mod, show (1 : Nat) % i = 1 from Nat.mod_eq_of_lt (by omega), Nat.mod_eq_of_lt (a := j % i + 1) (by omega)]))
          rw [show ((j % i : Nat) : Int) = (j : Int) % i from rfl] at cp
          clear h
          go_wp2_with fail
          refine cp.out.mono ?_
          rintro r w5 ⟨rfl, h5⟩
          have e0 := (h5.guest List.mem_cons_self).1.1
          have h6 := Lib.hid (h5.sub (List.sublist_cons_self _ _))
          have hi0 : ¬ (i : Int) = 0 := by omega
          obtain ⟨W, hW⟩ : ∃ W, W = w5.alloc (gsO (gC ((j : Int) % i) [] 0)) := ⟨_, rfl⟩
          rw [← hW] at e0 h6
          clear cp h5 jT
          go_upto_region 16 with fail
          rw [← hW]
          clear hW
          generalize w5.heap.size = xb at *
          go_quiet (fail)
          go_wp2_with fail
          go_roundg (p - (j + 1))
          case measure => omega
          case rel => exact ⟨j + 1, by go_num, by omega, Lib.hid (h6.out.grow (drewN_below _ _))⟩
        · obtain rfl : j = p := by omega
          obtain ⟨T, hT⟩ : ∃ T, T = j % i := ⟨_, rfl⟩
          obtain ⟨d, hd⟩ : ∃ d, d = n2 % i := ⟨_, rfl⟩
          have hT1 : Hid ((j : Int) % i = T) := Lib.hid (by rw [hT]; rfl)
          have hd1 : Hid ((n2 : Int) % i = d) := Lib.hid (by rw [hd]; rfl)
          rw [← hT] at h jT
          have dT : d < i := by rw [hd]; exact Nat.mod_lt _ (by omega)
          obtain ⟨T', hT', hTl, hx⟩ := drop_next k2 jT dT
          obtain ⟨nx, hnx⟩ : ∃ nx, nx = (if T = d then (T + 1) % i else T) := ⟨_, rfl⟩
          rw [← hnx] at hx
          have hci := crowd_idx dT
          have cd := Lib.hid (gu_drop h.out (d : Int) 0 [] (ok := true) (N := (crowd i).eraseIdx d) (T' := T') (by rw [hci]; rfl) (by unfold dropM; rw [hci]) (by unfold dropT; rw [hci, crowd_len]; exact hT'))
          have el := drop_len dT
          have hgo := drop_gone dT
          have en : (((crowd i).eraseIdx d).length : Int) = (i : Int) - 1 := by rw [el]; omega
          have ce : Hid (∀ W, GuIs w.heap.size w W gb ((crowd i).eraseIdx d) T' [(ib, rowG i fun _ => true)] → Calls Tryd.prog 11 #[gup gb, .int .i64 (d : Int), .int .i64 0, tx []] W fun e w' => e = .returned (.bool false) ∧ GuIs w.heap.size w w' gb ((crowd i).eraseIdx d) T' [(ib, rowG i fun _ => true)]) := Lib.hid fun W h =>
            gu_drop h (d : Int) 0 [] (by rw [hgo]; rfl) (by unfold dropM; rw [hgo]) (by unfold dropT; rw [hgo])
          have cl : Hid (∀ W, GuIs w.heap.size w W gb ((crowd i).eraseIdx d) T' [(ib, rowG i fun _ => true)] → Calls Tryd.prog 17 #[gup gb] W fun e w' => e = .returned (.int .i64 ((i : Int) - 1)) ∧ GuIs w.heap.size w w' gb ((crowd i).eraseIdx d) T' [(ib, rowG i fun _ => true)]) := Lib.hid fun W h => by
            have := gu_len h
            rw [en] at this
            exact this
          have cp : Hid (∀ W, GuIs w.heap.size w W gb ((crowd i).eraseIdx d) T' [(ib, rowG i fun _ => true)] → Calls Tryd.prog 13 #[gup gb, .slice (some ⟨ib, 0, none⟩) i i] W fun e w' => e = .returned (.tuple #[gsV (gC (nx : Int) [] 0), .bool true]) ∧ (w'.alloc (gsO (gC (nx : Int) [] 0))).cell? ⟨w'.heap.size, 0, none⟩ = some (.int .i64 (nx : Int)) ∧ Below w.heap.size w (w'.alloc (gsO (gC (nx : Int) [] 0)))) := Lib.hid fun W h => by
            refine (pick_row h (by omega) (by rw [el]; exact pick_true hTl (by omega)) hx rfl).mono ?_
            rintro e w' ⟨rfl, h2⟩
            exact ⟨rfl, (h2.guest List.mem_cons_self).1.1, h2.below⟩
          have hi0 : ¬ (i : Int) = 0 := by omega
          replace hT := Lib.hid hT
          replace hd := Lib.hid hd
          replace hnx := Lib.hid hnx
          replace hi0 := Lib.hid hi0
          have jT1 : (T : Int) < i := by omega
          have T0 : (0 : Int) ≤ T := by omega
          have d0 : (0 : Int) ≤ d := by omega
          have d1 : (d : Int) < i := by omega
          clear h hx hci el hgo en hT' hTl hjp hj j0
          have hi9 := hi0.out
          go_upto_region 20 with fail
          simp only [hT1.out, hd1.out]
          clear hT1 hd1 hT hd n20 n21 hi9
          by_cases e : T = d
          · subst e
            have hn2 : Hid (((T : Int) + 1) % i = nx) := Lib.hid (by rw [hnx.out, if_pos rfl]; simp)
            have hi9 := hi0.out
            go_upto_region 22 with fail
            simp only [hn2.out]
            clear hn2 hnx hi9
            go_wp2_with fail
            refine cd.out.mono ?_
            rintro r w5 ⟨rfl, h5⟩
            have ce2 := Lib.hid (ce.out _ h5)
            clear cd ce h5
            go_wp2_with fail
            refine ce2.out.mono ?_
            rintro r w6 ⟨rfl, h6⟩
            have cl2 := Lib.hid (cl.out _ h6)
            clear ce2 cl h6
            go_wp2_with fail
            refine cl2.out.mono ?_
            rintro r w7 ⟨rfl, h7⟩
            have cp2 := Lib.hid (cp.out _ h7)
            clear cl2 cp h7
            go_wp2_with fail
            refine cp2.out.mono ?_
            rintro r w8 ⟨rfl, h8, hB⟩
            replace hB := Lib.hid hB
            clear cp2
            go_wp2_with fail
            go_ret
            exact ⟨rfl, hB.out⟩
          · have eB : ((T : Int) == d) = false := by rw [beq_eq_false_iff_ne]; omega
            obtain rfl : nx = T := by rw [hnx.out, if_neg e]
            clear hnx e
            go_wp2_with fail
            refine cd.out.mono ?_
            rintro r w5 ⟨rfl, h5⟩
            have ce2 := Lib.hid (ce.out _ h5)
            clear cd ce h5
            go_wp2_with fail
            refine ce2.out.mono ?_
            rintro r w6 ⟨rfl, h6⟩
            have cl2 := Lib.hid (cl.out _ h6)
            clear ce2 cl h6
            go_wp2_with fail
            refine cl2.out.mono ?_
            rintro r w7 ⟨rfl, h7⟩
            have cp2 := Lib.hid (cp.out _ h7)
            clear cl2 cp h7
            go_wp2_with fail
            refine cp2.out.mono ?_
            rintro r w8 ⟨rfl, h8, hB⟩
            replace hB := Lib.hid hB
            clear cp2
            go_wp2_with fail
            go_ret
            exact ⟨rfl, hB.out⟩
end Go.Proofs.YtpnkaamijjeckaaDoor
