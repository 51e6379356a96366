/- With all spare each is picked once a round; nobody without spare is. -/
import Derived.Test.YtpnkaamijjeckaaDoorGsO
import Derived.Test.YtpnkaamijjeckaaDoorInR
namespace Go.Proofs.YtpnkaamijjeckaaDoor
open Go.RowKit
set_option linter.unusedVariables false
set_option linter.unusedSectionVars false
set_option linter.unusedSimpArgs false
set_option maxRecDepth 100000

/-- Whether the number's j-th bit is set, as the law asks. -/
def bitG (z : Int) (j : Nat) : Bool := bits BinOp.and IntKind.u16 (z / 2 ^ j) 1 == 1
theorem bit_next (f : Nat → Bool) (q : Nat) : updB (fun c => decide (c < q) && f c) q (f q) = fun c => decide (c < q + 1) && f c := by
  funext c
  unfold updB
  split
  · rename_i e
    subst e
    simp
  · rename_i e
    show (decide (c < q) && f c) = _
    congr 1
    rw [decide_eq_decide]
    omega
theorem anyB_succ (f : Nat → Bool) (j : Nat) : (List.range (j + 1)).any f = ((List.range j).any f || f j) := by
  rw [List.range_succ, List.any_append]
  simp
theorem pick_any {k T : Nat} {f : Nat → Bool} (hT : T < k) : ((List.range k).any f = false ∧ pickG k T (sparG k k f) = none) ∨ (List.range k).any f = true ∧ ∃ q, q < k ∧ f q = true ∧ pickG k T (sparG k k f) = some q := by
  cases hr : pickG k T (sparG k k f) with
  | some q =>
    obtain ⟨h1, h2⟩ := pick_lt hr
    have h3 : f q = true := by
      unfold sparG at h2
      simp only [Bool.and_eq_true] at h2
      exact h2.2.2
    exact .inr ⟨by rw [List.any_eq_true]; exact ⟨q, List.mem_range.2 h1, h3⟩, q, h1, h3, rfl⟩
  | none =>
    refine .inl ⟨?_, rfl⟩
    rw [List.any_eq_false]
    intro j hj hf
    have hjk := List.mem_range.1 hj
    have h4 : sparG k k f j = true := by simp [sparG, hjk, hf]
    unfold pickG nextAt at hr
    cases h1 : firstAt (sparG k k f) k T with
    | some m => rw [h1] at hr; cases hr
    | none =>
      rw [h1, Option.none_or] at hr
      have := firstAt_isnone hr j (Nat.zero_le _) hjk
      rw [h4] at this
      cases this
theorem turn_lt {k q : Nat} (h : q < k) : turnG k (q + 1) < k := by
  unfold turnG
  split <;> omega
/-- Who comes j-th from the turn on; how many come ahead. -/
def ordG (T k j : Nat) : Nat := if T + j < k then T + j else T + j - k
def posG (T k c : Nat) : Nat := if T ≤ c then c - T else c + k - T
def metG (T k j : Nat) : Nat → Bool := fun c => decide (posG T k c < j)
theorem ord_lt {T k j : Nat} (hT : T < k) (hj : j < k) : ordG T k j < k := by unfold ordG; split <;> omega
theorem ord_turn {T k j : Nat} (hT : T < k) (hj : j < k) : turnG k (ordG T k j + 1) = ordG T k (j + 1) ∨ j + 1 = k := by
  unfold turnG ordG
  rcases Nat.lt_or_ge (T + j) k with h | h
  · rw [if_pos h]
    rcases Nat.lt_or_ge (T + j + 1) k with h1 | h1
    · rw [if_neg (by omega), if_pos (by omega)]; exact .inl (by omega)
    · rw [if_pos (by omega), if_neg (by omega)]; exact .inl (by omega)
  · rw [if_neg (show ¬ T + j < k by omega), if_neg (show ¬ k ≤ T + j - k + 1 by omega), if_neg (show ¬ T + (j + 1) < k by omega)]
    exact .inl (by omega)
theorem met_no {T k j : Nat} (hT : T < k) (hj : j < k) : metG T k j (ordG T k j) = false := by
  unfold metG posG ordG
  rw [decide_eq_false_iff_not]
  rcases Nat.lt_or_ge (T + j) k with h | h
  · rw [if_pos (show T + j < k from h)]
    split <;> omega
  · rw [if_neg (show ¬ T + j < k by omega)]
    split <;> omega
theorem met_zero (T k : Nat) : metG T k 0 = fun _ => false := by
  funext c
  simp [metG]
theorem met_next {T k j : Nat} (hT : T < k) (hj : j < k) : ∀ c, c < k → updB (metG T k j) (ordG T k j) true c = metG T k (j + 1) c := by
  intro c hc
  unfold updB metG
  split
  · rename_i e
    subst e
    symm
    rw [decide_eq_true_iff]
    unfold posG ordG
    rcases Nat.lt_or_ge (T + j) k with h | h
    · rw [if_pos (show T + j < k from h)]
      split <;> omega
    · rw [if_neg (show ¬ T + j < k by omega)]
      split <;> omega
  · rename_i e
    rw [decide_eq_decide]
    unfold posG
    unfold ordG at e
    split at e <;> split <;> omega

set_option maxHeartbeats 4000000 in
theorem fair_walk {w : World} {n0 n cap : Nat} {a : Option Addr} {zs : List Int} (hz : IntsAt .u16 w a n zs) (h0 : n0 < 256) (hT : Tab w.heap.size w) :
    Calls Tryd.prog 4 #[.int .u8 n0, .slice a n cap] w fun e w' => e = .returned (.bool true) ∧ Below w.heap.size w w' := by
  have ck := Lib.hid (known18_true w hT)
  have hlen := hz.size
  obtain ⟨m, hm⟩ : ∃ m, m = n0 % 10 := ⟨_, rfl⟩
  have m8 : (m : Int) < 10 := by omega
  have m0 : (0 : Int) ≤ m := by omega
  have hmt : (n0 : Int).tmod 10 = m := by rw [Int.tmod_eq_emod_of_nonneg (by omega)]; omega
  have n00 : (0 : Int) ≤ n0 := by omega
  have n01 : (n0 : Int) < 256 := by omega
  obtain ⟨k, hk⟩ : ∃ k : Nat, k = m + 1 := ⟨_, rfl⟩
  have hki : (m : Int) + 1 = k := by omega
  have k2 : 1 ≤ k := by omega
  have k9 : k ≤ 10 := by omega
  replace hm := Lib.hid hm
  replace hk := Lib.hid hk
  replace hki := Lib.hid hki
  replace hz := Lib.hid hz
  go_enter Tryd.func4, Tryd.ntmps4
  go_wp2_with fail
  refine ck.out.mono ?_
  rintro e w1 ⟨rfl, hb⟩
  by_cases hn : (n : Int) > 40
  · replace hb := Lib.hid hb
    go_wp2_with fail
    go_ret
    exact ⟨rfl, hb.out⟩
  have hn5 : (n : Int) ≤ 40 := by omega
  have c2 := Lib.hid (gu_new hT ((St.start w).grow hb))
  clear ck hb hT hn
  go_upto_region 6 with fail
  rw [hki.out]
  clear hmt m8 m0 hki hm hk n00 n01
  go_wp2_with fail
  refine c2.out.mono ?_
  rintro e w2 ⟨gb, rfl, h⟩
  have h0 : Hid (GuIs w.heap.size w w2 gb (crowd 0) 0 []) := Lib.hid h
  have k20 : (1 : Int) ≤ k := by omega
  have k90 : (k : Int) ≤ 10 := by omega
  clear c2 h
  go_wp2_with fail
  go_loopg [7] k (fun g v7 wr => ∃ i : Nat, v7 = .int .i64 i ∧ i + g = k ∧ Hid (GuIs w.heap.size w wr gb (crowd i) 0 []))
  case atStart => exact ⟨0, rfl, by omega, h0⟩
  case round =>
    clear h0
    obtain ⟨i, rfl, hi, h⟩ := hrel
    have i0 : (0 : Int) ≤ i := by omega
    by_cases hik : i < k
    · have i1 : (i : Int) < k := by omega
      have ca := Lib.hid (add_gc (q := i) (t := []) (m := 0) (crowd_ok i) (crowd_add i) (by simp) (by rw [crowd_len]; omega) h.out)
      clear h
      go_wp2_with fail
      refine ca.out.mono ?_
      rintro r w5 ⟨rfl, h5⟩
      replace h5 := Lib.hid h5
      clear ca
      go_wp2_with fail
      go_roundg (k - (i + 1))
      case measure => omega
      case rel => exact ⟨i + 1, by go_num, by omega, h5⟩
    · obtain rfl : i = k := by omega
      clear hik hi
      go_wp2_with fail
      go_loopg [8] n (fun g v8 wr => ∃ j T : Nat, v8 = .int .i64 j ∧ j + g = n ∧ T < i ∧ Hid (GuIs w.heap.size w wr gb (crowd i) T []))
      case atStart => exact ⟨0, 0, rfl, by omega, by omega, h⟩
      case round =>
        clear h
        obtain ⟨j, T, rfl, hj, hTk, h⟩ := hrel
        have j0 : (0 : Int) ≤ j := by omega
        by_cases hjn : j < n
        · have j1 : (j : Int) < n := by omega
          have hx : zs[j]? = some zs[j] := List.getElem?_eq_getElem (by omega)
          generalize zs[j]'(by omega) = z at hx
          obtain ⟨z0, z1⟩ := bounds_u16 (hz.out.wf z (List.mem_of_getElem? hx))
          have hzr := Lib.hid (fun W (hb : Below w.heap.size w W) => (hz.out.below hb).at_ j z hx)
          have hmk := mk_boolsG wr i (by omega)
          have h1 := h.out.alloc (rowG i fun _ => false)
          rw [show (fun _ : Nat => false) = fun c => decide (c < 0) && bitG z c by funext c; simp] at h1 hmk
          replace h1 := Lib.hid h1
          generalize wr.heap.size = sb at *
          clear h hx
          go_wp2_with fail
          go_loopg [10, 11] i (fun g v10 v11 wr => ∃ q : Nat, v11 = .int .i64 q ∧ v10 = .bool ((List.range q).any (bitG z)) ∧ q + g = i ∧ Hid (GuIs w.heap.size w wr gb (crowd i) T [(sb, rowG i fun c => decide (c < q) && bitG z c)]))
          case atStart => exact ⟨0, rfl, rfl, by omega, h1⟩
          case round =>
            clear h1 hmk
            obtain ⟨q, rfl, rfl, hq, h⟩ := hrel
            have q0 : (0 : Int) ≤ q := by omega
            by_cases hqi : q < i
            · have q1 : (q : Int) < i := by omega
              obtain ⟨ba, oa, rfl, cz⟩ := hzr.out _ h.out.below
              have e1 := h.out.rowAt (j := q) List.mem_cons_self hqi
              have e2 := h.out.rowSoft (f := fun c => decide (c < q) && bitG z c) (k := i) List.mem_cons_self q
              have h6 := h.out.rowSet q (bitG z q)
              rw [bit_next] at h6
              replace h6 := Lib.hid h6
              have hs := anyB_succ (bitG z) q
              unfold bitG at e1
              generalize hB : bitG z q = bt at h6 hs
              unfold bitG at hB
              clear h hzr
              cases ha : (List.range q).any (bitG z) with
              | true =>
                rw [ha, Bool.true_or] at hs
                replace hs := Lib.hid hs
                clear ha
                go_wp2_with fail
                go_roundg (i - (q + 1))
                case measure => omega
                case rel => exact ⟨q + 1, by go_num, by rw [hs.out], by omega, h6⟩
              | false =>
                rw [ha, Bool.false_or] at hs
                replace hs := Lib.hid hs
                clear ha
                go_wp2_with fail
                go_roundg (i - (q + 1))
                case measure => omega
                case rel => exact ⟨q + 1, by go_num, by rw [hs.out], by omega, h6⟩
            · obtain rfl : q = i := by omega
              have h3 : Hid (GuIs w.heap.size w wr gb (crowd q) T [(sb, rowG q (bitG z))]) := Lib.hid (by
                have := h.out
                rw [rowG_congr (g := bitG z) fun j hj => by rw [decide_eq_true hj, Bool.true_and]] at this
                exact this)
              clear h hqi hq hzr
              rcases pick_any (f := bitG z) hTk with ⟨ha, hp⟩ | ⟨ha, p, hp1, hp2, hp3⟩
              · rw [ha]
                have cp := Lib.hid (pick_row0 (sc := q) h3.out (by omega) (by rw [crowd_len]; exact hp))
                clear h3 ha hp
                go_wp2_with fail
                refine cp.out.mono ?_
                rintro r w5 ⟨rfl, h5⟩
                have e0 := (h5.guest List.mem_cons_self).1.1
                have h6 := Lib.hid (h5.sub ((List.sublist_cons_self _ _).trans (List.sublist_cons_self _ _)))
                clear cp h5
                go_wp2_with fail
                go_roundg (n - (j + 1))
                case measure => omega
                case rel => exact ⟨j + 1, T, by go_num, by omega, hTk, h6⟩
              · rw [ha]
                have cp := Lib.hid (pick_row (sc := q) h3.out (by omega) (by rw [crowd_len]; exact hp3) (crowd_at hp1) (T' := turnG q (p + 1)) (by rw [crowd_len]))
                have hTn : turnG q (p + 1) < q := turn_lt hp1
                have p0 : (0 : Int) ≤ p := by omega
                have p1 : (p : Int) < q := by omega
                clear h3 ha hp3
                go_wp2_with fail
                refine cp.out.mono ?_
                rintro r w5 ⟨rfl, h5⟩
                have e0 := (h5.guest List.mem_cons_self).1.1
                have e3 := h5.rowAt (ib := sb) (k := q) (f := bitG z) (j := p) (by simp) hp1
                rw [hp2] at e3
                have h6 := Lib.hid (h5.sub ((List.sublist_cons_self _ _).trans (List.sublist_cons_self _ _)))
                clear cp h5 hp1 hp2
                go_wp2_with fail
                go_roundg (n - (j + 1))
                case measure => omega
                case rel => exact ⟨j + 1, _, by go_num, by omega, hTn, h6⟩
        · have hnj : ¬ (j : Int) < n := by omega
          have hmk := mk_boolsG wr i (by omega)
          have h1 := h.out.alloc (rowG i fun _ => false)
          rw [← up_zeroG] at h1 hmk
          replace h1 := Lib.hid h1
          generalize wr.heap.size = ab at *
          clear h hj hjn hz hlen
          go_wp2_with fail
          go_loopg [15] i (fun g v15 wr => ∃ q : Nat, v15 = .int .i64 q ∧ q + g = i ∧ Hid (GuIs w.heap.size w wr gb (crowd i) T [(ab, rowG i fun c => decide (c < q))]))
          case atStart => exact ⟨0, rfl, by omega, h1⟩
          case round =>
            clear h1 hmk
            obtain ⟨q, rfl, hq, h⟩ := hrel
            have q0 : (0 : Int) ≤ q := by omega
            by_cases hqi : q < i
            · have q1 : (q : Int) < i := by omega
              have e1 := h.out.rowAt (j := q) List.mem_cons_self hqi
              have e2 := h.out.rowSoft (f := fun c => decide (c < q)) (k := i) List.mem_cons_self q
              have h6 := h.out.rowSet q true
              rw [up_nextG] at h6
              replace h6 := Lib.hid h6
              clear h
              go_wp2_with fail
              go_roundg (i - (q + 1))
              case measure => omega
              case rel => exact ⟨q + 1, by go_num, by omega, h6⟩
            · obtain rfl : q = i := by omega
              have h3 := h.out
              rw [rowG_congr (g := fun _ => true) fun j hj => by simpa using hj] at h3
              have hmk := mk_boolsG wr q (by omega)
              have h1 := h3.alloc (rowG q fun _ => false)
              rw [← met_zero T q] at h1 hmk
              replace h1 := Lib.hid h1
              replace hTk := Lib.hid hTk
              generalize wr.heap.size = mb at *
              clear h h3 hq hqi
              go_wp2_with fail
              go_loopg [17] q (fun g v17 wr => ∃ j T' : Nat, v17 = .int .i64 j ∧ j + g = q ∧ Hid (j < q → T' = ordG T q j) ∧ Hid (GuIs w.heap.size w wr gb (crowd q) T' [(mb, rowG q (metG T q j)), (ab, rowG q fun _ => true)]))
              case atStart => exact ⟨0, T, rfl, by omega, Lib.hid fun _ => by
                have := hTk.out
                unfold ordG
                rw [if_pos (by omega)]
                rfl, h1⟩
              case round =>
                clear h1 hmk
                obtain ⟨j, T', rfl, hj, ho, h⟩ := hrel
                have j0 : (0 : Int) ≤ j := by omega
                by_cases hjq : j < q
                · have j1 : (j : Int) < q := by omega
                  obtain rfl := ho.out hjq
                  have hol := ord_lt hTk.out hjq
                  have cp := Lib.hid (pick_row (sc := q) (h.out.permF (List.Perm.swap _ _ _)) (by omega) (by rw [crowd_len]; exact pick_true hol (Nat.le_refl _)) (crowd_at hol) rfl)
                  have hmn := met_no hTk.out hjq
                  have hnx := Lib.hid (ord_turn hTk.out hjq)
                  have hmx := Lib.hid (met_next hTk.out hjq)
                  generalize ordG T q j = p at *
                  rw [crowd_len] at cp
                  have p0 : (0 : Int) ≤ p := by omega
                  have p1 : (p : Int) < q := by omega
                  clear h ho
                  go_wp2_with fail
                  refine cp.out.mono ?_
                  rintro r w5 ⟨rfl, h5⟩
                  have e0 := (h5.guest List.mem_cons_self).1.1
                  have e3 := h5.rowAt (ib := mb) (k := q) (f := metG T q j) (j := p) (by simp) hol
                  have e4 := h5.rowSoft (ib := mb) (k := q) (f := metG T q j) (by simp) p
                  rw [hmn] at e3
                  have h6 := ((h5.sub (List.sublist_cons_self _ _)).permF (List.Perm.swap _ _ _)).rowSet p true
                  rw [rowG_congr hmx.out] at h6
                  replace h6 := Lib.hid h6
                  clear cp h5 hol hmx hmn
                  go_wp2_with fail
                  go_roundg (q - (j + 1))
                  case measure => omega
                  case rel => exact ⟨j + 1, _, by go_num, by omega, Lib.hid fun hlt => hnx.out.elim id fun h9 => by omega, h6⟩
                · have hB := Lib.hid h.out.below
                  clear h
                  go_wp2_with fail
                  go_ret
                  exact ⟨rfl, hB.out⟩
end Go.Proofs.YtpnkaamijjeckaaDoor
