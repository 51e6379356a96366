/- PatternWords' walk. -/
import Derived.Test.YtpplpcpdoghifaaPtL
namespace Go.Proofs.Ytpplpcpdoghifaa
open Go.RowKit
set_option linter.unusedVariables false

theorem no_dot_step {w : List UInt8} {k : Nat} {c : UInt8} (h : 46 ∉ w.take k) (hk : w[k]? = some c) (hc : c ≠ 46) : 46 ∉ w.take (k + 1) := by
  rw [List.take_add_one, hk]
  simp only [Option.toList_some, List.mem_append, List.mem_singleton, not_or]
  exact ⟨h, fun e => hc e.symm⟩

set_option maxHeartbeats 8000000 in
set_option maxRecDepth 100000 in
theorem words10_walk {a0 : Option Addr} {n cap st f t : Nat} {L : Wds} {w : World} (hL : TextsAt w a0 n L) (hst : st ≤ 65535) (hf : f ≤ 255) (ht : t ≤ 255) :
    Calls Try.prog 4 #[.slice a0 n cap, .int .u16 st, .int .u8 f, .int .u8 t] w fun e w' => e = .returned (.bool true) ∧ Below w.heap.size w w' := by
  have c1 := Lib.hid (known10_true w)
  have hLn := hL.size
  by_cases hbad : n = 0 ∨ 8 < n
  · clear hL
    rcases hbad with rfl | h8
    · go_enter Try.func4, Try.ntmps4
      go_wp2_with fail
      refine c1.out.mono ?_
      rintro e w1 ⟨rfl, hb⟩
      replace hb := Lib.hid hb
      go_wp2_with fail
      go_ret
      exact ⟨rfl, hb.out⟩
    · have h8' : (8 : Int) < n := by omega
      go_enter Try.func4, Try.ntmps4
      go_wp2_with fail
      refine c1.out.mono ?_
      rintro e w1 ⟨rfl, hb⟩
      replace hb := Lib.hid hb
      go_wp2_with fail
      go_ret
      exact ⟨rfl, hb.out⟩
  have hn0 : 0 < n := by omega
  have hn8 : n ≤ 8 := by omega
  have hn0' : (0 : Int) < n := by omega
  have hn8' : (n : Int) ≤ 8 := by omega
  have hne : ((n : Int) == 0) = false := by rw [beq_eq_false_iff_ne]; omega
  have hne1 : ((n : Int) + 1 == 0) = false := by rw [beq_eq_false_iff_ne]; omega
  have hfa : (f : Int) % (n : Int) = ((f % n : Nat) : Int) := by simp
  have han : f % n < n := Nat.mod_lt f hn0
  have htb : (t : Int) % ((n : Int) + 1) = ((t % (n + 1) : Nat) : Int) := by simp
  have hbn : t % (n + 1) ≤ n := by have := Nat.mod_lt t (show 0 < n + 1 by omega); omega
  generalize f % n = a at *
  generalize t % (n + 1) = b at *
  have ha0 : (0 : Int) ≤ a := by omega
  have ha1 : (a : Int) < n := by omega
  have hb0 : (0 : Int) ≤ b := by omega
  have hb1 : (b : Int) ≤ n := by omega
  have hf0 : (0 : Int) ≤ f := by omega
  have ht0 : (0 : Int) ≤ t := by omega
  obtain ⟨wa, hwa⟩ : ∃ wa, L[a]? = some wa := ⟨_, List.getElem?_eq_getElem (by omega)⟩
  replace hL := Lib.hid hL
  clear hbad
  go_enter Try.func4, Try.ntmps4
  go_wp2_with fail
  refine c1.out.mono ?_
  rintro e w1 ⟨rfl, hb⟩
  replace hb := Lib.hid hb
  clear c1
  go_wp2_with fail
  go_quiet (fail)
  replace hb := Lib.hid (bel hb.out (drewN_below w1 nq))
  generalize w1.drewN nq = w2 at *
  go_wp2_with fail
  simp only [hfa, htb]
  clear hfa htb
  have hab : a < max b (a + 1) := by omega
  have hR0 := Lib.hid (Rel10.start L a (max b (a + 1)) wa)
  go_loopg [9, 10, 11, 14, 15] n (fun g v9 v10 v11 v14 v15 wr => ∃ i : Nat, v15 = .int .i64 i ∧ i + g = n ∧ Hid (Rel10 L a (max b (a + 1)) wa i v9 v10 v11 v14) ∧ wr = w2)
  case atStart => exact ⟨0, rfl, by omega, hR0, rfl⟩
  case round =>
    clear hR0
    obtain ⟨i, rfl, hi, hR, rfl⟩ := hrel
    have hi0 : (0 : Int) ≤ i := by omega
    obtain ⟨K, P, O, H, rfl, rfl, rfl, rfl, lK, lP, lO, lH⟩ := hR.out.form (by omega) (by omega) hwa hab
    by_cases hlt : i < n
    · have hi1 : (i : Int) < n := by omega
      have hx : L[i]? = some L[i] := List.getElem?_eq_getElem (by omega)
      generalize L[i] = x at hx
      obtain ⟨lx, ba, offa, rfl, hc⟩ := (hL.out.below hb.out).at_ i x hx
      have stp := Lib.hid (fun hf y hy => hR.out.step (x := y) hab hx hwa hf hy)
      clear hR hx
      go_wp2_with fail
      go_loopg [17] x.length (fun g v17 wt => ∃ k : Nat, v17 = .int .i64 k ∧ k + g = x.length ∧ Hid (46 ∉ x.take k) ∧ wt = wr)
      case atStart => exact ⟨0, rfl, by omega, Lib.hid (by simp), rfl⟩
      case round =>
        obtain ⟨k, rfl, hk, hnd, rfl⟩ := hrel
        have hk0 : (0 : Int) ≤ k := by omega
        unfold maxLen at lx
        by_cases hkl : k < x.length
        · have hk1 : (k : Int) < x.length := by omega
          have hy : x[k]? = some x[k] := List.getElem?_eq_getElem hkl
          by_cases hdot : x[k] = 46
          · have hcN : (((((⟨x.toArray⟩ : ByteArray)[k]'(show k < x.length from hkl)).toNat : Nat) : Int) == 46) = true := by
              show (((x[k].toNat : Nat) : Int) == 46) = true
              rw [hdot]
              rfl
            clear hy hdot stp hnd
            go_wp2_with fail
            go_ret
            exact ⟨rfl, hb.out⟩
          · have hcN : (((((⟨x.toArray⟩ : ByteArray)[k]'(show k < x.length from hkl)).toNat : Nat) : Int) == 46) = false := by
              show (((x[k].toNat : Nat) : Int) == 46) = false
              rw [beq_eq_false_iff_ne]
              intro e
              exact hdot (UInt8.toNat_inj.1 (show x[k].toNat = (46 : UInt8).toNat by have : (46 : UInt8).toNat = 46 := rfl; omega))
            have hnd2 := Lib.hid (no_dot_step hnd.out hy hdot)
            clear hy hdot hnd
            go_wp2_with fail
            go_roundg (x.length - (k + 1))
            case measure => omega
            case rel => exact ⟨k + 1, by go_num, by omega, hnd2, rfl⟩
        · obtain rfl : k = x.length := by omega
          have hnd2 := hnd.out
          rw [List.take_of_length_le (Nat.le_refl _)] at hnd2
          clear hnd
          by_cases h6 : 6 < x.length
          · have h6' : (6 : Int) < x.length := by omega
            clear stp
            go_wp2_with fail
            go_ret
            exact ⟨rfl, hb.out⟩
          have h6' : (x.length : Int) ≤ 6 := by omega
          by_cases h42 : x = [42]
          · subst h42
            clear stp
            go_wp2_with fail
            go_ret
            exact ⟨rfl, hb.out⟩
          by_cases h35 : x = [35]
          · subst h35
            clear stp
            go_wp2_with fail
            go_ret
            exact ⟨rfl, hb.out⟩
          have h42B : (x == [42]) = false := by simpa using h42
          have h35B : (x == [35]) = false := by simpa using h35
          have fine : FineW x := ⟨hnd2, by omega, h42, h35⟩
          have finA := Lib.hid (stp.out fine [42] (.inl rfl))
          have finB := Lib.hid (stp.out fine x (.inr rfl))
          clear stp hnd2 fine h42 h35 lx h6
          have hst0 : (0 : Int) ≤ st := by omega
          have hst1 : (st : Int) ≤ 65535 := by omega
          by_cases h0 : i = 0
          · subst h0
            rw [show sep 0 K = K from rfl, show sep 0 P = P from rfl, show sep 0 O = O from rfl] at finA finB
            generalize K = SK at *
            generalize P = SP at *
            generalize O = SO at *
            have f1 : ∀ W : World, (Op.stringOp .add ⟨SK.toArray⟩ ⟨x.toArray⟩).run Try.prog W = .ok (tx (SK ++ x)) W := add10 (by omega) (by omega)
            have f2 : ∀ W : World, (Op.stringOp .add ⟨SP.toArray⟩ ⟨x.toArray⟩).run Try.prog W = .ok (tx (SP ++ x)) W := add10 (by omega) (by omega)
            have f3 : ∀ W : World, (Op.stringOp .add ⟨SP.toArray⟩ ⟨#[42]⟩).run Try.prog W = .ok (tx (SP ++ [42])) W := add10 (x := SP) (y := [42]) (by omega) (by simp)
            have f4 : ∀ W : World, (Op.stringOp .add ⟨SO.toArray⟩ ⟨x.toArray⟩).run Try.prog W = .ok (tx (SO ++ x)) W := add10 (by omega) (by omega)
            have f5 : ∀ W : World, (Op.stringOp .add ⟨x.toArray⟩ ⟨#[120]⟩).run Try.prog W = .ok (tx (x ++ [120])) W := add10 (x := x) (y := [120]) (by omega) (by simp)
            have f6 : ∀ W : World, (Op.stringOp .add ⟨SO.toArray⟩ ⟨(x ++ [120]).toArray⟩).run Try.prog W = .ok (tx (SO ++ (x ++ [120]))) W := add10 (x := SO) (y := x ++ [120]) (by omega) (by simp; omega)
            have f7 : ∀ W : World, (Op.stringOp .add ⟨H.toArray⟩ ⟨x.toArray⟩).run Try.prog W = .ok (tx (H ++ x)) W := add10 (by omega) (by omega)
            have f8 : ∀ W : World, (Op.stringOp .add ⟨(H ++ x).toArray⟩ ⟨#[46]⟩).run Try.prog W = .ok (tx (H ++ x ++ [46])) W := add10 (x := H ++ x) (y := [46]) (by simp; omega) (by simp)
            have f9 : ∀ W : World, (Op.stringOp .add ⟨H.toArray⟩ ⟨#[35, 46]⟩).run Try.prog W = .ok (tx (H ++ [35, 46])) W := add10 (x := H) (y := [35, 46]) (by omega) (by simp)
            by_cases p1 : 0 < a
            · have q1 : ((0 : Nat) : Int) < a := by omega
              have q2 : (((0 : Nat) : Int) == a) = false := by rw [beq_eq_false_iff_ne]; omega
              rw [show moreO a 0 x = x from if_neg (by omega), show moreH a (max b (a + 1)) 0 x H = H ++ x ++ [46] from by rw [moreH, if_neg (by omega), if_pos (.inl p1)]] at finA finB
              generalize H ++ x ++ [46] = H2 at *
              generalize H ++ x = H1 at *
              generalize H ++ [35, 46] = H3 at *
              generalize SO ++ x = O2 at *
              generalize SO ++ (x ++ [120]) = O3 at *
              generalize x ++ [120] = wx at *
              generalize SK ++ x = K2 at *
              generalize SP ++ x = P2 at *
              generalize SP ++ [42] = P3 at *
              go_wp2_with fail
              all_goals
                go_roundg (n - (0 + 1))
                case measure => omega
                case rel => exact ⟨0 + 1, by go_num, by omega, by first | exact finA | exact finB, rfl⟩
            · obtain rfl : a = 0 := by omega
              rw [show moreO 0 0 x = x ++ [120] from rfl, show moreH 0 (max b (0 + 1)) 0 x H = H ++ [35, 46] from rfl] at finA finB
              generalize H ++ x ++ [46] = H2 at *
              generalize H ++ x = H1 at *
              generalize H ++ [35, 46] = H3 at *
              generalize SO ++ x = O2 at *
              generalize SO ++ (x ++ [120]) = O3 at *
              generalize x ++ [120] = wx at *
              generalize SK ++ x = K2 at *
              generalize SP ++ x = P2 at *
              generalize SP ++ [42] = P3 at *
              by_cases p3 : b = 0
              · subst p3
                go_wp2_with fail
                all_goals
                  go_roundg (n - (0 + 1))
                  case measure => omega
                  case rel => exact ⟨0 + 1, by go_num, by omega, by first | exact finA | exact finB, rfl⟩
              · have q4 : ¬ (b : Int) ≤ ((0 : Nat) : Int) := by omega
                go_wp2_with fail
                all_goals
                  go_roundg (n - (0 + 1))
                  case measure => omega
                  case rel => exact ⟨0 + 1, by go_num, by omega, by first | exact finA | exact finB, rfl⟩
          · rw [show sep i K = K ++ [46] from if_neg h0, show sep i P = P ++ [46] from if_neg h0, show sep i O = O ++ [46] from if_neg h0] at finA finB
            have i0 : (0 : Int) < i := by omega
            have g1 : ∀ W : World, (Op.stringOp .add ⟨K.toArray⟩ ⟨#[46]⟩).run Try.prog W = .ok (tx (K ++ [46])) W := add10 (x := K) (y := [46]) (by omega) (by simp)
            have g2 : ∀ W : World, (Op.stringOp .add ⟨P.toArray⟩ ⟨#[46]⟩).run Try.prog W = .ok (tx (P ++ [46])) W := add10 (x := P) (y := [46]) (by omega) (by simp)
            have g3 : ∀ W : World, (Op.stringOp .add ⟨O.toArray⟩ ⟨#[46]⟩).run Try.prog W = .ok (tx (O ++ [46])) W := add10 (x := O) (y := [46]) (by omega) (by simp)
            have l1 : (K ++ [46]).length ≤ 1001 := by simp; omega
            have l2 : (P ++ [46]).length ≤ 1001 := by simp; omega
            have l3 : (O ++ [46]).length ≤ 1001 := by simp; omega
            generalize K ++ [46] = SK at *
            generalize P ++ [46] = SP at *
            generalize O ++ [46] = SO at *
            have f1 : ∀ W : World, (Op.stringOp .add ⟨SK.toArray⟩ ⟨x.toArray⟩).run Try.prog W = .ok (tx (SK ++ x)) W := add10 (by omega) (by omega)
            have f2 : ∀ W : World, (Op.stringOp .add ⟨SP.toArray⟩ ⟨x.toArray⟩).run Try.prog W = .ok (tx (SP ++ x)) W := add10 (by omega) (by omega)
            have f3 : ∀ W : World, (Op.stringOp .add ⟨SP.toArray⟩ ⟨#[42]⟩).run Try.prog W = .ok (tx (SP ++ [42])) W := add10 (x := SP) (y := [42]) (by omega) (by simp)
            have f4 : ∀ W : World, (Op.stringOp .add ⟨SO.toArray⟩ ⟨x.toArray⟩).run Try.prog W = .ok (tx (SO ++ x)) W := add10 (by omega) (by omega)
            have f5 : ∀ W : World, (Op.stringOp .add ⟨x.toArray⟩ ⟨#[120]⟩).run Try.prog W = .ok (tx (x ++ [120])) W := add10 (x := x) (y := [120]) (by omega) (by simp)
            have f6 : ∀ W : World, (Op.stringOp .add ⟨SO.toArray⟩ ⟨(x ++ [120]).toArray⟩).run Try.prog W = .ok (tx (SO ++ (x ++ [120]))) W := add10 (x := SO) (y := x ++ [120]) (by omega) (by simp; omega)
            have f7 : ∀ W : World, (Op.stringOp .add ⟨H.toArray⟩ ⟨x.toArray⟩).run Try.prog W = .ok (tx (H ++ x)) W := add10 (by omega) (by omega)
            have f8 : ∀ W : World, (Op.stringOp .add ⟨(H ++ x).toArray⟩ ⟨#[46]⟩).run Try.prog W = .ok (tx (H ++ x ++ [46])) W := add10 (x := H ++ x) (y := [46]) (by simp; omega) (by simp)
            have f9 : ∀ W : World, (Op.stringOp .add ⟨H.toArray⟩ ⟨#[35, 46]⟩).run Try.prog W = .ok (tx (H ++ [35, 46])) W := add10 (x := H) (y := [35, 46]) (by omega) (by simp)
            by_cases p1 : i < a
            · have q1 : (i : Int) < a := by omega
              have q2 : ((i : Int) == a) = false := by rw [beq_eq_false_iff_ne]; omega
              rw [show moreO a i x = x from if_neg (by omega), show moreH a (max b (a + 1)) i x H = H ++ x ++ [46] from by rw [moreH, if_neg (by omega), if_pos (.inl p1)]] at finA finB
              generalize H ++ x ++ [46] = H2 at *
              generalize H ++ x = H1 at *
              generalize H ++ [35, 46] = H3 at *
              generalize SO ++ x = O2 at *
              generalize SO ++ (x ++ [120]) = O3 at *
              generalize x ++ [120] = wx at *
              generalize SK ++ x = K2 at *
              generalize SP ++ x = P2 at *
              generalize SP ++ [42] = P3 at *
              go_wp2_with fail
              all_goals
                go_roundg (n - (i + 1))
                case measure => omega
                case rel => exact ⟨i + 1, by go_num, by omega, by first | exact finA | exact finB, rfl⟩
            by_cases p2 : i = a
            · subst p2
              have q2 : ((i : Int) == i) = true := by simp
              rw [show moreO i i x = x ++ [120] from if_pos rfl, show moreH i (max b (i + 1)) i x H = H ++ [35, 46] from if_pos rfl] at finA finB
              generalize H ++ x ++ [46] = H2 at *
              generalize H ++ x = H1 at *
              generalize H ++ [35, 46] = H3 at *
              generalize SO ++ x = O2 at *
              generalize SO ++ (x ++ [120]) = O3 at *
              generalize x ++ [120] = wx at *
              generalize SK ++ x = K2 at *
              generalize SP ++ x = P2 at *
              generalize SP ++ [42] = P3 at *
              go_wp2_with fail
              all_goals
                go_roundg (n - (i + 1))
                case measure => omega
                case rel => exact ⟨i + 1, by go_num, by omega, by first | exact finA | exact finB, rfl⟩
            have q1 : ¬ (i : Int) < a := by omega
            have q2 : ((i : Int) == a) = false := by rw [beq_eq_false_iff_ne]; omega
            have q3 : (a : Int) < i := by omega
            rw [show moreO a i x = x from if_neg p2] at finA finB
            by_cases p3 : b ≤ i
            · have q4 : (b : Int) ≤ i := by omega
              rw [show moreH a (max b (a + 1)) i x H = H ++ x ++ [46] from by rw [moreH, if_neg p2, if_pos (.inr (by omega))]] at finA finB
              generalize H ++ x ++ [46] = H2 at *
              generalize H ++ x = H1 at *
              generalize H ++ [35, 46] = H3 at *
              generalize SO ++ x = O2 at *
              generalize SO ++ (x ++ [120]) = O3 at *
              generalize x ++ [120] = wx at *
              generalize SK ++ x = K2 at *
              generalize SP ++ x = P2 at *
              generalize SP ++ [42] = P3 at *
              go_wp2_with fail
              all_goals
                go_roundg (n - (i + 1))
                case measure => omega
                case rel => exact ⟨i + 1, by go_num, by omega, by first | exact finA | exact finB, rfl⟩
            · have q4 : ¬ (b : Int) ≤ i := by omega
              rw [show moreH a (max b (a + 1)) i x H = H from by rw [moreH, if_neg p2, if_neg (by omega)]] at finA finB
              generalize H ++ x ++ [46] = H2 at *
              generalize H ++ x = H1 at *
              generalize H ++ [35, 46] = H3 at *
              generalize SO ++ x = O2 at *
              generalize SO ++ (x ++ [120]) = O3 at *
              generalize x ++ [120] = wx at *
              generalize SK ++ x = K2 at *
              generalize SP ++ x = P2 at *
              generalize SP ++ [42] = P3 at *
              go_wp2_with fail
              all_goals
                go_roundg (n - (i + 1))
                case measure => omega
                case rel => exact ⟨i + 1, by go_num, by omega, by first | exact finA | exact finB, rfl⟩
    · obtain rfl : i = n := by omega
      rw [← hLn] at hR
      obtain ⟨e1, F2, F3, F4, hH0, F5⟩ := hR.out.last hab hwa
      have e2 := words_to (l := K) (by omega)
      rw [e1] at e2
      have lk : L.length ≤ 1073741824 := by omega
      have rd : Hid (∀ W, Below w.heap.size w W → ReadTs W (.slice a0 i cap) L) := Lib.hid fun W h => ⟨a0, cap, by rw [hLn], by rw [hLn]; exact hL.out.below h⟩
      have m1 := Lib.hid (fun W v1 v2 h h' => sameTexts_true (w := W) (v1 := v1) (v2 := v2) (l := L) h h' lk)
      have m2 := Lib.hid (match_is F2 (by omega) (by omega))
      have m3 := Lib.hid (match_is F3 (by omega) (by omega))
      have m4 := Lib.hid (match_is F4 (by omega) (by omega))
      have m5 := Lib.hid (match_is (p := [35]) (k := K) (b := true) (by rw [show wordsL [35] = [[35]] from by decide]; exact gl_any _) (by decide) (by omega))
      have m6 := Lib.hid (match_is F5 (by rw [List.length_take]; omega) (by omega))
      have m7 := Lib.hid (match_is (p := [35, 46, 35]) (k := K) (b := true) (by rw [show wordsL [35, 46, 35] = [[35], [35]] from by decide]; exact gl_any2 _) (by decide) (by omega))
      replace e2 := Lib.hid e2
      have hH1 : (1 : Int) ≤ H.length := by omega
      have ex : (⟨H.toArray⟩ : ByteArray).extract 0 (H.length - 1) = ⟨(H.take (H.length - 1)).toArray⟩ := by
        rw [ByteArray.extract_mk]
        simp
      have hcast : ((H.length : Int) - 1) = ((H.length - 1 : Nat) : Int) := by omega
      clear hR F2 F3 F4 F5 e1 hL hwa
      generalize H.take (H.length - 1) = Q at *
      replace rd := Lib.hid rd.out
      go_wp2_with fail
      refine (e2.out _).mono ?_
      rintro e w3 ⟨v, rfl, r1, hb3⟩
      replace hb := Lib.hid (bel hb.out hb3)
      replace r1 := Lib.hid r1
      clear hb3 e2
      go_wp2_with fail
      refine (m1.out _ _ _ r1.out (rd.out _ hb.out)).mono ?_
      rintro e w4 ⟨rfl, hb3⟩
      replace hb := Lib.hid (bel hb.out hb3)
      clear hb3 m1 r1 rd
      go_wp2_with fail
      refine (m2.out _).mono ?_
      rintro e w4 ⟨rfl, hb3⟩
      replace hb := Lib.hid (bel hb.out hb3)
      clear hb3 m2
      go_wp2_with fail
      refine (m3.out _).mono ?_
      rintro e w4 ⟨rfl, hb3⟩
      replace hb := Lib.hid (bel hb.out hb3)
      clear hb3 m3
      go_wp2_with fail
      refine (m4.out _).mono ?_
      rintro e w4 ⟨rfl, hb3⟩
      replace hb := Lib.hid (bel hb.out hb3)
      clear hb3 m4
      go_wp2_with fail
      refine (m5.out _).mono ?_
      rintro e w4 ⟨rfl, hb3⟩
      replace hb := Lib.hid (bel hb.out hb3)
      clear hb3 m5
      go_wp2_with fail
      refine (m6.out _).mono ?_
      rintro e w4 ⟨rfl, hb3⟩
      replace hb := Lib.hid (bel hb.out hb3)
      clear hb3 m6
      go_wp2_with fail
      refine (m7.out _).mono ?_
      rintro e w4 ⟨rfl, hb3⟩
      replace hb := Lib.hid (bel hb.out hb3)
      clear hb3 m7
      go_wp2_with fail
      go_ret
      exact ⟨ret_bool (by simp), hb.out⟩

theorem words10_row {a : Option Addr} {len cap : Nat} {s f t : Int} {w : World} (r0 : Read Try.prog w 24 [.slice a len cap]) (r1 : Read Try.prog w 28 [.int .u16 s]) (r2 : Read Try.prog w 5 [.int .u8 f]) (r3 : Read Try.prog w 5 [.int .u8 t]) :
    Calls Try.prog 4 #[.slice a len cap, .int .u16 s, .int .u8 f, .int .u8 t] w fun e w' => e = .returned (.bool true) ∧ Below w.heap.size w w' := by
  have hu : Try.prog.underlying 24 = some (.slice 9) := by kernel_rfl
  have hco : Try.prog.cellsOf 9 = 1 := by kernel_rfl
  obtain ⟨rd, hr⟩ := r0.slice hu (by rw [hco]; decide)
  obtain ⟨L, hL⟩ := TextsAt.of hr
  obtain ⟨x, hx, wf⟩ := r1.int (by kernel_rfl : Try.prog.underlying 28 = some (.int .u16))
  obtain ⟨y, hy, wf2⟩ := r2.int (by kernel_rfl : Try.prog.underlying 5 = some (.int .u8))
  obtain ⟨z, hz, wf3⟩ := r3.int (by kernel_rfl : Try.prog.underlying 5 = some (.int .u8))
  simp only [List.cons.injEq, Value.int.injEq, true_and, and_true] at hx hy hz
  subst hx hy hz
  obtain ⟨h1, h2⟩ := bounds_u16 wf
  obtain ⟨h3, h4⟩ := bounds_u8 wf2
  obtain ⟨h5, h6⟩ := bounds_u8 wf3
  obtain ⟨s, rfl⟩ := Int.eq_ofNat_of_zero_le h1
  obtain ⟨f, rfl⟩ := Int.eq_ofNat_of_zero_le h3
  obtain ⟨t, rfl⟩ := Int.eq_ofNat_of_zero_le h5
  exact words10_walk (st := s) (f := f) (t := t) hL (by omega) (by omega) (by omega)
end Go.Proofs.Ytpplpcpdoghifaa
