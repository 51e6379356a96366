/- The statement of layer 3 about numbers that come one by one. -/
import Derived.Test.YtkahncfhphdkfaaRgsN
namespace Go.Proofs.Ytkahncfhphdkfaa
open Go.RowKit
set_option linter.unusedVariables false

theorem flat_len : ∀ {l : List Row}, Fit l → ((flat l).length : Int) = cnt l
  | [], _ => rfl
  | r :: l, h => by
    have h1 := h r (by simp)
    have h2 := flat_len (l := l) fun x hx => h x (by simp [hx])
    rw [flat_cons, cnt_cons, List.length_append, nums_len]
    omega
theorem upto_len {l : List Row} {n : Int} (hf : Fit l) (h : ∀ k, Inn l k → k ≤ n) (hc : cnt l ≤ 1000) : ((uptoL l n).length : Int) = cnt l := by
  have h1 := flat_len hf
  have h2 : (flat l).filter (fun x => decide (x ≤ n)) = flat l := List.filter_eq_self.2 fun x hx => by
    obtain ⟨r, hr, h3, h4⟩ := mem_flat hx
    simpa using h x ⟨r, hr, h3, h4⟩
  unfold uptoL
  rw [h2, List.take_of_length_le (by omega), h1]

/-- 1 to k without c. -/
def holed (k c : Int) : List Row := if c = 1 then [(2, k)] else if c = k then [(1, k - 1)] else [(1, c - 1), (c + 1, k)]
theorem holed_canon {k c : Int} (hk : 3 ≤ k) (hk2 : k ≤ 1000000) (h1 : 1 ≤ c) (h2 : c ≤ k) : Canon (holed k c) := by
  unfold holed
  split
  · exact canon_one (by omega) (by omega) hk2
  · split
    · exact canon_one (by omega) (by omega) (by omega)
    · exact ⟨by simp; omega, by simp; omega⟩
theorem holed_inn {k c : Int} (hk : 3 ≤ k) (h1 : 1 ≤ c) (h2 : c ≤ k) (x : Int) : Inn (holed k c) x ↔ (1 ≤ x ∧ x ≤ k) ∧ x ≠ c := by
  unfold holed
  split
  · rw [inn_one]; omega
  · split
    · rw [inn_one]; omega
    · rw [inn_cons, inn_one]; simp only; omega
theorem holed_cnt {k c : Int} (hk : 3 ≤ k) (h1 : 1 ≤ c) (h2 : c ≤ k) : cnt (holed k c) = k - 1 := by
  unfold holed
  split
  · rw [cnt_one]; omega
  · split
    · rw [cnt_one]; omega
    · rw [cnt_cons, cnt_one]; simp only; omega
theorem holed_len {k c : Int} : (holed k c).length = if c = 1 ∨ c = k then 1 else 2 := by
  unfold holed
  by_cases h : c = 1
  · rw [if_pos h, if_pos (.inl h)]; rfl
  · rw [if_neg h]
    by_cases h2 : c = k
    · rw [if_pos h2, if_pos (.inr h2)]; rfl
    · rw [if_neg h2, if_neg (by omega)]; rfl
theorem holed_least {k c : Int} : leastV (holed k c) = .tuple #[.int .i64 (if c = 1 then 2 else 1), .bool true] := by
  unfold holed
  by_cases h : c = 1
  · rw [if_pos h, if_pos h]; rfl
  · rw [if_neg h, if_neg h]
    by_cases h2 : c = k
    · rw [if_pos h2]; rfl
    · rw [if_neg h2]; rfl

set_option maxRecDepth 100000 in
set_option maxHeartbeats 4000000 in
theorem join3_walk (n s c : Int) (hn0 : 0 ≤ n) (hn1 : n ≤ 255) (hs0 : 0 ≤ s) (hs1 : s ≤ 255) (hc0 : 0 ≤ c) (hc1 : c ≤ 255) (w : World) :
    Calls Try.prog 6 #[.int .u8 n, .int .u8 s, .int .u8 c] w fun e w' => e = .returned (.bool true) ∧ Below w.heap.size w w' := by
  have hk := Lib.hid (known3_true w)
  have hkk : 3 ≤ n % 60 + 3 ∧ n % 60 + 3 ≤ 62 := by omega
  obtain ⟨k, hke⟩ : ∃ k : Nat, n % 60 + 3 = k := ⟨(n % 60 + 3).toNat, by omega⟩
  obtain ⟨t, hte⟩ : ∃ t : Nat, s % 7 * 2 + 1 = t := ⟨(s % 7 * 2 + 1).toNat, by omega⟩
  have ht1 : t ≤ 13 := by omega
  have hk1 : 3 ≤ k := by omega
  have hk2 : k ≤ 62 := by omega
  clear hkk
  replace hke := Lib.hid hke
  replace hte := Lib.hid hte
  go_enter Try.func6, Try.ntmps6
  go_wp2_with fail
  refine hk.out.mono ?_
  rintro e w1 ⟨rfl, hb⟩
  replace hb := Lib.hid hb
  have c1 := Lib.hid (rgs_new (St.start w1))
  clear hk
  go_wp2_with fail
  refine c1.out.mono ?_
  rintro e w2 ⟨rfl, h2⟩
  replace h2 := Lib.hid h2
  clear c1
  go_wp2_with fail
  rw [hke.out, hte.out]
  go_loopw [10] (fun i wr => ∃ (j : Nat) (l : List Row), i = .int .i64 j ∧ j ≤ k ∧ Hid (∀ x, Inn l x → 1 ≤ x ∧ x ≤ k) ∧ RgsIs w1.heap.size w1 wr w1.heap.size l []) (fun i _ => k - (intOf i).toNat)
  case atStart => exact ⟨0, [], rfl, Nat.zero_le _, Lib.hid (fun x hx => absurd hx (inn_nil x)), h2.out⟩
  case round =>
    obtain ⟨j, l, rfl, hj, hl, hs⟩ := hrel
    clear h2
    by_cases hlt : j < k
    · have hm0 : 0 ≤ (j : Int) * t := Int.mul_nonneg (by omega) (by omega)
      have hm1 : (j : Int) * t ≤ 62 * 13 := Int.mul_le_mul (by omega) (by omega) (by omega) (by omega)
      obtain ⟨p, hp⟩ : ∃ p : Nat, (j : Int) * t = p := ⟨((j : Int) * t).toNat, by omega⟩
      obtain ⟨m, hm⟩ : ∃ m : Nat, (p : Int) % k + 1 = m := ⟨((p : Int) % k + 1).toNat, by have := Int.emod_nonneg (p : Int) (b := k) (by omega); omega⟩
      have hmb : 1 ≤ m ∧ m ≤ k := by
        have h1 := Int.emod_nonneg (p : Int) (b := k) (by omega)
        have h2 := Int.emod_lt_of_pos (p : Int) (b := k) (by omega)
        omega
      have ca := Lib.hid (fun q => rgs_add (hs.drewN q) (m : Int) (m : Int))
      have f1 : IntKind.i64.wrap ((j : Int) * t) = p := by rw [hp]; exact IntWalk.i64_in _ (by omega)
      have f2 : ((k : Int) == 0) = false := by rw [beq_eq_false_iff_ne]; omega
      have f3 : IntKind.i64.wrap ((p : Int) % k + 1) = m := by rw [hm]; exact IntWalk.i64_in _ (by omega)
      have f4 : Int.tmod p k = (p : Int) % k := by rw [Int.tmod_eq_emod_of_nonneg (by omega)]
      have f5 : ¬ k = 0 := by omega
      have f6 : IntKind.i64.wrap ((p : Int) % k) = (p : Int) % k := IntWalk.i64_in _ (by omega)
      replace hp := Lib.hid hp
      replace hm := Lib.hid hm
      clear hs hm0 hm1
      go_wp2_with fail
      go_still_tail 13, (by kernel_rfl)
      change wpList _ _ _ _ _ wr.drew
      clear f1 f2 f3 f4 f5 f6
      go_wp2_with fail
      refine (ca.out 1).mono ?_
      rintro e w4 ⟨l', rfl, hm2, h4⟩
      have hl' : ∀ x, Inn l' x → 1 ≤ x ∧ x ≤ k := fun x hx => by
        rcases (hm2 x).1 hx with h | h
        · exact hl.out x h
        · omega
      replace hl' := Lib.hid hl'
      replace h4 := Lib.hid h4
      clear hm2 ca
      go_wp2_with fail
      go_roundw
      case rel => exact ⟨j + 1, l', by go_num, by omega, hl', h4.out⟩
      case measure => simp [intOf]; omega
    · have hcan : Canon [((1 : Int), (k : Int))] := canon_one (by omega) (by omega) (by omega)
      have ca := Lib.hid (add_to hs 1 k hcan (fun x => by
        rw [inn_one]
        constructor
        · intro h; exact .inr (by omega)
        · rintro (h | h)
          · exact hl.out x h
          · omega) (d := cnt [((1 : Int), (k : Int))] - cnt l) rfl)
      obtain ⟨q, hq⟩ : ∃ q : Nat, c % k + 1 = q := ⟨(c % k + 1).toNat, by have := Int.emod_nonneg c (b := k) (by omega); omega⟩
      have hqb : 1 ≤ q ∧ q ≤ k := by
        have h1 := Int.emod_nonneg c (b := k) (by omega)
        have h2 := Int.emod_lt_of_pos c (b := k) (by omega)
        omega
      replace hq := Lib.hid hq
      generalize cnt [((1 : Int), (k : Int))] - cnt l = d at *
      clear hs hl
      go_wp2_with fail
      refine ca.out.mono ?_
      rintro e w4 ⟨rfl, h4⟩
      have c5 := Lib.hid (rgs_all h4)
      clear ca h4
      go_wp2_with fail
      refine c5.out.mono ?_
      rintro e w5 ⟨v, S, rfl, hs, h5⟩
      obtain ⟨X, hst, -⟩ := h5.st
      obtain ⟨a, cap, rfl, hrd⟩ := hs.readRows hst
      obtain ⟨b, off, rfl, k0, k1⟩ := hrd 0 (1, (k : Int)) rfl
      simp only [Nat.zero_mul, Nat.add_zero] at k0 k1
      have c6 := rgs_count h5
      rw [cnt_one, show (k : Int) - 1 + 1 = k by omega] at c6
      replace c6 := Lib.hid c6
      have hinq := holed_inn (k := k) (c := q) (by omega) (by omega) (by omega)
      have hcc := holed_canon (k := k) (c := q) (by omega) (by omega) (by omega) (by omega)
      have hcn := holed_cnt (k := k) (c := q) (by omega) (by omega) (by omega)
      have c7 := Lib.hid (cut_to (h5.sub (F' := []) (List.nil_sublist _)) q q hcc (fun x => by rw [hinq, inn_one]; omega) (d := 1) (by rw [hcn, cnt_one]; omega))
      have hlen : (holed k q).length = if (q : Int) = 1 ∨ (q : Int) = k then 1 else 2 := holed_len
      have hleast : leastV (holed k q) = .tuple #[.int .i64 (if (q : Int) = 1 then 2 else 1), .bool true] := holed_least
      have hno : innB (holed k q) q = false := innB_false fun h => ((hinq q).1 h).2 rfl
      have hup : ((uptoL (holed k q) k).length : Int) = k - 1 := by rw [upto_len hcc.fits (fun x hx => by have := (hinq x).1 hx; omega) (by omega), hcn]
      generalize holed k q = l' at *
      replace hlen := Lib.hid hlen
      replace hleast := Lib.hid hleast
      replace hno := Lib.hid hno
      replace hup := Lib.hid hup
      have peq := pair_equal
      clear hs hrd hst h5 c5 hinq hcc hcn hcan
      go_wp2_with fail
      refine c6.out.mono ?_
      rintro e w6 ⟨rfl, rfl⟩
      clear c6
      have hkz : ¬ k = 0 := by omega
      have hcd0 : 0 ≤ c := hc0
      have hm0 : 0 ≤ c % (k : Int) := Int.emod_nonneg c (by omega)
      have hm1 : c % (k : Int) ≤ 62 := by have := Int.emod_lt_of_pos c (b := k) (by omega); omega
      go_wp2_with fail
      rw [hq.out]
      refine c7.out.mono ?_
      rintro e w7 ⟨rfl, h7⟩
      replace h7 := Lib.hid h7
      clear c7 k0 k1 peq hm0 hm1 hcd0
      by_cases e1 : (q : Int) = 1
      · as_aux_lemma =>
          have hlen := hlen.out
          have hleast := hleast.out
          rw [if_pos (.inl e1)] at hlen
          rw [if_pos e1] at hleast
          have e1' : ((q : Int) == 1) = true := by simpa using e1
          replace e1 := Lib.hid e1
          have c8 := rgs_least h7.out
          rw [hleast] at c8
          replace c8 := Lib.hid c8
          clear hleast
          go_wp2_with fail
          refine c8.out.mono ?_
          rintro e w8 ⟨rfl, rfl⟩
          have c9 := Lib.hid (rgs_all h7.out)
          clear c8 h7
          go_wp2_with fail
          refine c9.out.mono ?_
          rintro e w9 ⟨v', S', rfl, hs', h9⟩
          obtain ⟨a', cap', rfl, -, -, -⟩ := hs'.form
          have c10 := rgs_has h9 q
          rw [hno.out] at c10
          replace c10 := Lib.hid c10
          rw [hlen]
          clear hs' h9 c9
          go_wp2_with fail
          refine c10.out.mono ?_
          rintro e w10 ⟨rfl, h10⟩
          have c11 := Lib.hid (rgs_upto h10 k)
          clear h10 c10
          go_wp2_with fail
          refine c11.out.mono ?_
          rintro e w11 ⟨v', S', rfl, hs', h11⟩
          obtain ⟨a', cap', rfl, -, -, -⟩ := hs'.form
          have hb11 := Lib.hid h11.below
          have hup' := hup.out
          generalize (uptoL l' k).length = ul at *
          clear hs' h11 c11 hup
          go_wp2_with fail
          go_ret
          exact ⟨rfl, hb.out.trans (hb11.out.mono hb.out.size)⟩
      · by_cases e2 : (q : Int) = k
        · as_aux_lemma =>
          have hlen := hlen.out
          have hleast := hleast.out
          rw [if_pos (.inr e2)] at hlen
          rw [if_neg e1] at hleast
          have e1' : ((q : Int) == 1) = false := by simpa using e1
          have e2' : ((q : Int) == (k : Int)) = true := by simpa using e2
          replace e1 := Lib.hid e1
          replace e2 := Lib.hid e2
          have c8 := rgs_least h7.out
          rw [hleast] at c8
          replace c8 := Lib.hid c8
          clear hleast
          go_wp2_with fail
          refine c8.out.mono ?_
          rintro e w8 ⟨rfl, rfl⟩
          have c9 := Lib.hid (rgs_all h7.out)
          clear c8 h7
          go_wp2_with fail
          refine c9.out.mono ?_
          rintro e w9 ⟨v', S', rfl, hs', h9⟩
          obtain ⟨a', cap', rfl, -, -, -⟩ := hs'.form
          have c10 := rgs_has h9 q
          rw [hno.out] at c10
          replace c10 := Lib.hid c10
          rw [hlen]
          clear hs' h9 c9
          go_wp2_with fail
          refine c10.out.mono ?_
          rintro e w10 ⟨rfl, h10⟩
          have c11 := Lib.hid (rgs_upto h10 k)
          clear h10 c10
          go_wp2_with fail
          refine c11.out.mono ?_
          rintro e w11 ⟨v', S', rfl, hs', h11⟩
          obtain ⟨a', cap', rfl, -, -, -⟩ := hs'.form
          have hb11 := Lib.hid h11.below
          have hup' := hup.out
          generalize (uptoL l' k).length = ul at *
          clear hs' h11 c11 hup
          go_wp2_with fail
          go_ret
          exact ⟨rfl, hb.out.trans (hb11.out.mono hb.out.size)⟩
        · as_aux_lemma =>
          have hlen := hlen.out
          have hleast := hleast.out
          rw [if_neg (by omega)] at hlen
          rw [if_neg e1] at hleast
          have e1' : ((q : Int) == 1) = false := by simpa using e1
          have e2' : ((q : Int) == (k : Int)) = false := by simpa using e2
          replace e1 := Lib.hid e1
          replace e2 := Lib.hid e2
          have c8 := rgs_least h7.out
          rw [hleast] at c8
          replace c8 := Lib.hid c8
          clear hleast
          go_wp2_with fail
          refine c8.out.mono ?_
          rintro e w8 ⟨rfl, rfl⟩
          have c9 := Lib.hid (rgs_all h7.out)
          clear c8 h7
          go_wp2_with fail
          refine c9.out.mono ?_
          rintro e w9 ⟨v', S', rfl, hs', h9⟩
          obtain ⟨a', cap', rfl, -, -, -⟩ := hs'.form
          have c10 := rgs_has h9 q
          rw [hno.out] at c10
          replace c10 := Lib.hid c10
          rw [hlen]
          clear hs' h9 c9
          go_wp2_with fail
          refine c10.out.mono ?_
          rintro e w10 ⟨rfl, h10⟩
          have c11 := Lib.hid (rgs_upto h10 k)
          clear h10 c10
          go_wp2_with fail
          refine c11.out.mono ?_
          rintro e w11 ⟨v', S', rfl, hs', h11⟩
          obtain ⟨a', cap', rfl, -, -, -⟩ := hs'.form
          have hb11 := Lib.hid h11.below
          have hup' := hup.out
          generalize (uptoL l' k).length = ul at *
          clear hs' h11 c11 hup
          go_wp2_with fail
          go_ret
          exact ⟨rfl, hb.out.trans (hb11.out.mono hb.out.size)⟩
end Go.Proofs.Ytkahncfhphdkfaa
