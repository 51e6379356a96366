/- MethodKinds. -/
import Derived.Test.YtipinglchpmgaaaDoorMdL
import Derived.Test.YtipinglchpmgaaaDoorArgs
import Derived.Deep.LoopGhost
namespace Go.Proofs.YtipinglchpmgaaaDoor
open Go.RowKit
set_option linter.unusedVariables false

/-- A method of the call's own, its slices growing. -/
structure KMem (w0 wr : World) (mb : Nat) (k : Int) (s n : Value) (x : Int) (S : List (List UInt8)) (N : List Int) (F1 F2 : List (Nat × Obj)) : Prop where
  st : St w0.heap.size w0 wr ((mb, mO k s n x) :: (F1 ++ F2))
  ss : SlIs 9 1 s S.length (S.map fun t => tx t) F1
  sn : SlIs 3 1 n N.length (N.map fun z => .int .i64 z) F2
section
variable {w0 wr : World} {mb : Nat} {k x : Int} {s n : Value} {S : List (List UInt8)} {N : List Int} {F1 F2 : List (Nat × Obj)}
theorem KMem.start (w : World) (k x : Int) : KMem w (w.alloc (mO k (.slice none 0 0) (.slice none 0 0) x)) w.heap.size k (.slice none 0 0) (.slice none 0 0) x [] [] [] [] := ⟨(St.start w).alloc _, SlIs.nil, SlIs.nil⟩
theorem KMem.m0 (h : KMem w0 wr mb k s n x S N F1 F2) : wr.cell? ⟨mb, 0, none⟩ = some (.int .i64 k) := h.st.cell (b := mb) List.mem_cons_self rfl
theorem KMem.m1 (h : KMem w0 wr mb k s n x S N F1 F2) : wr.cell? ⟨mb, 1, none⟩ = some s := h.st.cell (b := mb) List.mem_cons_self rfl
theorem KMem.m2 (h : KMem w0 wr mb k s n x S N F1 F2) : wr.cell? ⟨mb, 2, none⟩ = some n := h.st.cell (b := mb) List.mem_cons_self rfl
theorem KMem.m3 (h : KMem w0 wr mb k s n x S N F1 F2) : wr.cell? ⟨mb, 3, none⟩ = some (.int .i64 x) := h.st.cell (b := mb) List.mem_cons_self rfl
theorem KMem.addT (h : KMem w0 wr mb k s n x S N F1 F2) (hS : S.length ≤ 100) (t : List UInt8) : ∃ a cap W2, (Builtin.append_ #[22, 22] 0 #[s, .slice (some ⟨wr.heap.size, 0, none⟩) 1 1]).run Tryd.prog (wr.alloc (.cells #[tx t] 9)) = .ok (.slice a (S.length + 1) cap) W2 ∧
    W2.cell? ⟨mb, 1, none⟩ = some s ∧ W2.frozen? ⟨mb, 1, none⟩ = false ∧ ∃ F1', KMem w0 (W2.setCell ⟨mb, 1, none⟩ (.slice a (S.length + 1) cap)) mb k (.slice a (S.length + 1) cap) n x (S ++ [t]) N F1' F2 := by
  obtain ⟨i0, hi0, hz0, hz1, hz2⟩ := info_parts infStr8
  have hst0 := (h.st.alloc (.cells #[tx t] 9)).perm (H' := ((wr.heap.size, .cells #[tx t] 9) :: (mb, mO k s n x) :: F2) ++ F1) (.cons _ (.cons _ List.perm_append_comm))
  obtain ⟨v2, W2, F1', hr, hs2, hst2⟩ := run_append_sl (P := Tryd.prog) 22 0 9 i0 _ 1 16 uStrs8 hi0 hz0 hz1 hz2 rfl h.ss hst0 (Reads.one wr (tx t) 9) (by intro u hu; obtain rfl := List.mem_singleton.1 hu; rfl) (by unfold maxLen; omega) (by omega)
  obtain ⟨a, cap, rfl, -⟩ := hs2.form
  have hst3 := (hst2.sub (List.sublist_cons_self _ _)).perm (H' := (mb, mO k s n x) :: (F1' ++ F2)) (.cons _ List.perm_append_comm)
  refine ⟨a, cap, W2, hr, St.cell (b := mb) hst3 List.mem_cons_self rfl, St.soft (b := mb) hst3 List.mem_cons_self 1, F1', St.set0 (b := mb) (C := F1' ++ F2) hst3 1 _, ?_, h.sn⟩
  rw [List.map_append, List.length_append]
  exact hs2
theorem KMem.addN (h : KMem w0 wr mb k s n x S N F1 F2) (hN : N.length ≤ 100) (t : Int) : ∃ a cap W2, (Builtin.append_ #[23, 23] 0 #[n, .slice (some ⟨wr.heap.size, 0, none⟩) 1 1]).run Tryd.prog (wr.alloc (.cells #[.int .i64 t] 3)) = .ok (.slice a (N.length + 1) cap) W2 ∧
    W2.cell? ⟨mb, 2, none⟩ = some n ∧ W2.frozen? ⟨mb, 2, none⟩ = false ∧ ∃ F2', KMem w0 (W2.setCell ⟨mb, 2, none⟩ (.slice a (N.length + 1) cap)) mb k s (.slice a (N.length + 1) cap) x S (N ++ [t]) F1 F2' := by
  obtain ⟨i0, hi0, hz0, hz1, hz2⟩ := info_parts infInt8
  have hst0 : St w0.heap.size w0 _ (((wr.heap.size, .cells #[.int .i64 t] 3) :: (mb, mO k s n x) :: F1) ++ F2) := h.st.alloc (.cells #[.int .i64 t] 3)
  obtain ⟨v2, W2, F2', hr, hs2, hst2⟩ := run_append_sl (P := Tryd.prog) 23 0 3 i0 _ 1 8 uInts8 hi0 hz0 hz1 hz2 rfl h.sn hst0 (Reads.one wr (.int .i64 t) 3) (by intro u hu; obtain rfl := List.mem_singleton.1 hu; rfl) (by unfold maxLen; omega) (by omega)
  obtain ⟨a, cap, rfl, -⟩ := hs2.form
  have hst3 : St w0.heap.size w0 W2 ((mb, mO k s n x) :: (F1 ++ F2')) := hst2.sub (List.sublist_cons_self _ _)
  refine ⟨a, cap, W2, hr, St.cell (b := mb) hst3 List.mem_cons_self rfl, St.soft (b := mb) hst3 List.mem_cons_self 2, F2', St.set0 (b := mb) (C := F1 ++ F2') hst3 2 _, h.ss, ?_⟩
  rw [List.map_append, List.length_append]
  exact hs2
theorem KMem.rd (h : KMem w0 wr mb k s n x S N F1 F2) (hS : ∀ t ∈ S, t.length ≤ maxLen) : RdM wr (.agg #[.int .i64 k, s, n, .int .i64 x]) ⟨k, S, N, x⟩ := by
  have h2 := h.st.sub (H' := [] ++ F1) (by simp only [List.nil_append]; exact .cons _ (List.sublist_append_left _ _))
  have h3 := h.st.sub (H' := [] ++ F2) (by simp only [List.nil_append]; exact .cons _ (List.sublist_append_right _ _))
  exact ⟨s, n, rfl, h.ss.txts h2 hS, h.sn.nums h3⟩
end

/-- The texts and numbers of the law. -/
def tS (p : Nat) : List (List UInt8) := List.replicate p [116]
def tN (q : Nat) : List Int := (List.range q).map fun i : Nat => (i : Int)
theorem tS_len (p : Nat) : (tS p).length = p := by simp [tS]
theorem tN_len (q : Nat) : (tN q).length = q := by simp [tN]
theorem tS_succ (p : Nat) : tS (p + 1) = tS p ++ [[116]] := by simp [tS, List.replicate_succ']
theorem tN_succ (q : Nat) : tN (q + 1) = tN q ++ [(q : Int)] := by simp [tN, List.range_succ]
theorem isM_t {k : Int} {p q : Nat} {x : Int} (hq : q ≤ 5) (hx : 0 ≤ x ∧ x ≤ 255) : isM ⟨k, tS p, tN q, x⟩ = (isKd k && ((p == shT k) && ((q == shN k) && (shB k || x == 0)))) := by
  have h1 : okT (tS p) = true := by unfold okT tS; rw [List.all_eq_true]; intro t ht; rw [(List.mem_replicate.1 ht).2]; rfl
  have h2 : okN (tN q) = true := by
    unfold okN tN
    rw [List.all_eq_true]
    intro t ht
    obtain ⟨i, hi, rfl⟩ := List.mem_map.1 ht
    have := List.mem_range.1 hi
    unfold okN1
    rw [decide_eq_true (by omega), decide_eq_true (by omega)]
    rfl
  have h3 : okB x = true := by unfold okB; rw [decide_eq_true hx.1, decide_eq_true hx.2]; rfl
  unfold isM
  simp only [tS_len, tN_len, h1, h2, h3, Bool.and_true]

set_option maxHeartbeats 8000000 in
theorem kinds8_nat {k s n x : Nat} (hk : k ≤ 255) (hs : s ≤ 255) (hn : n ≤ 255) (hx : x ≤ 255) {w : World} (hT : Kinds w.heap.size w) :
    Calls Tryd.prog 6 #[.int .u8 k, .int .u8 s, .int .u8 n, .int .u8 x] w fun e w' => e = .returned (.bool true) ∧ Below w.heap.size w w' := by
  have hK : Hid (∀ w', Below w.heap.size w w' → Kinds w'.heap.size w') := Lib.hid fun w' hb => (hT.below hb).mono hb.size
  have c1 := Lib.hid (known8_true w hT)
  have cS := Lib.hid (fun (w' : World) (h : Below w.heap.size w w') => shape_b k w' (hK.out w' h))
  have cC := Lib.hid (fun (w' : World) (h : Below w.heap.size w w') => client_any k w' (hK.out w' h))
  obtain ⟨p, hp⟩ : ∃ p, p = s % 5 := ⟨_, rfl⟩
  obtain ⟨q, hq⟩ : ∃ q, q = n % 5 := ⟨_, rfl⟩
  have hp5 : p < 5 := by omega
  have hq5 : q < 5 := by omega
  have hp1 : (s : Int) % 5 = p := by omega
  have hq1 : (n : Int) % 5 = q := by omega
  have hI := Lib.hid (isM_t (k := k) (p := p) (q := q) (x := x) (by omega) (by omega))
  have hk0 : (0 : Int) ≤ k := by omega
  have hk1 : (k : Int) ≤ 255 := by omega
  have hx0 : (0 : Int) ≤ x := by omega
  have hx1 : (x : Int) ≤ 255 := by omega
  have hsn := sh_none (k := k)
  have hkd := isKd_iff (k := k)
  clear hT hp hq
  cases hKd : isKd k with
  | true =>
    obtain ⟨g1, g2⟩ := hkd.1 hKd
    rw [hKd] at cS hI
    clear hsn hkd hKd
    generalize shT (k : Int) = T at *
    generalize shN (k : Int) = M at *
    generalize shB (k : Int) = D at *
    go_enter Tryd.func6, Tryd.ntmps6
    go_wp2_with fail
    refine c1.out.mono ?_
    rintro e w1 ⟨rfl, hb⟩
    replace hb := Lib.hid hb
    go_wp2_with fail
    refine (cS.out _ hb.out).mono ?_
    rintro e w2 ⟨rfl, hb2⟩
    replace hb := Lib.hid (bel hb.out hb2)
    clear hb2 c1 cS
    have hm := Lib.hid (KMem.start w2 (k : Int) (x : Int))
    go_wp2_with fail
    go_loopg [15] p (fun g v15 wr => ∃ (j : Nat) (sv : Value) (F1 : List (Nat × Obj)), v15 = .int .i64 j ∧ j + g = p ∧ Hid (KMem w2 wr w2.heap.size k sv (.slice none 0 0) x (tS j) [] F1 []))
    case atStart => exact ⟨0, .slice none 0 0, [], rfl, by omega, hm⟩
    case round =>
      clear hm
      obtain ⟨j, sv, F1, rfl, hj, hm⟩ := hrel
      obtain ⟨sa, sc, rfl, -⟩ := hm.out.ss.form
      have q1 := hm.out.m1
      have hj0 : (0 : Int) ≤ j := by omega
      rw [tS_len] at *
      by_cases hlt : j < p
      · have hlt' : (j : Int) < p := by omega
        obtain ⟨a2, cap2, W2, hrun, q2, q3, F1', hm2⟩ := hm.out.addT (by rw [tS_len]; omega) [116]
        rw [← tS_succ] at hm2
        rw [tS_len] at hrun hm2
        replace hm2 := Lib.hid hm2
        clear hm
        go_wp2_with (at_builtin; refine wpList_append_go rfl (.tmp 70) (.tmp 71) 22 22 rfl _ _ rfl rfl hrun ?_)
        go_roundg (p - (j + 1))
        case measure => omega
        case rel => exact ⟨j + 1, _, F1', by go_num, by omega, hm2⟩
      · obtain rfl : j = p := by omega
        have hlt' : ¬ (j : Int) < j := by omega
        clear q1
        go_wp2_with fail
        go_loopg [16] q (fun g v16 wr => ∃ (i : Nat) (nv : Value) (F2 : List (Nat × Obj)), v16 = .int .i64 i ∧ i + g = q ∧ Hid (KMem w2 wr w2.heap.size k (.slice sa j sc) nv x (tS j) (tN i) F1 F2))
        case atStart => exact ⟨0, .slice none 0 0, [], rfl, by omega, hm⟩
        case round =>
          clear hm
          obtain ⟨i, nv, F2, rfl, hi, hm⟩ := hrel
          obtain ⟨na, nc, rfl, -⟩ := hm.out.sn.form
          have q1 := hm.out.m2
          have hi0 : (0 : Int) ≤ i := by omega
          rw [tN_len] at *
          by_cases hlt : i < q
          · have hlt' : (i : Int) < q := by omega
            obtain ⟨a2, cap2, W2, hrun, q2, q3, F2', hm2⟩ := hm.out.addN (by rw [tN_len]; omega) i
            rw [← tN_succ] at hm2
            rw [tN_len] at hrun hm2
            replace hm2 := Lib.hid hm2
            clear hm
            go_wp2_with (at_builtin; refine wpList_append_go rfl (.tmp 82) (.tmp 84) 23 23 rfl _ _ rfl rfl hrun ?_)
            go_roundg (q - (i + 1))
            case measure => omega
            case rel => exact ⟨i + 1, _, F2', by go_num, by omega, hm2⟩
          · obtain rfl : i = q := by omega
            have r0 := hm.out.m0
            have r1 := hm.out.m1
            have r2 := hm.out.m2
            have r3 := hm.out.m3
            have hbw := bel hb.out hm.out.st.below
            have cI := is_any (hK.out _ hbw) (hm.out.rd (by intro t ht; unfold tS at ht; rw [(List.mem_replicate.1 ht).2]; decide))
            rw [hI.out] at cI
            replace cI := Lib.hid cI
            replace hbw := Lib.hid hbw
            clear hm hb q1
            rw [Bool.true_and] at cI
            by_cases hT1 : j = T
            · by_cases hM1 : i = M
              · subst hT1 hM1
                rw [beq_self_eq_true, beq_self_eq_true, Bool.true_and, Bool.true_and] at cI
                cases D with
                | true =>
                  rw [Bool.true_or] at cI
                  go_wp2_with fail
                  refine cI.out.mono ?_
                  rintro e w3 ⟨rfl, hb3⟩
                  replace hbw := Lib.hid (bel hbw.out hb3)
                  clear hb3 cI
                  go_wp2_with fail
                  go_ret
                  exact ⟨rfl, hbw.out⟩
                | false =>
                  rw [Bool.false_or] at cI
                  go_wp2_with fail
                  refine cI.out.mono ?_
                  rintro e w3 ⟨rfl, hb3⟩
                  replace hbw := Lib.hid (bel hbw.out hb3)
                  clear hb3 cI
                  go_wp2_with fail
                  go_ret
                  exact ⟨ret_bool (by simp), hbw.out⟩
              · have e1 : (i == M) = false := by simpa using hM1
                have hM2 : ¬ (M : Int) = i := by omega
                subst hT1
                rw [e1, Bool.false_and, Bool.and_false] at cI
                go_wp2_with fail
                refine cI.out.mono ?_
                rintro e w3 ⟨rfl, hb3⟩
                replace hbw := Lib.hid (bel hbw.out hb3)
                clear hb3 cI
                go_wp2_with fail
                go_ret
                exact ⟨rfl, hbw.out⟩
            · have e1 : (j == T) = false := by simpa using hT1
              have hT2 : ¬ (T : Int) = j := by omega
              rw [e1, Bool.false_and] at cI
              go_wp2_with fail
              refine cI.out.mono ?_
              rintro e w3 ⟨rfl, hb3⟩
              replace hbw := Lib.hid (bel hbw.out hb3)
              clear hb3 cI
              go_wp2_with fail
              go_ret
              exact ⟨rfl, hbw.out⟩
  | false =>
    obtain ⟨e1, e2, e3, e4⟩ := hsn hKd
    rw [hKd, e1, e2, e3] at cS
    rw [hKd] at hI
    rw [e4] at cC
    have hk2 : k = 0 ∨ (1 ≤ k ∧ ¬ (k : Int) ≤ 49) := by
      have : ¬ (1 ≤ (k : Int) ∧ (k : Int) ≤ 49) := by rw [← hkd, hKd]; decide
      omega
    clear hsn hkd hKd e1 e2 e3 e4
    rcases hk2 with g1 | ⟨g1, g2⟩
    · have g3 : ¬ (1 : Int) ≤ k := by omega
      clear g1
      go_enter Tryd.func6, Tryd.ntmps6
      go_wp2_with fail
      refine c1.out.mono ?_
      rintro e w1 ⟨rfl, hb⟩
      replace hb := Lib.hid hb
      go_wp2_with fail
      refine (cS.out _ hb.out).mono ?_
      rintro e w2 ⟨rfl, hb2⟩
      replace hb := Lib.hid (bel hb.out hb2)
      clear hb2 c1 cS
      go_wp2_with fail
      refine (cC.out _ hb.out).mono ?_
      rintro e w2' ⟨rfl, rfl⟩
      clear cC
      have hm := Lib.hid (KMem.start w2 (k : Int) (x : Int))
      go_wp2_with fail
      go_loopg [15] p (fun g v15 wr => ∃ (j : Nat) (sv : Value) (F1 : List (Nat × Obj)), v15 = .int .i64 j ∧ j + g = p ∧ Hid (KMem w2 wr w2.heap.size k sv (.slice none 0 0) x (tS j) [] F1 []))
      case atStart => exact ⟨0, .slice none 0 0, [], rfl, by omega, hm⟩
      case round =>
        clear hm
        obtain ⟨j, sv, F1, rfl, hj, hm⟩ := hrel
        obtain ⟨sa, sc, rfl, -⟩ := hm.out.ss.form
        have q1 := hm.out.m1
        have hj0 : (0 : Int) ≤ j := by omega
        rw [tS_len] at *
        by_cases hlt : j < p
        · have hlt' : (j : Int) < p := by omega
          obtain ⟨a2, cap2, W2, hrun, q2, q3, F1', hm2⟩ := hm.out.addT (by rw [tS_len]; omega) [116]
          rw [← tS_succ] at hm2
          rw [tS_len] at hrun hm2
          replace hm2 := Lib.hid hm2
          clear hm
          go_wp2_with (at_builtin; refine wpList_append_go rfl (.tmp 70) (.tmp 71) 22 22 rfl _ _ rfl rfl hrun ?_)
          go_roundg (p - (j + 1))
          case measure => omega
          case rel => exact ⟨j + 1, _, F1', by go_num, by omega, hm2⟩
        · obtain rfl : j = p := by omega
          have hlt' : ¬ (j : Int) < j := by omega
          clear q1
          go_wp2_with fail
          go_loopg [16] q (fun g v16 wr => ∃ (i : Nat) (nv : Value) (F2 : List (Nat × Obj)), v16 = .int .i64 i ∧ i + g = q ∧ Hid (KMem w2 wr w2.heap.size k (.slice sa j sc) nv x (tS j) (tN i) F1 F2))
          case atStart => exact ⟨0, .slice none 0 0, [], rfl, by omega, hm⟩
          case round =>
            clear hm
            obtain ⟨i, nv, F2, rfl, hi, hm⟩ := hrel
            obtain ⟨na, nc, rfl, -⟩ := hm.out.sn.form
            have q1 := hm.out.m2
            have hi0 : (0 : Int) ≤ i := by omega
            rw [tN_len] at *
            by_cases hlt : i < q
            · have hlt' : (i : Int) < q := by omega
              obtain ⟨a2, cap2, W2, hrun, q2, q3, F2', hm2⟩ := hm.out.addN (by rw [tN_len]; omega) i
              rw [← tN_succ] at hm2
              rw [tN_len] at hrun hm2
              replace hm2 := Lib.hid hm2
              clear hm
              go_wp2_with (at_builtin; refine wpList_append_go rfl (.tmp 82) (.tmp 84) 23 23 rfl _ _ rfl rfl hrun ?_)
              go_roundg (q - (i + 1))
              case measure => omega
              case rel => exact ⟨i + 1, _, F2', by go_num, by omega, hm2⟩
            · obtain rfl : i = q := by omega
              have r0 := hm.out.m0
              have r1 := hm.out.m1
              have r2 := hm.out.m2
              have r3 := hm.out.m3
              have hbw := bel hb.out hm.out.st.below
              have cI := is_any (hK.out _ hbw) (hm.out.rd (by intro t ht; unfold tS at ht; rw [(List.mem_replicate.1 ht).2]; decide))
              rw [hI.out] at cI
              replace cI := Lib.hid cI
              replace hbw := Lib.hid hbw
              clear hm hb q1
              rw [Bool.false_and] at cI
              go_wp2_with fail
              refine cI.out.mono ?_
              rintro e w3 ⟨rfl, hb3⟩
              replace hbw := Lib.hid (bel hbw.out hb3)
              clear hb3 cI
              go_wp2_with fail
              go_ret
              exact ⟨rfl, hbw.out⟩
    · have g3 : (1 : Int) ≤ k := by omega
      go_enter Tryd.func6, Tryd.ntmps6
      go_wp2_with fail
      refine c1.out.mono ?_
      rintro e w1 ⟨rfl, hb⟩
      replace hb := Lib.hid hb
      go_wp2_with fail
      refine (cS.out _ hb.out).mono ?_
      rintro e w2 ⟨rfl, hb2⟩
      replace hb := Lib.hid (bel hb.out hb2)
      clear hb2 c1 cS
      go_wp2_with fail
      refine (cC.out _ hb.out).mono ?_
      rintro e w2' ⟨rfl, rfl⟩
      clear cC
      have hm := Lib.hid (KMem.start w2 (k : Int) (x : Int))
      go_wp2_with fail
      go_loopg [15] p (fun g v15 wr => ∃ (j : Nat) (sv : Value) (F1 : List (Nat × Obj)), v15 = .int .i64 j ∧ j + g = p ∧ Hid (KMem w2 wr w2.heap.size k sv (.slice none 0 0) x (tS j) [] F1 []))
      case atStart => exact ⟨0, .slice none 0 0, [], rfl, by omega, hm⟩
      case round =>
        clear hm
        obtain ⟨j, sv, F1, rfl, hj, hm⟩ := hrel
        obtain ⟨sa, sc, rfl, -⟩ := hm.out.ss.form
        have q1 := hm.out.m1
        have hj0 : (0 : Int) ≤ j := by omega
        rw [tS_len] at *
        by_cases hlt : j < p
        · have hlt' : (j : Int) < p := by omega
          obtain ⟨a2, cap2, W2, hrun, q2, q3, F1', hm2⟩ := hm.out.addT (by rw [tS_len]; omega) [116]
          rw [← tS_succ] at hm2
          rw [tS_len] at hrun hm2
          replace hm2 := Lib.hid hm2
          clear hm
          go_wp2_with (at_builtin; refine wpList_append_go rfl (.tmp 70) (.tmp 71) 22 22 rfl _ _ rfl rfl hrun ?_)
          go_roundg (p - (j + 1))
          case measure => omega
          case rel => exact ⟨j + 1, _, F1', by go_num, by omega, hm2⟩
        · obtain rfl : j = p := by omega
          have hlt' : ¬ (j : Int) < j := by omega
          clear q1
          go_wp2_with fail
          go_loopg [16] q (fun g v16 wr => ∃ (i : Nat) (nv : Value) (F2 : List (Nat × Obj)), v16 = .int .i64 i ∧ i + g = q ∧ Hid (KMem w2 wr w2.heap.size k (.slice sa j sc) nv x (tS j) (tN i) F1 F2))
          case atStart => exact ⟨0, .slice none 0 0, [], rfl, by omega, hm⟩
          case round =>
            clear hm
            obtain ⟨i, nv, F2, rfl, hi, hm⟩ := hrel
            obtain ⟨na, nc, rfl, -⟩ := hm.out.sn.form
            have q1 := hm.out.m2
            have hi0 : (0 : Int) ≤ i := by omega
            rw [tN_len] at *
            by_cases hlt : i < q
            · have hlt' : (i : Int) < q := by omega
              obtain ⟨a2, cap2, W2, hrun, q2, q3, F2', hm2⟩ := hm.out.addN (by rw [tN_len]; omega) i
              rw [← tN_succ] at hm2
              rw [tN_len] at hrun hm2
              replace hm2 := Lib.hid hm2
              clear hm
              go_wp2_with (at_builtin; refine wpList_append_go rfl (.tmp 82) (.tmp 84) 23 23 rfl _ _ rfl rfl hrun ?_)
              go_roundg (q - (i + 1))
              case measure => omega
              case rel => exact ⟨i + 1, _, F2', by go_num, by omega, hm2⟩
            · obtain rfl : i = q := by omega
              have r0 := hm.out.m0
              have r1 := hm.out.m1
              have r2 := hm.out.m2
              have r3 := hm.out.m3
              have hbw := bel hb.out hm.out.st.below
              have cI := is_any (hK.out _ hbw) (hm.out.rd (by intro t ht; unfold tS at ht; rw [(List.mem_replicate.1 ht).2]; decide))
              rw [hI.out] at cI
              replace cI := Lib.hid cI
              replace hbw := Lib.hid hbw
              clear hm hb q1
              rw [Bool.false_and] at cI
              go_wp2_with fail
              refine cI.out.mono ?_
              rintro e w3 ⟨rfl, hb3⟩
              replace hbw := Lib.hid (bel hbw.out hb3)
              clear hb3 cI
              go_wp2_with fail
              go_ret
              exact ⟨rfl, hbw.out⟩

theorem kinds8_row {k s n x : Int} {w : World} (hT : Kinds w.heap.size w) (r0 : Read Tryd.prog w 5 [.int .u8 k]) (r1 : Read Tryd.prog w 5 [.int .u8 s]) (r2 : Read Tryd.prog w 5 [.int .u8 n]) (r3 : Read Tryd.prog w 5 [.int .u8 x]) :
    Calls Tryd.prog 6 #[.int .u8 k, .int .u8 s, .int .u8 n, .int .u8 x] w fun e w' => e = .returned (.bool true) ∧ Below w.heap.size w w' := by
  have h : ∀ z, Read Tryd.prog w 5 [.int .u8 z] → ∃ y : Nat, z = y ∧ y ≤ 255 := fun z r => by
    obtain ⟨y, hy, wf⟩ := r.int (by kernel_rfl : Tryd.prog.underlying 5 = some (.int .u8))
    simp only [List.cons.injEq, Value.int.injEq, true_and, and_true] at hy
    subst hy
    obtain ⟨h1, h2⟩ := bounds_u8 wf
    obtain ⟨y, rfl⟩ := Int.eq_ofNat_of_zero_le h1
    exact ⟨y, rfl, by omega⟩
  obtain ⟨k, rfl, hk⟩ := h _ r0
  obtain ⟨s, rfl, hs⟩ := h _ r1
  obtain ⟨n, rfl, hn⟩ := h _ r2
  obtain ⟨x, rfl, hx⟩ := h _ r3
  exact kinds8_nat hk hs hn hx hT
end Go.Proofs.YtipinglchpmgaaaDoor
