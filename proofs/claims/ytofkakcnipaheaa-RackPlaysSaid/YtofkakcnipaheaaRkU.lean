/- The statement of layer 15 about what is put back. -/
import Derived.Test.YtofkakcnipaheaaRkT
namespace Go.Proofs.Ytofkakcnipaheaa
open Go.RowKit
open Go.ChangeMaps (setBlock)
set_option linter.unusedVariables false
set_option linter.unusedSectionVars false
set_option linter.unusedSimpArgs false
set_option maxRecDepth 100000

theorem bne_entry (e : Ent) (w : World) : (binOp .neq 28 (enV e) (enV e)).run Try.prog w = .ok (.bool false) w := by
  go_simp

theorem drew_drew (w : World) (a b : Nat) : (w.drewN a).drewN b = w.drewN (a + b) := by
  simp [World.drewN, Nat.add_assoc]

section
variable {B : Nat} {w0 w : World} {rk : Nat} {M N : List Ent} {F : List (Nat × Obj)} {P : Nat → Int} {n : Nat}
set_option maxHeartbeats 8000000 in
theorem back_walk {a : Option Addr} {n cap t : Nat} {zs : List Int} (hz : IntsAt .u8 w a n zs) (ht : t < 256) :
    Calls Try.prog 5 #[.slice a n cap, .int .u8 t] w fun e w' => e = .returned (.bool true) ∧ Below w.heap.size w w' := by
  have c1 := Lib.hid (known15_true w)
  have hlen := hz.size
  replace hz := Lib.hid hz
  go_enter Try.func5, Try.ntmps5
  go_wp2_with fail
  refine c1.out.mono ?_
  rintro e w1 ⟨rfl, hb⟩
  by_cases hn0 : n = 0
  · subst hn0
    replace hb := Lib.hid hb
    simp only [Int.cast_ofNat_Int]
    go_wp2_with fail
    go_ret
    exact ⟨rfl, hb.out⟩
  by_cases hn : (n : Int) > 30
  · replace hb := Lib.hid hb
    go_wp2_with fail
    go_ret
    exact ⟨rfl, hb.out⟩
  have hn1 : (1 : Int) ≤ n := by omega
  have hn5 : (n : Int) ≤ 30 := by omega
  have hnB : ((n : Int) == 0) = false := by rw [beq_eq_false_iff_ne]; omega
  have c2 := Lib.hid (rk_new ((St.start w).grow hb))
  clear c1 hb hn
  go_wp2_with fail
  refine c2.out.mono ?_
  rintro e w2 ⟨rfl, h⟩
  generalize w1.heap.size = rk at *
  replace h := Lib.hid h
  clear c2
  obtain ⟨P, hP⟩ : ∃ P : Nat → Int, P = fun k => zs.getD k 0 % 4 := ⟨_, rfl⟩
  have hP4 : Hid (∀ k, 0 ≤ P k ∧ P k ≤ 3) := Lib.hid fun k => by
    subst hP
    show 0 ≤ zs.getD k 0 % 4 ∧ zs.getD k 0 % 4 ≤ 3
    omega
  have hPz : Hid (∀ k z, zs[k]? = some z → z % 4 = P k) := Lib.hid fun k z hk => by rw [hP]; simp [hk]
  clear hP
  obtain ⟨kk, hkk⟩ : ∃ kk, kk = t % (n + 1) := ⟨_, rfl⟩
  have hkn : kk ≤ n := by rw [hkk]; have := Nat.mod_lt t (show 0 < n + 1 by omega); omega
  have hkt : (t : Int) % ((n : Int) + 1) = kk := by rw [hkk]; simp
  replace hkk := Lib.hid hkk
  replace hkt := Lib.hid hkt
  go_wp2_with fail
  go_loopg [6] n (fun g v6 wr => ∃ (i : Nat) (M : List Ent), v6 = .int .i64 i ∧ i + g = n ∧ Hid (InX P n M ∧ (∀ k, k < i → xE P k ∈ M) ∧ M.length ≤ i) ∧ Hid (RackIs w.heap.size w wr rk M []))
  case atStart => exact ⟨0, [], rfl, by omega, Lib.hid ⟨InX.nil, fun k hk => absurd hk (by omega), Nat.le_refl _⟩, h⟩
  case round =>
    clear h
    obtain ⟨k, M, rfl, hi, hM, h⟩ := hrel
    have k0 : (0 : Int) ≤ k := by omega
    by_cases hlt : k < n
    · have k1 : (k : Int) < n := by omega
      have hx : zs[k]? = some zs[k] := List.getElem?_eq_getElem (by omega)
      generalize zs[k]'(by omega) = z at hx
      have hzw := (hz.out.below h.out.below)
      obtain ⟨ba, oa, rfl, cz⟩ := hzw.at_ k z hx
      obtain ⟨z0, z1⟩ := bounds_u8 (hz.out.wf z (List.mem_of_getElem? hx))
      have hp := hPz.out k z hx
      obtain ⟨p, hpk⟩ : ∃ p, P k = p := ⟨_, rfl⟩
      rw [hpk] at hp
      have cp := Lib.hid (put_x h.out hM.out.1 hlt (hP4.out k) (by have := hM.out.2.2; omega) hpk)
      have hp4 := hP4.out k
      rw [hpk] at hp4
      obtain ⟨p0, p1⟩ := hp4
      clear hx hzw hpk
      go_wp2_with fail
      refine cp.out.mono ?_
      rintro r w3 ⟨b, M2, rfl, hM2, h2⟩
      replace hM2 : Hid (InX P n M2 ∧ (∀ j, j < k + 1 → xE P j ∈ M2) ∧ M2.length ≤ k + 1) := Lib.hid ⟨hM2.inx, fun j hj => by
        rcases (by omega : j < k ∨ j = k) with h9 | rfl
        · exact hM2.keep _ (hM.out.2.1 j h9)
        · exact hM2.has, by have := hM2.len; have := hM.out.2.2; omega⟩
      replace h2 := Lib.hid h2
      clear cp h hM
      go_wp2_with fail
      go_roundg (n - (k + 1))
      case measure => omega
      case rel => exact ⟨k + 1, M2, by go_num, by omega, hM2, h2⟩
    · have hk : k = n := by omega
      have hMl := hM.out.1.full fun j hj => hM.out.2.1 j (by omega)
      have hMo := Lib.hid hM.out.1.ok
      have hMt : Hid (∀ x ∈ M, x.exch.length ≤ 140737488351232 ∧ x.key.length ≤ 140737488351232) := Lib.hid fun x hx => by
        obtain ⟨k, -, rfl⟩ := hM.out.1.form x hx
        exact ⟨by simp [xE], by simp [xE]⟩
      have ca := Lib.hid (rk_all h.out)
      clear hM hk hi h hPz hP4 hz hlen
      have hMl1 : (M.length : Int) = n := by omega
      go_wp2_with fail
      refine ca.out.mono ?_
      rintro r w3 ⟨aw, cw, Sw, rfl, hSw, h⟩
      have hMle : M.length ≤ 30 := by omega
      replace hSw := Lib.hid hSw
      replace h := Lib.hid h
      clear ca
      have hnz : ¬ (n : Int) + 1 = 0 := by omega
      go_upto_region 12 with fail
      simp only [hkt.out]
      clear hnz hkt
      have hkM : kk ≤ M.length := by omega
      replace hMl1 := Lib.hid hMl1
      go_wp2_with fail
      go_loopg [9, 10] kk (fun g v9 v10 wr => ∃ (i : Nat) (a9 : Option Addr) (c9 : Nat) (S : List (Nat × Obj)) (L : List Ent), v10 = .int .i64 i ∧ i + g = kk ∧ v9 = .slice a9 L.length c9 ∧ Hid (L = M.take i ∧ EnsIs (.slice a9 L.length c9) L S) ∧ Hid (RackIs w.heap.size w wr rk (M.drop i) (S ++ (Sw ++ []))))
      case atStart => exact ⟨0, none, 0, [], [], rfl, by omega, rfl, Lib.hid ⟨rfl, EnsIs.nil⟩, h⟩
      case round =>
        clear h
        obtain ⟨i, a9, c9, S, L, rfl, hi, rfl, hL, h⟩ := hrel
        have i0 : (0 : Int) ≤ i := by omega
        by_cases hlt : i < kk
        · have i1 : (i : Int) < kk := by omega
          have i2 : (i : Int) < M.length := by omega
          have hx : M[i]? = some M[i] := List.getElem?_eq_getElem (by omega)
          generalize M[i]'(by omega) = e at hx
          have hd : M.drop i = e :: M.drop (i + 1) := by
            obtain ⟨h1, h2⟩ := List.getElem?_eq_some_iff.1 hx
            rw [List.drop_eq_getElem_cons h1, h2]
          have hLl : L.length = i := by rw [hL.out.1, List.length_take]; omega
          have ct : Hid (Calls Try.prog 11 #[rptr rk] wr fun r w' => r = .returned (.tuple #[enV e, .bool true]) ∧ ∃ ba oa, aw = some ⟨ba, oa, none⟩ ∧ (∀ m, EnAt ((w'.alloc (enO e)).drewN m) w'.heap.size e ∧ EnRow ((w'.alloc (enO e)).drewN m) ba (oa + i * 10) e) ∧
              ∀ m, ∃ a' c' W S' L', (Builtin.append_ #[26, 26] 0 #[.slice a9 L.length c9, .slice (some ⟨((w'.alloc (enO e)).drewN m).heap.size, 0, none⟩) 1 1]).run Try.prog (((w'.alloc (enO e)).drewN m).alloc (enO e)) = .ok (.slice a' L'.length c') W ∧
                Hid (L' = M.take (i + 1) ∧ EnsIs (.slice a' L'.length c') L' S') ∧ Hid (RackIs w.heap.size w W rk (M.drop (i + 1)) (S' ++ (Sw ++ [])))) := Lib.hid (by
            have h2 := h.out
            rw [hd] at h2
            refine (rk_take h2).mono ?_
            rintro r w' ⟨rfl, h3⟩
            have h4 := (h3.alloc (enO e)).permF (List.perm_middle (l₁ := S)).symm
            obtain ⟨ba, oa, ha, -⟩ := (RackIs.reads (X := S ++ [(w'.heap.size, enO e)]) h4 hSw.out (by
              classical
              exact List.perm_iff_count.2 fun a => by simp only [List.count_append, List.count_cons, List.count_nil]; omega)) i e hx
            refine ⟨rfl, ba, oa, ha, fun m => ?_, fun m => ?_⟩
            · have h5 := h4.grow (drewN_below _ m)
              refine ⟨(h5.at_block (k := w'.heap.size) (e := e) (by simp)).1, ?_⟩
              obtain ⟨ba', oa', ha', hr⟩ := (RackIs.reads (X := S ++ [(w'.heap.size, enO e)]) h5 hSw.out (by
                classical
                exact List.perm_iff_count.2 fun a => by simp only [List.count_append, List.count_cons, List.count_nil]; omega)) i e hx
              rw [ha] at ha'
              cases ha'
              exact hr
            · have h5 := h4.grow (drewN_below _ m)
              obtain ⟨a', c', W, S', q1, q2, q3⟩ := h5.ensPush hL.out.2 e (by omega)
              refine ⟨a', c', W, S', L ++ [e], q1, Lib.hid ⟨?_, q2⟩, Lib.hid (q3.sub ((List.Sublist.refl _).append (List.sublist_cons_self _ _)))⟩
              rw [hL.out.1, List.take_add_one, hx]
              rfl)
          clear hx hd hLl hL h
          go_wp2_with fail
          refine ct.out.mono ?_
          rintro r w4 ⟨rfl, ba, oa, rfl, hcell, hpush⟩
          obtain ⟨⟨x0, x1, x2, x3, x4, x5, x6, x7, x8, x9⟩, y0, y1, y2, y3, y4, y5, y6, y7, y8, y9⟩ := hcell 0
          replace hcell := Lib.hid hcell
          replace hpush := Lib.hid hpush
          clear ct
          change (w4.alloc (enO e)).cell? _ = _ at x0 x1 x2 x3 x4 x5 x6 x7 x8 x9 y0 y1 y2 y3 y4 y5 y6 y7 y8 y9
          go_wp2_with fail
          generalize w4.heap.size = eb at *
          generalize w4.alloc (enO e) = V at *
          go_quiet (fail)
          obtain ⟨⟨x0, x1, x2, x3, x4, x5, x6, x7, x8, x9⟩, -⟩ := hcell.out nq
          obtain ⟨a', c', W, S', L', hrun, hL2, h2⟩ := hpush.out nq
          clear hcell hpush y0 y1 y2 y3 y4 y5 y6 y7 y8 y9
          generalize V.drewN nq = V2 at *
          go_wp2_with (at_builtin; refine wpList_append_go rfl (.tmp 74) (.tmp 76) 26 26 rfl _ _ rfl rfl hrun ?_)
          go_roundg (kk - (i + 1))
          case measure => omega
          case rel => exact ⟨i + 1, a', c', S', L', by go_num, by omega, rfl, hL2, h2⟩
        · have hk : i = kk := by omega
          have hLk : L.length = kk := by rw [hL.out.1, List.length_take]; omega
          have hLat : Hid (∀ j x, L[j]? = some x → x ∈ M ∧ M[j]? = some x) := Lib.hid fun j x hj => by
            rw [hL.out.1, List.getElem?_take] at hj
            split at hj
            · exact ⟨List.mem_of_getElem? hj, hj⟩
            · cases hj
          have hB : Hid (∃ N, Back M kk 0 N ∧ RackIs w.heap.size w wr rk N (S ++ (Sw ++ []))) := Lib.hid ⟨_, Back.start hMo.out kk, by rw [← hk]; exact h.out⟩
          replace hL := Lib.hid hL.out.2
          have hkB : kk ≤ 30 := by omega
          have hkI : (kk : Int) ≤ 30 := by omega
          have hkI0 : (0 : Int) ≤ kk := by omega
          have hLkI : (L.length : Int) = kk := by omega
          clear h hi hk i0
          rw [hLk]
          replace hLkI := Lib.hid hLkI
          have hput : Hid (∀ (i : Nat) N W x, x ∈ M → Back M kk i N → RackIs w.heap.size w W rk N (S ++ (Sw ++ [])) → Calls Try.prog 10 #[rptr rk, enV x] W fun r w' => ∃ b, r = .returned (.bool b) ∧ Back M kk i (putM N x) ∧ RackIs w.heap.size w w' rk (putM N x) (S ++ (Sw ++ []))) := Lib.hid fun i N W x hx hN hR => by
            obtain ⟨t1, t2⟩ := hMt.out x hx
            refine (rk_put (e := x) hR t1 t2 (by have := hN.len; omega)).mono ?_
            rintro r w' ⟨rfl, h'⟩
            exact ⟨_, rfl, (hN.put hMo.out hx).1, h'⟩
          have hput4 : Hid (∀ (i : Nat) N W x, M[i]? = some x → Back M kk i N → RackIs w.heap.size w W rk N (S ++ (Sw ++ [])) → Calls Try.prog 10 #[rptr rk, enV x] W fun r w' => ∃ b N2, r = .returned (.bool b) ∧ Back M kk (i + 1) N2 ∧ RackIs w.heap.size w w' rk N2 (S ++ (Sw ++ []))) := Lib.hid fun i N W x hx hN hR => by
            obtain ⟨t1, t2⟩ := hMt.out x (List.mem_of_getElem? hx)
            refine (rk_put (e := x) hR t1 t2 (by have := hN.len; omega)).mono ?_
            rintro r w' ⟨rfl, h'⟩
            exact ⟨_, _, rfl, hN.next hMo.out hx, h'⟩
          have hrd : Hid (∀ N W, RackIs w.heap.size w W rk N (S ++ (Sw ++ [])) → ReadEs W a9 L) := Lib.hid fun N W hR => hR.reads (X := Sw ++ []) hL.out (by
            classical
            exact List.perm_iff_count.2 fun a => by simp only [List.count_append]; omega)
          go_wp2_with fail
          go_loopg [13] kk (fun g v13 wr => v13 = .int .i64 ((g : Int) - 1) ∧ g ≤ kk ∧ Hid (∃ N, Back M kk 0 N ∧ RackIs w.heap.size w wr rk N (S ++ (Sw ++ []))))
          case atStart => exact ⟨rfl, Nat.le_refl _, hB⟩
          case round =>
            clear hB
            obtain ⟨rfl, hg, hB⟩ := hrel
            by_cases hz : gk = 0
            · subst hz
              simp only [Int.cast_ofNat_Int]
              have hB4 : Hid (∃ N, Back M kk 0 N ∧ RackIs w.heap.size w wr rk N (S ++ (Sw ++ []))) := hB
              clear hB hput hg
              go_wp2_with fail
              go_loopg [15] kk (fun g v15 wr => ∃ i : Nat, v15 = .int .i64 i ∧ i + g = kk ∧ Hid (∃ N, Back M kk i N ∧ RackIs w.heap.size w wr rk N (S ++ (Sw ++ []))))
              case atStart => exact ⟨0, rfl, by omega, hB4⟩
              case round =>
                clear hB4
                obtain ⟨i, rfl, hi, hB⟩ := hrel
                have i0 : (0 : Int) ≤ i := by omega
                by_cases hlt : i < kk
                · have i1 : (i : Int) < kk := by omega
                  obtain ⟨N, hN, hR⟩ := hB.out
                  have hx : L[i]? = some L[i] := List.getElem?_eq_getElem (by have := hLkI.out; omega)
                  generalize L[i]'(by have := hLkI.out; omega) = x at hx
                  obtain ⟨hxM, hxi⟩ := hLat.out i x hx
                  have cp := Lib.hid (hput4.out i N wr x hxi hN hR)
                  obtain ⟨ba, oa, rfl, y0, y1, y2, y3, y4, y5, y6, y7, y8, y9⟩ := hrd.out N wr hR i x hx
                  clear hB hN hR hx hxM hxi
                  go_wp2_with fail
                  refine cp.out.mono ?_
                  rintro r w5 ⟨b, N2, rfl, hN2, hR2⟩
                  have hB2 : Hid (∃ N, Back M kk (i + 1) N ∧ RackIs w.heap.size w w5 rk N (S ++ (Sw ++ []))) := Lib.hid ⟨N2, hN2, hR2⟩
                  clear cp hN2 hR2
                  go_wp2_with fail
                  go_roundg (kk - (i + 1))
                  case measure => omega
                  case rel => exact ⟨i + 1, by go_num, by omega, hB2⟩
                · obtain ⟨N, hN, hR⟩ := hB.out
                  have hik : i = kk := by omega
                  rw [hik] at hN
                  rw [hN.done hMo.out] at hR
                  have ca := Lib.hid (rk_all hR)
                  clear hB hN hR hik hput4 hrd hLat
                  go_wp2_with fail
                  refine ca.out.mono ?_
                  rintro r w6 ⟨a3, c3, S3, rfl, hS3, h6⟩
                  have hra : Hid (∀ m, ReadEs (w6.drewN m) a3 M ∧ ReadEs (w6.drewN m) aw M ∧ Below w.heap.size w (w6.drewN m)) := Lib.hid fun m => by
                    have h7 := h6.grow (drewN_below _ m)
                    refine ⟨h7.reads (X := S ++ (Sw ++ [])) hS3 ?_, h7.reads (X := S3 ++ S) hSw.out ?_, h7.below⟩
                    · classical
                      exact List.perm_iff_count.2 fun a => by simp only [List.count_append]; omega
                    · classical
                      exact List.perm_iff_count.2 fun a => by simp only [List.count_append, List.count_nil]; omega
                  have hMI : (M.length : Int) ≤ 30 := by omega
                  clear ca hS3 h6
                  go_wp2_with fail
                  go_loopg [17] M.length (fun g v17 wr => ∃ i m : Nat, v17 = .int .i64 i ∧ i + g = M.length ∧ wr = w6.drewN m)
                  case atStart => exact ⟨0, 0, rfl, by omega, rfl⟩
                  case round =>
                    obtain ⟨i, m, rfl, hi, rfl⟩ := hrel
                    have i0 : (0 : Int) ≤ i := by omega
                    obtain ⟨r1, r2, r3⟩ := hra.out m
                    replace r3 := Lib.hid r3
                    by_cases hlt : i < M.length
                    · have i1 : (i : Int) < M.length := by omega
                      have hx : M[i]? = some M[i] := List.getElem?_eq_getElem hlt
                      generalize M[i] = x at hx
                      obtain ⟨b1, o1, rfl, x0, x1, x2, x3, x4, x5, x6, x7, x8, x9⟩ := r1 i x hx
                      obtain ⟨b2, o2, rfl, y0, y1, y2, y3, y4, y5, y6, y7, y8, y9⟩ := r2 i x hx
                      clear r1 r2 hx hra r3
                      generalize hV : w6.drewN m = V at *
                      replace hV := Lib.hid hV
                      go_wp2_with fail
                      go_quiet (fail)
                      go_wp2_with fail
                      go_roundg (M.length - (i + 1))
                      case measure => omega
                      case rel => exact ⟨i + 1, _, by go_num, by omega, by rw [← hV.out]; exact drew_drew _ _ _⟩
                    · clear r1 r2 hra
                      go_wp2_with fail
                      go_ret
                      exact ⟨rfl, r3.out⟩
            · obtain ⟨m, rfl⟩ : ∃ m, gk = m + 1 := ⟨gk - 1, by omega⟩
              have e1 : ((m + 1 : Nat) : Int) - 1 = m := by omega
              rw [e1]
              have m0 : (0 : Int) ≤ m := by omega
              have m1 : (m : Int) < kk := by omega
              obtain ⟨j, hj⟩ : ∃ j, j = (m * 3) % kk := ⟨_, rfl⟩
              have hjk : j < kk := by rw [hj]; exact Nat.mod_lt _ (by omega)
              have hj1 : ((m : Int) * 3) % kk = j := by rw [hj]; simp
              have hnz : ¬ (kk : Int) = 0 := by omega
              have kk0 : (0 : Int) < kk := by omega
              replace hj := Lib.hid hj
              replace hj1 := Lib.hid hj1
              replace e1 := Lib.hid e1
              go_upto_region 24 with fail
              simp only [hj1.out]
              have j0 : (0 : Int) ≤ j := by omega
              have j1 : (j : Int) < kk := by omega
              obtain ⟨N, hN, hR⟩ := hB.out
              have hx : L[j]? = some L[j] := List.getElem?_eq_getElem (by have := hLkI.out; omega)
              generalize L[j]'(by have := hLkI.out; omega) = x at hx
              obtain ⟨hxM, hxi⟩ := hLat.out j x hx
              have cp := Lib.hid (hput.out 0 N wr x hxM hN hR)
              obtain ⟨ba, oa, rfl, y0, y1, y2, y3, y4, y5, y6, y7, y8, y9⟩ := hrd.out N wr hR j x hx
              clear hB hN hR hx hxM hxi hnz hj hj1
              go_wp2_with fail
              refine cp.out.mono ?_
              rintro r w5 ⟨b, rfl, hN2, hR2⟩
              have hB2 : Hid (∃ N, Back M kk 0 N ∧ RackIs w.heap.size w w5 rk N (S ++ (Sw ++ []))) := Lib.hid ⟨_, hN2, hR2⟩
              clear cp hN2 hR2
              go_wp2_with fail
              go_roundg m
              case measure => omega
              case rel => exact ⟨by go_num, by omega, hB2⟩
end
end Go.Proofs.Ytofkakcnipaheaa
