/- The statement of layer 15 about orders. -/
import Derived.Test.YtofkakcnipaheaaRkR
import Derived.Test.YtofkakcnipaheaaInR
namespace Go.Proofs.Ytofkakcnipaheaa
open Go.RowKit
open Go.ChangeMaps (setBlock)
set_option linter.unusedVariables false
set_option linter.unusedSectionVars false
set_option linter.unusedSimpArgs false
set_option maxRecDepth 100000

/-- The entry of a number. -/
def xE (P : Nat → Int) (k : Nat) : Ent := oE ((k : Int) + 1) (P k) 0
structure InX (P : Nat → Int) (n : Nat) (M : List Ent) : Prop where
  ok : RkOk M
  form : ∀ e ∈ M, ∃ k, k < n ∧ e = xE P k
section
variable {P : Nat → Int} {n k : Nat} {M L : List Ent}
theorem InX.nil : InX P n [] := ⟨RkOk.nil, by simp⟩
theorem InX.mem (h : InX P n M) {j : Nat} (hm : ((j : Int) + 1) ∈ M.map (·.id)) : xE P j ∈ M := by
  obtain ⟨e, he, h1⟩ := List.mem_map.1 hm
  obtain ⟨i, hi, rfl⟩ := h.form e he
  have : (i : Int) + 1 = (j : Int) + 1 := h1
  have : i = j := by omega
  rw [← this]
  exact he
structure PutX (P : Nat → Int) (n k : Nat) (M M' : List Ent) : Prop where
  inx : InX P n M'
  has : xE P k ∈ M'
  keep : ∀ e ∈ M, e ∈ M'
  len : M'.length ≤ M.length + 1
theorem InX.put (h : InX P n M) (hk : k < n) (hp : 0 ≤ P k ∧ P k ≤ 3) : PutX P n k M (putM M (xE P k)) := by
  by_cases hin : (xE P k).id ∈ M.map (·.id)
  · have h0 : putOk M (xE P k) = false := by
      simp only [putOk, decide_eq_false_iff_not]
      exact fun hc => hc.1 hin
    have h1 : putM M (xE P k) = M := by
      unfold putM
      rw [h0]
      rfl
    rw [h1]
    exact ⟨h, h.mem hin, fun e he => he, by omega⟩
  · have h0 : putOk M (xE P k) = true := by
      simp only [putOk, decide_eq_true_eq]
      exact ⟨hin, hp⟩
    have h1 : putM M (xE P k) = insM (xE P k) M := by
      unfold putM
      rw [h0]
      rfl
    rw [h1]
    refine ⟨⟨h.ok.ins hp fun x hx e => hin (e ▸ List.mem_map_of_mem hx), fun e he => ?_⟩, mem_ins.2 (.inl rfl), fun e he => mem_ins.2 (.inr he), by rw [ins_len]; omega⟩
    rcases mem_ins.1 he with rfl | he
    · exact ⟨k, hk, rfl⟩
    · exact h.form e he
theorem RkOk.nodup (h : RkOk M) : M.Nodup := List.Pairwise.of_map (S := fun a b => a ≠ b) _ (fun a b h e => h (by rw [e])) h.ids
theorem InX.full (h : InX P n M) (hall : ∀ k, k < n → xE P k ∈ M) : M.length = n := by
  classical
  have h1 : ((List.range n).map (xE P)).Nodup := by
    refine List.Pairwise.map _ (fun a b hab e => hab ?_) (List.nodup_range (n := n))
    have : (a : Int) + 1 = (b : Int) + 1 := congrArg Ent.id e
    omega
  have hp : M.Perm ((List.range n).map (xE P)) := (List.perm_ext_iff_of_nodup h.ok.nodup h1).2 fun e => by
    rw [List.mem_map]
    constructor
    · intro he
      obtain ⟨k, hk, rfl⟩ := h.form e he
      exact ⟨k, List.mem_range.2 hk, rfl⟩
    · rintro ⟨k, hk, rfl⟩
      exact hall k (List.mem_range.1 hk)
  rw [hp.length_eq, List.length_map, List.length_range]
end

section
variable {B : Nat} {w0 w : World} {rk : Nat} {M N : List Ent} {F : List (Nat × Obj)} {P : Nat → Int} {n : Nat}
theorem put_x (h : RackIs B w0 w rk M F) (hx : InX P n M) {k : Nat} (hk : k < n) (hp : 0 ≤ P k ∧ P k ≤ 3) (hl : M.length < 100000) {p : Int} (hpk : P k = p) :
    Calls Try.prog 10 #[rptr rk, oV ((k : Int) + 1) p 0] w fun r w' => ∃ b M', r = .returned (.bool b) ∧ PutX P n k M M' ∧ RackIs B w0 w' rk M' F := by
  subst hpk
  refine (rk_put (e := xE P k) h (by simp [xE]) (by simp [xE]) hl).mono ?_
  rintro r w' ⟨rfl, h'⟩
  exact ⟨_, _, rfl, hx.put hk hp, h'⟩

set_option maxHeartbeats 4000000 in
theorem orders_walk {a : Option Addr} {n cap t : Nat} {zs : List Int} (hz : IntsAt .u8 w a n zs) (ht : t < 256) :
    Calls Try.prog 4 #[.slice a n cap, .int .u8 t] w fun e w' => e = .returned (.bool true) ∧ Below w.heap.size w w' := by
  have c1 := Lib.hid (known15_true w)
  have hlen := hz.size
  replace hz := Lib.hid hz
  go_enter Try.func4, Try.ntmps4
  go_wp2_with fail
  refine c1.out.mono ?_
  rintro e w1 ⟨rfl, hb⟩
  by_cases hn0 : n = 0
  · subst hn0
    replace hb := Lib.hid hb
    simp only [Int.cast_ofNat_Int]
    go_wp2_with fail
    go_ret
    exact ⟨rfl, hb.out⟩
  by_cases hn : (n : Int) > 50
  · replace hb := Lib.hid hb
    go_wp2_with fail
    go_ret
    exact ⟨rfl, hb.out⟩
  have hn1 : (1 : Int) ≤ n := by omega
  have hn0' : (0 : Int) < n := by omega
  have hnz : ¬ (n : Int) = 0 := by omega
  have hn5 : (n : Int) ≤ 50 := by omega
  have hnB : ((n : Int) == 0) = false := by rw [beq_eq_false_iff_ne]; omega
  have c2 := Lib.hid (rk_new ((St.start w).grow hb))
  clear c1 hb hn
  go_wp2_with fail
  refine c2.out.mono ?_
  rintro e w2 ⟨rfl, h⟩
  generalize w1.heap.size = rk at *
  replace h := Lib.hid h
  clear c2
  obtain ⟨P, hP⟩ : ∃ P : Nat → Int, P = fun k => zs.getD k 0 % 4 := ⟨_, rfl⟩
  have hP4 : Hid (∀ k, 0 ≤ P k ∧ P k ≤ 3) := Lib.hid fun k => by
    subst hP
    show 0 ≤ zs.getD k 0 % 4 ∧ zs.getD k 0 % 4 ≤ 3
    omega
  have hPz : Hid (∀ k z, zs[k]? = some z → z % 4 = P k) := Lib.hid fun k z hk => by rw [hP]; simp [hk]
  clear hP
  go_wp2_with fail
  go_loopg [7] n (fun g v7 wr => ∃ (i : Nat) (M : List Ent), v7 = .int .i64 i ∧ i + g = n ∧ Hid (InX P n M ∧ M.length ≤ i) ∧ Hid (RackIs w.heap.size w wr rk M []))
  case atStart => exact ⟨0, [], rfl, by omega, Lib.hid ⟨InX.nil, Nat.le_refl _⟩, h⟩
  case round =>
    clear h
    obtain ⟨i, M, rfl, hi, hM, h⟩ := hrel
    have hi0 : (0 : Int) ≤ i := by omega
    by_cases hlt : i < n
    · have hi1 : (i : Int) < n := by omega
      obtain ⟨k, hk⟩ : ∃ k, k = (i * 7 + t) % n := ⟨_, rfl⟩
      have hkn : k < n := by rw [hk]; exact Nat.mod_lt _ (by omega)
      have hk1 : ((i : Int) * 7 + t) % n = k := by rw [hk]; simp
      replace hk1 := Lib.hid hk1
      replace hk := Lib.hid hk
      go_upto_region 11 with fail
      simp only [hk1.out]
      clear hk1 hk
      have hx : zs[k]? = some zs[k] := List.getElem?_eq_getElem (by omega)
      generalize zs[k]'(by omega) = z at hx
      have hzw := (hz.out.below h.out.below)
      obtain ⟨ba, oa, rfl, cz⟩ := hzw.at_ k z hx
      obtain ⟨z0, z1⟩ := bounds_u8 (hz.out.wf z (List.mem_of_getElem? hx))
      have hp := hPz.out k z hx
      obtain ⟨p, hpk⟩ : ∃ p, P k = p := ⟨_, rfl⟩
      rw [hpk] at hp
      have cp := Lib.hid (put_x h.out hM.out.1 hkn (hP4.out k) (by have := hM.out.2; omega) hpk)
      have hp4 := hP4.out k
      rw [hpk] at hp4
      obtain ⟨p0, p1⟩ := hp4
      have k0 : (0 : Int) ≤ k := by omega
      have k1 : (k : Int) < n := by omega
      clear hx hzw hpk
      go_wp2_with fail
      refine cp.out.mono ?_
      rintro r w3 ⟨b, M2, rfl, hM2, h2⟩
      replace hM2 : Hid (InX P n M2 ∧ M2.length ≤ i + 1) := Lib.hid ⟨hM2.inx, by have := hM2.len; have := hM.out.2; omega⟩
      replace h2 := Lib.hid h2
      clear cp h hM
      go_wp2_with fail
      go_roundg (n - (i + 1))
      case measure => omega
      case rel => exact ⟨i + 1, M2, by go_num, by omega, hM2, h2⟩
    · have hM2 : Hid (InX P n M ∧ M.length ≤ n) := Lib.hid ⟨hM.out.1, by have := hM.out.2; omega⟩
      clear hM hi
      go_wp2_with fail
      go_loopg [9] n (fun g v9 wr => ∃ (i : Nat) (M : List Ent), v9 = .int .i64 i ∧ i + g = n ∧ Hid (InX P n M ∧ (∀ k, k < i → xE P k ∈ M) ∧ M.length ≤ n + i) ∧ Hid (RackIs w.heap.size w wr rk M []))
      case atStart => exact ⟨0, M, rfl, by omega, Lib.hid ⟨hM2.out.1, fun k hk => absurd hk (by omega), by have := hM2.out.2; omega⟩, h⟩
      case round =>
        clear h hM2
        obtain ⟨k, M, rfl, hi, hM, h⟩ := hrel
        have k0 : (0 : Int) ≤ k := by omega
        by_cases hlt : k < n
        · have k1 : (k : Int) < n := by omega
          have hx : zs[k]? = some zs[k] := List.getElem?_eq_getElem (by omega)
          generalize zs[k]'(by omega) = z at hx
          have hzw := (hz.out.below h.out.below)
          obtain ⟨ba, oa, rfl, cz⟩ := hzw.at_ k z hx
          obtain ⟨z0, z1⟩ := bounds_u8 (hz.out.wf z (List.mem_of_getElem? hx))
          have hp := hPz.out k z hx
          obtain ⟨p, hpk⟩ : ∃ p, P k = p := ⟨_, rfl⟩
          rw [hpk] at hp
          have cp := Lib.hid (put_x h.out hM.out.1 hlt (hP4.out k) (by have := hM.out.2.2; omega) hpk)
          have hp4 := hP4.out k
          rw [hpk] at hp4
          obtain ⟨p0, p1⟩ := hp4
          clear hx hzw hpk
          go_wp2_with fail
          refine cp.out.mono ?_
          rintro r w3 ⟨b, M2, rfl, hM2, h2⟩
          replace hM2 : Hid (InX P n M2 ∧ (∀ j, j < k + 1 → xE P j ∈ M2) ∧ M2.length ≤ n + (k + 1)) := Lib.hid ⟨hM2.inx, fun j hj => by
            rcases (by omega : j < k ∨ j = k) with h9 | rfl
            · exact hM2.keep _ (hM.out.2.1 j h9)
            · exact hM2.has, by have := hM2.len; have := hM.out.2.2; omega⟩
          replace h2 := Lib.hid h2
          clear cp h hM
          go_wp2_with fail
          go_roundg (n - (k + 1))
          case measure => omega
          case rel => exact ⟨k + 1, M2, by go_num, by omega, hM2, h2⟩
        · have hk : k = n := by omega
          have hful := hM.out.1.full fun j hj => hM.out.2.1 j (by omega)
          have hform : Hid (∀ e ∈ M, ∃ k, k < n ∧ e = xE P k) := Lib.hid hM.out.1.form
          have hle : Hid (∀ e ∈ M, lessE (oE 0 9 0) e = true) := Lib.hid fun e he => by
            have := (hM.out.1.ok.prio e he).2
            rw [less_iff]
            left
            show e.prio < 9
            omega
          have h2 := h.out.alloc (enO (oE 0 9 0))
          replace h2 := Lib.hid h2
          clear hM hk hi h
          go_wp2_with fail
          generalize wr.heap.size = lb at *
          generalize hW9 : wr.alloc (enO (oE 0 9 0)) = W9 at *
          clear hW9
          go_loopg [11] n (fun g v11 wt => ∃ (i : Nat) (L : List Ent) (lst : Ent), v11 = .int .i64 i ∧ i + g = n ∧ L.length = g ∧ Hid (∀ e ∈ L, ∃ k, k < n ∧ e = xE P k) ∧ Hid (∀ e ∈ L, lessE lst e = true) ∧ Hid (RackIs w.heap.size w wt rk L [(lb, enO lst)]))
          case atStart => exact ⟨0, M, _, rfl, by omega, hful, hform, hle, h2⟩
          case round =>
            clear h2 hful hform hle
            obtain ⟨i, L, lst, rfl, hi, hL, hform, hle, h⟩ := hrel
            have i0 : (0 : Int) ≤ i := by omega
            by_cases hlt : i < n
            · have i1 : (i : Int) < n := by omega
              obtain ⟨e, L', rfl⟩ : ∃ e L', L = e :: L' := by
                cases L with
                | nil =>
                  have : (0 : Nat) = gk := hL
                  omega
                | cons e L' => exact ⟨e, L', rfl⟩
              obtain ⟨k, hk, he⟩ := hform.out e List.mem_cons_self
              have hx : zs[k]? = some zs[k] := List.getElem?_eq_getElem (by omega)
              generalize zs[k]'(by omega) = z at hx
              have hzw := (hz.out.below h.out.below)
              obtain ⟨z0, z1⟩ := bounds_u8 (hz.out.wf z (List.mem_of_getElem? hx))
              have hp := hPz.out k z hx
              obtain ⟨p, hpk⟩ : ∃ p, P k = p := ⟨_, rfl⟩
              rw [hpk] at hp
              obtain ⟨p0, p1⟩ := hP4.out k
              rw [hpk] at p0 p1
              obtain ⟨d, hd⟩ : ∃ d : Int, d = (k : Int) + 1 := ⟨_, rfl⟩
              have he2 : e = oE d p 0 := by rw [he, hd, ← hpk]; rfl
              have hlt2 := hle.out e List.mem_cons_self
              rw [less_iff] at hlt2
              subst he2
              have hlt3 : p < lst.prio ∨ lst.prio = p ∧ lst.id < d := hlt2
              have ct : Hid (Calls Try.prog 11 #[rptr rk] wr fun r w' => r = .returned (.tuple #[oV d p 0, .bool true]) ∧ RackIs w.heap.size w (w'.alloc (enO (oE d p 0))) rk L' [(w'.heap.size, enO (oE d p 0)), (lb, enO lst)] ∧ ∀ n, RackIs w.heap.size w (enPut ((w'.alloc (enO (oE d p 0))).drewN n) lb (oE d p 0)) rk L' [(lb, enO (oE d p 0))]) := Lib.hid (by
                refine (rk_take h.out).mono ?_
                rintro r w' ⟨rfl, h3⟩
                have h4 := h3.alloc (enO (oE d p 0))
                refine ⟨rfl, h4, fun n => ?_⟩
                have h5 : RackIs w.heap.size w ((w'.alloc (enO (oE d p 0))).drewN n) rk L' [(lb, enO lst)] := (h4.grow (drewN_below _ n)).sub (List.sublist_cons_self _ _)
                obtain ⟨S, s1, s2⟩ := h5.beside
                exact s2 _ _ (((s1.perm List.perm_middle).enPut (e := oE d p 0)).perm List.perm_middle.symm))
              have hform2 : Hid (∀ e ∈ L', ∃ k, k < n ∧ e = xE P k) := Lib.hid fun e he => hform.out e (List.mem_cons_of_mem _ he)
              have hle2 : Hid (∀ e ∈ L', lessE (oE d p 0) e = true) := Lib.hid fun e he => (List.pairwise_cons.1 h.out.ok.sorted).1 e he
              have hL2 : L'.length = n - (i + 1) := by rw [List.length_cons] at hL; omega
              have d1 : (1 : Int) ≤ d := by omega
              have d2 : d ≤ n := by omega
              have d3 : d - 1 = k := by omega
              have k0 : (0 : Int) ≤ k := by omega
              have k1 : (k : Int) < n := by omega
              have zc : ∀ W, Below wr.heap.size wr W → ∃ ba oa, a = some ⟨ba, oa, none⟩ ∧ W.cell? ⟨ba, oa + k, none⟩ = some (.int .u8 z) := fun W hb => (hzw.below hb).at_ k z hx
              have hB : wr.heap.size = wr.heap.size := rfl
              have hzk : Hid (∀ W, Below w.heap.size w W → ∃ ba oa, a = some ⟨ba, oa, none⟩ ∧ W.cell? ⟨ba, oa + k, none⟩ = some (.int .u8 z)) := Lib.hid fun W hb => (hz.out.below hb).at_ k z hx
              clear h hle hform hx hpk he hd hlt2 hL hzw hB
              clear zc
              go_wp2_with fail
              refine ct.out.mono ?_
              rintro r w3 ⟨rfl, h4, h5⟩
              have e4 := fun n => ((h4.grow (drewN_below _ n)).at_block (k := w3.heap.size) (e := oE d p 0) (by simp)).1
              have l4 := fun n => ((h4.grow (drewN_below _ n)).at_block (k := lb) (e := lst) (by simp))
              obtain ⟨ba, oa, rfl, cz⟩ := hzk.out _ h4.below
              obtain ⟨x0, x1, x2, x3, x4, x5, x6, x7, x8, x9⟩ := e4 0
              obtain ⟨⟨y0, y1, y2, y3, y4, y5, y6, y7, y8, y9⟩, ys⟩ := l4 0
              change (w3.alloc (enO (oE d p 0))).cell? _ = _ at x0 x1 x2 x3 x4 x5 x6 x7 x8 x9 y0 y1 y2 y3 y4 y5 y6 y7 y8 y9
              replace e4 := Lib.hid e4
              replace l4 := Lib.hid l4
              replace h5 := Lib.hid h5
              clear ct h4 ys hzk
              rcases hlt3 with hlt3 | ⟨hlt3, hlt4⟩
              · have hpB : (p == lst.prio) = false := by rw [beq_eq_false_iff_ne]; omega
                have hpC : ¬ p > lst.prio := by omega
                go_wp2_with fail
                generalize w3.heap.size = eb at *
                generalize w3.alloc (enO (oE d p 0)) = V at *
                have hwk : IntKind.i64.wrap (k : Int) = k := by rw [IntKind.wrap_i64]; omega
                have hwp : IntKind.i64.wrap p = p := by rw [IntKind.wrap_i64]; omega
                have hzt : z.tmod 4 = p := by rw [Int.tmod_eq_emod_of_nonneg (by omega)]; exact hp
                go_quiet (fail)
                obtain ⟨x0, x1, x2, x3, x4, x5, x6, x7, x8, x9⟩ := e4.out nq
                obtain ⟨⟨y0, y1, y2, y3, y4, y5, y6, y7, y8, y9⟩, ys⟩ := l4.out nq
                replace h5 := Lib.hid (h5.out nq)
                clear e4 l4 cz
                generalize V.drewN nq = V2 at *
                go_wp2_with fail
                go_roundg (n - (i + 1))
                case measure => omega
                case rel => exact ⟨i + 1, L', _, by go_num, by omega, hL2, hform2, hle2, h5⟩
              · have hpC : ¬ d ≤ lst.id := by omega
                rw [hlt3] at y5
                clear hlt3
                go_wp2_with fail
                generalize w3.heap.size = eb at *
                generalize w3.alloc (enO (oE d p 0)) = V at *
                have hwk : IntKind.i64.wrap (k : Int) = k := by rw [IntKind.wrap_i64]; omega
                have hwp : IntKind.i64.wrap p = p := by rw [IntKind.wrap_i64]; omega
                have hzt : z.tmod 4 = p := by rw [Int.tmod_eq_emod_of_nonneg (by omega)]; exact hp
                go_quiet (fail)
                obtain ⟨x0, x1, x2, x3, x4, x5, x6, x7, x8, x9⟩ := e4.out nq
                obtain ⟨⟨y0, y1, y2, y3, y4, y5, y6, y7, y8, y9⟩, ys⟩ := l4.out nq
                replace h5 := Lib.hid (h5.out nq)
                clear e4 l4 cz
                generalize V.drewN nq = V2 at *
                go_wp2_with fail
                go_roundg (n - (i + 1))
                case measure => omega
                case rel => exact ⟨i + 1, L', _, by go_num, by omega, hL2, hform2, hle2, h5⟩
            · have hg : gk = 0 := by omega
              subst hg
              have hLn : L = [] := List.eq_nil_of_length_eq_zero hL
              subst hLn
              have cl := Lib.hid (rk_len h.out)
              have fin := Lib.hid h.out.below
              clear h hle hform hL
              go_wp2_with fail
              refine cl.out.mono ?_
              rintro r w3 ⟨rfl, rfl⟩
              clear cl
              go_wp2_with fail
              go_ret
              exact ⟨rfl, fin.out⟩
end
end Go.Proofs.Ytofkakcnipaheaa
