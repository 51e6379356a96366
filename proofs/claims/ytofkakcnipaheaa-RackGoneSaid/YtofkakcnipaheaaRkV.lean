/- The statement of layer 15 about those whose time is over. -/
import Derived.Test.YtofkakcnipaheaaRkU
namespace Go.Proofs.Ytofkakcnipaheaa
open Go.RowKit
open Go.ChangeMaps (setBlock)
set_option linter.unusedVariables false
set_option linter.unusedSectionVars false
set_option linter.unusedSimpArgs false
set_option maxRecDepth 100000

theorem filter_two (f : Ent → Bool) : ∀ (M : List Ent), (M.filter f).length + (M.filter fun x => !f x).length = M.length
  | [] => rfl
  | x :: M => by
    have ih := filter_two f M
    cases hf : f x with
    | true => rw [List.filter_cons_of_pos hf, List.filter_cons_of_neg (by simp [hf]), List.length_cons, List.length_cons]; omega
    | false => rw [List.filter_cons_of_neg (by simp [hf]), List.filter_cons_of_pos (by simp [hf]), List.length_cons, List.length_cons]; omega
/-- So many are put, so many of them are over. -/
structure GoX (now : Int) (i q : Nat) (M : List Ent) : Prop where
  ok : RkOk M
  ids : ∀ e ∈ M, e.id ≤ i
  len : M.length = i
  want : (M.filter fun x => goneE x now).length = q
theorem GoX.start (now : Int) : GoX now 0 0 [] := ⟨RkOk.nil, by simp, rfl, rfl⟩
theorem GoX.put {now : Int} {i q : Nat} {M : List Ent} (h : GoX now i q M) {p t : Int} (hp : 0 ≤ p ∧ p ≤ 3) :
    putOk M (oE ((i : Int) + 1) p t) = true ∧ GoX now (i + 1) (if 0 < t ∧ t ≤ now then q + 1 else q) (putM M (oE ((i : Int) + 1) p t)) := by
  have hin : (oE ((i : Int) + 1) p t).id ∉ M.map (·.id) := fun hm => by
    obtain ⟨e, he, e1⟩ := List.mem_map.1 hm
    have h1 := h.ids e he
    have h2 : e.id = (i : Int) + 1 := e1
    omega
  have h0 : putOk M (oE ((i : Int) + 1) p t) = true := by
    simp only [putOk, decide_eq_true_eq]
    exact ⟨hin, hp⟩
  refine ⟨h0, ?_⟩
  unfold putM
  rw [if_pos h0]
  refine ⟨h.ok.ins hp fun x hx e => hin (e ▸ List.mem_map_of_mem hx), fun e he => ?_, by rw [ins_len, h.len], ?_⟩
  · rcases mem_ins.1 he with rfl | he
    · show (i : Int) + 1 ≤ _
      omega
    · have := h.ids e he
      omega
  · rw [((ins_perm _ M).filter _).length_eq]
    by_cases hg : 0 < t ∧ t ≤ now
    · rw [if_pos hg, List.filter_cons_of_pos (by simpa [goneE] using hg), List.length_cons, h.want]
    · rw [if_neg hg, List.filter_cons_of_neg (by simpa [goneE] using hg), h.want]

section
variable {B : Nat} {w0 w : World} {rk : Nat} {M N : List Ent} {F : List (Nat × Obj)} {n : Nat}
set_option maxHeartbeats 8000000 in
theorem gone_walk {a : Option Addr} {n cap t : Nat} {zs : List Int} (hz : IntsAt .u8 w a n zs) (ht : t < 256) :
    Calls Try.prog 6 #[.slice a n cap, .int .u8 t] w fun e w' => e = .returned (.bool true) ∧ Below w.heap.size w w' := by
  have c1 := Lib.hid (known15_true w)
  have hlen := hz.size
  replace hz := Lib.hid hz
  obtain ⟨now, hnow⟩ : ∃ now, now = t % 24 := ⟨_, rfl⟩
  have hn24 : now < 24 := by omega
  have htn : (t : Int) % 24 = now := by omega
  go_enter Try.func6, Try.ntmps6
  go_wp2_with fail
  refine c1.out.mono ?_
  rintro e w1 ⟨rfl, hb⟩
  by_cases hn : (n : Int) > 50
  · replace hb := Lib.hid hb
    go_wp2_with fail
    go_ret
    exact ⟨rfl, hb.out⟩
  have hn5 : (n : Int) ≤ 50 := by omega
  have c2 := Lib.hid (rk_new ((St.start w).grow hb))
  clear c1 hb hn
  go_wp2_with fail
  refine c2.out.mono ?_
  rintro e w2 ⟨rfl, h⟩
  generalize w1.heap.size = rk at *
  replace h := Lib.hid h
  clear c2
  have n0 : (0 : Int) ≤ now := by omega
  have n1 : (now : Int) ≤ 23 := by omega
  clear hnow hn24
  go_wp2_with fail
  go_loopg [6, 7] n (fun g v6 v7 wr => ∃ (i q : Nat) (M : List Ent), v7 = .int .i64 i ∧ v6 = .int .i64 q ∧ i + g = n ∧ q ≤ i ∧ Hid (GoX now i q M) ∧ Hid (RackIs w.heap.size w wr rk M []))
  case atStart => exact ⟨0, 0, [], rfl, rfl, by omega, Nat.le_refl _, Lib.hid (GoX.start _), h⟩
  case round =>
    clear h
    obtain ⟨i, q, M, rfl, rfl, hi, hq, hM, h⟩ := hrel
    have i0 : (0 : Int) ≤ i := by omega
    by_cases hlt : i < n
    · have i1 : (i : Int) < n := by omega
      have hx : zs[i]? = some zs[i] := List.getElem?_eq_getElem (by omega)
      generalize zs[i]'(by omega) = z at hx
      have hzI : Hid (∀ W, Below w.heap.size w W → ∃ ba oa, a = some ⟨ba, oa, none⟩ ∧ W.cell? ⟨ba, oa + i, none⟩ = some (.int .u8 z)) := Lib.hid fun W hb => (hz.out.below hb).at_ i z hx
      obtain ⟨ba, oa, rfl, cz⟩ := hzI.out _ h.out.below
      obtain ⟨z0, z1⟩ := bounds_u8 (hz.out.wf z (List.mem_of_getElem? hx))
      obtain ⟨τ, hτ⟩ : ∃ τ, z % 20 = τ := ⟨_, rfl⟩
      obtain ⟨p, hp⟩ : ∃ p, (i : Int) % 3 = p := ⟨_, rfl⟩
      have t0 : 0 ≤ τ := by omega
      have t1 : τ ≤ 19 := by omega
      have p0 : 0 ≤ p := by omega
      have p1 : p ≤ 2 := by omega
      have hput := hM.out.put (p := p) (t := τ) ⟨p0, by omega⟩
      have cp := Lib.hid (put_to (n := (i : Int) + 1) (p := p) (t := τ) hput.1 rfl h.out (by have := hM.out.len; omega))
      have hM2 := Lib.hid hput.2
      clear hx hput hM h
      go_wp2_with fail
      refine cp.out.mono ?_
      rintro r w3 ⟨rfl, h2⟩
      have cz2 : w3.cell? ⟨ba, oa + i, none⟩ = some (.int .u8 z) := by
        obtain ⟨b', o', e, hc⟩ := hzI.out _ h2.below
        cases e
        exact hc
      replace h2 := Lib.hid h2
      clear cp cz hzI
      by_cases hg1 : 0 < τ
      · by_cases hg2 : τ ≤ now
        · rw [if_pos ⟨hg1, hg2⟩] at hM2
          go_wp2_with fail
          go_roundg (n - (i + 1))
          case measure => omega
          case rel => exact ⟨i + 1, q + 1, _, by go_num, by go_num, by omega, by omega, hM2, h2⟩
        · rw [if_neg (fun h => hg2 h.2)] at hM2
          go_wp2_with fail
          go_roundg (n - (i + 1))
          case measure => omega
          case rel => exact ⟨i + 1, q, _, by go_num, by go_num, by omega, by omega, hM2, h2⟩
      · rw [if_neg (fun h => hg1 h.1)] at hM2
        go_wp2_with fail
        go_roundg (n - (i + 1))
        case measure => omega
        case rel => exact ⟨i + 1, q, _, by go_num, by go_num, by omega, by omega, hM2, h2⟩
    · have hin : i = n := by omega
      have hMl := hM.out.len
      have hw := hM.out.want
      have hMo := Lib.hid hM.out.ok
      have hq1 : (q : Int) ≤ 50 := by omega
      have hq0 : (0 : Int) ≤ q := by omega
      have cg := Lib.hid (rk_gone h.out now)
      have htwo := filter_two (fun x => goneE x now) M
      have hnq : (n : Int) - q = ((M.filter fun x => !goneE x now).length : Nat) := by omega
      have hagain : (M.filter fun x => !goneE x now).filter (fun x => goneE x now) = [] := by
        rw [List.filter_filter, List.filter_eq_nil_iff]
        intro x _
        cases goneE x now <;> simp
      have hG : Hid (∀ x ∈ M.filter (fun x => goneE x now), 1 ≤ x.til ∧ x.til ≤ now) := Lib.hid fun x hx => by
        have := (List.mem_filter.1 hx).2
        simp only [goneE, decide_eq_true_eq] at this
        omega
      have hGs : Hid ((M.filter fun x => goneE x now).Pairwise fun a b => lessE a b = true) := Lib.hid (hMo.out.sorted.sublist List.filter_sublist)
      replace hnq := Lib.hid hnq
      replace hagain := Lib.hid hagain
      replace htwo := Lib.hid htwo
      clear hM hi h hz hMo
      go_wp2_with fail
      refine cg.out.mono ?_
      rintro r w3 ⟨ag, c, S, rfl, hS, h⟩
      have hrd : Hid (∀ m, ReadEs (w3.drewN m) ag (M.filter fun x => goneE x now)) := Lib.hid fun m => (h.grow (drewN_below _ m)).reads (X := []) hS (by simp)
      have hRk : Hid (∀ m, RackIs w.heap.size w (w3.drewN m) rk (M.filter fun x => !goneE x now) (S ++ [])) := Lib.hid fun m => h.grow (drewN_below _ m)
      have hMq : Hid ((M.filter fun x => goneE x now).length = q) := Lib.hid hw
      rw [hw]
      have hlow : (M.filter fun x => !goneE x now).length ≤ 50 := by have := htwo.out; omega
      clear cg hS h hw hin hMl
      generalize M.filter (fun x => goneE x now) = G at *
      go_wp2_with fail
      go_loopg [9] q (fun g v9 wr => ∃ i m : Nat, v9 = .int .i64 i ∧ i + g = q ∧ wr = w3.drewN m)
      case atStart => exact ⟨0, 0, rfl, by omega, rfl⟩
      case round =>
        obtain ⟨i, m, rfl, hi, rfl⟩ := hrel
        have i0 : (0 : Int) ≤ i := by omega
        by_cases hlt : i < q
        · have i1 : (i : Int) < q := by omega
          obtain ⟨x, hx⟩ : ∃ x, G[i]? = some x := ⟨_, List.getElem?_eq_getElem (show i < G.length by rw [hMq.out]; exact hlt)⟩
          obtain ⟨t0, t1⟩ := hG.out x (List.mem_of_getElem? hx)
          have hwn : IntKind.i64.wrap (now : Int) = now := by rw [IntKind.wrap_i64]; omega
          have htt : (t : Int).tmod 24 = now := by rw [Int.tmod_eq_emod_of_nonneg (by omega)]; exact htn
          by_cases hz : i = 0
          · subst hz
            obtain ⟨b1, o1, rfl, hrow⟩ := hrd.out m 0 x hx
            rw [Nat.zero_mul, Nat.add_zero] at hrow
            obtain ⟨x0, x1, x2, x3, x4, x5, x6, x7, x8, x9⟩ := hrow
            generalize hV : w3.drewN m = V at *
            replace hV := Lib.hid hV
            clear hx i0 i1
            have q1 : (0 : Int) < q := by omega
            have ht1 : decide (x.til < 1) = false := decide_eq_false (by omega)
            have ht2 : decide ((now : Int) < x.til) = false := decide_eq_false (by omega)
            clear t0 t1
            simp only [Int.cast_ofNat_Int]
            go_wp2_with fail
            go_quiet (fail)
            go_wp2_with fail
            go_roundg (q - 1)
            case measure => omega
            case rel => exact ⟨1, _, rfl, by omega, by rw [← hV.out]; exact drew_drew _ _ _⟩
          · obtain ⟨j, hj⟩ : ∃ j, j = i - 1 := ⟨_, rfl⟩
            obtain ⟨y, hy⟩ : ∃ y, G[j]? = some y := ⟨_, List.getElem?_eq_getElem (show j < G.length by rw [hMq.out]; omega)⟩
            have hyx : lessE y x = true := by
              obtain ⟨a1, a2⟩ := List.getElem?_eq_some_iff.1 hy
              obtain ⟨b1, b2⟩ := List.getElem?_eq_some_iff.1 hx
              rw [← a2, ← b2]
              exact List.pairwise_iff_getElem.1 hGs.out j i a1 b1 (by omega)
            rw [less_iff] at hyx
            have hi8 : decide (0 < i) = true := decide_eq_true (by omega)
            have ht1 : decide (x.til < 1) = false := decide_eq_false (by omega)
            have ht2 : decide ((now : Int) < x.til) = false := decide_eq_false (by omega)
            clear t0 t1
            have hj1 : (i : Int) - 1 = j := by omega
            have hwj : IntKind.i64.wrap (j : Int) = j := by rw [IntKind.wrap_i64]; omega
            have j0 : (0 : Int) ≤ j := by omega
            have j1 : (j : Int) < q := by omega
            obtain ⟨b1, o1, rfl, x0, x1, x2, x3, x4, x5, x6, x7, x8, x9⟩ := hrd.out m i x hx
            obtain ⟨b2, o2, e9, y0, y1, y2, y3, y4, y5, y6, y7, y8, y9⟩ := hrd.out m j y hy
            cases e9
            generalize hV : w3.drewN m = V at *
            replace hV := Lib.hid hV
            clear hx hy hz hj
            rcases hyx with hyx | ⟨hyx, hyi⟩
            · have hB : (y.prio == x.prio) = false := by rw [beq_eq_false_iff_ne]; omega
              have hC : decide (y.prio < x.prio) = false := decide_eq_false (by omega)
              clear hyx
              go_wp2_with fail
              go_quiet (fail)
              go_wp2_with fail
              go_roundg (q - (i + 1))
              case measure => omega
              case rel => exact ⟨i + 1, _, by go_num, by omega, by rw [← hV.out]; exact drew_drew _ _ _⟩
            · have hC : decide (x.id ≤ y.id) = false := decide_eq_false (by omega)
              rw [hyx] at y5
              clear hyx hyi
              go_wp2_with fail
              go_quiet (fail)
              go_wp2_with fail
              go_roundg (q - (i + 1))
              case measure => omega
              case rel => exact ⟨i + 1, _, by go_num, by omega, by rw [← hV.out]; exact drew_drew _ _ _⟩
        · have hR := hRk.out m
          have cl := Lib.hid (rk_len hR)
          have cg : Hid (Calls Try.prog 17 #[rptr rk, .int .i64 now] (w3.drewN m) fun r w' => (∃ a c, r = .returned (.slice a 0 c)) ∧ Below w.heap.size w w') := Lib.hid (by
            refine (rk_gone hR now).mono ?_
            rintro r w' ⟨a', c', S', rfl, -, h'⟩
            refine ⟨⟨a', c', ?_⟩, h'.below⟩
            rw [hagain.out]
            rfl)
          have fin := hnq.out
          have L0 : (((M.filter fun x => !goneE x now).length : Nat) : Int) ≤ 50 := by omega
          clear hR hrd hRk hG hGs
          generalize (M.filter fun x => !goneE x now).length = L at *
          replace htwo := Lib.hid htwo
          go_wp2_with fail
          refine cl.out.mono ?_
          rintro r w5 ⟨rfl, rfl⟩
          clear cl
          go_wp2_with fail
          refine cg.out.mono ?_
          rintro r w6 ⟨⟨a', c', rfl⟩, hb⟩
          replace hb := Lib.hid hb
          clear cg
          go_wp2_with fail
          go_ret
          exact ⟨rfl, hb.out⟩
end
end Go.Proofs.Ytofkakcnipaheaa
