/- The statement of layer 16 about who goes when there is no room. -/
import Derived.Test.YtmmagapggmcceaaQuG
import Derived.Test.YtmmagapggmcceaaInR
namespace Go.Proofs.Ytmmagapggmcceaa
open Go.RowKit
open Go.ChangeMaps (setBlock)
set_option linter.unusedVariables false
set_option linter.unusedSectionVars false
set_option linter.unusedSimpArgs false
set_option maxRecDepth 100000

def qE (P : Nat → Int) (k : Nat) : Ent := oE ((k : Int) + 1) (P k) 0
/-- All of the first i, by number. -/
structure AllX (P : Nat → Int) (i : Nat) (M : List Ent) : Prop where
  ok : RkOk M
  mem : ∀ e, e ∈ M ↔ ∃ k, k < i ∧ e = qE P k
section
variable {P : Nat → Int} {n k i j : Nat} {M L : List Ent} {o : Opt} {W N : List Ent} {ok : Bool}
theorem qE_inj {a b : Nat} (h : qE P a = qE P b) : a = b := by
  have : (a : Int) + 1 = (b : Int) + 1 := congrArg Ent.id h
  omega
theorem AllX.nil : AllX P 0 [] := ⟨RkOk.nil, fun e => by simp⟩
theorem RkOk.nodup' (h : RkOk M) : M.Nodup := by
  exact List.Pairwise.of_map (·.id) (fun a b h e => h (congrArg _ e)) h.ids
theorem AllX.len (h : AllX P i M) : M.length = i := by
  classical
  have h1 : ((List.range i).map (qE P)).Nodup := List.Pairwise.map _ (fun a b hab e => hab (qE_inj e)) (List.nodup_range (n := i))
  have hp : M.Perm ((List.range i).map (qE P)) := (List.perm_ext_iff_of_nodup h.ok.nodup' h1).2 fun e => by
    rw [h.mem, List.mem_map]
    constructor
    · rintro ⟨k, hk, rfl⟩
      exact ⟨k, List.mem_range.2 hk, rfl⟩
    · rintro ⟨k, hk, rfl⟩
      exact ⟨k, List.mem_range.1 hk, rfl⟩
  rw [hp.length_eq, List.length_map, List.length_range]
theorem AllX.put (h : AllX P i M) (hp : 0 ≤ P i ∧ P i ≤ 3) : putOk M (qE P i) = true ∧ AllX P (i + 1) (insM (qE P i) M) := by
  have hn : ∀ x ∈ M, x.id ≠ (qE P i).id := fun x hx e => by
    obtain ⟨k, hk, rfl⟩ := (h.mem x).1 hx
    have : (k : Int) + 1 = (i : Int) + 1 := e
    omega
  refine ⟨?_, h.ok.ins hp hn, fun e => ?_⟩
  · simp only [putOk, decide_eq_true_eq]
    refine ⟨fun hm => ?_, hp⟩
    obtain ⟨x, hx, e⟩ := List.mem_map.1 hm
    exact hn x hx e
  · rw [mem_ins, h.mem]
    constructor
    · rintro (rfl | ⟨k, hk, rfl⟩)
      · exact ⟨i, by omega, rfl⟩
      · exact ⟨k, by omega, rfl⟩
    · rintro ⟨k, hk, rfl⟩
      rcases (by omega : k < i ∨ k = i) with h9 | rfl
      · exact .inr ⟨k, h9, rfl⟩
      · exact .inl rfl
/-- The first one of the least Prio among the first i. -/
def LowAt (P : Nat → Int) (i j : Nat) : Prop := (i = 0 ∧ j = 0) ∨ (j < i ∧ ∀ k, k < i → P j < P k ∨ P j = P k ∧ j ≤ k)
theorem LowAt.step (h : LowAt P i j) : (P i < P j → LowAt P (i + 1) i) ∧ (¬ P i < P j → LowAt P (i + 1) j) := by
  rcases h with ⟨rfl, rfl⟩ | ⟨h1, h2⟩
  · refine ⟨fun h => absurd h (by omega), fun _ => .inr ⟨by omega, fun k hk => ?_⟩⟩
    have : k = 0 := by omega
    subst this
    omega
  · refine ⟨fun h => .inr ⟨by omega, fun k hk => ?_⟩, fun h => .inr ⟨by omega, fun k hk => ?_⟩⟩
    · rcases (by omega : k < i ∨ k = i) with h9 | rfl
      · have := h2 k h9
        omega
      · omega
    · rcases (by omega : k < i ∨ k = i) with h9 | rfl
      · exact h2 k h9
      · omega
theorem AllX.worst (h : AllX P i M) (hl : LowAt P i j) (h0 : 0 < i) : IsWorst M (qE P j) := by
  rcases hl with ⟨rfl, -⟩ | ⟨h1, h2⟩
  · omega
  · refine ⟨(h.mem _).2 ⟨j, h1, rfl⟩, fun x hx => ?_⟩
    obtain ⟨k, hk, rfl⟩ := (h.mem x).1 hx
    have := h2 k hk
    show P j < P k ∨ P j = P k ∧ (j : Int) + 1 ≤ (k : Int) + 1
    omega
end
section
variable {B : Nat} {w0 w : World} {qb i n : Nat} {P : Nat → Int} {M : List Ent} {F : List (Nat × Obj)}
/-- One of them put where there is room. -/
theorem put_h {o : Opt} (h : QuIs B w0 w qb o M F) (hx : AllX P i M) (hp : 0 ≤ P i ∧ P i ≤ 3) (ho : o.prio = 3 ∧ o.ttl = 0) (hi : (i : Int) < limitO o) (hi2 : i < 90000) {p : Int} (hpk : P i = p) :
    Calls Try.prog 9 #[rptr qb, oV ((i : Int) + 1) p 0, .int .i64 0] w fun r w' => (∃ v M', r = .returned (.tuple #[.bool true, v]) ∧ AllX P (i + 1) M' ∧ QuIs B w0 w' qb o M' F) := by
  subst hpk
  have hlen := hx.len
  refine (put_q (for_plain hp.1 (by rw [ho.1]; exact hp.2) ho.2) h (by omega)).mono ?_
  rintro r w' ⟨ok, W, N, a, c, S, rfl, hP, hs, h'⟩
  obtain ⟨h1, h2⟩ := hx.put hp
  obtain ⟨rfl, rfl, rfl⟩ := hP.room h1 (by omega)
  exact ⟨_, _, rfl, h2, h'.sub (List.sublist_append_right _ _)⟩
theorem last_h {o : Opt} {t : Int} {j : Nat} (h : QuIs B w0 w qb o M F) (hx : AllX P n M) (hl : LowAt P n j) (h0 : 0 < n) (h9 : n ≤ 20) (ht : 0 ≤ t ∧ t ≤ 3) (ho : o.prio = 3 ∧ o.ttl = 0 ∧ rejO o = false) (hi : limitO o = n) :
    Calls Try.prog 9 #[rptr qb, oV 99 t 0, .int .i64 0] w fun r w' => (∃ ba oa c N, r = .returned (.tuple #[.bool true, .slice (some ⟨ba, oa, none⟩) 1 c]) ∧ w'.cell? ⟨ba, oa, none⟩ = some (.int .i64 ((j : Int) + 1)) ∧ N.length = n ∧ ∃ S, QuIs B w0 w' qb o N (S ++ F)) := by
  have hlen := hx.len
  refine (put_q (for_plain ht.1 (by rw [ho.1]; exact ht.2) ho.2.1) h (by omega)).mono ?_
  rintro r w' ⟨ok, W, N, a, c, S, rfl, hP, hs, h'⟩
  have hok : putOk M (oE 99 t 0) = true := by
    simp only [putOk, decide_eq_true_eq]
    refine ⟨fun hm => ?_, ht⟩
    obtain ⟨x, hxm, e⟩ := List.mem_map.1 hm
    obtain ⟨k, hk, rfl⟩ := (hx.mem x).1 hxm
    have : (k : Int) + 1 = 99 := e
    omega
  obtain ⟨rfl, x, rfl, hw, rfl⟩ := hP.full hx.ok hok (by omega) ho.2.2
  have hxj := hw.eq hx.ok (hx.worst hl h0)
  subst hxj
  have hd := del_len hx.ok hw.mem
  obtain ⟨ba, oa, rfl, d0, -⟩ := h'.reads (X := F) hs List.perm_append_comm 0 _ rfl
  refine ⟨ba, oa, c, _, rfl, ?_, ?_, S, h'⟩
  · rw [Nat.zero_mul, Nat.add_zero] at d0
    exact d0
  · rw [ins_len]; omega

set_option maxHeartbeats 4000000 in
theorem drops_walk {w : World} {a : Option Addr} {n cap t : Nat} {zs : List Int} (hz : IntsAt .u8 w a n zs) (ht : t < 256) :
    Calls Try.prog 4 #[.slice a n cap, .int .u8 t] w fun e w' => e = .returned (.bool true) ∧ Below w.heap.size w w' := by
  have c1 := Lib.hid (known16_true w)
  have hlen := hz.size
  replace hz := Lib.hid hz
  go_enter Try.func4, Try.ntmps4
  go_wp2_with fail
  refine c1.out.mono ?_
  rintro e w1 ⟨rfl, hb⟩
  by_cases hn0 : n = 0
  · subst hn0
    replace hb := Lib.hid hb
    simp only [Int.cast_ofNat_Int]
    go_wp2_with fail
    go_ret
    exact ⟨rfl, hb.out⟩
  have hn1 : ¬ (n : Int) < 1 := by omega
  by_cases hn : (n : Int) > 20
  · replace hb := Lib.hid hb
    go_wp2_with fail
    go_ret
    exact ⟨rfl, hb.out⟩
  have hn5 : (n : Int) ≤ 20 := by omega
  have c2 := Lib.hid (new_to (m := n) (t := 0) (p := 3) (b := 0) ((St.start w).grow hb))
  clear c1 hb hn
  go_wp2_with fail
  refine c2.out.mono ?_
  rintro e w2 ⟨qb, rfl, h⟩
  replace h := Lib.hid h
  clear c2
  obtain ⟨o, ho⟩ : ∃ o, o = oO n 0 3 0 := ⟨_, rfl⟩
  rw [← ho] at h
  have ho1 : Hid (o.prio = 3 ∧ o.ttl = 0 ∧ rejO o = false ∧ limitO o = n) := Lib.hid (by
    subst ho
    refine ⟨rfl, rfl, (show (!(bits .and .i64 0 4 == 0)) = false by decide), ?_⟩
    unfold limitO
    rw [if_pos (by show 1 ≤ (n : Int) ∧ (n : Int) ≤ 60; omega)])
  obtain ⟨P, hP⟩ : ∃ P : Nat → Int, P = fun k => zs.getD k 0 % 4 := ⟨_, rfl⟩
  have hP4 : Hid (∀ k, 0 ≤ P k ∧ P k ≤ 3) := Lib.hid fun k => by
    subst hP
    show 0 ≤ zs.getD k 0 % 4 ∧ zs.getD k 0 % 4 ≤ 3
    omega
  have hPz : Hid (∀ k z, zs[k]? = some z → z % 4 = P k) := Lib.hid fun k z hk => by rw [hP]; simp [hk]
  clear hP ho
  go_wp2_with fail
  go_loopg [6, 7] n (fun g v6 v7 wr => ∃ (i j : Nat) (M : List Ent), v6 = .int .i64 j ∧ v7 = .int .i64 i ∧ i + g = n ∧ j ≤ i ∧ Hid (AllX P i M ∧ LowAt P i j) ∧ Hid (QuIs w.heap.size w wr qb o M []))
  case atStart => exact ⟨0, 0, [], rfl, rfl, by omega, by omega, Lib.hid ⟨AllX.nil, .inl ⟨rfl, rfl⟩⟩, h⟩
  case round =>
    clear h
    obtain ⟨i, j, M, rfl, rfl, hi, hji, hM, h⟩ := hrel
    have hi0 : (0 : Int) ≤ i := by omega
    by_cases hlt : i < n
    · have hi1 : (i : Int) < n := by omega
      have hx : zs[i]? = some zs[i] := List.getElem?_eq_getElem (by omega)
      generalize zs[i]'(by omega) = z at hx
      have hy : zs[j]? = some zs[j] := List.getElem?_eq_getElem (by omega)
      generalize zs[j]'(by omega) = y at hy
      have hzw := (hz.out.below h.out.below)
      obtain ⟨ba, oa, rfl, cz⟩ := hzw.at_ i z hx
      obtain ⟨z0, z1⟩ := bounds_u8 (hz.out.wf z (List.mem_of_getElem? hx))
      obtain ⟨y0, y1⟩ := bounds_u8 (hz.out.wf y (List.mem_of_getElem? hy))
      have hp := hPz.out i z hx
      have hq := hPz.out j y hy
      obtain ⟨p, hpk⟩ : ∃ p, P i = p := ⟨_, rfl⟩
      obtain ⟨q, hqk⟩ : ∃ q, P j = q := ⟨_, rfl⟩
      rw [hpk] at hp
      rw [hqk] at hq
      have cp := Lib.hid (put_h h.out hM.out.1 (hP4.out i) ⟨ho1.out.1, ho1.out.2.1⟩ (by have := ho1.out.2.2.2; omega) (by omega) hpk)
      have hp4 := hP4.out i
      rw [hpk] at hp4
      obtain ⟨p0, p1⟩ := hp4
      have hstep := hM.out.2.step
      rw [hpk, hqk] at hstep
      replace hstep := Lib.hid hstep
      have hcells : Hid (∀ W, Below w.heap.size w W → W.cell? ⟨ba, oa + i, none⟩ = some (.int .u8 z) ∧ W.cell? ⟨ba, oa + j, none⟩ = some (.int .u8 y)) := Lib.hid fun W hb => by
        obtain ⟨b1, o1, e1, d1⟩ := (hz.out.below hb).at_ i z hx
        cases e1
        obtain ⟨b2, o2, e2, d2⟩ := (hz.out.below hb).at_ j y hy
        cases e2
        exact ⟨d1, d2⟩
      have j0 : (0 : Int) ≤ j := by omega
      have j1 : (j : Int) < n := by omega
      clear hx hy hzw hpk hqk hM h
      go_wp2_with fail
      refine cp.out.mono ?_
      rintro r w3 ⟨v, M2, rfl, hM2, h2⟩
      obtain ⟨cz, cy⟩ := hcells.out _ h2.below
      have hdr : Hid (∀ m, QuIs w.heap.size w (w3.drewN m) qb o M2 []) := Lib.hid fun m => h2.grow (drewN_below _ m)
      replace hM2 := Lib.hid hM2
      clear cp h2 hcells
      have hzt : z.tmod 4 = p := by rw [Int.tmod_eq_emod_of_nonneg (by omega)]; exact hp
      have hyt : y.tmod 4 = q := by rw [Int.tmod_eq_emod_of_nonneg (by omega)]; exact hq
      by_cases hpq : p < q
      · have fin : Hid (LowAt P (i + 1) i) := Lib.hid (hstep.out.1 hpq)
        clear hstep
        go_wp2_with fail
        go_quiet (fail)
        go_wp2_with fail
        go_roundg (n - (i + 1))
        case measure => omega
        case rel => exact ⟨i + 1, i, M2, by go_num, by go_num, by omega, by omega, Lib.hid ⟨hM2.out, fin.out⟩, Lib.hid (hdr.out _)⟩
      · have fin : Hid (LowAt P (i + 1) j) := Lib.hid (hstep.out.2 (by omega))
        clear hstep
        go_wp2_with fail
        go_quiet (fail)
        go_wp2_with fail
        go_roundg (n - (i + 1))
        case measure => omega
        case rel => exact ⟨i + 1, j, M2, by go_num, by go_num, by omega, by omega, Lib.hid ⟨hM2.out, fin.out⟩, Lib.hid (hdr.out _)⟩
    · have hin : i = n := by omega
      subst hin
      have ht4 : Hid ((0 : Int) ≤ (t : Int) % 4 ∧ (t : Int) % 4 ≤ 3) := Lib.hid (by omega)
      have ct := Lib.hid (last_h (t := (t : Int) % 4) h.out hM.out.1 hM.out.2 (by omega) (by omega) ht4.out ⟨ho1.out.1, ho1.out.2.1, ho1.out.2.2.1⟩ ho1.out.2.2.2)
      clear h hM
      go_wp2_with fail
      refine ct.out.mono ?_
      rintro r w3 ⟨ba, oa, c, N, rfl, d0, hNl, S, h3⟩
      have cl := Lib.hid (len_op h3 hNl)
      have j0 : (0 : Int) ≤ j := by omega
      have j1 : (j : Int) ≤ i := by omega
      clear ct h3 hNl
      go_wp2_with fail
      refine cl.out.mono ?_
      rintro r w4 ⟨rfl, h4, -⟩
      have fin := Lib.hid h4.below
      clear cl h4 d0
      go_wp2_with fail
      go_ret
      exact ⟨rfl, fin.out⟩
end
end Go.Proofs.Ytmmagapggmcceaa
