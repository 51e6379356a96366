/- Slips: all, one taken, all up to one taken. -/
import Derived.Test.YtdkchcbmhmlhnaaSpG
import Derived.Test.YtdkchcbmhmlhnaaSpI
namespace Go.Proofs.Ytdkchcbmhmlhnaa
open Go.RowKit
set_option linter.unusedVariables false
set_option linter.unusedSectionVars false
set_option linter.unusedSimpArgs false
set_option maxRecDepth 100000

section
variable {B : Nat} {w0 w w' : World} {sb rb k : Nat} {l : List Row} {M N L E : List Slp} {F S Y : List (Nat × Obj)} {t : Int} {x y : Slp}
def SlAllR (B : Nat) (w0 : World) (sb : Nat) (F : List (Nat × Obj)) (L N : List Slp) (r : Ending) (w' : World) : Prop :=
  ∃ a c S, r = .returned (.slice a L.length c) ∧ SlsIs (.slice a L.length c) L S ∧ SlipsIs B w0 w' sb N (S ++ F)
theorem sl_all (h : SlipsIs B w0 w sb M F) : Calls Try.prog 15 #[gptr sb] w (SlAllR B w0 sb F M M) := by
  have hM := h.ok
  obtain ⟨l, hl, h⟩ := h
  have cn := not_any hl h 1000000
  rw [upto_all hM] at cn
  replace cn := Lib.hid cn
  clear h
  go_enter Try.func15, Try.ntmps15
  go_wp2_with fail
  refine cn.out.mono ?_
  rintro r w1 ⟨a, c, S, rfl, hs, h1⟩
  have fin : Hid (SlAllR B w0 sb F M M (.returned (.slice a M.length c)) w1) := Lib.hid ⟨a, c, S, rfl, hs, l, hl, h1⟩
  clear cn hs h1 hl
  generalize M.length = n at *
  go_wp2_with fail
  go_ret
  exact fin.out
theorem forget_mid (h : MidIs B w0 w sb l M F) (hx : x ∈ M) : Calls Try.prog 25 #[gptr sb, slV x] w fun e w' => e = .returned (.tuple #[]) ∧ MidIs B w0 w' sb l (dropS M x.tag) F := by
  obtain ⟨hM, tv, X, most, hm, ht, ⟨rfl, h⟩ | ⟨hb, nb, h⟩⟩ := h
  · simp at hx
  · refine (forget_any h hM hm hx).mono ?_
    rintro e w' ⟨rfl, hb', nb', m, hm', h'⟩
    exact ⟨rfl, hM.drop _, tv, X, m, hm', ht, .inr ⟨hb', nb', h'⟩⟩
theorem cut_one (hl : RowsOf l M) (h : SetAt B w0 w sb rb l M F) (t : Int) : Calls Try.prog 24 #[gptr rb, .int .i64 t, .int .i64 t] w fun r w' => ∃ (n : Int) (l' : List Row), r = .returned (.int .i64 n) ∧ RowsOf l' (dropS M t) ∧ MidIs B w0 w' sb l' M F := by
  have hM := h.is.ok
  obtain ⟨Z, h1, h2⟩ := h
  refine (rgs_cut h1 t t).mono ?_
  rintro r w' ⟨l', rfl, hm, h3⟩
  refine ⟨_, l', rfl, fun q => ?_, h2 _ _ _ h3⟩
  rw [hm, hl, drop_tags]
  refine and_congr_right fun hq => ?_
  obtain ⟨y, hy, rfl⟩ := List.mem_map.1 hq
  have := hM.fit y hy
  omega
theorem cut_upto (hl : RowsOf l M) (h : SetAt B w0 w sb rb l M F) (t : Int) : Calls Try.prog 24 #[gptr rb, .int .i64 1, .int .i64 t] w fun r w' => ∃ (n : Int) (l' : List Row), r = .returned (.int .i64 n) ∧ RowsOf l' (overS M t) ∧ MidIs B w0 w' sb l' M F := by
  have hM := h.is.ok
  obtain ⟨Z, h1, h2⟩ := h
  refine (rgs_cut h1 1 t).mono ?_
  rintro r w' ⟨l', rfl, hm, h3⟩
  refine ⟨_, l', rfl, fun q => ?_, h2 _ _ _ h3⟩
  rw [hm, hl, over_tags]
  refine and_congr_right fun hq => ?_
  obtain ⟨y, hy, rfl⟩ := List.mem_map.1 hq
  have := hM.fit y hy
  omega

set_option maxHeartbeats 1000000 in
theorem sl_take_no (h : SlipsIs B w0 w sb M F) (ht : t ∉ tagsL M) : Calls Try.prog 10 #[gptr sb, .int .i64 t] w fun e w' => e = .returned (.tuple #[slV z0L, .bool false]) ∧ SlipsIs B w0 w' sb M F := by
  have h1 := (h.alloc (slO z0L)).alloc (slO z0L)
  have m1 : (w.heap.size, slO z0L) ∈ ((w.alloc (slO z0L)).heap.size, slO z0L) :: (w.heap.size, slO z0L) :: F := List.mem_cons_of_mem _ List.mem_cons_self
  have finR := Lib.hid (h1.slip m1).1
  have finS : Hid (SlipsIs B w0 ((w.alloc (slO z0L)).alloc (slO z0L)) sb M F) := Lib.hid (h1.sub ((List.sublist_cons_self _ _).trans (List.sublist_cons_self _ _)))
  have c1 : ∃ hm, (w.alloc (slO z0L)).cell? ⟨sb, 1, none⟩ = some (.map hm) ∧ (Instr.lookup 52 (.map hm) (.int .i64 t) true).run Try.prog (w.alloc (slO z0L)) = .ok (.tuple #[slV z0L, .bool false]) (w.alloc (slO z0L)) := by
    obtain ⟨l, hl, h⟩ := h
    obtain ⟨hm, nm, hlook⟩ := h.look
    obtain ⟨c1, -, hh, -, -⟩ := hlook _ (new_below w (slO z0L))
    have := hh t true
    rw [if_pos rfl, getS_none.2 ht, hasS_no ht] at this
    exact ⟨hm, c1, this⟩
  obtain ⟨hm, c1, hlk⟩ := c1
  clear h h1 m1
  go_enter Try.func10, Try.ntmps10
  go_wp2_with fail
  exact bodyPost_ret (ret_slip4 rfl rfl rfl finR.out rfl) rfl ⟨rfl, finS.out⟩

set_option maxHeartbeats 2000000 in
theorem sl_take_yes (h : SlipsIs B w0 w sb M F) (hx : x ∈ M) : Calls Try.prog 10 #[gptr sb, .int .i64 x.tag] w fun e w' => e = .returned (.tuple #[slV x, .bool true]) ∧ SlipsIs B w0 w' sb (dropS M x.tag) F := by
  have hM := h.ok
  obtain ⟨l, hl, h⟩ := h
  have h1 : MidIs B w0 ((w.alloc (slO z0L)).alloc (slO x)) sb l M ((w.heap.size + 1, slO x) :: (w.heap.size, slO z0L) :: F) := by
    have := (h.alloc (slO z0L)).alloc (slO x)
    rw [World.size_alloc] at this
    exact this
  obtain ⟨hm, nm, hlook⟩ := h.look
  obtain ⟨c1, -, hh, -, -⟩ := hlook _ (new_below w (slO z0L))
  have hlk := hh x.tag true
  rw [if_pos rfl, getS_some hM hx, hasS_yes (List.mem_map_of_mem hx)] at hlk
  have hlk2 : (Instr.lookup 52 (.map hm) (.int .i64 x.tag) true).run Try.prog (w.alloc (slO z0L)) = .ok (.tuple #[slV x, .bool true]) (w.alloc (slO z0L)) := hlk
  have cs := Lib.hid (set_any h1)
  have cc := Lib.hid (fun W rb (h : SetAt B w0 W sb rb l M ((w.heap.size + 1, slO x) :: (w.heap.size, slO z0L) :: F)) => cut_one hl h x.tag)
  have cf := Lib.hid (fun W l' (h : MidIs B w0 W sb l' M ((w.heap.size + 1, slO x) :: (w.heap.size, slO z0L) :: F)) => forget_mid h hx)
  clear h h1 hlook hh hlk hl hM hx
  go_enter Try.func10, Try.ntmps10
  go_wp2_with fail
  refine cs.out.mono ?_
  rintro r w1 ⟨rb, rfl, h1⟩
  have cc1 := Lib.hid (cc.out _ _ h1)
  clear cs cc h1 c1 hlk2
  generalize w.heap.size = ab at *
  go_wp2_with fail
  refine cc1.out.mono ?_
  rintro r w2 ⟨n, l', rfl, hl', h2⟩
  obtain ⟨⟨k0, k1, k2, k3, k4, k5, k6, k7, k8, k9, k10, k11, k12⟩, -⟩ := h2.slip (b := ab + 1) (x := x) List.mem_cons_self
  have cf1 := Lib.hid (cf.out _ _ h2)
  replace hl' := Lib.hid hl'
  clear cf cc1 h2
  go_wp2_with fail
  refine cf1.out.mono ?_
  rintro r w3 ⟨rfl, h3⟩
  obtain ⟨⟨k0, k1, k2, k3, k4, k5, k6, k7, k8, k9, k10, k11, k12⟩, -⟩ := h3.slip (b := ab + 1) (x := x) List.mem_cons_self
  obtain ⟨⟨z0, z1, z2, z3, z4, z5, z6, z7, z8, z9, z10, z11, z12⟩, zs⟩ := h3.slip (b := ab) (x := z0L) (List.mem_cons_of_mem _ List.mem_cons_self)
  have h4 := (h3.permF (List.Perm.swap _ _ _)).slPut (x := x)
  have finR := Lib.hid (h4.slip (b := ab) (x := x) List.mem_cons_self).1
  have finS : Hid (SlipsIs B w0 (slPut w3 ab x) sb (dropS M x.tag) F) := Lib.hid ⟨l', hl'.out, h4.sub ((List.sublist_cons_self _ _).trans (List.sublist_cons_self _ _))⟩
  clear cf1 h3 h4 hl'
  go_wp2_with fail
  exact bodyPost_ret (ret_slip4 rfl rfl rfl finR.out rfl) rfl ⟨rfl, finS.out⟩

/-! ### all up to one -/
def maxT (t : Int) : Int := if t = 0 then 1000000 else t
def UptoJ (B : Nat) (w0 : World) (sb : Nat) (W N : List Slp) (F : List (Nat × Obj)) (g : Nat) (a' : Act) (w' : World) : Prop :=
  ∃ (i : Nat) (l : List Row) (a : Option Addr) (c : Nat) (S : List (Nat × Obj)), i + g = W.length ∧ Fr 29 [(0, gptr sb), (5, .slice a W.length c), (6, .int .i64 i)] a' ∧ RowsOf l N ∧ SlsIs (.slice a W.length c) W S ∧ MidIs B w0 w' sb l (W.drop i ++ N) (S ++ F)

set_option maxHeartbeats 2000000 in
theorem sl_upto (h : SlipsIs B w0 w sb M F) (t : Int) {m : Int} (hm : maxT t = m) {W N : List Slp} (hW : uptoS M m = W) (hN : overS M m = N) : Calls Try.prog 13 #[gptr sb, .int .i64 t] w (SlAllR B w0 sb F W N) := by
  have hM := h.ok
  obtain ⟨l, hl, h⟩ := h
  have hWM : M = W ++ N := by rw [← hW, ← hN]; exact upto_over hM m
  have hWN := Lib.hid (hWM ▸ hM)
  have cn := not_any hl h m
  rw [hW] at cn
  have cs := Lib.hid (fun w1 S (h : MidIs B w0 w1 sb l M (S ++ F)) => set_any h)
  have cc := Lib.hid (fun w1 rb S (h : SetAt B w0 w1 sb rb l M (S ++ F)) => by
    have := cut_upto hl h m
    rw [hN] at this
    exact this)
  replace cn := Lib.hid cn
  have hwl : W.length ≤ 1000000 := by
    have := hM.few
    rw [hWM, List.length_append] at this
    omega
  replace hWM := Lib.hid hWM
  clear h hl hM hW hN
  go_enter Try.func13, Try.ntmps13
  go_wp2_with fail
  refine wp_scope_ghost 0 (UptoJ B w0 sb W N F) rfl ?_ ?_
  · clear cn cs cc hm
    rintro g a' wr ⟨i, l, a, c, S, hi, hfr, hl, hs, hR⟩
    obtain ⟨fr, rfl, hl'⟩ := hfr.lit
    clear hfr
    simp only [List.mem_cons, List.not_mem_nil, or_false, forall_eq_or_imp, forall_eq] at hl'
    obtain ⟨f0, f5, f6⟩ := hl'
    simp only [List.range, List.range.loop, List.map, f0, f5, f6]
    clear f0 f5 f6
    by_cases hlt : i < W.length
    · have hx : W[i]? = some W[i] := List.getElem?_eq_getElem hlt
      have hdrop : W.drop i = W[i] :: W.drop (i + 1) := List.drop_eq_getElem_cons hlt
      generalize W[i] = x at hx hdrop
      have hrd : ReadSs wr a W := by
        obtain ⟨Z, z1, -⟩ := hR.beside
        exact hs.read (X := Z ++ F) (z1.perm (by
          classical
          exact List.perm_iff_count.2 fun a => by simp only [List.count_append]; omega))
      obtain ⟨b, off, rfl, k0, k1, k2, k3, k4, k5, k6, k7, k8, k9, k10, k11, k12⟩ := hrd i x hx
      have hRx := hR
      rw [hdrop] at hRx
      have hd : dropS (W.drop i ++ N) x.tag = W.drop (i + 1) ++ N := by
        rw [hdrop]
        refine drop_head (M := W.drop (i + 1) ++ N) ?_
        have := hRx.ok
        exact this
      have cf := forget_mid (x := x) hR (by rw [hdrop]; exact List.mem_cons_self)
      rw [hd] at cf
      replace cf := Lib.hid cf
      have fin : Hid (∀ a' w', MidIs B w0 w' sb l (W.drop (i + 1) ++ N) (S ++ F) → Fr 29 [(0, gptr sb), (5, .slice (some ⟨b, off, none⟩) W.length c), (6, .int .i64 ((i : Int) + 1))] a' → ∃ m, m < g ∧ UptoJ B w0 sb W N F m a' w') := Lib.hid fun a' w' h hf =>
        ⟨g - 1, by omega, i + 1, l, _, c, S, by omega, hf, hl, hs, h⟩
      have hiB : ((i : Int) == W.length) = false := by rw [beq_eq_false_iff_ne]; omega
      have hi0 : (0 : Int) ≤ i := by omega
      have hi1 : (i : Int) < W.length := by omega
      have hl3 : (W.length : Int) ≤ 1000000 := by omega
      clear hR hs hl hRx hd hdrop hrd hx hi hWN hWM
      generalize W.length = n at *
      go_wp2_with fail
      refine cf.out.mono ?_
      rintro r w5 ⟨rfl, h5⟩
      have fin1 := Lib.hid (fun a' => fin.out a' _ h5)
      clear cf fin h5 k0 k1 k2 k3 k4 k5 k6 k7 k8 k9 k10 k11 k12
      go_wp2_with fail
      refine wp_goto ?_
      exact ⟨rfl, fin1.out _ ⟨rfl, rfl, by simp⟩⟩
    · have hin : i = W.length := by omega
      subst hin
      rw [List.drop_length, List.nil_append] at hR
      have fin : Hid (SlAllR B w0 sb F W N (.returned (.slice a W.length c)) wr) := Lib.hid ⟨a, c, S, rfl, hs, l, hl, hR⟩
      clear hR hs hl hi hWN hWM
      go_wp2_with fail
      simp only [Exit.jump]
      go_ret
      exact fin.out
  · intro HJ
    by_cases ht : t = 0
    · have hmt : m = 1000000 := by rw [← hm, maxT, if_pos ht]
      subst hmt ht
      clear hm
      go_wp2_with fail
      refine cn.out.mono ?_
      rintro r w1 ⟨a, c, S, rfl, hs, h1⟩
      have cs1 := Lib.hid (cs.out _ _ h1)
      replace hs := Lib.hid hs
      clear cn cs h1
      go_wp2_with fail
      refine cs1.out.mono ?_
      rintro r w2 ⟨rb, rfl, h2⟩
      have cc1 := Lib.hid (cc.out _ _ _ h2)
      clear cs1 cc h2
      go_wp2_with fail
      refine cc1.out.mono ?_
      rintro r w3 ⟨q, l', rfl, hl', h3⟩
      rw [hWM.out] at h3
      replace h3 := Lib.hid h3
      replace hl' := Lib.hid hl'
      clear cc1
      go_wp2_with fail
      refine wp_label ?_
      go_step
      go_step
      exact HJ W.length _ _ ⟨0, l', a, c, S, by omega, ⟨rfl, rfl, by simp⟩, hl'.out, hs.out, h3.out⟩
    · have hmt : m = t := by rw [← hm, maxT, if_neg ht]
      subst hmt
      clear hm
      have htB : (m == 0) = false := by rw [beq_eq_false_iff_ne]; exact ht
      clear ht
      go_wp2_with fail
      refine cn.out.mono ?_
      rintro r w1 ⟨a, c, S, rfl, hs, h1⟩
      have cs1 := Lib.hid (cs.out _ _ h1)
      replace hs := Lib.hid hs
      clear cn cs h1
      go_wp2_with fail
      refine cs1.out.mono ?_
      rintro r w2 ⟨rb, rfl, h2⟩
      have cc1 := Lib.hid (cc.out _ _ _ h2)
      clear cs1 cc h2
      go_wp2_with fail
      refine cc1.out.mono ?_
      rintro r w3 ⟨q, l', rfl, hl', h3⟩
      rw [hWM.out] at h3
      replace h3 := Lib.hid h3
      replace hl' := Lib.hid hl'
      clear cc1
      go_wp2_with fail
      refine wp_label ?_
      go_step
      go_step
      exact HJ W.length _ _ ⟨0, l', a, c, S, by omega, ⟨rfl, rfl, by simp⟩, hl'.out, hs.out, h3.out⟩
end
end Go.Proofs.Ytdkchcbmhmlhnaa
