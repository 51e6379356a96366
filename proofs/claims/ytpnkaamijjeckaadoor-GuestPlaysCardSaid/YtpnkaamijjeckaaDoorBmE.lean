/- Next; a place raised, lowered. -/
import Derived.Test.YtpnkaamijjeckaaDoorBmD
import Derived.StillTailTactics
namespace Go.Proofs.YtpnkaamijjeckaaDoor
open Go.RowKit
set_option linter.unusedVariables false

section
variable {B : Nat} {w0 w : World} {bb places count : Nat} {L : List (Nat × List Nat)} {ov : Value} {oF F : List (Nat × Obj)} {s : Nat → Bool}

theorem max_from (i : Int) (h : i < 0) : max i 0 = 0 := by omega
theorem max_from' (i : Int) (h : 0 ≤ i) : max i 0 = i := by omega

set_option maxHeartbeats 1000000 in
theorem next_pos (h : BmIs B w0 w bb s places F) (i : Nat) (hi : (i : Int) ≤ 9223372036854775807) :
    Calls Tryd.prog 33 #[bptr bb, .int .i64 i] w fun e w' => e = .returned (placeV (nextAt s places i)) ∧ Drew w w' := by
  have h0 : (0 : Int) ≤ i := by omega
  have cf := first_any h i hi
  have fin : Hid (nextAt s places i = (firstAt s places i).or (firstAt s places 0)) := Lib.hid rfl
  have h := Lib.hid h
  cases hr : firstAt s places i with
  | some m =>
    rw [hr] at cf fin
    have cf := Lib.hid cf
    clear hr
    go_enter Tryd.func33, Tryd.ntmps33
    go_wp2_with fail
    refine cf.out.mono ?_
    rintro e w1 ⟨rfl, hd⟩
    simp only [placeV, Option.getD_some, Option.isSome_some]
    go_wp2_with fail
    go_ret2
    exact ⟨by rw [fin.out]; rfl, hd⟩
  | none =>
    rw [hr] at cf fin
    have cf := Lib.hid cf
    clear hr
    go_enter Tryd.func33, Tryd.ntmps33
    go_wp2_with fail
    refine cf.out.mono ?_
    rintro e w1 ⟨rfl, hd⟩
    simp only [placeV, Option.getD_none, Option.isSome_none]
    go_wp2_with fail
    refine (first_any (h.out.drews hd) 0 (by decide)).mono ?_
    rintro e w2 ⟨rfl, hd2⟩
    simp only [placeV]
    go_wp2_with fail
    go_ret2
    refine ⟨by rw [fin.out]; rfl, ?_⟩
    obtain ⟨n, rfl⟩ := hd2
    exact hd.drewN n

set_option maxHeartbeats 1000000 in
theorem next_neg (h : BmIs B w0 w bb s places F) (i : Int) (h0 : i < 0) :
    Calls Tryd.prog 33 #[bptr bb, .int .i64 i] w fun e w' => e = .returned (placeV (nextAt s places 0)) ∧ Drew w w' := by
  have cf := first_any h 0 (by decide)
  have fin : Hid (nextAt s places 0 = (firstAt s places 0).or (firstAt s places 0)) := Lib.hid rfl
  have h := Lib.hid h
  cases hr : firstAt s places 0 with
  | some m =>
    rw [hr] at cf fin
    have cf := Lib.hid cf
    clear hr
    go_enter Tryd.func33, Tryd.ntmps33
    go_wp2_with fail
    refine cf.out.mono ?_
    rintro e w1 ⟨rfl, hd⟩
    simp only [placeV, Option.getD_some, Option.isSome_some]
    go_wp2_with fail
    go_ret2
    exact ⟨by rw [fin.out]; rfl, hd⟩
  | none =>
    rw [hr] at cf fin
    have cf := Lib.hid cf
    go_enter Tryd.func33, Tryd.ntmps33
    go_wp2_with fail
    refine cf.out.mono ?_
    rintro e w1 ⟨rfl, hd⟩
    simp only [placeV, Option.getD_none, Option.isSome_none]
    go_wp2_with fail
    refine (first_any (h.out.drews hd) 0 (by decide)).mono ?_
    rintro e w2 ⟨rfl, hd2⟩
    simp only [placeV]
    go_wp2_with fail
    go_ret2
    refine ⟨by rw [fin.out, hr]; rfl, ?_⟩
    obtain ⟨n, rfl⟩ := hd2
    exact hd.drewN n

theorem next_any (h : BmIs B w0 w bb s places F) (i : Int) (hi : i ≤ 9223372036854775807) :
    Calls Tryd.prog 33 #[bptr bb, .int .i64 i] w fun e w' => e = .returned (placeV (nextAt s places i.toNat)) ∧ Drew w w' := by
  rcases Int.lt_or_le i 0 with h0 | h0
  · rw [show i.toNat = 0 by omega]
    exact next_neg h i h0
  · obtain ⟨k, rfl⟩ : ∃ k : Nat, i = k := ⟨i.toNat, by omega⟩
    rw [Int.toNat_natCast]
    exact next_pos h k hi

/-! ### a place raised -/
theorem BmWf.setWord (wf : BmWf L places) {l b : Nat} {ws : List Nat} (hl : L[l]? = some (b, ws)) (j v : Nat) : BmWf (L.set l (b, ws.set j v)) places := by
  have key : ∀ (l' : Nat) (x : Nat × List Nat), (L.set l (b, ws.set j v))[l']? = some x → ∃ y, L[l']? = some y ∧ y.2.length = x.2.length := by
    intro l' x hx
    rw [List.getElem?_set] at hx
    split at hx
    · rename_i e
      split at hx
      · cases hx
        subst e
        exact ⟨_, hl, by simp⟩
      · cases hx
    · exact ⟨x, hx, rfl⟩
  refine ⟨wf.top, fun l' x hx => ?_, fun l' x hx => ?_, fun x hx => ?_, fun e => ?_, by rw [List.length_set]; exact wf.few⟩
  · obtain ⟨y, h1, h2⟩ := key l' x hx
    rw [← h2]; exact wf.reach l' y h1
  · obtain ⟨y, h1, h2⟩ := key l' x hx
    rw [← h2]; exact wf.size l' y h1
  · rw [List.length_set] at hx
    obtain ⟨y, h1, h2⟩ := key _ x hx
    rw [← h2]; exact wf.last y h1
  · exact wf.bare (List.eq_nil_of_length_eq_zero (by have := congrArg List.length e; simpa using this))
theorem BmWf.inside (wf : BmWf L places) {l p : Nat} {x : Nat × List Nat} (hx : L[l]? = some x) (hp : p < places) : p / 64 ^ l / 64 < x.2.length := by
  have h2 := wf.reach l x hx
  rw [← div_up, Nat.div_lt_iff_lt_mul (Nat.pow_pos (by decide)), Nat.mul_comm]
  omega
theorem setLevel {l l' b : Nat} {ws vs : List Nat} {x : Nat × List Nat} (hl : L[l]? = some (b, ws)) (hx : (L.set l (b, vs))[l']? = some x) : (l' = l ∧ x = (b, vs)) ∨ (l' ≠ l ∧ L[l']? = some x) := by
  rw [List.getElem?_set] at hx
  split at hx
  · rename_i e
    split at hx
    · cases hx; exact .inl ⟨e.symm, rfl⟩
    · cases hx
  · rename_i e
    exact .inr ⟨fun e' => e e'.symm, hx⟩

/-- The levels below lev as t has them, the others as s has them. -/
def Between (s t : Nat → Bool) (lev : Nat) (L : List (Nat × List Nat)) : Prop := ∀ (l : Nat) (x : Nat × List Nat), L[l]? = some x → (l < lev → Bits t l x.2) ∧ (lev ≤ l → Bits s l x.2)
theorem Between.all {t : Nat → Bool} (h : Between s t L.length L) : BitsAll t L := fun l x hx => (h l x hx).1 (List.getElem?_eq_some_iff.1 hx).1
theorem Between.start (h : BitsAll s L) (t : Nat → Bool) : Between s t 0 L := fun l x hx => ⟨fun h => absurd h (by omega), fun _ => h l x hx⟩
theorem Between.step {t : Nat → Bool} {l b : Nat} {ws vs : List Nat} (h : Between s t l L) (hl : L[l]? = some (b, ws)) (hv : Bits t l vs) : Between s t (l + 1) (L.set l (b, vs)) := by
  intro l' x hx
  rcases setLevel hl hx with ⟨rfl, rfl⟩ | ⟨hne, hx⟩
  · exact ⟨fun _ => hv, fun h => absurd h (by omega)⟩
  · exact ⟨fun h1 => (h l' x hx).1 (by omega), fun h1 => (h l' x hx).2 (by omega)⟩
theorem Between.rest {t : Nat → Bool} {l : Nat} (h : Between s t l L) (ha : ∀ d i, Up s (l + d) i ↔ Up t (l + d) i) : BitsAll t L := fun l' x hx => by
  rcases Nat.lt_or_ge l' l with h1 | h1
  · exact (h l' x hx).1 h1
  · obtain ⟨d, rfl⟩ : ∃ d, l' = l + d := ⟨l' - l, by omega⟩
    exact ((h _ x hx).2 h1).alike (ha d)

/-- Behind a walk over the levels: the bitmap's words are those of t. -/
def Turned (B : Nat) (w0 : World) (bb places count : Nat) (ov : Value) (oF F : List (Nat × Obj)) (t : Nat → Bool) (e : Ending) (w' : World) : Prop :=
  e = .returned (.tuple #[]) ∧ ∃ L', BmWf L' places ∧ BitsAll t L' ∧ BmAt B w0 w' bb L' places count ov oF F

set_option maxHeartbeats 2000000 in
set_option maxRecDepth 100000 in
theorem raise_any (h : BmAt B w0 w bb L places count ov oF F) (wf : BmWf L places) (hb : BitsAll s L) (i0 : Nat) (hi : i0 < places) :
    Calls Tryd.prog 39 #[bptr bb, .int .i64 i0] w (Turned B w0 bb places count ov oF F (ins s i0)) := by
  have htop := wf.top
  have hall := Lib.hid (And.intro h (And.intro wf hb))
  clear h wf hb
  go_enter Tryd.func39, Tryd.ntmps39
  go_wp2_with fail
  refine wp_scope_ghost 0 (fun g a' w' => ∃ (lev : Nat) (L' : List (Nat × List Nat)), Fr 41 [(0, bptr bb), (1, .int .i64 (i0 / 64 ^ lev : Nat)), (4, .int .i64 lev)] a' ∧ lev + g = L'.length ∧ BmWf L' places ∧ Between s (ins s i0) lev L' ∧ BmAt B w0 w' bb L' places count ov oF F) rfl ?_ ?_
  · rintro g a' w' ⟨lev, L', hfr, hg, wf, hb, h⟩
    obtain ⟨f, rfl, hl⟩ := hfr.lit
    clear hfr hall
    simp only [List.mem_cons, List.not_mem_nil, or_false, forall_eq_or_imp, forall_eq] at hl
    obtain ⟨f0, f1, f4⟩ := hl
    simp only [List.range, List.range.loop, List.map, f0, f1, f4]
    clear f0 f1 f4
    have c0 := h.c0
    have hfew := wf.few
    by_cases he : lev = L'.length
    · subst he
      obtain ⟨a, cap, rfl⟩ := h.form
      have fin : Hid (Turned B w0 bb places count (.slice a L'.length cap) oF F (ins s i0) (.returned (.tuple #[])) w') := ⟨rfl, L', wf, hb.all, h⟩
      clear h wf hb hg
      go_wp2_with fail
      simp only [Exit.jump]
      exact bodyPost_end (results_none rfl _ _ _) rfl fin.out
    · obtain ⟨⟨b, ws⟩, hx⟩ : ∃ x, L'[lev]? = some x := ⟨_, List.getElem?_eq_getElem (by omega)⟩
      have hsz := wf.size _ _ hx
      have hin := wf.inside hx hi
      simp only at hsz hin
      obtain ⟨q, off, cap, rfl, hhead⟩ := h.head hx
      have hu : ws[i0 / 64 ^ lev / 64]? = some ws[i0 / 64 ^ lev / 64] := List.getElem?_eq_getElem hin
      have cw := h.word hx hu
      have cf := h.wsoft hx (i0 / 64 ^ lev / 64)
      have hbl := (hb lev _ hx).2 (Nat.le_refl _)
      have hput := hbl.put hu
      have hu1 := (hbl _ _ hu).1
      have hstep := hb.step hx hput
      have htold := hbl.told hu
      have hrest := @up_ins_same s (lev + 1) i0
      rw [div_up] at hrest
      have hle : i0 / 64 ^ lev ≤ i0 := Nat.div_le_self _ _
      have hnext := div_up i0 lev
      have hset : Hid (BmAt B w0 (w'.drew.setCell ⟨b, i0 / 64 ^ lev / 64, none⟩ (.int .u64 ((ws[i0 / 64 ^ lev / 64] ||| 2 ^ (i0 / 64 ^ lev % 64) : Nat) : Int))) bb _ places count _ oF F) := (h.drewN 1).setWord hx _ _
      have hwf' : Hid (BmWf (L'.set lev (b, ws.set (i0 / 64 ^ lev / 64) (ws[i0 / 64 ^ lev / 64] ||| 2 ^ (i0 / 64 ^ lev % 64)))) places) := wf.setWord hx _ _
      have e1 : bits BinOp.or IntKind.u64 (ws[i0 / 64 ^ lev / 64] : Int) ((2 ^ (i0 / 64 ^ lev % 64) : Nat) : Int) = (ws[i0 / 64 ^ lev / 64] ||| 2 ^ (i0 / 64 ^ lev % 64) : Nat) := u64_or_nat _ _ hu1 (pow_lt_64 _ (Nat.mod_lt _ (by decide)))
      have cb : Hid (∀ W, Calls Tryd.prog 41 #[.int .i64 (i0 / 64 ^ lev : Nat)] W fun e w'' => e = .returned (.int .u64 ((2 ^ (i0 / 64 ^ lev % 64) : Nat) : Int)) ∧ w'' = W) := Lib.hid fun W => (bitOf_any (i0 / 64 ^ lev) W (by omega)).mono fun _ _ ⟨h1, h2⟩ => ⟨h1, h2.symm⟩
      clear hu hbl hput hu1 hb wf h
      generalize ws[i0 / 64 ^ lev / 64] = u at *
      replace hnext := Lib.hid hnext
      generalize i0 / 64 ^ lev = i at *
      have hI : (i : Int) ≤ 5000 := by omega
      have hJ : (i : Int) / 64 < ws.length := by omega
      have hK : (0 : Int) ≤ i := by omega
      have hK4 : (0 : Int) ≤ (i : Int) / 64 := by omega
      generalize u ||| 2 ^ (i % 64) = v at *
      generalize ((2 ^ (i % 64) : Nat) : Int) = z at *
      have hl1 : (lev : Int) < L'.length := by omega
      have hl0 : (0 : Int) ≤ lev := by omega
      have hl2 : (lev : Int) ≤ 5000 := by omega
      clear hx he
      by_cases hu0 : u = 0
      · have hb0 : ((u : Int) != 0) = false := by simp [hu0]
        have fin := Lib.hid hstep
        clear hstep htold hrest hu0
        go_wp2_with fail
        refine wp_region_still_tail 7 (by kernel_rfl) (by kernel_rfl) ?_
        simp only [List.take_succ_cons, List.take_zero, List.drop_succ_cons, List.drop_zero]
        repeat (first | still_step | still_call (cb.out _))
        try refine wpStill_nil ?_
        change wpList _ _ _ _ _ w'.drew
        go_wp2_with fail
        refine wp_goto ?_
        refine ⟨rfl, g - 1, by omega, lev + 1, _, ⟨rfl, rfl, by simp [hnext.out]⟩, ?_, hwf'.out, fin.out, hset.out⟩
        rw [List.length_set]; omega
      · have hb0 : ((u : Int) != 0) = true := by simp [hu0]
        have fin := Lib.hid (hstep.rest (hrest (htold.1 hu0)))
        clear hstep htold hrest hu0
        go_wp2_with fail
        refine wp_region_still_tail 7 (by kernel_rfl) (by kernel_rfl) ?_
        simp only [List.take_succ_cons, List.take_zero, List.drop_succ_cons, List.drop_zero]
        repeat (first | still_step | still_call (cb.out _))
        try refine wpStill_nil ?_
        change wpList _ _ _ _ _ w'.drew
        go_wp2_with fail
        simp only [Exit.jump]
        exact bodyPost_end (results_none rfl _ _ _) rfl ⟨rfl, _, hwf'.out, fin.out, hset.out⟩
  · intro H
    go_wp2_with fail
    refine wp_label ?_
    go_step
    go_step
    obtain ⟨h, wf, hb⟩ := hall.out
    refine H L.length _ _ ⟨0, L, ⟨rfl, rfl, by simp⟩, by omega, wf, Between.start hb _, h⟩
set_option maxHeartbeats 2000000 in
set_option maxRecDepth 100000 in
theorem lower_any (h : BmAt B w0 w bb L places count ov oF F) (wf : BmWf L places) (hb : BitsAll s L) (i0 : Nat) (hi : i0 < places) :
    Calls Tryd.prog 40 #[bptr bb, .int .i64 i0] w (Turned B w0 bb places count ov oF F (del s i0)) := by
  have htop := wf.top
  have hall := Lib.hid (And.intro h (And.intro wf hb))
  clear h wf hb
  go_enter Tryd.func40, Tryd.ntmps40
  go_wp2_with fail
  refine wp_scope_ghost 0 (fun g a' w' => ∃ (lev : Nat) (L' : List (Nat × List Nat)), Fr 38 [(0, bptr bb), (1, .int .i64 (i0 / 64 ^ lev : Nat)), (4, .int .i64 lev)] a' ∧ lev + g = L'.length ∧ BmWf L' places ∧ Between s (del s i0) lev L' ∧ ¬ Up (del s i0) lev (i0 / 64 ^ lev) ∧ BmAt B w0 w' bb L' places count ov oF F) rfl ?_ ?_
  · rintro g a' w' ⟨lev, L', hfr, hg, wf, hb, hnu, h⟩
    obtain ⟨f, rfl, hl⟩ := hfr.lit
    clear hfr hall
    simp only [List.mem_cons, List.not_mem_nil, or_false, forall_eq_or_imp, forall_eq] at hl
    obtain ⟨f0, f1, f4⟩ := hl
    simp only [List.range, List.range.loop, List.map, f0, f1, f4]
    clear f0 f1 f4
    have c0 := h.c0
    have hfew := wf.few
    by_cases he : lev = L'.length
    · subst he
      obtain ⟨a, cap, rfl⟩ := h.form
      have fin : Hid (Turned B w0 bb places count (.slice a L'.length cap) oF F (del s i0) (.returned (.tuple #[])) w') := ⟨rfl, L', wf, hb.all, h⟩
      clear h wf hb hg
      go_wp2_with fail
      simp only [Exit.jump]
      exact bodyPost_end (results_none rfl _ _ _) rfl fin.out
    · obtain ⟨⟨b, ws⟩, hx⟩ : ∃ x, L'[lev]? = some x := ⟨_, List.getElem?_eq_getElem (by omega)⟩
      have hsz := wf.size _ _ hx
      have hin := wf.inside hx hi
      simp only at hsz hin
      obtain ⟨q, off, cap, rfl, hhead⟩ := h.head hx
      have hu : ws[i0 / 64 ^ lev / 64]? = some ws[i0 / 64 ^ lev / 64] := List.getElem?_eq_getElem hin
      have cw := h.word hx hu
      have cf := h.wsoft hx (i0 / 64 ^ lev / 64)
      have hbl := (hb lev _ hx).2 (Nat.le_refl _)
      have hput := hbl.cut hnu hu
      have hu1 := (hbl _ _ hu).1
      have hstep := hb.step hx hput
      have htold := hput.told (j := i0 / 64 ^ lev / 64) (u := ws[i0 / 64 ^ lev / 64] &&& (18446744073709551615 - 2 ^ (i0 / 64 ^ lev % 64))) (by simp [hin])
      have hrest := @up_del_same s (lev + 1) i0
      rw [div_up] at hrest
      have hle : i0 / 64 ^ lev ≤ i0 := Nat.div_le_self _ _
      have hnext := div_up i0 lev
      have hset : Hid (BmAt B w0 (w'.drew.setCell ⟨b, i0 / 64 ^ lev / 64, none⟩ (.int .u64 ((ws[i0 / 64 ^ lev / 64] &&& (18446744073709551615 - 2 ^ (i0 / 64 ^ lev % 64)) : Nat) : Int))) bb _ places count _ oF F) := (h.drewN 1).setWord hx _ _
      have hcell := hset.out.word (List.getElem?_set_self (by omega)) (List.getElem?_set_self hin)
      have hwf' : Hid (BmWf (L'.set lev (b, ws.set (i0 / 64 ^ lev / 64) (ws[i0 / 64 ^ lev / 64] &&& (18446744073709551615 - 2 ^ (i0 / 64 ^ lev % 64))))) places) := wf.setWord hx _ _
      have e1 : bits BinOp.andNot IntKind.u64 (ws[i0 / 64 ^ lev / 64] : Int) ((2 ^ (i0 / 64 ^ lev % 64) : Nat) : Int) = (ws[i0 / 64 ^ lev / 64] &&& (18446744073709551615 - 2 ^ (i0 / 64 ^ lev % 64)) : Nat) := u64_andNot_nat _ _ hu1 (pow_lt_64 _ (Nat.mod_lt _ (by decide)))
      have cb : Hid (∀ W, Calls Tryd.prog 41 #[.int .i64 (i0 / 64 ^ lev : Nat)] W fun e w'' => e = .returned (.int .u64 ((2 ^ (i0 / 64 ^ lev % 64) : Nat) : Int)) ∧ w'' = W) := Lib.hid fun W => (bitOf_any (i0 / 64 ^ lev) W (by omega)).mono fun _ _ ⟨h1, h2⟩ => ⟨h1, h2.symm⟩
      clear hu hbl hput hu1 hb wf h hnu
      generalize ws[i0 / 64 ^ lev / 64] = u at *
      replace hnext := Lib.hid hnext
      generalize i0 / 64 ^ lev = i at *
      have hI : (i : Int) ≤ 5000 := by omega
      have hJ : (i : Int) / 64 < ws.length := by omega
      have hK : (0 : Int) ≤ i := by omega
      have hK4 : (0 : Int) ≤ (i : Int) / 64 := by omega
      generalize u &&& (18446744073709551615 - 2 ^ (i % 64)) = v at *
      generalize ((2 ^ (i % 64) : Nat) : Int) = z at *
      have hl1 : (lev : Int) < L'.length := by omega
      have hl0 : (0 : Int) ≤ lev := by omega
      have hl2 : (lev : Int) ≤ 5000 := by omega
      clear hx he
      by_cases hu0 : v = 0
      · have hb0 : ((v : Int) == 0) = true := by simp [hu0]
        have fin := Lib.hid (And.intro hstep (fun h => htold.2 h hu0))
        clear hstep htold hrest hu0
        go_wp2_with fail
        refine wp_region_still_tail 7 (by kernel_rfl) (by kernel_rfl) ?_
        simp only [List.take_succ_cons, List.take_zero, List.drop_succ_cons, List.drop_zero]
        repeat (first | still_step | still_call (cb.out _))
        try refine wpStill_nil ?_
        change wpList _ _ _ _ _ w'.drew
        go_wp2_with fail
        refine wp_goto ?_
        refine ⟨rfl, g - 1, by omega, lev + 1, _, ⟨rfl, rfl, by simp [hnext.out]⟩, ?_, hwf'.out, fin.out.1, by rw [hnext.out]; exact fin.out.2, hset.out⟩
        rw [List.length_set]; omega
      · have hb0 : ((v : Int) == 0) = false := by simp [hu0]
        have fin := Lib.hid (hstep.rest (hrest (htold.1 hu0)))
        clear hstep htold hrest hu0
        go_wp2_with fail
        refine wp_region_still_tail 7 (by kernel_rfl) (by kernel_rfl) ?_
        simp only [List.take_succ_cons, List.take_zero, List.drop_succ_cons, List.drop_zero]
        repeat (first | still_step | still_call (cb.out _))
        try refine wpStill_nil ?_
        change wpList _ _ _ _ _ w'.drew
        go_wp2_with fail
        simp only [Exit.jump]
        exact bodyPost_end (results_none rfl _ _ _) rfl ⟨rfl, _, hwf'.out, fin.out, hset.out⟩
  · intro H
    go_wp2_with fail
    refine wp_label ?_
    go_step
    go_step
    obtain ⟨h, wf, hb⟩ := hall.out
    refine H L.length _ _ ⟨0, L, ⟨rfl, rfl, by simp⟩, by omega, wf, Between.start hb _, up_del_zero, h⟩
end
end Go.Proofs.YtpnkaamijjeckaaDoor
