/- firstFrom: it climbs until a word has a bit from there on, then goes down. -/
import Derived.Test.YtpnkaamijjeckaaDoorBmC
import Derived.Test.YtpnkaamijjeckaaDoorGoto
namespace Go.Proofs.YtpnkaamijjeckaaDoor
open Go.RowKit
set_option linter.unusedVariables false

section
variable {B : Nat} {w0 w : World} {bb places count : Nat} {L : List (Nat × List Nat)} {ov : Value} {oF F : List (Nat × Obj)} {s : Nat → Bool}

/-- Nothing but draws. -/
def Drew (w w' : World) : Prop := ∃ n, w' = w.drewN n
theorem Drew.refl (w : World) : Drew w w := ⟨0, rfl⟩
theorem Drew.drewN {w w' : World} (h : Drew w w') (m : Nat) : Drew w (w'.drewN m) := by
  obtain ⟨n, rfl⟩ := h
  exact ⟨n + m, by simp [World.drewN, Nat.add_comm, Nat.add_left_comm]⟩
theorem BmAt.drews {w' : World} (h : BmAt B w0 w bb L places count ov oF F) (hd : Drew w w') : BmAt B w0 w' bb L places count ov oF F := by
  obtain ⟨n, rfl⟩ := hd
  exact h.drewN n
theorem BmIs.drews {k : Nat} {w' : World} (h : BmIs B w0 w bb s k F) (hd : Drew w w') : BmIs B w0 w' bb s k F := by
  obtain ⟨n, rfl⟩ := hd
  exact h.drewN n

/-- What Next and its like answer. -/
def placeV (r : Option Nat) : Value := .tuple #[.int .i64 ((r.getD 0 : Nat) : Int), .bool r.isSome]

/-- Behind the last word, or above the highest one, none is set. -/
theorem none_behind (hs : ∀ p, s p = true → p < places) {i0 q : Nat} (hn : NoneIn s i0 q) (hq : places ≤ q) : ∀ p, i0 ≤ p → s p = false := by
  intro p hp
  rcases Nat.lt_or_ge p q with h | h
  · exact hn p hp h
  · cases hsp : s p with
    | false => rfl
    | true => have := hs p hsp; omega
theorem BmWf.above (wf : BmWf L places) {i : Nat} (h1 : 1 ≤ L.length → 1 ≤ i) : places ≤ i * 64 ^ L.length := by
  rcases Nat.eq_zero_or_pos L.length with h | h
  · rw [wf.bare (List.length_eq_zero_iff.1 h)]; exact Nat.zero_le _
  · have hx : L[L.length - 1]? = some (L[L.length - 1]'(by omega)) := List.getElem?_eq_getElem (by omega)
    have h2 := wf.reach _ _ hx
    rw [wf.last _ hx, Nat.mul_one, show L.length - 1 + 1 = L.length by omega] at h2
    exact Nat.le_trans h2 (Nat.le_mul_of_pos_left _ (h1 h))
theorem BmWf.beside (wf : BmWf L places) {l i : Nat} {x : Nat × List Nat} (hx : L[l]? = some x) (hi : x.2.length ≤ i / 64) : places ≤ i * 64 ^ l := by
  refine Nat.le_trans (wf.reach l x hx) ?_
  rw [Nat.mul_comm, mul_pow_up]
  exact Nat.mul_le_mul_right _ (by omega)
theorem BmWf.under (wf : BmWf L places) (hs : ∀ p, s p = true → p < places) {l i : Nat} {x : Nat × List Nat} (hx : L[l]? = some x) (hup : Up s (l + 1) i) : i < x.2.length := by
  obtain ⟨p, rfl, hp⟩ := hup
  have h1 := hs p hp
  have h2 := wf.reach l x hx
  rw [Nat.div_lt_iff_lt_mul (Nat.pow_pos (by decide)), Nat.mul_comm]
  omega

set_option maxHeartbeats 4000000 in
set_option maxRecDepth 100000 in
theorem first_any (h : BmIs B w0 w bb s places F) (i0 : Nat) (hi0 : (i0 : Int) ≤ 9223372036854775807) :
    Calls Tryd.prog 36 #[bptr bb, .int .i64 i0] w fun e w' => e = .returned (placeV (firstAt s places i0)) ∧ Drew w w' := by
  obtain ⟨hT, hs, L, ov, oF, wf, hb, h⟩ := h
  have hfew := wf.few
  have hs := Lib.hid hs
  have hb := Lib.hid hb
  have htop := wf.top
  go_enter Tryd.func36, Tryd.ntmps36
  go_wp2_with fail
  refine wp_scope_two 0 1 (L.length + 1)
    (fun g a' w' => ∃ lev i : Nat, Fr 75 [(0, bptr bb), (1, .int .i64 i), (6, .int .i64 lev)] a' ∧ lev + g = L.length ∧ NoneIn s i0 (i * 64 ^ lev) ∧ i0 ≤ i * 64 ^ lev ∧ (1 ≤ lev → 1 ≤ i) ∧ (i : Int) ≤ 9223372036854775807 ∧ Drew w w')
    (fun g a' w' => ∃ i : Nat, Fr 75 [(0, bptr bb), (1, .int .i64 i), (6, .int .i64 g)] a' ∧ g < L.length ∧ Up s g i ∧ NoneIn s i0 (i * 64 ^ g) ∧ i0 ≤ i * 64 ^ g ∧ Drew w w')
    (by decide) rfl rfl ?_ ?_ ?_ ?_
  · rintro n a' w' ⟨i, _, h1, _⟩
    omega
  · rintro g a' w' ⟨i, hfr, hg, hup, hn, hi, hd⟩
    obtain ⟨f, rfl, hl⟩ := hfr.lit
    clear hfr
    simp only [List.mem_cons, List.not_mem_nil, or_false, forall_eq_or_imp, forall_eq] at hl
    obtain ⟨f0, f1, f6⟩ := hl
    simp only [List.range, List.range.loop, List.map, f0, f1, f6]
    clear f0 f1 f6
    have hh := h.drews hd
    have hTn := hT.at_ hh.st
    cases g with
    | zero =>
      have e1 : firstAt s places i0 = some i := by
        rw [Nat.pow_zero, Nat.mul_one] at hn hi
        exact firstAt_some hs.out (up_zero.1 hup) hi hn
      replace e1 := Lib.hid e1
      clear h hh hT hTn wf hup hn hi
      go_wp2_with fail
      simp only [jumps]
      go_ret2
      exact ⟨by rw [e1.out]; rfl, hd⟩
    | succ g =>
      obtain ⟨⟨b, ws⟩, hx⟩ : ∃ x, L[g]? = some x := ⟨_, List.getElem?_eq_getElem (by omega)⟩
      have hlt := wf.under hs.out hx hup
      have hsz := wf.size _ _ hx
      simp only at hlt hsz
      have hu : ws[i]? = some ws[i] := List.getElem?_eq_getElem hlt
      obtain ⟨d1, d2, d3, d4⟩ := descend_some (hb.out g _ hx) hu hup hn hi
      have hu0 : ws[i] ≠ 0 := ((hb.out g _ hx).told hu).2 hup
      have hu1 := (hb.out g _ hx _ _ hu).1
      obtain ⟨q, off, cap, rfl, hhead⟩ := hh.head hx
      have c0 := hh.c0
      have cw := hh.word hx hu
      have cz := Lib.hid (tz64_any hu0 hu1 hTn)
      have fin := Lib.hid (And.intro d2 (And.intro d3 d4))
      generalize Lib.ctz 64 ws[i] = c at *
      generalize ws[i] = u at *
      have hg0 : (0 : Int) ≤ g := by omega
      have hg1 : (g : Int) ≤ 5000 := by omega
      have hg2 : (g : Int) < L.length := by omega
      have hi1 : (i : Int) < ws.length := by omega
      have hi2 : (i : Int) ≤ 5000 := by omega
      have hc1 : (c : Int) ≤ 64 := by omega
      clear h hh hT hTn wf d2 d3 d4 hu0 hu1 hx hu hup hn hi hlt
      go_wp2_with fail
      refine cz.out.mono ?_
      rintro e w1 ⟨rfl, rfl⟩
      go_wp2_with fail
      refine wp_goto ?_
      refine ⟨rfl, g, by omega, i * 64 + c, ⟨rfl, rfl, by simp⟩, by omega, fin.out.1, fin.out.2.1, fin.out.2.2, hd⟩
  · rintro g H1 a' w' ⟨lev, i, hfr, hg, hn, hi, h1i, hib, hd⟩
    replace H1 := Lib.hid H1
    obtain ⟨f, rfl, hl⟩ := hfr.lit
    clear hfr
    simp only [List.mem_cons, List.not_mem_nil, or_false, forall_eq_or_imp, forall_eq] at hl
    obtain ⟨f0, f1, f6⟩ := hl
    simp only [List.range, List.range.loop, List.map, f0, f1, f6]
    clear f0 f1 f6
    have hh := h.drews hd
    have hTn := hT.at_ hh.st
    have c0 := hh.c0
    have hi0' : (0 : Int) ≤ i := by omega
    by_cases he : lev = L.length
    · subst he
      have e1 : firstAt s places i0 = none := firstAt_none (none_behind hs.out hn (wf.above h1i))
      replace e1 := Lib.hid e1
      obtain ⟨a, cap, rfl⟩ := hh.form
      clear h hh hT hTn wf hn hi h1i hg H1
      go_wp2_with fail
      simp only [jumps]
      go_ret2
      exact ⟨by rw [e1.out]; rfl, hd⟩
    · obtain ⟨⟨b, ws⟩, hx⟩ : ∃ x, L[lev]? = some x := ⟨_, List.getElem?_eq_getElem (by omega)⟩
      have hsz := wf.size _ _ hx
      have hne : ((lev : Int) == (L.length : Int)) = false := by rw [beq_eq_false_iff_ne]; omega
      have hl1 : (lev : Int) < L.length := by omega
      have hl0 : (0 : Int) ≤ lev := by omega
      have hl2 : (lev : Int) ≤ 5000 := by omega
      obtain ⟨q, off, cap, rfl, hhead⟩ := hh.head hx
      simp only at hsz
      by_cases h64 : i / 64 < ws.length
      · have hu : ws[i / 64]? = some ws[i / 64] := List.getElem?_eq_getElem h64
        have cw := hh.word hx hu
        have hu1 := (hb.out lev _ hx _ _ hu).1
        have hbl := hb.out lev _ hx
        have hlt64 : (i : Int) / 64 < ws.length := by omega
        have hge64 : (0 : Int) ≤ (i : Int) / 64 := by omega
        have cb : Hid (∀ n, Calls Tryd.prog 41 #[.int .i64 i] (w'.drewN n) fun e w'' => e = .returned (.int .u64 ((2 ^ (i % 64) : Nat) : Int)) ∧ ∃ m, w'' = (w'.drewN n).drewN m) := fun n => (bitOf_any i _ hib).mono fun _ _ ⟨h1, h2⟩ => ⟨h1, 0, h2.symm⟩
        have hp := pow_lt_64 (i % 64) (Nat.mod_lt _ (by decide))
        have hp0 : 0 < 2 ^ (i % 64) := Nat.two_pow_pos _
        have e1 : IntKind.u64.wrap (((2 ^ (i % 64) : Nat) : Int) - 1) = ((2 ^ (i % 64) - 1 : Nat) : Int) := by
          rw [IntKind.wrap_u64]
          generalize 2 ^ (i % 64) = z at hp hp0 ⊢
          omega
        have e2 : bits BinOp.andNot IntKind.u64 (ws[i / 64] : Int) ((2 ^ (i % 64) - 1 : Nat) : Int) = (restOf ws[i / 64] (i % 64) : Nat) := u64_andNot_nat _ _ hu1 (by omega)
        by_cases hr : restOf ws[i / 64] (i % 64) = 0
        · obtain ⟨d1, d2⟩ := climb_none hbl hu hr hn hi
          have fin := Lib.hid (And.intro d1 d2)
          rw [hr] at e2
          generalize ((2 ^ (i % 64) - 1 : Nat) : Int) = z1 at *
          generalize ((2 ^ (i % 64) : Nat) : Int) = z at *
          generalize ws[i / 64] = u at *
          clear h hh hT hTn wf d1 d2 hx hu hn hi hr hbl hu1 hp hp0 he h1i H1
          go_wp2_with fail
          go_quiet ((go_at_call 41; exact Calls.quiet_of (cb.out _)))
          go_wp2_with fail
          refine wp_goto ?_
          refine .inl ⟨rfl, g - 1, by omega, lev + 1, i / 64 + 1, ⟨rfl, rfl, by simp⟩, by omega, fin.out.1, fin.out.2, fun _ => by omega, by omega, hd.drewN _⟩
        · obtain ⟨d1, d2, d3, d4⟩ := climb_some hbl hu hr hn hi
          have cz := Lib.hid (fun m => tz64_any hr (rest_lt _ _ hu1) (hT.at_ (hh.drewN m).st))
          have fin := Lib.hid (And.intro d2 (And.intro d3 d4))
          have hr' : (((restOf ws[i / 64] (i % 64) : Nat) : Int) == 0) = false := by rw [beq_eq_false_iff_ne]; omega
          have hc1 : ((Lib.ctz 64 (restOf ws[i / 64] (i % 64)) : Nat) : Int) ≤ 64 := by omega
          have hc2 : (i : Int) / 64 * 64 ≤ i := by omega
          have hc3 : (i : Int) / 64 ≤ 5000 := by omega
          generalize Lib.ctz 64 (restOf ws[i / 64] (i % 64)) = c at *
          generalize restOf ws[i / 64] (i % 64) = r at *
          generalize ((2 ^ (i % 64) - 1 : Nat) : Int) = z1 at *
          generalize ((2 ^ (i % 64) : Nat) : Int) = z at *
          generalize ws[i / 64] = u at *
          clear h hh hT hTn wf d1 d2 d3 d4 hx hu hn hi hbl hu1 hp hp0 he h1i hr
          go_wp2_with fail
          go_quiet ((go_at_call 41; exact Calls.quiet_of (cb.out _)))
          go_wp2_with fail
          refine (cz.out _).mono ?_
          rintro e w1 ⟨rfl, rfl⟩
          go_wp2_with fail
          refine wp_label ?_
          go_step
          go_step
          refine H1.out lev _ _ ⟨i / 64 * 64 + c, ⟨rfl, rfl, by simp⟩, by omega, fin.out.1, fin.out.2.1, fin.out.2.2, hd.drewN _⟩
      · have hge64 : (ws.length : Int) ≤ (i : Int) / 64 := by omega
        have e1 : firstAt s places i0 = none := firstAt_none (none_behind hs.out hn (wf.beside hx (by simp only; omega)))
        replace e1 := Lib.hid e1
        clear h hh hT hTn wf hn hi h1i hg H1 hx h64 he
        go_wp2_with fail
        simp only [jumps]
        go_ret2
        exact ⟨by rw [e1.out]; rfl, hd⟩
  · intro H
    go_wp2_with fail
    refine wp_label ?_
    go_step
    go_step
    refine H L.length _ _ ⟨0, i0, ⟨rfl, rfl, by simp⟩, by omega, ?_, ?_, ?_, hi0, Drew.refl w⟩
    · intro p h1 h2; simp at h2; omega
    · simp
    · intro h; omega
end
end Go.Proofs.YtpnkaamijjeckaaDoor
