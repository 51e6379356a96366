/- The parser of frames: Next, where a frame's head is there. -/
import Derived.Test.YtjeejflmkdncpaaFmE
namespace Go.Proofs.Ytjeejflmkdncpaa
open Go.RowKit
set_option linter.unusedVariables false

section
variable {B : Nat} {w0 w : World} {pb M rb fb : Nat} {v : Value} {pre L xs : List UInt8} {bad : Bool} {m : Int} {F S A : List (Nat × Obj)} {n : Nat}

theorem conv_first {a1 : Option Addr} {c1 k : Nat} (h : SlIs 5 1 (.slice a1 L.length c1) L.length (Lib.byteCells L) S) (h0 : 0 < k) (hk : k ≤ L.length) {w : World} {A : List (Nat × Obj)} (hst : St B w0 w (A ++ S)) :
    (convert 45 9 (.slice a1 k c1)).run Try.prog w = .ok (tx (L.take k)) w := by
  obtain ⟨a, cap, e, -, -, ha⟩ := h.form
  cases e
  obtain ⟨g, off, rfl⟩ := ha 0 (by omega)
  refine run_conv_bytes (by rw [List.length_take]; omega) fun i c hi => ?_
  have hlt := (List.getElem?_eq_some_iff.1 hi).1
  rw [List.length_take] at hlt
  rw [List.getElem?_take, if_pos (by omega)] at hi
  exact h.cellAt hst (byteCells_at hi)

set_option maxHeartbeats 4000000 in
set_option maxRecDepth 100000 in
theorem next_long (h7 : ¬ L.length < 7) (h : PsAt B w0 w pb m v pre L bad F S) (few : pre.length ≤ L.length) (h1 : bad = false → m = M) (h2 : bad = true → L = []) (h3 : 64 ≤ M ∧ M ≤ 4096) (hL : L.length ≤ 4000000) :
    Calls Try.prog 19 #[fpt pb] w (NextR B w0 pb M (nextL M bad L) F) := by
  go_enter Try.func19, Try.ntmps19
  go_wp2_with fail
  refine wp_scope_fwd 0 1 (fun a' w' => OnAt B w0 pb w.heap.size m v pre L bad F S a' w' ∧ nextL M bad L = ((0, 0, []), false, 501, true, [])) (fun a' w' => OnAt B w0 pb w.heap.size m v pre L bad F S a' w' ∧ nextL M bad L = ((0, 0, []), false, 0, bad, L)) (by decide) rfl rfl ?_ ?_ ?_
  · rintro a' w' ⟨⟨hfr, hp⟩, hr⟩
    obtain ⟨f, rfl, hl⟩ := hfr.lit
    clear hfr h
    simp only [List.mem_cons, List.not_mem_nil, or_false, forall_eq_or_imp, forall_eq] at hl
    obtain ⟨f0, f2⟩ := hl
    simp only [List.range, List.range.loop, List.map, f0, f2]
    clear f0 f2
    rw [hr]
    generalize w.heap.size = rb at *
    have hne := hp.st.two
    simp only at hne
    have hne' : ¬ rb = pb := Ne.symm hne
    obtain ⟨fin, q0, q1, q2⟩ := fail_pass hp h3 _ (Lib.hid rfl)
    replace fin := Lib.hid fin
    have c0 := hp.c0
    have c1 := hp.c1
    have c2 := hp.c2
    have c3 := hp.c3
    have s0 := hp.soft 0
    have s1 := hp.soft 1
    have s2 := hp.soft 2
    have s3 := hp.soft 3
    have r0 : w'.cell? ⟨rb, 0, none⟩ = some (.int .i64 0) := hp.st.cell (b := rb) (List.mem_cons_of_mem _ List.mem_cons_self) rfl
    have r1 : w'.cell? ⟨rb, 1, none⟩ = some (.int .i64 0) := hp.st.cell (b := rb) (List.mem_cons_of_mem _ List.mem_cons_self) rfl
    have r2 : w'.cell? ⟨rb, 2, none⟩ = some (tx []) := hp.st.cell (b := rb) (List.mem_cons_of_mem _ List.mem_cons_self) rfl
    have t0 : w'.frozen? ⟨rb, 0, none⟩ = false := St.soft (b := rb) hp.st (List.mem_cons_of_mem _ List.mem_cons_self) 0
    have t1 : w'.frozen? ⟨rb, 1, none⟩ = false := St.soft (b := rb) hp.st (List.mem_cons_of_mem _ List.mem_cons_self) 1
    have t2 : w'.frozen? ⟨rb, 2, none⟩ = false := St.soft (b := rb) hp.st (List.mem_cons_of_mem _ List.mem_cons_self) 2
    clear hp h1 h2 few hL hr
    go_wp2_with fail
    simp only [jumps]
    refine bodyPost_ret (ret_frame (k := 0) (c := 0) (d := []) rfl rfl rfl q0 q1 q2) rfl ⟨rfl, fin.out⟩
  · rintro a' w' ⟨⟨hfr, hp⟩, hr⟩
    obtain ⟨f, rfl, hl⟩ := hfr.lit
    clear hfr h
    simp only [List.mem_cons, List.not_mem_nil, or_false, forall_eq_or_imp, forall_eq] at hl
    obtain ⟨f0, f2⟩ := hl
    simp only [List.range, List.range.loop, List.map, f0, f2]
    clear f0 f2
    rw [hr]
    generalize w.heap.size = rb at *
    obtain ⟨hp2, q0, q1, q2⟩ := PsAt.frame (k' := 0) (c' := 0) (d' := []) hp _ (Lib.hid rfl)
    have fin : Hid (PsIs B w0 _ pb M bad L F) := Lib.hid ⟨m, v, pre, S, hp2.sub (List.sublist_cons_self _ _), few, h1, h2, h3⟩
    have r0 := hp.cellF (b := rb) (i := 0) List.mem_cons_self rfl
    have r1 := hp.cellF (b := rb) (i := 1) List.mem_cons_self rfl
    have r2 := hp.cellF (b := rb) (i := 2) List.mem_cons_self rfl
    have t0 := hp.softF (b := rb) List.mem_cons_self 0
    have t1 := hp.softF (b := rb) List.mem_cons_self 1
    have t2 := hp.softF (b := rb) List.mem_cons_self 2
    clear hp hp2 h1 h2 few hL hr
    go_wp2_with fail
    simp only [jumps]
    exact bodyPost_ret (ret_frame (k := 0) (c := 0) (d := []) rfl rfl rfl q0 q1 q2) rfl ⟨rfl, fin.out⟩
  · have hh : PsAt B w0 ((w.alloc (frO 0 0 [])).alloc (frO 0 0 [])) pb m v pre L bad ((w.heap.size + 1, frO 0 0 []) :: (w.heap.size, frO 0 0 []) :: F) S := by
      have := (h.alloc (frO 0 0 [])).alloc (frO 0 0 [])
      rwa [World.size_alloc] at this
    have c1 := hh.c1
    have c2 := hh.c2
    have c3 := hh.c3
    obtain ⟨a, cap, rfl, -, -, -⟩ := hh.sl.form
    obtain ⟨a1, cap1, hsl, hrun1⟩ := left_piece hh.sl
    rw [List.length_append] at c1
    have hp0 : (0 : Int) ≤ pre.length := by omega
    have hpl : (pre.length : Int) ≤ (pre.length : Int) + L.length := by omega
    have hL0 : (0 : Int) ≤ L.length := by omega
    have drop2 : ∀ W fo, PsAt B w0 W pb m (.slice a (pre ++ L).length cap) pre L bad ((w.heap.size + 1, fo) :: (w.heap.size, frO 0 0 []) :: F) S → PsAt B w0 W pb m (.slice a (pre ++ L).length cap) pre L bad ((w.heap.size, frO 0 0 []) :: F) S := fun W fo hW => hW.sub (List.sublist_cons_self _ _)
    replace drop2 := Lib.hid drop2
    have h7' : (7 : Int) ≤ L.length := by omega
    cases bad with
    | true =>
      have := h2 rfl
      rw [this] at h7
      exact absurd (by decide) h7
    | false =>
    have hcap : L.length ≤ cap1 := by obtain ⟨_, _, e, hc, -⟩ := hsl.form; cases e; exact hc
    have hcap' : (L.length : Int) ≤ cap1 := by omega
    have hcap7 : (7 : Int) ≤ cap1 := by omega
    obtain ⟨b, r, hbr⟩ : ∃ b r, L = b :: r := by cases L with | nil => simp at h7 | cons b r => exact ⟨b, r, rfl⟩
    have hlr : 6 ≤ r.length := by rw [hbr, List.length_cons] at h7; omega
    have hl6 : L.take 7 = b :: r.take 6 := by rw [hbr]; rfl
    have hlen6 : (r.take 6).length = 6 := by rw [List.length_take]; omega
    have ht1 : takeL (L.take 7) 1 = (b.toNat, r.take 6, 0) := by rw [hl6]; exact takeL_cons1 b _
    have ht2 : takeL (r.take 6) 2 = (num (r.take 2), (r.take 6).drop 2, 0) := by
      show takeL (r.take 6) ((2 : Nat) : Int) = _
      rw [takeL_some (k := 2) (by decide) (by omega), List.take_take]
      rfl
    have ht3 : takeL ((r.take 6).drop 2) 4 = (sizeOfL L, [], 0) := by
      have e : ((r.take 6).drop 2).length = 4 := by rw [List.length_drop, hlen6]
      show takeL ((r.take 6).drop 2) ((4 : Nat) : Int) = _
      have e3 : ((r.take 6).drop 2).drop 4 = [] := List.drop_of_length_le (by omega)
      have e2 : ((r.take 6).drop 2).take 4 = (r.drop 2).take 4 := by rw [List.take_of_length_le (by omega), List.drop_take]
      rw [takeL_some (k := 4) (by decide) (by omega), e2, e3]
      unfold sizeOfL
      rw [hbr]
      rfl
    have cv7 := Lib.hid (And.intro (fun q => conv_first hsl (k := 7) (by decide) (by omega) (hh.st.drewN q)) (fun (e : L.length = 7) q => show (convert 45 9 (.slice a1 L.length cap1)).run Try.prog (((w.alloc (frO 0 0 [])).alloc (frO 0 0 [])).drewN q) = .ok (tx (L.take 7)) _ by rw [e]; exact conv_first hsl (k := 7) (by decide) (by omega) (hh.st.drewN q)))
    have ct := Lib.hid (fun q => take_at ht1 (by rw [hl6, List.length_cons]; omega) (hh.drewN q))
    have ck := Lib.hid (isKind_any (b.toNat : Int))
    have ln2 : (r.take 6).length ≤ 8000000 := by omega
    have ln3 : ((r.take 6).drop 2).length ≤ 8000000 := by rw [List.length_drop]; omega
    have h7L : ¬ (b :: r).length < 7 := by rw [← hbr]; exact h7
    cases hk : isK (b.toNat : Int) with
    | false =>
      rw [hk] at ck
      have hb : Hid (nextL M false L = ((0, 0, []), false, 501, true, [])) := Lib.hid (by rw [hbr]; exact nextL_kind hk)
      generalize L.take 7 = T0 at *
      generalize r.take 6 = T1 at *
      clear hh hsl h h1 h2 few hbr hk hl6 hlen6 ht1 ht2 ht3 h7L
      generalize b.toNat = bk at *
      go_wp2_with fail
      go_quiet (fail)
      go_upto_region 5 with fail
      go_cut [9] (fun v9 wx => v9 = tx T0 ∧ ∃ q, wx = ((w.alloc (frO 0 0 [])).alloc (frO 0 0 [])).drewN q)
      case first =>
        clear ct ck hb drop2 hrun1 h3
        by_cases h8 : (7 : Int) < L.length
        · have hcv := cv7.out.1
          go_wp2_with fail
          go_meet
          case rel => exact ⟨rfl, _, rfl⟩
        · have h8' : (L.length : Int) ≤ 7 := by omega
          have hcv := cv7.out.2 (by omega)
          go_wp2_with fail
          go_meet
          case rel => exact ⟨rfl, _, rfl⟩
      case rest =>
      obtain ⟨rfl, q, rfl⟩ := hcut
      go_wp2_with fail
      refine (ct.out _).mono ?_
      rintro e w1 ⟨rfl, hh1⟩
      have f0 := hh1.cellF (b := w.heap.size + 1) (i := 0) List.mem_cons_self rfl
      have s0 := hh1.softF (b := w.heap.size + 1) List.mem_cons_self 0
      have fin := Lib.hid (drop2.out _ _ (hh1.setF 0 (.int .i64 bk)))
      clear hh1 ct drop2
      go_wp2_with fail
      refine (ck.out _).mono ?_
      rintro e w2 ⟨rfl, rfl⟩
      go_wp2_with fail
      refine wp_goto ?_
      exact .inl ⟨rfl, ⟨⟨rfl, rfl, by simp⟩, fin.out⟩, hb.out⟩
    | true =>
    rw [hk] at ck
    have hbS : M < sizeOfL L + 8 → nextL M false L = ((0, 0, []), false, 501, true, []) := by rw [hbr]; exact nextL_size hk h7L
    have hbM : ¬ M < sizeOfL L + 8 → L.length < sizeOfL L + 8 → nextL M false L = ((0, 0, []), false, 0, false, L) := by rw [hbr]; exact nextL_more hk h7L
    have hbE : ¬ M < sizeOfL L + 8 → ¬ L.length < sizeOfL L + 8 → L[sizeOfL L + 7]? ≠ some 206 → nextL M false L = ((0, 0, []), false, 501, true, []) := by rw [hbr]; exact nextL_end hk h7L
    have hbO : ¬ M < sizeOfL L + 8 → ¬ L.length < sizeOfL L + 8 → L[sizeOfL L + 7]? = some 206 → nextL M false L = (((b.toNat : Int), ((num (r.take 2) : Nat) : Int), (L.drop 7).take (sizeOfL L)), true, 0, false, L.drop (sizeOfL L + 8)) := by rw [hbr]; exact nextL_one hk h7L
    have hszb : sizeOfL L < 72057594037927936 := num_le (by rw [List.length_take]; omega)
    obtain rfl := h1 rfl
    generalize sizeOfL L = sz at *
    generalize num (r.take 2) = ch at *
    generalize (r.take 6).drop 2 = T2 at *
    generalize L.take 7 = T0 at *
    generalize r.take 6 = T1 at *
    clear h h1 h2 hbr hk hl6 hlen6 ht1 h7L hlr
    generalize b.toNat = bk at *
    obtain ⟨ix, hix⟩ : ∃ ix, ix = sz + 7 := ⟨_, rfl⟩
    obtain ⟨i8, hi8⟩ : ∃ i8, i8 = sz + 8 := ⟨_, rfl⟩
    rw [← hix] at hbE hbO
    rw [← hi8] at hbS hbM hbE hbO
    have e7 : (7 : Int) + (sz : Int) = (ix : Int) := by omega
    have e8 : (8 : Int) + (sz : Int) = (i8 : Int) := by omega
    have w7 : wrap64 (ix : Int) = (ix : Int) := by unfold wrap64; omega
    have w8 : wrap64 (i8 : Int) = (i8 : Int) := by unfold wrap64; omega
    replace hbS := Lib.hid hbS
    replace hbM := Lib.hid hbM
    replace hbE := Lib.hid hbE
    replace hbO := Lib.hid hbO
    replace hix := Lib.hid hix
    replace hi8 := Lib.hid hi8
    replace hszb := Lib.hid hszb
    replace hsl := Lib.hid hsl
    clear hh
    go_wp2_with fail
    go_quiet (fail)
    go_upto_region 5 with fail
    go_cut [9] (fun v9 wx => v9 = tx T0 ∧ ∃ q, wx = ((w.alloc (frO 0 0 [])).alloc (frO 0 0 [])).drewN q)
    case first =>
      clear ct ck drop2 hrun1 h3
      by_cases h8 : (7 : Int) < L.length
      · have hcv := cv7.out.1
        go_wp2_with fail
        go_meet
        case rel => exact ⟨rfl, _, rfl⟩
      · have h8' : (L.length : Int) ≤ 7 := by omega
        have hcv := cv7.out.2 (by omega)
        go_wp2_with fail
        go_meet
        case rel => exact ⟨rfl, _, rfl⟩
    case rest =>
    obtain ⟨rfl, q, rfl⟩ := hcut
    go_wp2_with fail
    refine (ct.out _).mono ?_
    rintro e w1 ⟨rfl, hh1⟩
    have f0 := hh1.cellF (b := w.heap.size + 1) (i := 0) List.mem_cons_self rfl
    have s0 := hh1.softF (b := w.heap.size + 1) List.mem_cons_self 0
    have hh2 := hh1.setF 0 (.int .i64 bk)
    have ct2 := Lib.hid (take_at ht2 ln2 hh2)
    clear hh1 ct hh2 ht2 ln2 cv7
    go_wp2_with fail
    refine (ck.out _).mono ?_
    rintro e w2 ⟨rfl, rfl⟩
    go_wp2_with fail
    refine ct2.out.mono ?_
    rintro e w2 ⟨rfl, hh2⟩
    have g1 := hh2.cellF (b := w.heap.size + 1) (i := 1) List.mem_cons_self rfl
    have t1 := hh2.softF (b := w.heap.size + 1) List.mem_cons_self 1
    have hh3 := hh2.setF 1 (.int .i64 ch)
    have ct3 := Lib.hid (take_at ht3 ln3 hh3)
    clear hh2 ct2 hh3 ht3 f0 s0 c1 c2 c3 ck ln3
    go_wp2_with fail
    refine ct3.out.mono ?_
    rintro e w3 ⟨rfl, hh3⟩
    have k0 := hh3.c0
    by_cases hM : M < i8
    · have hM' : (M : Int) < i8 := by omega
      have hb := Lib.hid (hbS.out hM)
      have fin := Lib.hid (drop2.out _ _ hh3)
      clear hh3 ct3 drop2 g1 t1
      go_wp2_with fail
      refine wp_goto ?_
      exact .inl ⟨rfl, ⟨⟨rfl, rfl, by simp⟩, fin.out⟩, hb.out⟩
    have hM' : ¬ (M : Int) < i8 := by omega
    by_cases hl8 : L.length < i8
    · have hl8' : (L.length : Int) < i8 := by omega
      have hb := Lib.hid (hbM.out hM hl8)
      have fin := Lib.hid (drop2.out _ _ hh3)
      clear hh3 ct3 drop2 g1 t1
      go_wp2_with fail
      refine wp_goto ?_
      exact .inr ⟨rfl, ⟨⟨rfl, rfl, by simp⟩, fin.out⟩, hb.out⟩
    have hl8' : ¬ (L.length : Int) < i8 := by omega
    obtain ⟨_, _, e, -, -, ha⟩ := hsl.out.form
    cases e
    obtain ⟨g, off, rfl⟩ := ha 0 (by omega)
    clear ha
    have hix1 : ix < L.length := by have := hix.out; have := hi8.out; omega
    obtain ⟨x, hx⟩ : ∃ x, L[ix]? = some x := ⟨_, List.getElem?_eq_getElem hix1⟩
    have hix1' : (ix : Int) < L.length := by omega
    have hix0' : (0 : Int) ≤ ix := by omega
    have cx : w3.cell? ⟨g, off + ix, none⟩ = some (.int .u8 x.toNat) := hsl.out.cellAt hh3.st (byteCells_at hx)
    by_cases hx6 : x = 206
    rotate_left
    · have hb := Lib.hid (hbE.out hM hl8 (by rw [hx]; simpa using hx6))
      have hxn : ((x.toNat : Int) == 206) = false := by
        rw [beq_eq_false_iff_ne]
        intro h
        exact hx6 (UInt8.toNat_inj.1 (by show x.toNat = 206; omega))
      generalize x.toNat = xn at *
      have fin := Lib.hid (drop2.out _ _ hh3)
      clear hh3 ct3 drop2 g1 t1 hx hx6
      go_wp2_with fail
      refine wp_goto ?_
      exact .inl ⟨rfl, ⟨⟨rfl, rfl, by simp⟩, fin.out⟩, hb.out⟩
    · rw [hx6] at hx cx
      replace cx : w3.cell? ⟨g, off + ix, none⟩ = some (.int .u8 206) := cx
      have hb := Lib.hid (hbO.out hM hl8 hx)
      obtain ⟨u, hrun2, hcv⟩ := left_data hsl.out (k := sz) (by have := hix.out; omega)
      rw [e7] at hrun2
      have hcv := hcv _ _ hh3.st
      have d2 := hh3.cellF (b := w.heap.size + 1) (i := 2) List.mem_cons_self rfl
      have t2 := hh3.softF (b := w.heap.size + 1) List.mem_cons_self 2
      have hh4 := hh3.setF 2 (tx ((L.drop 7).take sz))
      have ct := Lib.hid (tell_any (n := i8) hh4 (by omega) (by omega) hL)
      generalize (L.drop 7).take sz = dt at *
      clear hh3 hh4 hx hx6 drop2 hsl
      go_wp2_with fail
      refine ct.out.mono ?_
      rintro e w5 ⟨rfl, v', pre', S', hp5, few5⟩
      have q0 := hp5.cellF (b := w.heap.size + 1) (i := 0) List.mem_cons_self rfl
      have q1 := hp5.cellF (b := w.heap.size + 1) (i := 1) List.mem_cons_self rfl
      have q2 := hp5.cellF (b := w.heap.size + 1) (i := 2) List.mem_cons_self rfl
      have r0 := hp5.cellF (b := w.heap.size) (i := 0) (List.mem_cons_of_mem _ List.mem_cons_self) rfl
      have r1 := hp5.cellF (b := w.heap.size) (i := 1) (List.mem_cons_of_mem _ List.mem_cons_self) rfl
      have r2 := hp5.cellF (b := w.heap.size) (i := 2) (List.mem_cons_of_mem _ List.mem_cons_self) rfl
      have z0 := hp5.softF (b := w.heap.size) (List.mem_cons_of_mem _ List.mem_cons_self) 0
      have z1 := hp5.softF (b := w.heap.size) (List.mem_cons_of_mem _ List.mem_cons_self) 1
      have z2 := hp5.softF (b := w.heap.size) (List.mem_cons_of_mem _ List.mem_cons_self) 2
      obtain ⟨hp6, y0, y1, y2⟩ := PsAt.frame (k' := bk) (c' := ch) (d' := dt) (hp5.sub (List.sublist_cons_self _ _)) _ (Lib.hid rfl)
      have fin : Hid (PsIs B w0 _ pb M false (L.drop i8) F) := Lib.hid ⟨_, v', pre', S', hp6.sub (List.sublist_cons_self _ _), few5, fun _ => rfl, fun e => absurd e (by decide), h3⟩
      clear hp5 hp6 few5 ct
      go_wp2_with fail
      simp only [jumps]
      exact bodyPost_ret (ret_frame rfl rfl rfl y0 y1 y2) rfl (by rw [hb.out]; exact ⟨rfl, fin.out⟩)
end
end Go.Proofs.Ytjeejflmkdncpaa
