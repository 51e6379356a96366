/- The document's own parser: Next. -/
import Derived.Test.YtjeejflmkdncpaaFmG
namespace Go.Proofs.Ytjeejflmkdncpaa
open Go.RowKit
set_option linter.unusedVariables false

section
variable {B : Nat} {w0 w : World} {pb M rb cb fb : Nat} {L : List UInt8} {bad : Bool} {F S A : List (Nat × Obj)} {n : Nat}

theorem stepL_cases (M : Nat) (L : List UInt8) : stepL M L = .bad ∨ (L.length < 7 ∧ stepL M L = .lack) ∨ (7 ≤ L.length ∧ L.length < sizeOfL L + 8 ∧ stepL M L = .lack) ∨
    (7 ≤ L.length ∧ sizeOfL L + 8 ≤ L.length ∧ ∃ b r, L = b :: r ∧ stepL M L = .one b.toNat (num (r.take 2)) (sizeOfL L)) := by
  cases L with
  | nil => exact .inr (.inl ⟨by decide, rfl⟩)
  | cons b r =>
    unfold stepL
    simp only
    by_cases h1 : isK (b.toNat : Int) = false
    · rw [if_pos h1]; exact .inl rfl
    rw [if_neg h1]
    by_cases h2 : (b :: r).length < 7
    · rw [if_pos h2]; exact .inr (.inl ⟨h2, rfl⟩)
    rw [if_neg h2]
    by_cases h3 : M < sizeOfL (b :: r) + 8
    · rw [if_pos h3]; exact .inl rfl
    rw [if_neg h3]
    by_cases h4 : (b :: r).length < sizeOfL (b :: r) + 8
    · rw [if_pos h4]; exact .inr (.inr (.inl ⟨by omega, h4, rfl⟩))
    rw [if_neg h4]
    by_cases h5 : (b :: r)[sizeOfL (b :: r) + 7]? ≠ some 206
    · rw [if_pos h5]; exact .inl rfl
    rw [if_neg h5]
    exact .inr (.inr (.inr ⟨by omega, by omega, b, r, rfl, rfl⟩))

/-- Behind the document's Next. -/
def RNextR (B : Nat) (w0 : World) (rb M : Nat) (r : (Int × Int × List UInt8) × Bool × Int × Bool × List UInt8) (F : List (Nat × Obj)) (e : Ending) (w' : World) : Prop :=
  e = .returned (.tuple #[frV r.1.1 r.1.2.1 r.1.2.2, .bool r.2.1, .int .i64 r.2.2.1]) ∧ RpIs B w0 w' rb M r.2.2.2.1 r.2.2.2.2 F

theorem rret_frame {tmps : Array Value} {k c : Int} {d : List UInt8} {x y : Value} (h2 : tmps[2]? = some (.pointer (some ⟨cb, 0, none⟩))) (h3 : tmps[3]? = some x) (h4 : tmps[4]? = some y) (q0 : w.cell? ⟨cb, 0, none⟩ = some (.int .i64 k)) (q1 : w.cell? ⟨cb, 1, none⟩ = some (.int .i64 c)) (q2 : w.cell? ⟨cb, 2, none⟩ = some (tx d)) :
    (results Try.f20 tmps).run Try.prog w = .ok (.tuple #[frV k c d, x, y]) w := by
  simp [results, Try.results20, go_sem, h2, h3, h4, q0, q1, q2]

/-- Three cells of a frame stored. -/
theorem RpIs.frame {k c k' c' : Int} {d d' : List UInt8} (h : RpIs B w0 w rb M bad L ((cb, frO k c d) :: F)) : ∀ w', Hid (w' = ((w.setCell ⟨cb, 0, none⟩ (.int .i64 k')).setCell ⟨cb, 1, none⟩ (.int .i64 c')).setCell ⟨cb, 2, none⟩ (tx d')) →
    RpIs B w0 w' rb M bad L ((cb, frO k' c' d') :: F) ∧ w'.cell? ⟨cb, 0, none⟩ = some (.int .i64 k') ∧ w'.cell? ⟨cb, 1, none⟩ = some (.int .i64 c') ∧ w'.cell? ⟨cb, 2, none⟩ = some (tx d') := by
  intro w' e
  obtain rfl := e.out
  have h2 := ((h.setF 0 (.int .i64 k')).setF 1 (.int .i64 c')).setF 2 (tx d')
  exact ⟨h2, h2.cellF (b := cb) List.mem_cons_self rfl, h2.cellF (b := cb) List.mem_cons_self rfl, h2.cellF (b := cb) List.mem_cons_self rfl⟩
theorem RpIs.erred (h : RpIs B w0 w rb M bad L F) : ∀ w', Hid (w' = (w.setCell ⟨rb, 2, none⟩ (.bool true)).setCell ⟨rb, 1, none⟩ (tx [])) → RpIs B w0 w' rb M true [] F := by
  intro w' e
  obtain rfl := e.out
  exact ⟨(h.1.set0 (C := F) 2 (.bool true)).set0 (C := F) 1 (tx []), fun _ => rfl, h.2.2⟩
theorem RpIs.setB {L' : List UInt8} (h : RpIs B w0 w rb M false L F) : RpIs B w0 (w.setCell ⟨rb, 1, none⟩ (tx L')) rb M false L' F :=
  ⟨h.1.set0 (C := F) 1 (tx L'), fun e => absurd e (by decide), h.2.2⟩
theorem RpIs.drew (h : RpIs B w0 w rb M bad L F) : RpIs B w0 w.drew rb M bad L F := ⟨h.1.drew, h.2⟩
theorem RpIs.ne {b : Nat} {o : Obj} (h : RpIs B w0 w rb M bad L F) (hm : (b, o) ∈ F) : rb ≠ b := St.ne (C := F) h.1 hm

set_option maxHeartbeats 4000000 in
set_option maxRecDepth 100000 in
theorem rp_next (h : RpIs B w0 w rb M bad L F) (hL : L.length ≤ 4000000) : Calls Try.prog 20 #[fpt rb] w (RNextR B w0 rb M (nextL M bad L) F) := by
  have hh : RpIs B w0 (w.alloc (frO 0 0 [])) rb M bad L ((w.heap.size, frO 0 0 []) :: F) := h.alloc _
  have c2 := hh.c2
  have s1 := hh.soft 1
  have s2 := hh.soft 2
  have c1 := hh.c1
  have hne := hh.ne List.mem_cons_self
  have hne' : ¬ w.heap.size = rb := Ne.symm hne
  cases bad with
  | true =>
    obtain rfl := h.nil
    rw [nextL_bad]
    obtain ⟨hp, y0, y1, y2⟩ := RpIs.frame (k' := 0) (c' := 0) (d' := []) (hh.erred _ (Lib.hid rfl)) _ (Lib.hid rfl)
    have fin : Hid (RpIs B w0 _ rb M true [] F) := Lib.hid (hp.sub (List.sublist_cons_self _ _))
    clear h hh hp
    go_enter Try.func20, Try.ntmps20
    go_wp2_with fail
    exact bodyPost_ret (rret_frame rfl rfl rfl y0 y1 y2) rfl ⟨rfl, fin.out⟩
  | false =>
    have cb := rbad_any hh hL
    have drop2 : Hid (∀ W o, RpIs B w0 W rb M false L ((w.heap.size, o) :: F) → RpIs B w0 W rb M false L F) := Lib.hid fun W o hW => hW.sub (List.sublist_cons_self _ _)
    rcases stepL_cases M L with hb | ⟨h7, hb⟩ | ⟨h7, hl, hb⟩ | ⟨h7, hl, b, r, hbr, hb⟩
    · have e : nextL M false L = ((0, 0, []), false, 501, true, []) := by unfold nextL; rw [hb]; rfl
      rw [e]
      rw [decide_eq_true hb] at cb
      replace cb := Lib.hid cb
      clear h hh hb e s1 s2 c1
      go_enter Try.func20, Try.ntmps20
      go_wp2_with fail
      refine cb.out.mono ?_
      rintro e w1 ⟨rfl, hh⟩
      have s1 := hh.soft 1
      have s2 := hh.soft 2
      have c1 := hh.c1
      have d2 := hh.c2
      have q0 := hh.cellF (b := w.heap.size) (i := 0) List.mem_cons_self rfl
      have q1 := hh.cellF (b := w.heap.size) (i := 1) List.mem_cons_self rfl
      have q2 := hh.cellF (b := w.heap.size) (i := 2) List.mem_cons_self rfl
      have z0 := hh.softF (b := w.heap.size) List.mem_cons_self 0
      have z1 := hh.softF (b := w.heap.size) List.mem_cons_self 1
      have z2 := hh.softF (b := w.heap.size) List.mem_cons_self 2
      obtain ⟨hp, y0, y1, y2⟩ := RpIs.frame (k' := 0) (c' := 0) (d' := []) (hh.erred _ (Lib.hid rfl)) _ (Lib.hid rfl)
      have fin : Hid (RpIs B w0 _ rb M true [] F) := Lib.hid (hp.sub (List.sublist_cons_self _ _))
      clear hh hp cb drop2
      go_wp2_with fail
      exact bodyPost_ret (rret_frame rfl rfl rfl y0 y1 y2) rfl ⟨rfl, fin.out⟩
    · have e : nextL M false L = ((0, 0, []), false, 0, false, L) := by unfold nextL; rw [hb]; rfl
      rw [e]
      rw [decide_eq_false (by rw [hb]; exact fun h => Got.noConfusion h)] at cb
      replace cb := Lib.hid cb
      have h7' : (L.length : Int) < 7 := by omega
      clear h hh hb e s1 s2 c1
      go_enter Try.func20, Try.ntmps20
      go_wp2_with fail
      refine cb.out.mono ?_
      rintro e w1 ⟨rfl, hh⟩
      have c1 := hh.c1
      have q0 := hh.cellF (b := w.heap.size) (i := 0) List.mem_cons_self rfl
      have q1 := hh.cellF (b := w.heap.size) (i := 1) List.mem_cons_self rfl
      have q2 := hh.cellF (b := w.heap.size) (i := 2) List.mem_cons_self rfl
      have z0 := hh.softF (b := w.heap.size) List.mem_cons_self 0
      have z1 := hh.softF (b := w.heap.size) List.mem_cons_self 1
      have z2 := hh.softF (b := w.heap.size) List.mem_cons_self 2
      obtain ⟨hp, y0, y1, y2⟩ := RpIs.frame (k' := 0) (c' := 0) (d' := []) hh _ (Lib.hid rfl)
      have fin := Lib.hid (drop2.out _ _ hp)
      clear hh hp cb drop2
      go_wp2_with fail
      exact bodyPost_ret (rret_frame rfl rfl rfl y0 y1 y2) rfl ⟨rfl, fin.out⟩
    · have e : nextL M false L = ((0, 0, []), false, 0, false, L) := by unfold nextL; rw [hb]; rfl
      rw [e]
      rw [decide_eq_false (by rw [hb]; exact fun h => Got.noConfusion h)] at cb
      replace cb := Lib.hid cb
      have h7' : ¬ (L.length : Int) < 7 := by omega
      have h3i : (3 : Int) ≤ L.length := by omega
      have ht : takeL (L.drop 3) 4 = (sizeOfL L, (L.drop 3).drop 4, 0) := takeL_some (k := 4) (by decide) (by rw [List.length_drop]; omega)
      have ex := sub_tx (L := L) (k := 3) (by omega)
      have hszb : sizeOfL L < 72057594037927936 := num_le (by rw [List.length_take]; omega)
      have hl0 : (L.drop 3).length ≤ 8000000 := by rw [List.length_drop]; omega
      generalize (L.drop 3).drop 4 = T1 at *
      generalize L.drop 3 = T0 at *
      generalize sizeOfL L = sz at *
      obtain ⟨i8, hi8⟩ : ∃ i8, i8 = sz + 8 := ⟨_, rfl⟩
      have e8 : (8 : Int) + (sz : Int) = (i8 : Int) := by omega
      have hl' : (L.length : Int) < i8 := by omega
      have w8 : wrap64 (i8 : Int) = (i8 : Int) := by unfold wrap64; omega
      replace ht := Lib.hid ht
      clear h hh hb e s1 s2 c1 hszb hi8 hl h7
      go_enter Try.func20, Try.ntmps20
      go_wp2_with fail
      refine cb.out.mono ?_
      rintro e w1 ⟨rfl, hh⟩
      have c1 := hh.c1
      have ct := Lib.hid (rtake_at ht.out hl0 hh)
      clear hh cb
      go_wp2_with fail
      refine ct.out.mono ?_
      rintro e w2 ⟨rfl, hh⟩
      have d1 := hh.c1
      have q0 := hh.cellF (b := w.heap.size) (i := 0) List.mem_cons_self rfl
      have q1 := hh.cellF (b := w.heap.size) (i := 1) List.mem_cons_self rfl
      have q2 := hh.cellF (b := w.heap.size) (i := 2) List.mem_cons_self rfl
      have z0 := hh.softF (b := w.heap.size) List.mem_cons_self 0
      have z1 := hh.softF (b := w.heap.size) List.mem_cons_self 1
      have z2 := hh.softF (b := w.heap.size) List.mem_cons_self 2
      obtain ⟨hp, y0, y1, y2⟩ := RpIs.frame (k' := 0) (c' := 0) (d' := []) hh _ (Lib.hid rfl)
      have fin := Lib.hid (drop2.out _ _ hp)
      clear hh hp ct drop2
      go_wp2_with fail
      exact bodyPost_ret (rret_frame rfl rfl rfl y0 y1 y2) rfl ⟨rfl, fin.out⟩
    · have e : nextL M false L = (((b.toNat : Int), ((num (r.take 2) : Nat) : Int), (L.drop 7).take (sizeOfL L)), true, 0, false, L.drop (sizeOfL L + 8)) := by unfold nextL; rw [hb]; rfl
      rw [e]
      rw [decide_eq_false (by rw [hb]; exact fun h => Got.noConfusion h)] at cb
      replace cb := Lib.hid cb
      have h7' : ¬ (L.length : Int) < 7 := by omega
      have h3i : (3 : Int) ≤ L.length := by omega
      have h1i : (1 : Int) ≤ L.length := by omega
      have hl0 : (0 : Int) < L.length := by omega
      have hl0' : 0 < L.length := by omega
      have ht : takeL (L.drop 3) 4 = (sizeOfL L, (L.drop 3).drop 4, 0) := takeL_some (k := 4) (by decide) (by rw [List.length_drop]; omega)
      have ht2 : takeL (L.drop 1) 2 = (num (r.take 2), (L.drop 1).drop 2, 0) := by
        have := takeL_some (k := 2) (by decide) (l := L.drop 1) (by rw [List.length_drop]; omega)
        rw [hbr] at this ⊢
        exact this
      have ex := sub_tx (L := L) (k := 3) (by omega)
      have ex1 := sub_tx (L := L) (k := 1) (by omega)
      have hszb : sizeOfL L < 72057594037927936 := num_le (by rw [List.length_take]; omega)
      have hl3 : (L.drop 3).length ≤ 8000000 := by rw [List.length_drop]; omega
      have hl1 : (L.drop 1).length ≤ 8000000 := by rw [List.length_drop]; omega
      have e0 : ((⟨L.toArray⟩ : ByteArray)[0]'(by show 0 < L.length; omega)).toNat = b.toNat := by subst hbr; rfl
      have hw : wrap64 ((b.toNat : Nat) : Int) = b.toNat := by
        have := u8_lt b
        unfold wrap64
        omega
      generalize num (r.take 2) = ch at *
      generalize (L.drop 3).drop 4 = T1 at *
      generalize (L.drop 1).drop 2 = T2 at *
      generalize L.drop 3 = T0 at *
      generalize L.drop 1 = T3 at *
      generalize sizeOfL L = sz at *
      have hbk := Lib.hid (u8_lt b)
      generalize b.toNat = bk at *
      obtain ⟨i8, hi8⟩ : ∃ i8, i8 = sz + 8 := ⟨_, rfl⟩
      obtain ⟨ix, hix⟩ : ∃ ix, ix = sz + 7 := ⟨_, rfl⟩
      have ex7 : (⟨L.toArray⟩ : ByteArray).extract 7 ix = ⟨((L.drop 7).take sz).toArray⟩ := by
        rw [ByteArray.extract_mk, hix]
        simp
      have ex8 := sub_tx (L := L) (k := i8) (by omega)
      have e8 : (8 : Int) + (sz : Int) = (i8 : Int) := by clear hw; omega
      have e7 : (7 : Int) + (sz : Int) = (ix : Int) := by clear hw; omega
      have hl' : ¬ (L.length : Int) < i8 := by clear hw; omega
      have hl8 : (i8 : Int) ≤ L.length := by clear hw; omega
      have hi80 : (0 : Int) ≤ i8 := Int.natCast_nonneg _
      have hix1 : (ix : Int) ≤ L.length := by clear hw; omega
      have hix7 : (7 : Int) ≤ ix := by clear hw; omega
      have hix0 : (0 : Int) ≤ ix := Int.natCast_nonneg _
      have hixn : 7 ≤ ix := by clear hw; omega
      have hixl : ix ≤ L.length := by clear hw; omega
      have w7 : wrap64 (ix : Int) = (ix : Int) := by clear hw; unfold wrap64; omega
      have w8 : wrap64 (i8 : Int) = (i8 : Int) := by clear hw w7; unfold wrap64; omega
      have w7r : Hid (IntKind.i64.wrap (ix : Int) = (ix : Int)) := Lib.hid (by clear hw w7 w8; rw [IntKind.wrap_i64]; omega)
      have hwr : Hid (IntKind.i64.wrap (bk : Int) = (bk : Int)) := Lib.hid (by clear hw w7 w8; rw [IntKind.wrap_i64]; have := hbk.out; omega)
      rw [← hi8]
      generalize (L.drop 7).take sz = dt at *
      replace ht := Lib.hid ht
      replace ht2 := Lib.hid ht2
      replace hbr := Lib.hid hbr
      replace hw := Lib.hid hw
      replace w7 := Lib.hid w7
      replace ex7 := Lib.hid ex7
      replace ex8 := Lib.hid ex8
      replace e0 := Lib.hid e0
      clear h hh hb e s1 s2 c1 hszb hi8 hl h7 hix
      go_enter Try.func20, Try.ntmps20
      go_wp2_with fail
      refine cb.out.mono ?_
      rintro e w1 ⟨rfl, hh⟩
      have c1 := hh.c1
      have ct := Lib.hid (rtake_at ht.out hl3 hh)
      clear hh cb
      go_wp2_with fail
      refine ct.out.mono ?_
      rintro e w2 ⟨rfl, hh⟩
      have d1 := hh.c1
      have ct2 := Lib.hid (rtake_at ht2.out hl1 hh)
      clear hh ct
      go_wp2_with fail
      refine ct2.out.mono ?_
      rintro e w3 ⟨rfl, hh⟩
      have b1 := hh.c1
      have nw := World.new_ne w3 _ b1
      have hw := hw.out
      have w7 := w7.out
      have ex7 := ex7.out
      have w7r := w7r.out
      have hwr := hwr.out
      have e0 := e0.out
      clear ct2 ht ht2
      have hA := hh.alloc (frO bk ch dt)
      have hB := RpIs.setB (L' := L.drop i8) hA
      have q0 := hB.cellF (b := w3.heap.size) (i := 0) List.mem_cons_self rfl
      have q1 := hB.cellF (b := w3.heap.size) (i := 1) List.mem_cons_self rfl
      have q2 := hB.cellF (b := w3.heap.size) (i := 2) List.mem_cons_self rfl
      have r0 := hB.cellF (b := w.heap.size) (i := 0) (List.mem_cons_of_mem _ List.mem_cons_self) rfl
      have r1 := hB.cellF (b := w.heap.size) (i := 1) (List.mem_cons_of_mem _ List.mem_cons_self) rfl
      have r2 := hB.cellF (b := w.heap.size) (i := 2) (List.mem_cons_of_mem _ List.mem_cons_self) rfl
      have z0 := hB.softF (b := w.heap.size) (List.mem_cons_of_mem _ List.mem_cons_self) 0
      have z1 := hB.softF (b := w.heap.size) (List.mem_cons_of_mem _ List.mem_cons_self) 1
      have z2 := hB.softF (b := w.heap.size) (List.mem_cons_of_mem _ List.mem_cons_self) 2
      have a1 := hA.c1
      have as1 := hA.soft 1
      obtain ⟨hp, -, -, -⟩ := RpIs.frame (k' := bk) (c' := ch) (d' := dt) (hB.sub (List.sublist_cons_self _ _)) _ (Lib.hid rfl)
      replace hp := hp.drew
      have y0 := hp.cellF (b := w.heap.size) (i := 0) (u := .int .i64 bk) List.mem_cons_self rfl
      have y1 := hp.cellF (b := w.heap.size) (i := 1) (u := .int .i64 ch) List.mem_cons_self rfl
      have y2 := hp.cellF (b := w.heap.size) (i := 2) (u := tx dt) List.mem_cons_self rfl
      have fin : Hid (RpIs B w0 _ rb M false (L.drop i8) F) := Lib.hid (hp.sub (List.sublist_cons_self _ _))
      replace q0 := Lib.hid q0
      replace q1 := Lib.hid q1
      replace q2 := Lib.hid q2
      replace r0 := Lib.hid r0
      replace r1 := Lib.hid r1
      replace r2 := Lib.hid r2
      replace z0 := Lib.hid z0
      replace z1 := Lib.hid z1
      replace z2 := Lib.hid z2
      replace a1 := Lib.hid a1
      replace as1 := Lib.hid as1
      replace y0 := Lib.hid y0
      replace y1 := Lib.hid y1
      replace y2 := Lib.hid y2
      replace w8 := Lib.hid w8
      clear hh hA hB hp drop2
      go_wp2_with fail
      go_region_held3 (fun wr => wr.cell? ⟨rb, 1, none⟩ = some (tx L)) (go_keep) (fail)
      all_goals
        clear hw w7 w7r hwr ex7 e0 ex ex1 hix1 hix7 hix0 hixn hixl e7
        have w8 := w8.out
        have ex8 := ex8.out
        have q0 := q0.out
        have q1 := q1.out
        have q2 := q2.out
        have r0 := r0.out
        have r1 := r1.out
        have r2 := r2.out
        have z0 := z0.out
        have z1 := z1.out
        have z2 := z2.out
        have a1 := a1.out
        have as1 := as1.out
        go_wp2_with fail
        exact bodyPost_ret (rret_frame rfl rfl rfl y0.out y1.out y2.out) rfl ⟨rfl, fin.out⟩
end
end Go.Proofs.Ytjeejflmkdncpaa
