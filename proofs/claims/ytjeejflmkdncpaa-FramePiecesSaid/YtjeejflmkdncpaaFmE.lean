/- The parser of frames: Next. -/
import Derived.Test.YtjeejflmkdncpaaFmD
import Derived.Test.YtjeejflmkdncpaaGoto
namespace Go.Proofs.Ytjeejflmkdncpaa
open Go.RowKit
set_option linter.unusedVariables false

section
variable {P : Program} {a : Act} {w : World} {Q : Exit → Act → World → Prop}
/-- A scope with two labels that the run jumps forward to. -/
theorem wp_scope_fwd {c X0 X1 : Code} (l0 l1 : Nat) (J0 J1 : Act → World → Prop) (hne : l0 ≠ l1) (h0 : findLabel c l0 = some (.seq .skip X0)) (h1 : findLabel c l1 = some (.seq .skip X1))
    (pass0 : ∀ a w, J0 a w → X0.wp P (jumps (fun _ _ _ => False) Q) a w) (pass1 : ∀ a w, J1 a w → X1.wp P (jumps (fun _ _ _ => False) Q) a w)
    (first : c.wp P (jumps (fun l a w => (l = l0 ∧ J0 a w) ∨ (l = l1 ∧ J1 a w)) Q) a w) : (Code.scope c).wp P Q a w := by
  refine wp_scope_gotos (fun l => if l = l0 then X0 else X1) (fun l n a w => n = 0 ∧ ((l = l0 ∧ J0 a w) ∨ (l = l1 ∧ J1 a w))) ?_ ?_ ?_
  · rintro l n a w ⟨_, ⟨rfl, _⟩ | ⟨rfl, _⟩⟩
    · rw [if_pos rfl]; exact h0
    · rw [if_neg (Ne.symm hne)]; exact h1
  · exact Code.wp_mono (jumps_mono fun l a w h => ⟨0, rfl, h⟩) first
  · rintro l n a w ⟨_, ⟨rfl, h⟩ | ⟨rfl, h⟩⟩
    · rw [if_pos rfl]; exact Code.wp_mono (jumps_mono fun _ _ _ h => h.elim) (pass0 a w h)
    · rw [if_neg (Ne.symm hne)]; exact Code.wp_mono (jumps_mono fun _ _ _ h => h.elim) (pass1 a w h)
end

section
variable {B : Nat} {w0 w : World} {pb M rb fb : Nat} {v : Value} {pre L xs : List UInt8} {bad : Bool} {m : Int} {F S A : List (Nat × Obj)} {n : Nat}

abbrev frO (k c : Int) (d : List UInt8) : Obj := .cells #[.int .i64 k, .int .i64 c, tx d] 23

/-- Behind Next. -/
def NextR (B : Nat) (w0 : World) (pb M : Nat) (r : (Int × Int × List UInt8) × Bool × Int × Bool × List UInt8) (F : List (Nat × Obj)) (e : Ending) (w' : World) : Prop :=
  e = .returned (.tuple #[frV r.1.1 r.1.2.1 r.1.2.2, .bool r.2.1, .int .i64 r.2.2.1]) ∧ PsIs B w0 w' pb M r.2.2.2.1 r.2.2.2.2 F

/-- On the way: the parser as it was, the frame's variable, the result's cell still empty. -/
def OnAt (B : Nat) (w0 : World) (pb rb : Nat) (m : Int) (v : Value) (pre L : List UInt8) (bad : Bool) (F S : List (Nat × Obj)) (a' : Act) (w' : World) : Prop :=
  Fr 93 [(0, fpt pb), (2, .pointer (some ⟨rb, 0, none⟩))] a' ∧ PsAt B w0 w' pb m v pre L bad ((rb, frO 0 0 []) :: F) S

theorem St.two {p q : Nat × Obj} {H : List (Nat × Obj)} (h : St B w0 w (p :: q :: H)) : p.1 ≠ q.1 := St.ne (o := p.2) (b' := q.1) (o' := q.2) (C := q :: H) h List.mem_cons_self

theorem nextL_kind {b : UInt8} {r : List UInt8} (h : isK b.toNat = false) : nextL M false (b :: r) = ((0, 0, []), false, 501, true, []) := by
  have e : stepL M (b :: r) = .bad := by unfold stepL; simp only; rw [if_pos h]
  unfold nextL
  rw [e]
  rfl
theorem nextL_short {b : UInt8} {r : List UInt8} (hk : isK b.toNat = true) (h : (b :: r).length < 7) : nextL M false (b :: r) = ((0, 0, []), false, 0, false, b :: r) := by
  have e : stepL M (b :: r) = .lack := by unfold stepL; simp only; rw [if_neg (by rw [hk]; decide), if_pos h]
  unfold nextL
  rw [e]
  rfl
theorem nextL_size {b : UInt8} {r : List UInt8} (hk : isK b.toNat = true) (h7 : ¬ (b :: r).length < 7) (hs : M < sizeOfL (b :: r) + 8) : nextL M false (b :: r) = ((0, 0, []), false, 501, true, []) := by
  have e : stepL M (b :: r) = .bad := by unfold stepL; simp only; rw [if_neg (by rw [hk]; decide), if_neg h7, if_pos hs]
  unfold nextL
  rw [e]
  rfl
theorem nextL_more {b : UInt8} {r : List UInt8} (hk : isK b.toNat = true) (h7 : ¬ (b :: r).length < 7) (hs : ¬ M < sizeOfL (b :: r) + 8) (hl : (b :: r).length < sizeOfL (b :: r) + 8) : nextL M false (b :: r) = ((0, 0, []), false, 0, false, b :: r) := by
  have e : stepL M (b :: r) = .lack := by unfold stepL; simp only; rw [if_neg (by rw [hk]; decide), if_neg h7, if_neg hs, if_pos hl]
  unfold nextL
  rw [e]
  rfl
theorem nextL_end {b : UInt8} {r : List UInt8} (hk : isK b.toNat = true) (h7 : ¬ (b :: r).length < 7) (hs : ¬ M < sizeOfL (b :: r) + 8) (hl : ¬ (b :: r).length < sizeOfL (b :: r) + 8) (he : (b :: r)[sizeOfL (b :: r) + 7]? ≠ some 206) : nextL M false (b :: r) = ((0, 0, []), false, 501, true, []) := by
  have e : stepL M (b :: r) = .bad := by unfold stepL; simp only; rw [if_neg (by rw [hk]; decide), if_neg h7, if_neg hs, if_neg hl, if_pos he]
  unfold nextL
  rw [e]
  rfl
theorem nextL_one {b : UInt8} {r : List UInt8} (hk : isK b.toNat = true) (h7 : ¬ (b :: r).length < 7) (hs : ¬ M < sizeOfL (b :: r) + 8) (hl : ¬ (b :: r).length < sizeOfL (b :: r) + 8) (he : (b :: r)[sizeOfL (b :: r) + 7]? = some 206) :
    nextL M false (b :: r) = (((b.toNat : Int), ((num (r.take 2) : Nat) : Int), ((b :: r).drop 7).take (sizeOfL (b :: r))), true, 0, false, (b :: r).drop (sizeOfL (b :: r) + 8)) := by
  have e : stepL M (b :: r) = .one b.toNat (num (r.take 2)) (sizeOfL (b :: r)) := by unfold stepL; simp only; rw [if_neg (by rw [hk]; decide), if_neg h7, if_neg hs, if_neg hl, if_neg (fun h => h he)]; rfl
  unfold nextL
  rw [e]
  rfl
theorem takeL_some {k : Nat} (hk : k ≤ 7) {l : List UInt8} (h : k ≤ l.length) : takeL l k = (num (l.take k), l.drop k, 0) := by
  unfold takeL
  rw [heldN_of hk, if_neg (by omega)]

theorem ret_frame {tmps : Array Value} {k c : Int} {d : List UInt8} {x y : Value} (h2 : tmps[2]? = some (.pointer (some ⟨rb, 0, none⟩))) (h3 : tmps[3]? = some x) (h4 : tmps[4]? = some y) (q0 : w.cell? ⟨rb, 0, none⟩ = some (.int .i64 k)) (q1 : w.cell? ⟨rb, 1, none⟩ = some (.int .i64 c)) (q2 : w.cell? ⟨rb, 2, none⟩ = some (tx d)) :
    (results Try.f19 tmps).run Try.prog w = .ok (.tuple #[frV k c d, x, y]) w := by
  simp [results, Try.results19, go_sem, h2, h3, h4, q0, q1, q2]

theorem PsAt.alloc (h : PsAt B w0 w pb m v pre L bad F S) (o : Obj) : PsAt B w0 (w.alloc o) pb m v pre L bad ((w.heap.size, o) :: F) S := ⟨h.sl, (h.st.alloc o).perm (List.Perm.swap _ _ _)⟩
theorem PsAt.sub {F' : List (Nat × Obj)} (h : PsAt B w0 w pb m v pre L bad F S) (hs : F'.Sublist F) : PsAt B w0 w pb m v pre L bad F' S := ⟨h.sl, h.st.sub ((hs.cons_cons _).append (List.Sublist.refl _))⟩
theorem PsAt.setF {b : Nat} {c : Array Value} {T : TypeId} (h : PsAt B w0 w pb m v pre L bad ((b, .cells c T) :: F) S) (i : Nat) (u : Value) : PsAt B w0 (w.setCell ⟨b, i, none⟩ u) pb m v pre L bad ((b, .cells (c.setIfInBounds i u) T) :: F) S :=
  ⟨h.sl, St.set (A := [_]) (C := F ++ S) h.st i u⟩
theorem PsAt.cellF {b : Nat} {c : Array Value} {T : TypeId} (h : PsAt B w0 w pb m v pre L bad F S) (hm : (b, .cells c T) ∈ F) {i : Nat} {u : Value} (hi : c[i]? = some u) : w.cell? ⟨b, i, none⟩ = some u :=
  h.st.cell (b := b) (i := i) (List.mem_append_left _ (List.mem_cons_of_mem _ hm)) hi
theorem PsAt.softF {b : Nat} {c : Array Value} {T : TypeId} (h : PsAt B w0 w pb m v pre L bad F S) (hm : (b, .cells c T) ∈ F) (i : Nat) : w.frozen? ⟨b, i, none⟩ = false :=
  St.soft h.st (b := b) (List.mem_append_left _ (List.mem_cons_of_mem _ hm)) i
theorem PsAt.ne {b : Nat} {o : Obj} (h : PsAt B w0 w pb m v pre L bad F S) (hm : (b, o) ∈ F) : pb ≠ b := St.ne (C := F ++ S) h.st (List.mem_append_left S hm)

theorem take_at {l r : List UInt8} {k : Int} {q : Nat} {en : Int} (hx : takeL l k = (q, r, en)) (hl : l.length ≤ 8000000) (hh : PsAt B w0 w pb m v pre L bad F S) :
    Calls Try.prog 28 #[tx l, .int .i64 k] w fun e w' => e = .returned (.tuple #[.int .i64 q, tx r, .int .i64 en]) ∧ PsAt B w0 w' pb m v pre L bad F S := by
  refine (take_to hx (by unfold maxLen; omega) w).mono ?_
  rintro e w' ⟨rfl, n, rfl⟩
  exact ⟨rfl, hh.drewN n⟩

/-- What is left of the bytes, and the first k of these, as a text. -/
theorem left_piece {a : Option Addr} {cap : Nat} (h : SlIs 5 1 (.slice a (pre ++ L).length cap) (pre ++ L).length (Lib.byteCells (pre ++ L)) S) :
    ∃ a1 c1, SlIs 5 1 (.slice a1 L.length c1) L.length (Lib.byteCells L) S ∧ ∀ w, (Instr.slice 45 (.slice a (pre.length + L.length) cap) (some (.int .i64 pre.length)) none none).run Try.prog w = .ok (.slice a1 L.length c1) w := by
  obtain ⟨i0, hi0, hz0, hz1, hz2⟩ := info_parts infU8B
  have hpl : (pre ++ L).length = pre.length + L.length := List.length_append
  obtain ⟨v', hv', -, hrun, -⟩ := run_piece (P := Try.prog) uBytes6 hi0 hz1 h pre.length (pre ++ L).length (by omega) (Nat.le_refl _)
  have hx : ((Lib.byteCells (pre ++ L)).drop (pre.length * 1)).take (((pre ++ L).length - pre.length) * 1) = Lib.byteCells L := by
    rw [byteCells_drop, byteCells_take, Nat.mul_one, Nat.mul_one, List.drop_left, List.take_of_length_le (by omega)]
  rw [hx, show (pre ++ L).length - pre.length = L.length by omega] at hv'
  obtain ⟨a1, c1, rfl, -, -, -⟩ := hv'.form
  have hrun := hrun rfl
  rw [hpl] at hrun
  exact ⟨a1, c1, hv', hrun⟩
theorem conv_sl {l : List UInt8} {u : Value} {A : List (Nat × Obj)} (h : SlIs 5 1 u l.length (Lib.byteCells l) S) (hst : St B w0 w (A ++ S)) : (convert 45 9 u).run Try.prog w = .ok (tx l) w := by
  have h0 := h
  obtain ⟨a, cap, rfl, -, -, ha⟩ := h.form
  cases l with
  | nil =>
    obtain ⟨hl, ⟨h1, _⟩ | ⟨g, off, cap', cur, h1, -⟩⟩ := h
    · cases h1
      simp [convert, go_sem, run_underlying uBytes6, run_underlying uStr6, run_underlying uU86, Conv.bytesToString]
      rfl
    · cases h1
      exact run_conv_bytes rfl fun i c hi => by simp at hi
  | cons b l =>
    obtain ⟨g, off, rfl⟩ := ha 0 (by simp)
    exact run_conv_bytes rfl fun i c hi => h0.cellAt hst (byteCells_at hi)
theorem left_head {a1 : Option Addr} {c1 k : Nat} (h : SlIs 5 1 (.slice a1 L.length c1) L.length (Lib.byteCells L) S) (hk : k ≤ L.length) :
    ∃ u, (∀ w, (Instr.slice 45 (.slice a1 L.length c1) none (some (.int .i64 k)) none).run Try.prog w = .ok u w) ∧ ∀ w (A : List (Nat × Obj)), St B w0 w (A ++ S) → (convert 45 9 u).run Try.prog w = .ok (tx (L.take k)) w := by
  obtain ⟨i0, hi0, hz0, hz1, hz2⟩ := info_parts infU8B
  obtain ⟨v', hv', -, -, hrun⟩ := run_piece (P := Try.prog) uBytes6 hi0 hz1 h 0 k (by omega) hk
  have hx : ((Lib.byteCells L).drop (0 * 1)).take ((k - 0) * 1) = Lib.byteCells (L.take k) := by
    rw [byteCells_drop, byteCells_take, Nat.mul_one, Nat.zero_mul, List.drop_zero, Nat.sub_zero]
  have hl : (L.take k).length = k := by rw [List.length_take]; omega
  rw [hx, Nat.sub_zero] at hv'
  refine ⟨v', hrun rfl, fun w A hst => conv_sl (by rw [hl]; exact hv') hst⟩
theorem left_data {a1 : Option Addr} {c1 k : Nat} (h : SlIs 5 1 (.slice a1 L.length c1) L.length (Lib.byteCells L) S) (hk : k + 7 ≤ L.length) :
    ∃ u, (∀ w, (Instr.slice 45 (.slice a1 L.length c1) (some (.int .i64 7)) (some (.int .i64 (7 + (k : Int)))) none).run Try.prog w = .ok u w) ∧ ∀ w (A : List (Nat × Obj)), St B w0 w (A ++ S) → (convert 45 9 u).run Try.prog w = .ok (tx ((L.drop 7).take k)) w := by
  obtain ⟨i0, hi0, hz0, hz1, hz2⟩ := info_parts infU8B
  obtain ⟨v', hv', hrun, -, -⟩ := run_piece (P := Try.prog) uBytes6 hi0 hz1 h 7 (7 + k) (by omega) (by omega)
  have hx : ((Lib.byteCells L).drop (7 * 1)).take ((7 + k - 7) * 1) = Lib.byteCells ((L.drop 7).take k) := by
    rw [byteCells_drop, byteCells_take, Nat.mul_one, Nat.mul_one, Nat.add_sub_cancel_left]
  have hl : ((L.drop 7).take k).length = k := by rw [List.length_take, List.length_drop]; omega
  rw [hx, Nat.add_sub_cancel_left] at hv'
  refine ⟨v', ?_, fun w A hst => conv_sl (by rw [hl]; exact hv') hst⟩
  intro w
  have := hrun w
  rwa [show ((7 + k : Nat) : Int) = 7 + (k : Int) by omega] at this

/-- Three cells of a frame stored. -/
theorem PsAt.frame {k c k' c' : Int} {d d' : List UInt8} (h : PsAt B w0 w pb m v pre L bad ((rb, frO k c d) :: F) S) : ∀ w', Hid (w' = ((w.setCell ⟨rb, 0, none⟩ (.int .i64 k')).setCell ⟨rb, 1, none⟩ (.int .i64 c')).setCell ⟨rb, 2, none⟩ (tx d')) →
    PsAt B w0 w' pb m v pre L bad ((rb, frO k' c' d') :: F) S ∧ w'.cell? ⟨rb, 0, none⟩ = some (.int .i64 k') ∧ w'.cell? ⟨rb, 1, none⟩ = some (.int .i64 c') ∧ w'.cell? ⟨rb, 2, none⟩ = some (tx d') := by
  intro w' e
  obtain rfl := e.out
  have h2 := ((h.setF 0 (.int .i64 k')).setF 1 (.int .i64 c')).setF 2 (tx d')
  exact ⟨h2, h2.cellF (b := rb) List.mem_cons_self rfl, h2.cellF (b := rb) List.mem_cons_self rfl, h2.cellF (b := rb) List.mem_cons_self rfl⟩
set_option maxHeartbeats 4000000 in
set_option maxRecDepth 100000 in
theorem fail_pass (hp : PsAt B w0 w pb m v pre L bad ((rb, frO 0 0 []) :: F) S) (h3 : 64 ≤ M ∧ M ≤ 4096) : ∀ w', Hid (w' = (((((((w.setCell ⟨pb, 0, none⟩ (.int .i64 0)).setCell ⟨pb, 1, none⟩ (.slice none 0 0)).setCell ⟨pb, 2, none⟩ (.int .i64 0)).setCell ⟨pb, 3, none⟩ (.bool true)).setCell ⟨rb, 0, none⟩ (.int .i64 0)).setCell ⟨rb, 1, none⟩ (.int .i64 0)).setCell ⟨rb, 2, none⟩ (tx []))) →
    PsIs B w0 w' pb M true [] F ∧ w'.cell? ⟨rb, 0, none⟩ = some (.int .i64 0) ∧ w'.cell? ⟨rb, 1, none⟩ = some (.int .i64 0) ∧ w'.cell? ⟨rb, 2, none⟩ = some (tx []) := by
  intro w' e
  obtain rfl := e.out
  have h1 := (((hp.st.set0 (C := ((rb, frO 0 0 []) :: F) ++ S) 0 (.int .i64 0)).set0 (C := ((rb, frO 0 0 []) :: F) ++ S) 1 (.slice none 0 0)).set0 (C := ((rb, frO 0 0 []) :: F) ++ S) 2 (.int .i64 0)).set0 (C := ((rb, frO 0 0 []) :: F) ++ S) 3 (.bool true)
  have h2 := ((St.set (A := [_]) (b := rb) (C := F ++ S) h1 0 (.int .i64 0)).set (A := [_]) (C := F ++ S) 1 (.int .i64 0)).set (A := [_]) (C := F ++ S) 2 (tx [])
  refine ⟨⟨0, .slice none 0 0, [], [], ⟨SlIs.nil, ?_⟩, Nat.le_refl _, fun e => absurd e (by decide), fun _ => rfl, h3⟩, h2.cell (b := rb) (List.mem_cons_of_mem _ List.mem_cons_self) rfl, h2.cell (b := rb) (List.mem_cons_of_mem _ List.mem_cons_self) rfl, h2.cell (b := rb) (List.mem_cons_of_mem _ List.mem_cons_self) rfl⟩
  exact h2.sub (by simp only [List.cons_append, List.nil_append, List.append_nil]; exact .cons_cons _ (.cons _ (List.sublist_append_left _ _)))

set_option maxHeartbeats 4000000 in
set_option maxRecDepth 100000 in
theorem next_short (h7 : L.length < 7) (h : PsAt B w0 w pb m v pre L bad F S) (few : pre.length ≤ L.length) (h1 : bad = false → m = M) (h2 : bad = true → L = []) (h3 : 64 ≤ M ∧ M ≤ 4096) (hL : L.length ≤ 4000000) :
    Calls Try.prog 19 #[fpt pb] w (NextR B w0 pb M (nextL M bad L) F) := by
  go_enter Try.func19, Try.ntmps19
  go_wp2_with fail
  refine wp_scope_fwd 0 1 (fun a' w' => OnAt B w0 pb w.heap.size m v pre L bad F S a' w' ∧ nextL M bad L = ((0, 0, []), false, 501, true, [])) (fun a' w' => OnAt B w0 pb w.heap.size m v pre L bad F S a' w' ∧ nextL M bad L = ((0, 0, []), false, 0, bad, L)) (by decide) rfl rfl ?_ ?_ ?_
  · rintro a' w' ⟨⟨hfr, hp⟩, hr⟩
    obtain ⟨f, rfl, hl⟩ := hfr.lit
    clear hfr h
    simp only [List.mem_cons, List.not_mem_nil, or_false, forall_eq_or_imp, forall_eq] at hl
    obtain ⟨f0, f2⟩ := hl
    simp only [List.range, List.range.loop, List.map, f0, f2]
    clear f0 f2
    rw [hr]
    generalize w.heap.size = rb at *
    have hne := hp.st.two
    simp only at hne
    have hne' : ¬ rb = pb := Ne.symm hne
    obtain ⟨fin, q0, q1, q2⟩ := fail_pass hp h3 _ (Lib.hid rfl)
    replace fin := Lib.hid fin
    have c0 := hp.c0
    have c1 := hp.c1
    have c2 := hp.c2
    have c3 := hp.c3
    have s0 := hp.soft 0
    have s1 := hp.soft 1
    have s2 := hp.soft 2
    have s3 := hp.soft 3
    have r0 : w'.cell? ⟨rb, 0, none⟩ = some (.int .i64 0) := hp.st.cell (b := rb) (List.mem_cons_of_mem _ List.mem_cons_self) rfl
    have r1 : w'.cell? ⟨rb, 1, none⟩ = some (.int .i64 0) := hp.st.cell (b := rb) (List.mem_cons_of_mem _ List.mem_cons_self) rfl
    have r2 : w'.cell? ⟨rb, 2, none⟩ = some (tx []) := hp.st.cell (b := rb) (List.mem_cons_of_mem _ List.mem_cons_self) rfl
    have t0 : w'.frozen? ⟨rb, 0, none⟩ = false := St.soft (b := rb) hp.st (List.mem_cons_of_mem _ List.mem_cons_self) 0
    have t1 : w'.frozen? ⟨rb, 1, none⟩ = false := St.soft (b := rb) hp.st (List.mem_cons_of_mem _ List.mem_cons_self) 1
    have t2 : w'.frozen? ⟨rb, 2, none⟩ = false := St.soft (b := rb) hp.st (List.mem_cons_of_mem _ List.mem_cons_self) 2
    clear hp h1 h2 few hL hr
    go_wp2_with fail
    simp only [jumps]
    refine bodyPost_ret (ret_frame (k := 0) (c := 0) (d := []) rfl rfl rfl q0 q1 q2) rfl ⟨rfl, fin.out⟩
  · rintro a' w' ⟨⟨hfr, hp⟩, hr⟩
    obtain ⟨f, rfl, hl⟩ := hfr.lit
    clear hfr h
    simp only [List.mem_cons, List.not_mem_nil, or_false, forall_eq_or_imp, forall_eq] at hl
    obtain ⟨f0, f2⟩ := hl
    simp only [List.range, List.range.loop, List.map, f0, f2]
    clear f0 f2
    rw [hr]
    generalize w.heap.size = rb at *
    obtain ⟨hp2, q0, q1, q2⟩ := PsAt.frame (k' := 0) (c' := 0) (d' := []) hp _ (Lib.hid rfl)
    have fin : Hid (PsIs B w0 _ pb M bad L F) := Lib.hid ⟨m, v, pre, S, hp2.sub (List.sublist_cons_self _ _), few, h1, h2, h3⟩
    have r0 := hp.cellF (b := rb) (i := 0) List.mem_cons_self rfl
    have r1 := hp.cellF (b := rb) (i := 1) List.mem_cons_self rfl
    have r2 := hp.cellF (b := rb) (i := 2) List.mem_cons_self rfl
    have t0 := hp.softF (b := rb) List.mem_cons_self 0
    have t1 := hp.softF (b := rb) List.mem_cons_self 1
    have t2 := hp.softF (b := rb) List.mem_cons_self 2
    clear hp hp2 h1 h2 few hL hr
    go_wp2_with fail
    simp only [jumps]
    exact bodyPost_ret (ret_frame (k := 0) (c := 0) (d := []) rfl rfl rfl q0 q1 q2) rfl ⟨rfl, fin.out⟩
  · have hh : PsAt B w0 ((w.alloc (frO 0 0 [])).alloc (frO 0 0 [])) pb m v pre L bad ((w.heap.size + 1, frO 0 0 []) :: (w.heap.size, frO 0 0 []) :: F) S := by
      have := (h.alloc (frO 0 0 [])).alloc (frO 0 0 [])
      rwa [World.size_alloc] at this
    have c1 := hh.c1
    have c2 := hh.c2
    have c3 := hh.c3
    obtain ⟨a, cap, rfl, -, -, -⟩ := hh.sl.form
    obtain ⟨a1, cap1, hsl, hrun1⟩ := left_piece hh.sl
    rw [List.length_append] at c1
    have hp0 : (0 : Int) ≤ pre.length := by omega
    have hpl : (pre.length : Int) ≤ (pre.length : Int) + L.length := by omega
    have hL0 : (0 : Int) ≤ L.length := by omega
    have drop2 : ∀ W fo, PsAt B w0 W pb m (.slice a (pre ++ L).length cap) pre L bad ((w.heap.size + 1, fo) :: (w.heap.size, frO 0 0 []) :: F) S → PsAt B w0 W pb m (.slice a (pre ++ L).length cap) pre L bad ((w.heap.size, frO 0 0 []) :: F) S := fun W fo hW => hW.sub (List.sublist_cons_self _ _)
    replace drop2 := Lib.hid drop2
    have h7' : (L.length : Int) < 7 := by omega
    obtain ⟨u, hrun2, hcv⟩ := left_head hsl (k := L.length) (Nat.le_refl _)
    rw [List.take_length] at hcv
    have hcv := fun q => hcv _ _ (hh.st.drewN q)
    cases bad with
    | true =>
      have hb := Lib.hid (nextL_bad M L)
      have fin := Lib.hid (fun q => drop2.out _ _ (hh.drewN q))
      clear hh hsl h h1 h2 few drop2
      go_wp2_with fail
      go_quiet (fail)
      go_wp2_with fail
      refine wp_goto ?_
      exact .inl ⟨rfl, ⟨⟨rfl, rfl, by simp⟩, fin.out _⟩, hb.out⟩
    | false =>
      by_cases hz : L = []
      · have ht : takeL L 1 = (0, L, 11) := by rw [hz]; rfl
        have ct := Lib.hid (fun q => take_at ht (by omega) (hh.drewN q))
        have hb : Hid (nextL M false L = ((0, 0, []), false, 0, false, L)) := Lib.hid (by rw [hz]; rfl)
        clear hh hsl h h1 h2 few hz ht
        go_wp2_with fail
        go_quiet (fail)
        go_wp2_with fail
        refine (ct.out _).mono ?_
        rintro e w1 ⟨rfl, hh1⟩
        have f0 := hh1.cellF (b := w.heap.size + 1) (i := 0) List.mem_cons_self rfl
        have s0 := hh1.softF (b := w.heap.size + 1) List.mem_cons_self 0
        have fin := Lib.hid (drop2.out _ _ (hh1.setF 0 (.int .i64 0)))
        clear hh1 ct drop2
        go_wp2_with fail
        refine wp_goto ?_
        exact .inr ⟨rfl, ⟨⟨rfl, rfl, by simp⟩, fin.out⟩, hb.out⟩
      · obtain ⟨b, r, hbr⟩ : ∃ b r, L = b :: r := by cases L with | nil => exact absurd rfl hz | cons b r => exact ⟨b, r, rfl⟩
        have hlr : L.length = r.length + 1 := by rw [hbr]; rfl
        replace hlr : r.length < 6 := by omega
        have ht : takeL L 1 = (b.toNat, r, 0) := by rw [hbr]; exact takeL_cons1 b r
        have ct := Lib.hid (fun q => take_at ht (by omega) (hh.drewN q))
        have ck := Lib.hid (isKind_any (b.toNat : Int))
        cases hk : isK (b.toNat : Int) with
        | false =>
          rw [hk] at ck
          have hb : Hid (nextL M false L = ((0, 0, []), false, 501, true, [])) := Lib.hid (by rw [hbr]; exact nextL_kind hk)
          clear hh hsl h h1 h2 few hz ht hbr hk
          generalize b.toNat = bk at *
          go_wp2_with fail
          go_quiet (fail)
          go_wp2_with fail
          refine (ct.out _).mono ?_
          rintro e w1 ⟨rfl, hh1⟩
          have f0 := hh1.cellF (b := w.heap.size + 1) (i := 0) List.mem_cons_self rfl
          have s0 := hh1.softF (b := w.heap.size + 1) List.mem_cons_self 0
          have fin := Lib.hid (drop2.out _ _ (hh1.setF 0 (.int .i64 bk)))
          clear hh1 ct drop2
          go_wp2_with fail
          refine (ck.out _).mono ?_
          rintro e w2 ⟨rfl, rfl⟩
          go_wp2_with fail
          refine wp_goto ?_
          exact .inl ⟨rfl, ⟨⟨rfl, rfl, by simp⟩, fin.out⟩, hb.out⟩
        | true =>
          rw [hk] at ck
          have hb : Hid (nextL M false L = ((0, 0, []), false, 0, false, L)) := Lib.hid (by rw [hbr]; exact nextL_short hk (by rw [← hbr]; exact h7))
          by_cases h3b : r.length < 2
          · have ht2 : takeL r 2 = (0, r, 11) := takeL_short (k := 2) (by decide) h3b
            clear hh hsl h h1 h2 few hz ht hbr hk
            generalize b.toNat = bk at *
            go_wp2_with fail
            go_quiet (fail)
            go_wp2_with fail
            refine (ct.out _).mono ?_
            rintro e w1 ⟨rfl, hh1⟩
            have f0 := hh1.cellF (b := w.heap.size + 1) (i := 0) List.mem_cons_self rfl
            have s0 := hh1.softF (b := w.heap.size + 1) List.mem_cons_self 0
            have hh2 := hh1.setF 0 (.int .i64 bk)
            have ct2 := Lib.hid (take_at ht2 (by omega) hh2)
            clear hh1 ct hh2 ht2 h3b
            go_wp2_with fail
            refine (ck.out _).mono ?_
            rintro e w2 ⟨rfl, rfl⟩
            go_wp2_with fail
            refine ct2.out.mono ?_
            rintro e w2 ⟨rfl, hh2⟩
            have g1 := hh2.cellF (b := w.heap.size + 1) (i := 1) List.mem_cons_self rfl
            have t1 := hh2.softF (b := w.heap.size + 1) List.mem_cons_self 1
            have fin := Lib.hid (drop2.out _ _ (hh2.setF 1 (.int .i64 0)))
            clear hh2 ct2 drop2 f0 s0
            go_wp2_with fail
            refine wp_goto ?_
            exact .inr ⟨rfl, ⟨⟨rfl, rfl, by simp⟩, fin.out⟩, hb.out⟩
          · have ht2 : takeL r 2 = (num (r.take 2), r.drop 2, 0) := takeL_some (k := 2) (by decide) (by omega)
            have ht3 : takeL (r.drop 2) 4 = (0, r.drop 2, 11) := takeL_short (k := 4) (by decide) (by rw [List.length_drop]; omega)
            have hl2 : (r.drop 2).length ≤ 8000000 := by rw [List.length_drop]; omega
            generalize r.drop 2 = r2 at *
            generalize num (r.take 2) = ch at *
            clear hh hsl h h1 h2 few hz ht hbr hk
            generalize b.toNat = bk at *
            go_wp2_with fail
            go_quiet (fail)
            go_wp2_with fail
            refine (ct.out _).mono ?_
            rintro e w1 ⟨rfl, hh1⟩
            have f0 := hh1.cellF (b := w.heap.size + 1) (i := 0) List.mem_cons_self rfl
            have s0 := hh1.softF (b := w.heap.size + 1) List.mem_cons_self 0
            have hh2 := hh1.setF 0 (.int .i64 bk)
            have ct2 := Lib.hid (take_at ht2 (by omega) hh2)
            clear hh1 ct hh2 ht2 h3b
            go_wp2_with fail
            refine (ck.out _).mono ?_
            rintro e w2 ⟨rfl, rfl⟩
            go_wp2_with fail
            refine ct2.out.mono ?_
            rintro e w2 ⟨rfl, hh2⟩
            have g1 := hh2.cellF (b := w.heap.size + 1) (i := 1) List.mem_cons_self rfl
            have t1 := hh2.softF (b := w.heap.size + 1) List.mem_cons_self 1
            have hh3 := hh2.setF 1 (.int .i64 ch)
            have ct3 := Lib.hid (take_at ht3 hl2 hh3)
            clear hh2 ct2 hh3 ht3 f0 s0
            go_wp2_with fail
            refine ct3.out.mono ?_
            rintro e w3 ⟨rfl, hh3⟩
            have fin := Lib.hid (drop2.out _ _ hh3)
            clear hh3 ct3 drop2 g1 t1
            go_wp2_with fail
            refine wp_goto ?_
            exact .inr ⟨rfl, ⟨⟨rfl, rfl, by simp⟩, fin.out⟩, hb.out⟩
end
end Go.Proofs.Ytjeejflmkdncpaa
