/- FrameSplits. -/
import Derived.Test.YtjeejflmkdncpaaFmK
namespace Go.Proofs.Ytjeejflmkdncpaa
open Go.RowKit
set_option linter.unusedVariables false

theorem cutsL_piece {r : Nat} (hr : 0 < r) : ∀ (n : Nat) (d : List UInt8), d.length ≤ n → ∀ (i : Nat) (x : List UInt8), (cutsL r d)[i]? = some x → 0 < x.length ∧ x.length ≤ r ∧ (i + 1 < (cutsL r d).length → x.length = r) := by
  intro n
  induction n with
  | zero =>
    intro d hd i x hx
    obtain rfl : d = [] := List.eq_nil_of_length_eq_zero (by omega)
    rw [cutsL_nil] at hx
    simp at hx
  | succ n ih =>
    intro d hd i x hx
    by_cases h : d = []
    · rw [h, cutsL_nil] at hx
      simp at hx
    · have hp := List.length_pos_iff.2 h
      rw [cutsL_step hr h] at hx ⊢
      cases i with
      | zero =>
        simp only [List.getElem?_cons_zero, Option.some.injEq] at hx
        subst hx
        rw [List.length_take]
        refine ⟨by omega, by omega, fun h2 => ?_⟩
        by_cases h3 : d.length ≤ r
        · rw [List.drop_of_length_le h3, cutsL_nil] at h2
          simp at h2
        · omega
      | succ i =>
        simp only [List.getElem?_cons_succ] at hx
        obtain ⟨a, b, c⟩ := ih (d.drop r) (by rw [List.length_drop]; omega) i x hx
        exact ⟨a, b, fun h2 => c (by rw [List.length_cons] at h2; omega)⟩

/-- All the data of these frames. -/
def allL (l : List Frm) : List UInt8 := (l.map (·.2.2)).flatten
theorem allL_snoc (l : List Frm) (f : Frm) : allL (l ++ [f]) = allL l ++ f.2.2 := by simp [allL]
theorem allL_take {l : List Frm} {i : Nat} {f : Frm} (h : l[i]? = some f) : allL (l.take (i + 1)) = allL (l.take i) ++ f.2.2 := by
  rw [List.take_add_one, h, Option.toList_some, allL_snoc]
theorem allL_split (k c : Int) (d : List UInt8) (most : Int) : allL (splitL k c d most) = d := by
  have hm := heldM_bd most
  unfold splitL allL
  rw [List.map_map]
  simp only [Function.comp_def, List.map_id']
  exact cutsL_cat (by omega) _ d (Nat.le_refl _)
theorem splitL_at {k c : Int} {d : List UInt8} {most : Int} {i : Nat} {f : Frm} (h : (splitL k c d most)[i]? = some f) :
    f.1 = k ∧ f.2.1 = c ∧ 0 < f.2.2.length ∧ f.2.2.length ≤ heldM most - 8 ∧ (i + 1 < (splitL k c d most).length → f.2.2.length = heldM most - 8) := by
  have hm := heldM_bd most
  unfold splitL at h ⊢
  rw [List.getElem?_map] at h
  obtain ⟨x, hx, rfl⟩ := Option.map_eq_some_iff.1 h
  rw [List.length_map]
  obtain ⟨a, b, c'⟩ := cutsL_piece (by omega) _ d (Nat.le_refl _) i x hx
  exact ⟨rfl, rfl, a, b, c'⟩
theorem allL_le {l : List Frm} (i : Nat) : (allL (l.take i)).length ≤ (allL l).length := by
  have h : allL l = allL (l.take i) ++ allL (l.drop i) := by
    unfold allL
    rw [← List.flatten_append, ← List.map_append, List.take_append_drop]
  rw [h, List.length_append]
  omega

theorem ReadFrames.at_ {w : World} {a : Option Addr} {n cap i : Nat} {l : List Frm} {f : Frm} (h : ReadFrames w (.slice a n cap) l) (hx : l[i]? = some f) :
    ∃ b off, a = some ⟨b, off, none⟩ ∧ w.cell? ⟨b, off + i * 3, none⟩ = some (.int .i64 f.1) ∧ w.cell? ⟨b, off + i * 3 + 1, none⟩ = some (.int .i64 f.2.1) ∧ w.cell? ⟨b, off + i * 3 + 2, none⟩ = some (tx f.2.2) := by
  obtain ⟨a', cap', e, h⟩ := h
  cases e
  exact h i f hx

set_option maxHeartbeats 8000000 in
set_option maxRecDepth 100000 in
theorem splits_nat (d : List UInt8) (mo : Nat) (hmo : mo ≤ 65535) (w : World) : Calls Try.prog 6 #[tx d, .int .u16 mo] w fun e w' => e = .returned (.bool true) ∧ Below w.heap.size w w' := by
  have c1 := Lib.hid known7_true
  by_cases h1 : 3000 < d.length
  · have h1' : (3000 : Int) < d.length := by omega
    go_enter Try.func6, Try.ntmps6
    go_wp2_with fail
    refine (c1.out _).mono ?_
    rintro e w1 ⟨rfl, hb⟩
    replace hb := Lib.hid hb
    go_wp2_with fail
    go_ret
    exact ⟨rfl, hb.out⟩
  have h1' : ¬ (3000 : Int) < d.length := by omega
  have c2 := Lib.hid (fun w => split_b w 3 3 d mo (by omega))
  have hm := heldM_bd mo
  obtain ⟨r, hr⟩ : ∃ r, r = heldM mo - 8 := ⟨_, rfl⟩
  have hall := allL_split 3 3 d mo
  have hT : Hid (∀ i f, (splitL 3 3 d mo)[i]? = some f → f.1 = 3 ∧ f.2.1 = 3 ∧ 0 < f.2.2.length ∧ f.2.2.length ≤ r ∧ (i + 1 < (splitL 3 3 d mo).length → f.2.2.length = r)) := Lib.hid fun i f h => by rw [hr]; exact splitL_at h
  have hTn : (splitL 3 3 d mo).length ≤ 50000 := splitL_len (by omega)
  have er : mo ≤ 64 ∧ heldM mo = 64 ∨ (64 < mo ∧ mo ≤ 4096 ∧ heldM mo = mo) ∨ (4096 < mo ∧ heldM mo = 4096) := by unfold heldM; omega
  have e8 : (heldM mo : Int) - 8 = r := by omega
  generalize heldM mo = M at *
  generalize splitL 3 3 d mo = T at *
  have hm0 : (0 : Int) ≤ mo := by omega
  have hm1 : (mo : Int) ≤ 65535 := by omega
  replace hr := Lib.hid hr
  replace e8 := Lib.hid e8
  replace hm := Lib.hid hm
  go_enter Try.func6, Try.ntmps6
  go_wp2_with fail
  refine (c1.out _).mono ?_
  rintro e w1 ⟨rfl, hb1⟩
  replace hb1 := Lib.hid hb1
  clear c1
  go_upto_region 5 with fail
  go_cut [5] (fun v5 wx => v5 = .int .i64 M ∧ wx = w1)
  case first =>
    clear hall hT c2
    rcases er with ⟨h1, h2⟩ | ⟨h1, h2, h3⟩ | ⟨h1, h2⟩
    · have h1i : (mo : Int) ≤ 64 := by omega
      have h2i : ¬ (4096 : Int) < mo := by omega
      subst h2
      go_wp2_with fail
      all_goals
        go_meet
        case rel => exact ⟨rfl, rfl⟩
    · have h1i : ¬ (mo : Int) ≤ 64 := by omega
      have h2i : ¬ (4096 : Int) < mo := by omega
      subst h3
      go_wp2_with fail
      all_goals
        go_meet
        case rel => exact ⟨rfl, rfl⟩
    · have h2i : (4096 : Int) < mo := by omega
      subst h2
      go_wp2_with fail
      all_goals
        go_meet
        case rel => exact ⟨rfl, rfl⟩
  case rest =>
  obtain ⟨rfl, rfl⟩ := hcut
  clear er
  go_wp2_with fail
  refine (c2.out _).mono ?_
  rintro e w2 ⟨v, rfl, hrd, hb2⟩
  replace hb2 := Lib.hid (bel hb1.out hb2)
  clear c2 hb1
  obtain ⟨a, cap, rfl, hrd⟩ := hrd
  replace hrd : Hid (ReadFrames w2 (.slice a T.length cap) T) := Lib.hid ⟨a, cap, rfl, hrd⟩
  go_wp2_with fail
  go_loopg [7, 8] T.length (fun g v7 v8 wr => ∃ i : Nat, v7 = tx (allL (T.take i)) ∧ v8 = .int .i64 i ∧ i + g = T.length ∧ Hid (Below w2.heap.size w2 wr))
  case atStart => exact ⟨0, rfl, rfl, by omega, Lib.hid (Below.refl _ _)⟩
  case round =>
    obtain ⟨i, rfl, rfl, hi, hb⟩ := hrel
    by_cases hlt : i < T.length
    · have hx : T[i]? = some T[i] := List.getElem?_eq_getElem hlt
      generalize T[i] = x at hx
      obtain ⟨hx1, hx2, hx3, hx4, hx5⟩ := hT.out i x hx
      have hst := allL_take hx
      have hle := allL_le (l := T) i
      have hle2 := allL_le (l := T) (i + 1)
      obtain ⟨b, off, rfl, k1, k2, k3⟩ := (hrd.out.below hb.out).at_ hx
      obtain ⟨x1, x2, y⟩ := x
      simp only at hx1 hx2 hx3 hx4 hx5 hst k1 k2 k3
      subst hx1 hx2
      rw [hall] at hle hle2
      have hyl : y.length ≤ 3000 := by
        rw [hst, List.length_append] at hle2
        omega
      have hadd : ∀ W : World, (Op.stringOp .add ⟨(allL (T.take i)).toArray⟩ ⟨y.toArray⟩).run Try.prog W = .ok (tx (allL (T.take (i + 1)))) W := fun W => by
        rw [run_string_add_lists W _ _ (by omega) (by omega), hst]
      have hi1 : (i : Int) < T.length := by omega
      have hi0 : (0 : Int) ≤ i := by omega
      have hy0 : ((y.length : Int) == 0) = false := by rw [beq_eq_false_iff_ne]; omega
      have hy1 : ¬ (r : Int) < y.length := by omega
      obtain ⟨q, hq⟩ : ∃ q, q = T.length - 1 := ⟨_, rfl⟩
      have eq1 : (T.length : Int) - 1 = q := by omega
      have wq : wrap64 (q : Int) = q := by unfold wrap64; omega
      have wr8 : wrap64 (r : Int) = r := by have := hm.out; have := hr.out; clear wq; unfold wrap64; omega
      have e8' := e8.out
      generalize hC2 : allL (T.take (i + 1)) = C2 at *
      replace hC2 := Lib.hid hC2
      generalize allL (T.take i) = C1 at *
      by_cases hlast : i < q
      · have hlast' : (i : Int) < q := by omega
        have hyr : y.length = r := hx5 (by omega)
        have hyr' : ((y.length : Int) == r) = true := by rw [hyr]; simp
        have fin := Lib.hid (bel hb.out (alloc_below wr (frO 3 3 y)))
        replace hq := Lib.hid hq
        replace hyr := Lib.hid hyr
        clear hb hx hst hle hle2 hx3 hx4 hx5 hT hyl hlt hlast
        go_wp2_with fail
        go_roundg (T.length - (i + 1))
        case measure => omega
        case rel => exact ⟨i + 1, by rw [hC2.out], by go_num, by omega, fin⟩
      · have hlast' : ¬ (i : Int) < q := by omega
        have fin := Lib.hid (bel hb.out (alloc_below wr (frO 3 3 y)))
        replace hq := Lib.hid hq
        clear hb hx hst hle hle2 hx3 hx4 hx5 hT hyl hlt hlast
        go_wp2_with fail
        go_roundg (T.length - (i + 1))
        case measure => omega
        case rel => exact ⟨i + 1, by rw [hC2.out], by go_num, by omega, fin⟩
    · obtain rfl : i = T.length := by omega
      rw [List.take_length, hall]
      clear hT
      go_wp2_with fail
      go_ret
      exact ⟨rfl, bel hb2.out hb.out⟩

theorem splits_row {n : Int} {s : ByteArray} {w : World} (rn : Read Try.prog w 50 [.int .u16 n]) :
    Calls Try.prog 6 #[.string s, .int .u16 n] w fun e w' => e = .returned (.bool true) ∧ Below w.heap.size w w' := by
  have uU16 : Try.prog.underlying 50 = some (.int .u16) := by kernel_rfl
  obtain ⟨n', h1, wn⟩ := rn.int uU16
  simp only [List.cons.injEq, and_true, Value.int.injEq, true_and] at h1
  subst h1
  obtain ⟨n0, n1⟩ := bounds_u16 wn
  obtain ⟨m, rfl⟩ := Int.eq_ofNat_of_zero_le n0
  exact splits_nat s.data.toList m (by omega) w
end Go.Proofs.Ytjeejflmkdncpaa
