/- PatternHashes. -/
import Derived.Test.YtpplpcpdoghifaaPtI
namespace Go.Proofs.Ytpplpcpdoghifaa
open Go.RowKit
set_option linter.unusedVariables false

/-- A head of so many letters, points between. -/
def hd10 : Nat → List UInt8
  | 0 => []
  | i + 1 => hd10 i ++ (if i = 0 then [] else [46]) ++ [oct (97 + (i : Int))]
/-- So many words of that letter, a point ahead of each. -/
def tl10 (c : UInt8) : Nat → List UInt8
  | 0 => []
  | i + 1 => tl10 c i ++ [46, c]
theorem hd10_len (i : Nat) : (hd10 i).length ≤ 2 * i := by
  induction i with
  | zero => simp [hd10]
  | succ i ih =>
    unfold hd10
    split <;> simp <;> omega
theorem tl10_len (c : UInt8) (i : Nat) : (tl10 c i).length = 2 * i := by
  induction i with
  | zero => simp [tl10]
  | succ i ih =>
    simp [tl10]
    omega

theorem hash_facts : ∀ x : Fin 4, ∀ y : Fin 4, ∀ z : Fin 4,
    gl (wordsL (hd10 (x + 1) ++ [46, 35])) (wordsL (hd10 (x + 1) ++ tl10 116 y)) = true ∧
    gl (wordsL ([35, 46] ++ hd10 (x + 1))) (wordsL ([116] ++ tl10 116 y ++ [46] ++ hd10 (x + 1))) = true ∧
    gl (wordsL (hd10 (x + 1) ++ tl10 42 z)) (wordsL (hd10 (x + 1) ++ tl10 116 y)) = decide ((y : Nat) = (z : Nat)) ∧
    gl (wordsL (hd10 (x + 1) ++ [46, 35] ++ tl10 42 z)) (wordsL (hd10 (x + 1) ++ tl10 116 y)) = decide ((z : Nat) ≤ (y : Nat)) ∧
    gl (wordsL (hd10 (x + 1) ++ [46, 35])) (wordsL ([122] ++ tl10 116 y)) = false := by decide +kernel

theorem conv_byte10 {w : World} {b : Nat} {z : Int} (h : w.cell? ⟨b, 0, none⟩ = some (.int .u8 z)) (h0 : 0 ≤ z) (h1 : z ≤ 255) : (convert 31 9 (.slice (some ⟨b, 0, none⟩) 1 1)).run Try.prog w = .ok (tx [oct z]) w :=
  run_conv_bytes (l := [oct z]) rfl fun i c hi => by
    have hi0 : i = 0 := by
      have := (List.getElem?_eq_some_iff.1 hi).1
      simp at this
      omega
    subst hi0
    simp only [List.getElem?_cons_zero, Option.some.injEq] at hi
    subst hi
    rw [oct_nat, Nat.add_zero, h]
    congr 2
    omega
theorem add10 {x y : List UInt8} (hx : x.length ≤ 100000) (hy : y.length ≤ 100000) (W : World) : (Op.stringOp .add ⟨x.toArray⟩ ⟨y.toArray⟩).run Try.prog W = .ok (tx (x ++ y)) W := run_string_add_lists W x y (by omega) (by omega)

set_option maxHeartbeats 8000000 in
set_option maxRecDepth 100000 in
theorem hashes_nat {a b c : Nat} (ha : a ≤ 255) (hb : b ≤ 255) (hc : c ≤ 255) (w : World) :
    Calls Try.prog 6 #[.int .u8 a, .int .u8 b, .int .u8 c] w fun e w' => e = .returned (.bool true) ∧ Below w.heap.size w w' := by
  have c1 := Lib.hid (known10_true w)
  have hx : (a : Int) % 4 = ((a % 4 : Nat) : Int) := by omega
  have hx4 : a % 4 < 4 := by omega
  have hy : (b : Int) % 4 = ((b % 4 : Nat) : Int) := by omega
  have hy4 : b % 4 < 4 := by omega
  have hz : (c : Int) % 4 = ((c % 4 : Nat) : Int) := by omega
  have hz4 : c % 4 < 4 := by omega
  generalize a % 4 = x at *
  generalize b % 4 = y at *
  generalize c % 4 = z at *
  have F := Lib.hid (hash_facts ⟨x, hx4⟩ ⟨y, hy4⟩ ⟨z, hz4⟩)
  have hx0 : (0 : Int) ≤ x := by omega
  have hx1 : (x : Int) < 4 := by omega
  have hy0 : (0 : Int) ≤ y := by omega
  have hy1 : (y : Int) < 4 := by omega
  have hz0 : (0 : Int) ≤ z := by omega
  have hz1 : (z : Int) < 4 := by omega
  go_enter Try.func6, Try.ntmps6
  go_wp2_with fail
  refine c1.out.mono ?_
  rintro e w1 ⟨rfl, hb⟩
  replace hb := Lib.hid hb
  clear c1
  go_wp2_with fail
  go_loopg [10, 13] (x + 1) (fun g v10 v13 wr => ∃ i : Nat, v10 = tx (hd10 i) ∧ v13 = .int .i64 i ∧ i + g = x + 1 ∧ Hid (Below w.heap.size w wr))
  case atStart => exact ⟨0, rfl, rfl, by omega, hb⟩
  case round =>
    clear hb
    obtain ⟨i, rfl, rfl, hi, hb⟩ := hrel
    have hi0 : (0 : Int) ≤ i := by omega
    by_cases hlt : i < x + 1
    · have hi1 : (i : Int) < (x : Int) + 1 := by omega
      have cv : ∀ (W : World) (q : Int), 0 ≤ q → q ≤ 255 → (convert 31 9 (.slice (some ⟨W.heap.size, 0, none⟩) 1 1)).run Try.prog (W.alloc (.cells #[.int .u8 q] 5)) = .ok (tx [oct q]) (W.alloc (.cells #[.int .u8 q] 5)) := fun W q h0 h1 => conv_byte10 (by simp) h0 h1
      have hl := hd10_len i
      by_cases h0 : i = 0
      · subst h0
        have ad : ∀ (W : World) (K : UInt8), (Op.stringOp .add ⟨(hd10 0).toArray⟩ ⟨#[K]⟩).run Try.prog W = .ok (tx (hd10 0 ++ [K])) W := fun W K => add10 (x := hd10 0) (y := [K]) (by decide) (by simp) W
        go_wp2_with fail
        go_roundg (x + 1 - (0 + 1))
        case measure => omega
        case rel => exact ⟨0 + 1, rfl, by go_num, by omega, Lib.hid (bel hb.out (new_below _ _))⟩
      · have ad1 : ∀ W : World, (Op.stringOp .add ⟨(hd10 i).toArray⟩ ⟨#[46]⟩).run Try.prog W = .ok (tx (hd10 i ++ [46])) W := add10 (x := hd10 i) (y := [46]) (by omega) (by simp)
        have hnx : hd10 i ++ [46] ++ [oct (97 + (i : Int))] = hd10 (i + 1) := by rw [hd10, if_neg h0]
        replace cv := fun W => cv W (97 + (i : Int)) (by omega) (by omega)
        have ad : ∀ W : World, (Op.stringOp .add ⟨(hd10 i ++ [46]).toArray⟩ ⟨#[oct (97 + (i : Int))]⟩).run Try.prog W = .ok (tx (hd10 i ++ [46] ++ [oct (97 + (i : Int))])) W := add10 (x := hd10 i ++ [46]) (y := [oct (97 + (i : Int))]) (by simp; omega) (by simp)
        have hpos : (0 : Int) < i := by omega
        rw [hnx] at ad
        clear hnx
        generalize hd10 i ++ [46] = P at *
        generalize oct (97 + (i : Int)) = K at *
        go_wp2_with fail
        go_roundg (x + 1 - (i + 1))
        case measure => omega
        case rel => exact ⟨i + 1, rfl, by go_num, by omega, Lib.hid (bel hb.out (new_below _ _))⟩
    · obtain rfl : i = x + 1 := by omega
      have hH := hd10_len (x + 1)
      have hH8 : (hd10 (x + 1)).length ≤ 8 := by omega
      clear hH
      generalize hd10 (x + 1) = H at *
      go_wp2_with fail
      go_loopg [11, 14] y (fun g v11 v14 wt => ∃ i : Nat, v11 = tx (tl10 116 i) ∧ v14 = .int .i64 i ∧ i + g = y ∧ wt = wr)
      case atStart => exact ⟨0, rfl, rfl, by omega, rfl⟩
      case round =>
        obtain ⟨i, rfl, rfl, hi, rfl⟩ := hrel
        have hi0 : (0 : Int) ≤ i := by omega
        by_cases hlt : i < y
        · have hi1 : (i : Int) < y := by omega
          have hl := tl10_len 116 i
          have ad : ∀ W : World, (Op.stringOp .add ⟨(tl10 116 i).toArray⟩ ⟨#[46, 116]⟩).run Try.prog W = .ok (tx (tl10 116 (i + 1))) W := add10 (x := tl10 116 i) (y := [46, 116]) (by omega) (by simp)
          go_wp2_with fail
          go_roundg (y - (i + 1))
          case measure => omega
          case rel => exact ⟨i + 1, rfl, by go_num, by omega, rfl⟩
        · obtain rfl : i = y := by omega
          have hT := tl10_len 116 i
          have hT8 : (tl10 116 i).length ≤ 8 := by omega
          clear hT
          generalize tl10 116 i = T at *
          go_wp2_with fail
          go_loopg [12, 15] z (fun g v12 v15 wt => ∃ i : Nat, v12 = tx (tl10 42 i) ∧ v15 = .int .i64 i ∧ i + g = z ∧ wt = wr)
          case atStart => exact ⟨0, rfl, rfl, by omega, rfl⟩
          case round =>
            obtain ⟨j, rfl, rfl, hj, rfl⟩ := hrel
            have hj0 : (0 : Int) ≤ j := by omega
            by_cases hlt : j < z
            · have hj1 : (j : Int) < z := by omega
              have hl := tl10_len 42 j
              have ad : ∀ W : World, (Op.stringOp .add ⟨(tl10 42 j).toArray⟩ ⟨#[46, 42]⟩).run Try.prog W = .ok (tx (tl10 42 (j + 1))) W := add10 (x := tl10 42 j) (y := [46, 42]) (by omega) (by simp)
              go_wp2_with fail
              go_roundg (z - (j + 1))
              case measure => omega
              case rel => exact ⟨j + 1, rfl, by go_num, by omega, rfl⟩
            · obtain rfl : j = z := by omega
              have hM := tl10_len 42 j
              have hM8 : (tl10 42 j).length ≤ 8 := by omega
              clear hM
              generalize tl10 42 j = M at *
              obtain ⟨F1, F2, F3, F4, F5⟩ := F.out
              have f1 : ∀ W : World, (Op.stringOp .add ⟨H.toArray⟩ ⟨#[46, 35]⟩).run Try.prog W = .ok (tx (H ++ [46, 35])) W := add10 (x := H) (y := [46, 35]) (by omega) (by simp)
              have f2 : ∀ W : World, (Op.stringOp .add ⟨H.toArray⟩ ⟨T.toArray⟩).run Try.prog W = .ok (tx (H ++ T)) W := add10 (by omega) (by omega)
              have f3 : ∀ W : World, (Op.stringOp .add ⟨#[35, 46]⟩ ⟨H.toArray⟩).run Try.prog W = .ok (tx ([35, 46] ++ H)) W := add10 (x := [35, 46]) (y := H) (by simp) (by omega)
              have f4 : ∀ W : World, (Op.stringOp .add ⟨#[116]⟩ ⟨T.toArray⟩).run Try.prog W = .ok (tx ([116] ++ T)) W := add10 (x := [116]) (y := T) (by simp) (by omega)
              have f5 : ∀ W : World, (Op.stringOp .add ⟨([116] ++ T).toArray⟩ ⟨#[46]⟩).run Try.prog W = .ok (tx ([116] ++ T ++ [46])) W := add10 (x := [116] ++ T) (y := [46]) (by simp; omega) (by simp)
              have f6 : ∀ W : World, (Op.stringOp .add ⟨([116] ++ T ++ [46]).toArray⟩ ⟨H.toArray⟩).run Try.prog W = .ok (tx ([116] ++ T ++ [46] ++ H)) W := add10 (x := [116] ++ T ++ [46]) (y := H) (by simp; omega) (by omega)
              have f7 : ∀ W : World, (Op.stringOp .add ⟨H.toArray⟩ ⟨M.toArray⟩).run Try.prog W = .ok (tx (H ++ M)) W := add10 (by omega) (by omega)
              have f8 : ∀ W : World, (Op.stringOp .add ⟨(H ++ [46, 35]).toArray⟩ ⟨M.toArray⟩).run Try.prog W = .ok (tx (H ++ [46, 35] ++ M)) W := add10 (x := H ++ [46, 35]) (y := M) (by simp; omega) (by omega)
              have f9 : ∀ W : World, (Op.stringOp .add ⟨#[122]⟩ ⟨T.toArray⟩).run Try.prog W = .ok (tx ([122] ++ T)) W := add10 (x := [122]) (y := T) (by simp) (by omega)
              have yz : decide (i = j) = ((i : Int) == (j : Int)) := by
                apply Bool.eq_iff_iff.2
                simp only [decide_eq_true_eq, beq_iff_eq]
                omega
              have zy : decide (j ≤ i) = decide ((j : Int) ≤ (i : Int)) := decide_eq_decide.2 (by omega)
              rw [yz] at F3
              rw [zy] at F4
              have m1 := Lib.hid (match_is F1 (by simp; omega) (by simp; omega))
              have m2 := Lib.hid (match_is F2 (by simp; omega) (by simp; omega))
              have m3 := Lib.hid (match_is F3 (by simp; omega) (by simp; omega))
              have m4 := Lib.hid (match_is F4 (by simp; omega) (by simp; omega))
              have m5 := Lib.hid (match_is F5 (by simp; omega) (by simp; omega))
              clear F F1 F2 F3 F4 F5 yz zy
              generalize [122] ++ T = A9 at *
              generalize H ++ [46, 35] ++ M = A8 at *
              generalize H ++ M = A7 at *
              generalize [116] ++ T ++ [46] ++ H = A6 at *
              generalize [116] ++ T ++ [46] = A5 at *
              generalize [116] ++ T = A4 at *
              generalize [35, 46] ++ H = A3 at *
              generalize H ++ T = A2 at *
              generalize H ++ [46, 35] = A1 at *
              go_wp2_with fail
              refine (m1.out _).mono ?_
              rintro e w3 ⟨rfl, hb3⟩
              replace hb := Lib.hid (bel hb.out hb3)
              clear hb3 m1
              go_wp2_with fail
              refine (m2.out _).mono ?_
              rintro e w3 ⟨rfl, hb3⟩
              replace hb := Lib.hid (bel hb.out hb3)
              clear hb3 m2
              go_wp2_with fail
              refine (m3.out _).mono ?_
              rintro e w3 ⟨rfl, hb3⟩
              replace hb := Lib.hid (bel hb.out hb3)
              clear hb3 m3
              go_wp2_with fail
              refine (m4.out _).mono ?_
              rintro e w3 ⟨rfl, hb3⟩
              replace hb := Lib.hid (bel hb.out hb3)
              clear hb3 m4
              go_wp2_with fail
              refine (m5.out _).mono ?_
              rintro e w3 ⟨rfl, hb3⟩
              replace hb := Lib.hid (bel hb.out hb3)
              clear hb3 m5
              go_wp2_with fail
              go_ret
              exact ⟨ret_bool (by simp), hb.out⟩

theorem hashes10_row {a b c : Int} {w : World} (r0 : Read Try.prog w 5 [.int .u8 a]) (r1 : Read Try.prog w 5 [.int .u8 b]) (r2 : Read Try.prog w 5 [.int .u8 c]) :
    Calls Try.prog 6 #[.int .u8 a, .int .u8 b, .int .u8 c] w fun e w' => e = .returned (.bool true) ∧ Below w.heap.size w w' := by
  obtain ⟨x, hx, wf⟩ := r0.int (by kernel_rfl : Try.prog.underlying 5 = some (.int .u8))
  obtain ⟨y, hy, wf2⟩ := r1.int (by kernel_rfl : Try.prog.underlying 5 = some (.int .u8))
  obtain ⟨z, hz, wf3⟩ := r2.int (by kernel_rfl : Try.prog.underlying 5 = some (.int .u8))
  simp only [List.cons.injEq, Value.int.injEq, true_and, and_true] at hx hy hz
  subst hx hy hz
  obtain ⟨h1, h2⟩ := bounds_u8 wf
  obtain ⟨h3, h4⟩ := bounds_u8 wf2
  obtain ⟨h5, h6⟩ := bounds_u8 wf3
  obtain ⟨a, rfl⟩ := Int.eq_ofNat_of_zero_le h1
  obtain ⟨b, rfl⟩ := Int.eq_ofNat_of_zero_le h3
  obtain ⟨c, rfl⟩ := Int.eq_ofNat_of_zero_le h5
  exact hashes_nat (a := a) (b := b) (c := c) (by omega) (by omega) (by omega) w
end Go.Proofs.Ytpplpcpdoghifaa
