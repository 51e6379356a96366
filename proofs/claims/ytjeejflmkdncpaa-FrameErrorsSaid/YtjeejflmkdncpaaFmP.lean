/- FrameErrors. -/
import Derived.Test.YtjeejflmkdncpaaFmO
import Derived.Deep.CutBlock
import Derived.Deep.DeepCutAuto
namespace Go.Proofs.Ytjeejflmkdncpaa
open Go.RowKit
set_option linter.unusedVariables false

def good7 : List UInt8 := [3, 0, 2, 0, 0, 0, 3, 97, 98, 99, 206]
theorem good7_raw : good7 = frRaw 3 2 [97, 98, 99] := by decide +kernel
def goods (k : Nat) : List UInt8 := (List.replicate k good7).flatten
theorem goods_succ (k : Nat) : goods (k + 1) = good7 ++ goods k := by simp [goods, List.replicate_succ]
theorem goods_snoc (k : Nat) : goods (k + 1) = goods k ++ good7 := by
  unfold goods
  rw [List.replicate_succ', List.flatten_append]
  simp
theorem goods_len (k : Nat) : (goods k).length = 11 * k := by
  induction k with
  | zero => rfl
  | succ k ih => rw [goods_succ, List.length_append, ih]; show 11 + _ = _; omega
theorem goods_tell (k : Nat) : Tells 100 (goods k) (List.replicate k (3, 2, [97, 98, 99])) [] := by
  induction k with
  | zero => exact .done rfl
  | succ k ih =>
    rw [goods_succ, List.replicate_succ, good7_raw]
    exact .more (nextL_raw (M := 100) (k := 3) (c := 2) (by decide) (by decide) (by decide) (by decide) (by decide)) ih

/-- Bytes of which the last one is told as an error, and none ahead of it. -/
def Wrong (b : List UInt8) : Prop := ∀ i, i < b.length → nextL 100 false (b.take (i + 1)) = ((0, 0, []), false, if i + 1 = b.length then 501 else 0, decide (i + 1 = b.length), if i + 1 = b.length then [] else b.take (i + 1))
theorem wrong_kind {b : UInt8} (h : isK (b.toNat : Int) = false) : Wrong [b] := by
  intro i hi
  obtain rfl : i = 0 := by simp at hi; omega
  simpa using nextL_kind (M := 100) (r := []) h
theorem wrong_size {b : UInt8} (h : 92 < b.toNat) : Wrong [1, 0, 0, 0, 0, 0, b] := by
  intro i hi
  have h6 : i < 6 ∨ i = 6 := by simp at hi; omega
  rcases h6 with h6 | rfl
  · have e : ([1, 0, 0, 0, 0, 0, b] : List UInt8).take (i + 1) = [(1 : UInt8), 0, 0, 0, 0, 0].take (i + 1) := by
      match i, h6 with
      | 0, _ => rfl
      | 1, _ => rfl
      | 2, _ => rfl
      | 3, _ => rfl
      | 4, _ => rfl
      | 5, _ => rfl
    rw [e, if_neg (by simp; omega), if_neg (by simp; omega), decide_eq_false (by simp; omega)]
    match i, h6 with
    | 0, _ => decide +kernel
    | 1, _ => decide +kernel
    | 2, _ => decide +kernel
    | 3, _ => decide +kernel
    | 4, _ => decide +kernel
    | 5, _ => decide +kernel
  · have hz : sizeOfL [1, 0, 0, 0, 0, 0, b] = b.toNat := by simp [sizeOfL, num]
    simpa using nextL_size (M := 100) (b := 1) (r := [0, 0, 0, 0, 0, b]) (by decide) (by simp) (by rw [hz]; omega)
theorem wrong_end {b : UInt8} (h : b ≠ 206) : Wrong (good7.take 10 ++ [b]) := by
  intro i hi
  have h10 : i < 10 ∨ i = 10 := by
    have : (good7.take 10 ++ [b]).length = 11 := rfl
    omega
  have hl : (good7.take 10 ++ [b]).length = 11 := rfl
  rcases h10 with h10 | rfl
  · have e : (good7.take 10 ++ [b]).take (i + 1) = good7.take (i + 1) := by
      rw [List.take_append_of_le_length (by show i + 1 ≤ 10; omega), List.take_take, Nat.min_eq_left (by omega)]
    rw [e, hl, if_neg (by omega), if_neg (by omega), decide_eq_false (by omega), good7_raw]
    exact nextL_cut (M := 100) (k := 3) (c := 2) (by decide) (by decide) (by decide) (by decide) (by show i + 1 < 11; omega)
  · have e : (good7.take 10 ++ [b]).take (10 + 1) = (3 : UInt8) :: [0, 2, 0, 0, 0, 3, 97, 98, 99, b] := rfl
    rw [e, hl, if_pos rfl, if_pos rfl, decide_eq_true rfl]
    have hz : sizeOfL ((3 : UInt8) :: [0, 2, 0, 0, 0, 3, 97, 98, 99, b]) = 3 := rfl
    exact nextL_end (M := 100) (by decide) (by simp) (by rw [hz]; decide) (by rw [hz]; simp) (by rw [hz]; simpa using h)

theorem conv_byte {w : World} {b : Nat} {z : Int} (h : w.cell? ⟨b, 0, none⟩ = some (.int .u8 z)) (h0 : 0 ≤ z) (h1 : z ≤ 255) : (convert 45 9 (.slice (some ⟨b, 0, none⟩) 1 1)).run Try.prog w = .ok (tx [oct z]) w :=
  run_conv_bytes (l := [oct z]) rfl fun i c hi => by
    have hi0 : i = 0 := by
      have := (List.getElem?_eq_some_iff.1 hi).1
      simp at this
      omega
    subst hi0
    simp only [List.getElem?_cons_zero, Option.some.injEq] at hi
    subst hi
    rw [oct_nat, Nat.add_zero, h]
    congr 2
    omega

set_option maxHeartbeats 8000000 in
set_option maxRecDepth 100000 in
theorem errors_nat (n wh by_ : Nat) (hn : n ≤ 255) (hw : wh ≤ 255) (hb : by_ ≤ 255) (w : World) : Calls Try.prog 7 #[.int .u8 n, .int .u8 wh, .int .u8 by_] w fun e w' => e = .returned (.bool true) ∧ Below w.heap.size w w' := by
  have c1 := Lib.hid known7_true
  have c2 := Lib.hid (bytes_to (k := 3) (c := 2) (d := [97, 98, 99]) (r := good7) (by decide +kernel) (by decide))
  obtain ⟨k, hk⟩ : ∃ k, k = n % 5 := ⟨_, rfl⟩
  have hki : (n : Int) % 5 = k := by omega
  have hk4 : (k : Int) ≤ 4 := by omega
  have hk0 : (0 : Int) ≤ k := by omega
  have hn0 : (0 : Int) ≤ n := by omega
  have hn1 : (n : Int) ≤ 255 := by omega
  have hw0 : (0 : Int) ≤ wh := by omega
  have hw1 : (wh : Int) ≤ 255 := by omega
  have hb0 : (0 : Int) ≤ by_ := by omega
  have hb1 : (by_ : Int) ≤ 255 := by omega
  replace hk := Lib.hid hk
  go_enter Try.func7, Try.ntmps7
  go_wp2_with fail
  refine (c1.out _).mono ?_
  rintro e w1 ⟨rfl, h1⟩
  replace h1 := Lib.hid h1
  clear c1
  go_wp2_with fail
  refine (c2.out _).mono ?_
  rintro e w2 ⟨rfl, h2⟩
  replace h2 := Lib.hid (bel h1.out h2)
  clear c2 h1
  go_wp2_with fail
  go_loopg [9, 10] k (fun g v9 v10 wr => ∃ i : Nat, v9 = tx (goods i) ∧ v10 = .int .i64 i ∧ i + g = k ∧ wr = w2)
  case atStart => exact ⟨0, rfl, rfl, by omega, rfl⟩
  case round =>
    obtain ⟨i, rfl, rfl, hi, rfl⟩ := hrel
    have hgl := goods_len i
    by_cases hlt : i < k
    · have hlt' : (i : Int) < k := by omega
      have hadd : ∀ W : World, (Op.stringOp .add ⟨(goods i).toArray⟩ ⟨good7.toArray⟩).run Try.prog W = .ok (tx (goods (i + 1))) W := fun W => by
        rw [run_string_add_lists W _ _ (by omega) (by decide), goods_snoc]
      clear hgl
      go_wp2_with fail
      go_roundg (k - (i + 1))
      case measure => omega
      case rel => exact ⟨i + 1, rfl, by go_num, by omega, rfl⟩
    · obtain rfl : i = k := by omega
      have c3 := Lib.hid (fr_new ((St.start w).grow h2.out) 100)
      clear h2
      go_wp2_with fail
      refine c3.out.mono ?_
      rintro e w3 ⟨rfl, hp⟩
      rw [show heldM 100 = 100 by decide] at hp
      generalize wr.heap.size = pb at *
      have c4 := Lib.hid (fr_feed hp (goods i) (by simp [hgl]; omega))
      clear hp c3
      go_wp2_with fail
      refine c4.out.mono ?_
      rintro e w4 ⟨rfl, hp⟩
      have c5 := Lib.hid (all_to (l := []) (S := []) FrsIs.nil hp (goods_tell i) (by show (goods i).length ≤ _; rw [hgl]; omega) (by simp; omega) (by simp))
      clear hp c4
      go_wp2_with fail
      refine c5.out.mono ?_
      rintro e w5 ⟨v, S, rfl, hs, hp⟩
      have hs' : SlIs _ _ _ _ _ _ := hs
      obtain ⟨av, cv, rfl, -, -, -⟩ := hs'.form
      rw [List.nil_append, List.length_replicate]
      have hp := Lib.hid (hp.sub (F' := []) (List.nil_sublist _))
      clear hs hs' c5 hgl
      go_upto_block 2 with fail
      go_cut [15, 16] (fun v15 v16 wx => ∃ b : List UInt8, v15 = tx b ∧ v16 = .int .i64 (b.length : Int) ∧ b.length ≤ 11 ∧ 0 < b.length ∧ Hid (Wrong b) ∧ Hid (Below w5.heap.size w5 wx))
      case first =>
        have hbel := Lib.hid hp.out.below
        obtain ⟨q, hq⟩ : ∃ q, q = wh % 3 := ⟨_, rfl⟩
        have hqi : (wh : Int) % 3 = q := by omega
        have hq3 : q = 0 ∨ q = 1 ∨ q = 2 := by omega
        have hby : by_ < 256 := by omega
        have hob : (oct (by_ : Int)).toNat = by_ := oct_small (by omega)
        clear hq hp
        have cvb : ∀ W : World, (convert 45 9 (.slice (some ⟨W.heap.size, 0, none⟩) 1 1)).run Try.prog (W.alloc (.cells #[.int .u8 by_] 5)) = .ok (tx [oct by_]) (W.alloc (.cells #[.int .u8 by_] 5)) := fun W => by
          have := conv_one (by_ : Int) W
          rwa [show (by_ : Int) % 256 = by_ by omega] at this
        rcases hq3 with rfl | rfl | rfl
        · by_cases h1 : by_ = 1
          · subst h1
            go_wp2_with fail
            go_ret
            exact ⟨rfl, hbel.out⟩
          by_cases h2 : by_ = 2
          · subst h2
            go_wp2_with fail
            go_ret
            exact ⟨rfl, hbel.out⟩
          by_cases h3 : by_ = 3
          · subst h3
            go_wp2_with fail
            go_ret
            exact ⟨rfl, hbel.out⟩
          by_cases h8 : by_ = 8
          · subst h8
            go_wp2_with fail
            go_ret
            exact ⟨rfl, hbel.out⟩
          have hwr : Hid (Wrong [oct by_]) := Lib.hid (wrong_kind (by rw [hob]; unfold isK; simp; omega))
          have g1 : ((by_ : Int) == 1) = false := by rw [beq_eq_false_iff_ne]; omega
          have g2 : ((by_ : Int) == 2) = false := by rw [beq_eq_false_iff_ne]; omega
          have g3 : ((by_ : Int) == 3) = false := by rw [beq_eq_false_iff_ne]; omega
          have g8 : ((by_ : Int) == 8) = false := by rw [beq_eq_false_iff_ne]; omega
          clear h1 h2 h3 h8 hob
          go_wp2_with fail
          go_meet
          case rel => exact ⟨[oct by_], rfl, rfl, by simp, by simp, hwr, Lib.hid (alloc_below _ _)⟩
        · obtain ⟨p, hp⟩ : ∃ p, p = by_ % 100 := ⟨_, rfl⟩
          have hpi : (by_ : Int) % 100 = p := by omega
          have hp99 : p ≤ 99 := by omega
          have hoc : (oct (93 + (p : Int))).toNat = 93 + p := by
            have := oct_nat (93 + (p : Int))
            omega
          have hwr : Hid (Wrong [1, 0, 0, 0, 0, 0, oct (93 + (p : Int))]) := Lib.hid (wrong_size (by rw [hoc]; omega))
          have cv1 : ∀ W : World, (convert 45 9 (.slice (some ⟨W.heap.size, 0, none⟩) 1 1)).run Try.prog (W.alloc (.cells #[.int .u8 (93 + (p : Int))] 5)) = .ok (tx [oct (93 + (p : Int))]) (W.alloc (.cells #[.int .u8 (93 + (p : Int))] 5)) := fun W => by
            have := conv_one (93 + (p : Int)) W
            rwa [show (93 + (p : Int)) % 256 = 93 + p by omega] at this
          have hadd : ∀ W : World, (Op.stringOp .add ⟨#[1, 0, 0, 0, 0, 0]⟩ ⟨#[oct (93 + (p : Int))]⟩).run Try.prog W = .ok (tx [1, 0, 0, 0, 0, 0, oct (93 + (p : Int))]) W := fun W => run_string_add_lists W [1, 0, 0, 0, 0, 0] [oct (93 + (p : Int))] (by decide) (by simp)
          clear hob cvb hp
          go_wp2_with fail
          go_meet
          case rel => exact ⟨[1, 0, 0, 0, 0, 0, oct (93 + (p : Int))], rfl, rfl, by simp, by simp, hwr, Lib.hid (alloc_below _ _)⟩
        · by_cases h206 : by_ = 206
          · subst h206
            go_wp2_with fail
            go_ret
            exact ⟨rfl, hbel.out⟩
          have g6 : ((by_ : Int) == 206) = false := by rw [beq_eq_false_iff_ne]; omega
          have hwr : Hid (Wrong (good7.take 10 ++ [oct by_])) := Lib.hid (wrong_end (by intro e; rw [e] at hob; exact h206 (by rw [← hob]; rfl)))
          have ex : (⟨good7.toArray⟩ : ByteArray).extract 0 10 = ⟨(good7.take 10).toArray⟩ := by decide +kernel
          have hgl7 : good7.length = 11 := rfl
          have hadd : ∀ W : World, (Op.stringOp .add ⟨(good7.take 10).toArray⟩ ⟨#[oct by_]⟩).run Try.prog W = .ok (tx (good7.take 10 ++ [oct by_])) W := fun W => run_string_add_lists W (good7.take 10) [oct by_] (by decide) (by simp)
          have w10 : IntKind.i64.wrap 10 = 10 := by decide
          have cvd : (convert 45 9 (.slice (some ⟨w5.heap.size, 0, none⟩) 1 1)).run Try.prog (w5.alloc (.cells #[.int .u8 by_] 5)).drew = .ok (tx [oct by_]) (w5.alloc (.cells #[.int .u8 by_] 5)).drew := conv_byte (by simp) hb0 hb1
          clear hob h206
          go_wp2_with fail
          go_region
          all_goals
            go_wp2_with fail
            go_meet
            case rel => exact ⟨good7.take 10 ++ [oct by_], rfl, rfl, Nat.le_refl 11, (by show 0 < 11; decide), hwr, Lib.hid ((alloc_below _ _).trans ((drew_below _).mono (by simp)))⟩
      case rest =>
        obtain ⟨b, rfl, rfl, hb11, hbpos, hwr, hbx⟩ := hcut
        have hp2 : Hid (PsIs w.heap.size w wc pb 100 (decide (0 = b.length)) (if 0 = b.length then [] else b.take 0) []) := Lib.hid (by
          rw [decide_eq_false (by omega), if_neg (by omega), List.take_zero]
          exact hp.out.grow hbx.out)
        clear hp hbx
        go_wp2_with fail
        go_loopg [17] b.length (fun g v17 wx => ∃ j : Nat, v17 = .int .i64 j ∧ j + g = b.length ∧ Hid (PsIs w.heap.size w wx pb 100 (decide (j = b.length)) (if j = b.length then [] else b.take j) []))
        case atStart => exact ⟨0, rfl, by omega, hp2⟩
        case round =>
          clear hp2
          obtain ⟨j, rfl, hj, hp⟩ := hrel
          by_cases hjl : j < b.length
          · have hjl' : (j : Int) < b.length := by omega
            have hj0 : (0 : Int) ≤ j := by omega
            have hp := hp.out
            rw [decide_eq_false (by omega), if_neg (by omega)] at hp
            have hx : b[j]? = some b[j] := List.getElem?_eq_getElem hjl
            have ex : (⟨b.toArray⟩ : ByteArray).extract j (j + 1) = ⟨#[b[j]]⟩ := by
              rw [ByteArray.extract_mk]
              congr 1
              apply Array.toList_inj.1
              simp
              rw [List.take_one, List.head?_drop, hx]
              rfl
            have hfed : fedL false (b.take j) [b[j]] = b.take (j + 1) := by
              show b.take j ++ [b[j]] = _
              rw [List.take_add_one, hx]
              rfl
            have c6 := fr_feed hp [b[j]] (by rw [List.length_take]; simp; omega)
            rw [hfed] at c6
            replace c6 := Lib.hid c6
            have hw := hwr.out j hjl
            obtain ⟨q, hq⟩ : ∃ q, q = b.length - 1 := ⟨_, rfl⟩
            have eq1 : (b.length : Int) - 1 = q := by omega
            have wq : Hid (wrap64 (q : Int) = q) := Lib.hid (by unfold wrap64; omega)
            have hj1 : (j : Int) + 1 ≤ b.length := by omega
            have wj : Hid (wrap64 ((j : Int) + 1) = (j : Int) + 1) := Lib.hid (by unfold wrap64; omega)
            have htl : (b.take (j + 1)).length ≤ 4000000 := by rw [List.length_take]; omega
            generalize b[j] = y at *
            generalize hT : b.take (j + 1) = T at *
            replace hT := Lib.hid hT
            by_cases hlast : j + 1 = b.length
            · rw [if_pos hlast, if_pos hlast, decide_eq_true hlast] at hw
              have hjq : ((j : Int) == q) = true := by rw [beq_iff_eq]; omega
              replace hw := Lib.hid hw
              replace hlast := Lib.hid hlast
              replace hq := Lib.hid hq
              clear hp hx hfed hjl
              go_wp2_with fail
              refine c6.out.mono ?_
              rintro e w7 ⟨rfl, hp⟩
              have c7 := Lib.hid (next_to hp htl hw.out)
              clear hp c6
              go_wp2_with fail
              refine c7.out.mono ?_
              rintro e w8 ⟨rfl, hp⟩
              have fin : Hid (PsIs w.heap.size w (w8.alloc (frO 0 0 [])) pb 100 (decide (j + 1 = b.length)) (if j + 1 = b.length then [] else b.take (j + 1)) []) := Lib.hid (by
                rw [decide_eq_true hlast.out, if_pos hlast.out]
                exact (hp.alloc _).sub (List.nil_sublist _))
              clear hp c7 htl hbpos hb11
              have wq := wq.out
              go_wp2_with fail
              clear wq
              go_roundg (b.length - (j + 1))
              case measure => omega
              case rel => exact ⟨j + 1, by first | (rw [wj.out]; go_num) | go_num, by omega, fin⟩
            · rw [if_neg hlast, if_neg hlast, decide_eq_false hlast] at hw
              have hjq : ((j : Int) == q) = false := by rw [beq_eq_false_iff_ne]; omega
              replace hw := Lib.hid hw
              replace hlast := Lib.hid hlast
              replace hq := Lib.hid hq
              clear hp hx hfed hjl
              go_wp2_with fail
              refine c6.out.mono ?_
              rintro e w7 ⟨rfl, hp⟩
              have c7 := Lib.hid (next_to hp htl hw.out)
              clear hp c6
              go_wp2_with fail
              refine c7.out.mono ?_
              rintro e w8 ⟨rfl, hp⟩
              have fin : Hid (PsIs w.heap.size w (w8.alloc (frO 0 0 [])) pb 100 (decide (j + 1 = b.length)) (if j + 1 = b.length then [] else b.take (j + 1)) []) := Lib.hid (by
                rw [decide_eq_false hlast.out, if_neg hlast.out, hT.out]
                exact (hp.alloc _).sub (List.nil_sublist _))
              clear hp c7 htl hbpos hb11
              have wq := wq.out
              go_wp2_with fail
              clear wq
              go_roundg (b.length - (j + 1))
              case measure => omega
              case rel => exact ⟨j + 1, by first | (rw [wj.out]; go_num) | go_num, by omega, fin⟩
          · obtain rfl : j = b.length := by omega
            have hp := hp.out
            rw [decide_eq_true rfl, if_pos rfl] at hp
            have c8 := Lib.hid (fr_feed hp good7 (by decide))
            clear hp
            go_wp2_with fail
            refine c8.out.mono ?_
            rintro e w7 ⟨rfl, hp⟩
            have c9 := Lib.hid (next_to hp (by decide) (nextL_bad 100 _))
            clear hp c8
            go_wp2_with fail
            refine c9.out.mono ?_
            rintro e w8 ⟨rfl, hp⟩
            have c10 := Lib.hid (left_to (hp.alloc (frO 0 0 [])) (by decide))
            clear hp c9
            go_wp2_with fail
            refine c10.out.mono ?_
            rintro e w9 ⟨rfl, hp⟩
            have fin := Lib.hid hp.below
            clear hp c10
            go_wp2_with fail
            go_ret
            exact ⟨rfl, fin.out⟩

theorem errors_row {n wh b : Int} {w : World} (rn : Read Try.prog w 5 [.int .u8 n]) (rw_ : Read Try.prog w 5 [.int .u8 wh]) (rb : Read Try.prog w 5 [.int .u8 b]) :
    Calls Try.prog 7 #[.int .u8 n, .int .u8 wh, .int .u8 b] w fun e w' => e = .returned (.bool true) ∧ Below w.heap.size w w' := by
  obtain ⟨n', h1, wn⟩ := rn.int uU86
  obtain ⟨m', h2, wm⟩ := rw_.int uU86
  obtain ⟨b', h3, wb⟩ := rb.int uU86
  simp only [List.cons.injEq, and_true, Value.int.injEq, true_and] at h1 h2 h3
  subst h1 h2 h3
  obtain ⟨n0, n1⟩ := bounds_u8 wn
  obtain ⟨m0, m1⟩ := bounds_u8 wm
  obtain ⟨b0, b1⟩ := bounds_u8 wb
  obtain ⟨n, rfl⟩ := Int.eq_ofNat_of_zero_le n0
  obtain ⟨m, rfl⟩ := Int.eq_ofNat_of_zero_le m0
  obtain ⟨b, rfl⟩ := Int.eq_ofNat_of_zero_le b0
  exact errors_nat n m b (by omega) (by omega) (by omega) w
end Go.Proofs.Ytjeejflmkdncpaa
