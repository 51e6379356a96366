/- TrieHashes. -/
import Derived.Test.YtbfelfejelkdpaaTrN
import Derived.Test.YtbfelfejelkdpaaOcA
import Derived.Test.YtbfelfejelkdpaaArgs
import Derived.Deep.LoopGhost
namespace Go.Proofs.Ytbfelfejelkdpaa
open Go.RowKit
set_option linter.unusedVariables false
set_option linter.unusedSectionVars false
set_option linter.unusedSimpArgs false
set_option maxRecDepth 100000

def chr12 (f : Bool) (x y i : Nat) : UInt8 := if (f && decide (i < y)) || (!f && decide (x ≤ i)) then 42 else 35
def pat12 (f : Bool) (x y : Nat) : Nat → List UInt8
  | 0 => []
  | i + 1 => pat12 f x y i ++ (if i = 0 then [] else [46]) ++ [chr12 f x y i]
def key12 : Nat → List UInt8
  | 0 => []
  | i + 1 => key12 i ++ (if i = 0 then [] else [46]) ++ [119]
theorem pat12_len (f : Bool) (x y i : Nat) : (pat12 f x y i).length ≤ 2 * i := by
  induction i with
  | zero => simp [pat12]
  | succ i ih =>
    unfold pat12
    split <;> simp <;> omega
theorem key12_len (i : Nat) : (key12 i).length ≤ 2 * i := by
  induction i with
  | zero => simp [key12]
  | succ i ih =>
    unfold key12
    split <;> simp <;> omega
def fits12 (x y n : Nat) : Bool := (decide (x = 0) && decide (n = y)) || (decide (0 < x) && decide (y ≤ n))
theorem facts12 : ∀ f : Bool, ∀ x : Fin 4, ∀ y : Fin 4, ∀ z : Fin 7, (x : Nat) + y ≠ 0 → gl (wordsL (pat12 f x y (x + y))) (wordsL (key12 z)) = fits12 x y (if (z : Nat) = 0 then 1 else z) := by decide +kernel
theorem add12 {x y : List UInt8} (hx : x.length ≤ 100000) (hy : y.length ≤ 100000) (W : World) : (Op.stringOp .add ⟨x.toArray⟩ ⟨y.toArray⟩).run Try.prog W = .ok (tx (x ++ y)) W := run_string_add_lists W x y (by omega) (by omega)
theorem pat12_first {f : Bool} {x y : Nat} {k : UInt8} (h : chr12 f x y 0 = k) : pat12 f x y 0 ++ [k] = pat12 f x y 1 := by
  rw [pat12, pat12, h]
  rfl
theorem pat12_next {f : Bool} {x y i : Nat} {k : UInt8} (h0 : i ≠ 0) (h : chr12 f x y i = k) : pat12 f x y i ++ [46] ++ [k] = pat12 f x y (i + 1) := by
  rw [pat12, h, if_neg h0]
theorem key12_next {i : Nat} (h0 : i ≠ 0) : key12 i ++ [46] ++ [119] = key12 (i + 1) := by
  rw [key12, if_neg h0]

set_option maxHeartbeats 8000000 in
theorem hashes12_nat {a b c : Nat} (f : Bool) (ha : a ≤ 255) (hb : b ≤ 255) (hc : c ≤ 255) (w : World) :
    Calls Try.prog 4 #[.int .u8 a, .int .u8 b, .int .u8 c, .bool f] w fun e w' => e = .returned (.bool true) ∧ Below w.heap.size w w' := by
  have c1 := Lib.hid (known12_true w)
  have hx : (a : Int) % 4 = ((a % 4 : Nat) : Int) := by omega
  have hx4 : a % 4 < 4 := by omega
  have hy : (b : Int) % 4 = ((b % 4 : Nat) : Int) := by omega
  have hy4 : b % 4 < 4 := by omega
  have hz : (c : Int) % 7 = ((c % 7 : Nat) : Int) := by omega
  have hz4 : c % 7 < 7 := by omega
  generalize a % 4 = x at *
  generalize b % 4 = y at *
  generalize c % 7 = z at *
  have Fx := Lib.hid (facts12 f ⟨x, hx4⟩ ⟨y, hy4⟩ ⟨z, hz4⟩)
  have hx0 : (0 : Int) ≤ x := by omega
  have hx1 : (x : Int) < 4 := by omega
  have hy0 : (0 : Int) ≤ y := by omega
  have hy1 : (y : Int) < 4 := by omega
  have hz0 : (0 : Int) ≤ z := by omega
  have hz1 : (z : Int) < 7 := by omega
  go_enter Try.func4, Try.ntmps4
  go_wp2_with fail
  refine c1.out.mono ?_
  rintro e w1 ⟨rfl, hb⟩
  replace hb := Lib.hid hb
  clear c1
  by_cases hxy : x + y = 0
  · obtain ⟨rfl, rfl⟩ : x = 0 ∧ y = 0 := by omega
    go_wp2_with fail
    go_ret
    exact ⟨rfl, hb.out⟩
  · have hxy' : (0 : Int) < x + y := by omega
    have hxyB : (((x : Int) + (y : Int)) == 0) = false := by
      rw [beq_eq_false_iff_ne]
      omega
    go_wp2_with fail
    simp only [hx, hy, hz]
    clear hx hy hz
    go_loopg [12, 13, 14] (x + y) (fun g v12 v13 v14 wr => ∃ i : Nat, v12 = tx (pat12 f x y i) ∧ v13 = .int .i64 i ∧ i + g = x + y ∧ wr = w1)
    case atStart => exact ⟨0, rfl, rfl, by omega, rfl⟩
    case round =>
      obtain ⟨i, rfl, rfl, hi, rfl⟩ := hrel
      have hi0 : (0 : Int) ≤ i := by omega
      by_cases hlt : i < x + y
      · have hi1 : (i : Int) < (x : Int) + (y : Int) := by omega
        have hl := pat12_len f x y i
        cases f with
        | true =>
          by_cases hcd : i < y
          · have hcd' : (i : Int) < y := by omega
            have hK : chr12 true x y i = 42 := by simp [chr12, hcd]
            by_cases h0 : i = 0
            · subst h0
              have ad : ∀ W : World, (Op.stringOp .add ⟨(pat12 true x y 0).toArray⟩ ⟨#[42]⟩).run Try.prog W = .ok (tx (pat12 true x y 1)) W := fun W => by
                rw [← pat12_first hK]
                exact add12 (x := pat12 true x y 0) (y := [42]) (by simp [pat12]) (by simp) W
              go_wp2_with fail
              go_roundg (x + y - (0 + 1))
              case measure => omega
              case rel => exact ⟨0 + 1, rfl, by go_num, by omega, rfl⟩
            · have hpos : (0 : Int) < i := by omega
              have ad1 : ∀ W : World, (Op.stringOp .add ⟨(pat12 true x y i).toArray⟩ ⟨#[46]⟩).run Try.prog W = .ok (tx (pat12 true x y i ++ [46])) W := add12 (x := pat12 true x y i) (y := [46]) (by omega) (by simp)
              have ad2 : ∀ W : World, (Op.stringOp .add ⟨(pat12 true x y i ++ [46]).toArray⟩ ⟨#[42]⟩).run Try.prog W = .ok (tx (pat12 true x y (i + 1))) W := fun W => by
                rw [← pat12_next h0 hK]
                exact add12 (x := pat12 true x y i ++ [46]) (y := [42]) (by simp; omega) (by simp) W
              generalize pat12 true x y i ++ [46] = Q at *
              go_wp2_with fail
              go_roundg (x + y - (i + 1))
              case measure => omega
              case rel => exact ⟨i + 1, rfl, by go_num, by omega, rfl⟩
          · have hcd' : ¬ (i : Int) < y := by omega
            have hK : chr12 true x y i = 35 := by simp [chr12, hcd]
            by_cases h0 : i = 0
            · subst h0
              have ad : ∀ W : World, (Op.stringOp .add ⟨(pat12 true x y 0).toArray⟩ ⟨#[35]⟩).run Try.prog W = .ok (tx (pat12 true x y 1)) W := fun W => by
                rw [← pat12_first hK]
                exact add12 (x := pat12 true x y 0) (y := [35]) (by simp [pat12]) (by simp) W
              go_wp2_with fail
              go_roundg (x + y - (0 + 1))
              case measure => omega
              case rel => exact ⟨0 + 1, rfl, by go_num, by omega, rfl⟩
            · have hpos : (0 : Int) < i := by omega
              have ad1 : ∀ W : World, (Op.stringOp .add ⟨(pat12 true x y i).toArray⟩ ⟨#[46]⟩).run Try.prog W = .ok (tx (pat12 true x y i ++ [46])) W := add12 (x := pat12 true x y i) (y := [46]) (by omega) (by simp)
              have ad2 : ∀ W : World, (Op.stringOp .add ⟨(pat12 true x y i ++ [46]).toArray⟩ ⟨#[35]⟩).run Try.prog W = .ok (tx (pat12 true x y (i + 1))) W := fun W => by
                rw [← pat12_next h0 hK]
                exact add12 (x := pat12 true x y i ++ [46]) (y := [35]) (by simp; omega) (by simp) W
              generalize pat12 true x y i ++ [46] = Q at *
              go_wp2_with fail
              go_roundg (x + y - (i + 1))
              case measure => omega
              case rel => exact ⟨i + 1, rfl, by go_num, by omega, rfl⟩
        | false =>
          by_cases hcd : x ≤ i
          · have hcd' : (x : Int) ≤ i := by omega
            have hK : chr12 false x y i = 42 := by simp [chr12, hcd]
            by_cases h0 : i = 0
            · subst h0
              clear hcd
              generalize (x : Int) = xi at *
              have ad : ∀ W : World, (Op.stringOp .add ⟨(pat12 false x y 0).toArray⟩ ⟨#[42]⟩).run Try.prog W = .ok (tx (pat12 false x y 1)) W := fun W => by
                rw [← pat12_first hK]
                exact add12 (x := pat12 false x y 0) (y := [42]) (by simp [pat12]) (by simp) W
              go_wp2_with fail
              go_roundg (x + y - (0 + 1))
              case measure => omega
              case rel => exact ⟨0 + 1, rfl, by go_num, by omega, rfl⟩
            · have hpos : (0 : Int) < i := by omega
              have ad1 : ∀ W : World, (Op.stringOp .add ⟨(pat12 false x y i).toArray⟩ ⟨#[46]⟩).run Try.prog W = .ok (tx (pat12 false x y i ++ [46])) W := add12 (x := pat12 false x y i) (y := [46]) (by omega) (by simp)
              have ad2 : ∀ W : World, (Op.stringOp .add ⟨(pat12 false x y i ++ [46]).toArray⟩ ⟨#[42]⟩).run Try.prog W = .ok (tx (pat12 false x y (i + 1))) W := fun W => by
                rw [← pat12_next h0 hK]
                exact add12 (x := pat12 false x y i ++ [46]) (y := [42]) (by simp; omega) (by simp) W
              generalize pat12 false x y i ++ [46] = Q at *
              go_wp2_with fail
              go_roundg (x + y - (i + 1))
              case measure => omega
              case rel => exact ⟨i + 1, rfl, by go_num, by omega, rfl⟩
          · have hcd' : ¬ (x : Int) ≤ i := by omega
            have hK : chr12 false x y i = 35 := by simp [chr12, hcd]
            by_cases h0 : i = 0
            · subst h0
              have ad : ∀ W : World, (Op.stringOp .add ⟨(pat12 false x y 0).toArray⟩ ⟨#[35]⟩).run Try.prog W = .ok (tx (pat12 false x y 1)) W := fun W => by
                rw [← pat12_first hK]
                exact add12 (x := pat12 false x y 0) (y := [35]) (by simp [pat12]) (by simp) W
              go_wp2_with fail
              go_roundg (x + y - (0 + 1))
              case measure => omega
              case rel => exact ⟨0 + 1, rfl, by go_num, by omega, rfl⟩
            · have hpos : (0 : Int) < i := by omega
              have ad1 : ∀ W : World, (Op.stringOp .add ⟨(pat12 false x y i).toArray⟩ ⟨#[46]⟩).run Try.prog W = .ok (tx (pat12 false x y i ++ [46])) W := add12 (x := pat12 false x y i) (y := [46]) (by omega) (by simp)
              have ad2 : ∀ W : World, (Op.stringOp .add ⟨(pat12 false x y i ++ [46]).toArray⟩ ⟨#[35]⟩).run Try.prog W = .ok (tx (pat12 false x y (i + 1))) W := fun W => by
                rw [← pat12_next h0 hK]
                exact add12 (x := pat12 false x y i ++ [46]) (y := [35]) (by simp; omega) (by simp) W
              generalize pat12 false x y i ++ [46] = Q at *
              go_wp2_with fail
              go_roundg (x + y - (i + 1))
              case measure => omega
              case rel => exact ⟨i + 1, rfl, by go_num, by omega, rfl⟩
      · obtain rfl : i = x + y := by omega
        have hl := pat12_len f x y (x + y)
        generalize pat12 f x y (x + y) = Pt at *
        go_wp2_with fail
        go_loopg [15, 16] z (fun g v15 v16 wt => ∃ i : Nat, v15 = tx (key12 i) ∧ v16 = .int .i64 i ∧ i + g = z ∧ wt = wr)
        case atStart => exact ⟨0, rfl, rfl, by omega, rfl⟩
        case round =>
          obtain ⟨i, rfl, rfl, hi, rfl⟩ := hrel
          have hi0 : (0 : Int) ≤ i := by omega
          by_cases hlt : i < z
          · have hi1 : (i : Int) < z := by omega
            have hlk := key12_len i
            by_cases h0 : i = 0
            · subst h0
              have ad : ∀ W : World, (Op.stringOp .add ⟨(key12 0).toArray⟩ ⟨#[119]⟩).run Try.prog W = .ok (tx (key12 1)) W := fun W => add12 (x := key12 0) (y := [119]) (by simp [key12]) (by simp) W
              go_wp2_with fail
              go_roundg (z - (0 + 1))
              case measure => omega
              case rel => exact ⟨0 + 1, rfl, by go_num, by omega, rfl⟩
            · have hpos : (0 : Int) < i := by omega
              have ad1 : ∀ W : World, (Op.stringOp .add ⟨(key12 i).toArray⟩ ⟨#[46]⟩).run Try.prog W = .ok (tx (key12 i ++ [46])) W := add12 (x := key12 i) (y := [46]) (by omega) (by simp)
              have ad2 : ∀ W : World, (Op.stringOp .add ⟨(key12 i ++ [46]).toArray⟩ ⟨#[119]⟩).run Try.prog W = .ok (tx (key12 (i + 1))) W := fun W => by
                rw [← key12_next h0]
                exact add12 (x := key12 i ++ [46]) (y := [119]) (by simp; omega) (by simp) W
              generalize key12 i ++ [46] = Q at *
              go_wp2_with fail
              go_roundg (z - (i + 1))
              case measure => omega
              case rel => exact ⟨i + 1, rfl, by go_num, by omega, rfl⟩
          · obtain rfl : i = z := by omega
            have hlk := key12_len i
            have Fx := Lib.hid (Fx.out hxy)
            generalize key12 i = Ky at *
            have k1 : Hid (∀ W, Below w.heap.size w W → Calls Try.prog 7 #[] W fun e w' => ∃ tb, e = .returned (np tb) ∧ TrIs w.heap.size w w' tb [] [] 1) := Lib.hid fun W hb => new_any ⟨hb, hb.size, by simp, by simp⟩
            have hit12 : ∀ k : Int, k ∈ hits [(wordsL Pt, 7)] (wordsL Ky) ↔ (gl (wordsL Pt) (wordsL Ky) = true ∧ k = 7) := fun k => by
              rw [mem_hits]
              constructor
              · rintro ⟨p, h1, h2⟩
                rw [List.mem_singleton, Prod.mk.injEq] at h1
                rw [h1.1] at h2
                exact ⟨h2, h1.2⟩
              · rintro ⟨h2, rfl⟩
                exact ⟨_, by simp, h2⟩
            generalize i = z at *
            by_cases hz0' : z = 0
            · subst hz0'
              by_cases hxz : x = 0
              · subst hxz
                by_cases hyn : y = 1
                · subst hyn
                  have hgl : gl (wordsL Pt) (wordsL Ky) = true := by
                    rw [Fx.out]
                    simp [fits12]
                  have k2 := Lib.hid (fun w2 tb (h : TrIs w.heap.size w w2 tb [] [] 1) => add_is (k := 7) rfl (show addM [] (wordsL Pt, 7) = [(wordsL Pt, 7)] from rfl) (show 1 + (wordsL Pt).length + 1 ≤ 100 from by have := words_len Pt; omega) h (by omega) (by omega) (by simp))
                  have k3 := Lib.hid (fun w2 tb (h : TrIs w.heap.size w w2 tb [(wordsL Pt, 7)] [] 100) => match_is (l2 := [7]) rfl (by simp) (fun k => by rw [hit12 k, hgl]; simp) h (show Ky.length ≤ 1000 by omega) (by omega))
                  clear Fx hgl hit12
                  go_wp2_with fail
                  refine (k1.out _ hb.out).mono ?_
                  rintro e w2 ⟨tb, rfl, h⟩
                  have k2 := Lib.hid (k2.out w2 tb h)
                  clear h k1
                  go_wp2_with fail
                  refine k2.out.mono ?_
                  rintro e w3 ⟨rfl, h⟩
                  have k3 := Lib.hid (k3.out w3 tb h)
                  clear h k2
                  go_wp2_with fail
                  refine k3.out.mono ?_
                  rintro e w4 ⟨v4, S4, rfl, hS4, h⟩
                  have fin := Lib.hid h.below
                  obtain ⟨a4, cap4, rfl, -⟩ := hS4.form
                  clear h k3 hS4
                  go_wp2_with fail
                  go_ret
                  exact ⟨by first | (simp; done) | (simp; omega), fin.out⟩
                · have hB : ((1 : Int) == (y : Int)) = false := by
                    rw [beq_eq_false_iff_ne]
                    omega
                  have hgl : gl (wordsL Pt) (wordsL Ky) = false := by
                    rw [Fx.out]
                    simp [fits12, Ne.symm hyn]
                  have k2 := Lib.hid (fun w2 tb (h : TrIs w.heap.size w w2 tb [] [] 1) => add_is (k := 7) rfl (show addM [] (wordsL Pt, 7) = [(wordsL Pt, 7)] from rfl) (show 1 + (wordsL Pt).length + 1 ≤ 100 from by have := words_len Pt; omega) h (by omega) (by omega) (by simp))
                  have k3 := Lib.hid (fun w2 tb (h : TrIs w.heap.size w w2 tb [(wordsL Pt, 7)] [] 100) => match_is (l2 := ([] : List Int)) rfl (by simp) (fun k => by rw [hit12 k, hgl]; simp) h (show Ky.length ≤ 1000 by omega) (by omega))
                  clear Fx hgl hit12
                  go_wp2_with fail
                  refine (k1.out _ hb.out).mono ?_
                  rintro e w2 ⟨tb, rfl, h⟩
                  have k2 := Lib.hid (k2.out w2 tb h)
                  clear h k1
                  go_wp2_with fail
                  refine k2.out.mono ?_
                  rintro e w3 ⟨rfl, h⟩
                  have k3 := Lib.hid (k3.out w3 tb h)
                  clear h k2
                  go_wp2_with fail
                  refine k3.out.mono ?_
                  rintro e w4 ⟨v4, S4, rfl, hS4, h⟩
                  have fin := Lib.hid h.below
                  obtain ⟨a4, cap4, rfl, -⟩ := hS4.form
                  clear h k3 hS4
                  go_wp2_with fail
                  go_ret
                  exact ⟨by first | (simp; done) | (simp; omega), fin.out⟩
              · have hxp : (0 : Int) < x := by omega
                have hxB : ((x : Int) == 0) = false := by
                  rw [beq_eq_false_iff_ne]
                  omega
                by_cases hyn : y ≤ 1
                · have hyi : (y : Int) ≤ 1 := by omega
                  have hgl : gl (wordsL Pt) (wordsL Ky) = true := by
                    rw [Fx.out]
                    simp [fits12, hyn, hxz, Nat.pos_of_ne_zero hxz]
                  have k2 := Lib.hid (fun w2 tb (h : TrIs w.heap.size w w2 tb [] [] 1) => add_is (k := 7) rfl (show addM [] (wordsL Pt, 7) = [(wordsL Pt, 7)] from rfl) (show 1 + (wordsL Pt).length + 1 ≤ 100 from by have := words_len Pt; omega) h (by omega) (by omega) (by simp))
                  have k3 := Lib.hid (fun w2 tb (h : TrIs w.heap.size w w2 tb [(wordsL Pt, 7)] [] 100) => match_is (l2 := [7]) rfl (by simp) (fun k => by rw [hit12 k, hgl]; simp) h (show Ky.length ≤ 1000 by omega) (by omega))
                  clear Fx hgl hit12
                  go_wp2_with fail
                  refine (k1.out _ hb.out).mono ?_
                  rintro e w2 ⟨tb, rfl, h⟩
                  have k2 := Lib.hid (k2.out w2 tb h)
                  clear h k1
                  go_wp2_with fail
                  refine k2.out.mono ?_
                  rintro e w3 ⟨rfl, h⟩
                  have k3 := Lib.hid (k3.out w3 tb h)
                  clear h k2
                  go_wp2_with fail
                  refine k3.out.mono ?_
                  rintro e w4 ⟨v4, S4, rfl, hS4, h⟩
                  have fin := Lib.hid h.below
                  obtain ⟨a4, cap4, rfl, -⟩ := hS4.form
                  clear h k3 hS4
                  go_wp2_with fail
                  go_ret
                  exact ⟨by first | (simp; done) | (simp; omega), fin.out⟩
                · have hyi : ¬ (y : Int) ≤ 1 := by omega
                  have hgl : gl (wordsL Pt) (wordsL Ky) = false := by
                    rw [Fx.out]
                    simp [fits12, hyn, hxz]
                  have k2 := Lib.hid (fun w2 tb (h : TrIs w.heap.size w w2 tb [] [] 1) => add_is (k := 7) rfl (show addM [] (wordsL Pt, 7) = [(wordsL Pt, 7)] from rfl) (show 1 + (wordsL Pt).length + 1 ≤ 100 from by have := words_len Pt; omega) h (by omega) (by omega) (by simp))
                  have k3 := Lib.hid (fun w2 tb (h : TrIs w.heap.size w w2 tb [(wordsL Pt, 7)] [] 100) => match_is (l2 := ([] : List Int)) rfl (by simp) (fun k => by rw [hit12 k, hgl]; simp) h (show Ky.length ≤ 1000 by omega) (by omega))
                  clear Fx hgl hit12
                  go_wp2_with fail
                  refine (k1.out _ hb.out).mono ?_
                  rintro e w2 ⟨tb, rfl, h⟩
                  have k2 := Lib.hid (k2.out w2 tb h)
                  clear h k1
                  go_wp2_with fail
                  refine k2.out.mono ?_
                  rintro e w3 ⟨rfl, h⟩
                  have k3 := Lib.hid (k3.out w3 tb h)
                  clear h k2
                  go_wp2_with fail
                  refine k3.out.mono ?_
                  rintro e w4 ⟨v4, S4, rfl, hS4, h⟩
                  have fin := Lib.hid h.below
                  obtain ⟨a4, cap4, rfl, -⟩ := hS4.form
                  clear h k3 hS4
                  go_wp2_with fail
                  go_ret
                  exact ⟨by first | (simp; done) | (simp; omega), fin.out⟩
            · have hzB : ((z : Int) == 0) = false := by
                rw [beq_eq_false_iff_ne]
                omega
              by_cases hxz : x = 0
              · subst hxz
                by_cases hyn : z = y
                · subst hyn
                  have hgl : gl (wordsL Pt) (wordsL Ky) = true := by
                    rw [Fx.out]
                    simp [fits12, hz0']
                  have k2 := Lib.hid (fun w2 tb (h : TrIs w.heap.size w w2 tb [] [] 1) => add_is (k := 7) rfl (show addM [] (wordsL Pt, 7) = [(wordsL Pt, 7)] from rfl) (show 1 + (wordsL Pt).length + 1 ≤ 100 from by have := words_len Pt; omega) h (by omega) (by omega) (by simp))
                  have k3 := Lib.hid (fun w2 tb (h : TrIs w.heap.size w w2 tb [(wordsL Pt, 7)] [] 100) => match_is (l2 := [7]) rfl (by simp) (fun k => by rw [hit12 k, hgl]; simp) h (show Ky.length ≤ 1000 by omega) (by omega))
                  clear Fx hgl hit12
                  go_wp2_with fail
                  refine (k1.out _ hb.out).mono ?_
                  rintro e w2 ⟨tb, rfl, h⟩
                  have k2 := Lib.hid (k2.out w2 tb h)
                  clear h k1
                  go_wp2_with fail
                  refine k2.out.mono ?_
                  rintro e w3 ⟨rfl, h⟩
                  have k3 := Lib.hid (k3.out w3 tb h)
                  clear h k2
                  go_wp2_with fail
                  refine k3.out.mono ?_
                  rintro e w4 ⟨v4, S4, rfl, hS4, h⟩
                  have fin := Lib.hid h.below
                  obtain ⟨a4, cap4, rfl, -⟩ := hS4.form
                  clear h k3 hS4
                  go_wp2_with fail
                  go_ret
                  exact ⟨by first | (simp; done) | (simp; omega), fin.out⟩
                · have hB : ((z : Int) == (y : Int)) = false := by
                    rw [beq_eq_false_iff_ne]
                    omega
                  have hgl : gl (wordsL Pt) (wordsL Ky) = false := by
                    rw [Fx.out]
                    simp [fits12, hz0', hyn]
                  have k2 := Lib.hid (fun w2 tb (h : TrIs w.heap.size w w2 tb [] [] 1) => add_is (k := 7) rfl (show addM [] (wordsL Pt, 7) = [(wordsL Pt, 7)] from rfl) (show 1 + (wordsL Pt).length + 1 ≤ 100 from by have := words_len Pt; omega) h (by omega) (by omega) (by simp))
                  have k3 := Lib.hid (fun w2 tb (h : TrIs w.heap.size w w2 tb [(wordsL Pt, 7)] [] 100) => match_is (l2 := ([] : List Int)) rfl (by simp) (fun k => by rw [hit12 k, hgl]; simp) h (show Ky.length ≤ 1000 by omega) (by omega))
                  clear Fx hgl hit12
                  go_wp2_with fail
                  refine (k1.out _ hb.out).mono ?_
                  rintro e w2 ⟨tb, rfl, h⟩
                  have k2 := Lib.hid (k2.out w2 tb h)
                  clear h k1
                  go_wp2_with fail
                  refine k2.out.mono ?_
                  rintro e w3 ⟨rfl, h⟩
                  have k3 := Lib.hid (k3.out w3 tb h)
                  clear h k2
                  go_wp2_with fail
                  refine k3.out.mono ?_
                  rintro e w4 ⟨v4, S4, rfl, hS4, h⟩
                  have fin := Lib.hid h.below
                  obtain ⟨a4, cap4, rfl, -⟩ := hS4.form
                  clear h k3 hS4
                  go_wp2_with fail
                  go_ret
                  exact ⟨by first | (simp; done) | (simp; omega), fin.out⟩
              · have hxp : (0 : Int) < x := by omega
                have hxB : ((x : Int) == 0) = false := by
                  rw [beq_eq_false_iff_ne]
                  omega
                by_cases hyn : y ≤ z
                · have hyi : (y : Int) ≤ z := by omega
                  have hgl : gl (wordsL Pt) (wordsL Ky) = true := by
                    rw [Fx.out]
                    simp [fits12, hz0', hyn, hxz, Nat.pos_of_ne_zero hxz]
                  have k2 := Lib.hid (fun w2 tb (h : TrIs w.heap.size w w2 tb [] [] 1) => add_is (k := 7) rfl (show addM [] (wordsL Pt, 7) = [(wordsL Pt, 7)] from rfl) (show 1 + (wordsL Pt).length + 1 ≤ 100 from by have := words_len Pt; omega) h (by omega) (by omega) (by simp))
                  have k3 := Lib.hid (fun w2 tb (h : TrIs w.heap.size w w2 tb [(wordsL Pt, 7)] [] 100) => match_is (l2 := [7]) rfl (by simp) (fun k => by rw [hit12 k, hgl]; simp) h (show Ky.length ≤ 1000 by omega) (by omega))
                  clear Fx hgl hit12
                  go_wp2_with fail
                  refine (k1.out _ hb.out).mono ?_
                  rintro e w2 ⟨tb, rfl, h⟩
                  have k2 := Lib.hid (k2.out w2 tb h)
                  clear h k1
                  go_wp2_with fail
                  refine k2.out.mono ?_
                  rintro e w3 ⟨rfl, h⟩
                  have k3 := Lib.hid (k3.out w3 tb h)
                  clear h k2
                  go_wp2_with fail
                  refine k3.out.mono ?_
                  rintro e w4 ⟨v4, S4, rfl, hS4, h⟩
                  have fin := Lib.hid h.below
                  obtain ⟨a4, cap4, rfl, -⟩ := hS4.form
                  clear h k3 hS4
                  go_wp2_with fail
                  go_ret
                  exact ⟨by first | (simp; done) | (simp; omega), fin.out⟩
                · have hyi : ¬ (y : Int) ≤ z := by omega
                  have hgl : gl (wordsL Pt) (wordsL Ky) = false := by
                    rw [Fx.out]
                    simp [fits12, hz0', hyn, hxz]
                  have k2 := Lib.hid (fun w2 tb (h : TrIs w.heap.size w w2 tb [] [] 1) => add_is (k := 7) rfl (show addM [] (wordsL Pt, 7) = [(wordsL Pt, 7)] from rfl) (show 1 + (wordsL Pt).length + 1 ≤ 100 from by have := words_len Pt; omega) h (by omega) (by omega) (by simp))
                  have k3 := Lib.hid (fun w2 tb (h : TrIs w.heap.size w w2 tb [(wordsL Pt, 7)] [] 100) => match_is (l2 := ([] : List Int)) rfl (by simp) (fun k => by rw [hit12 k, hgl]; simp) h (show Ky.length ≤ 1000 by omega) (by omega))
                  clear Fx hgl hit12
                  go_wp2_with fail
                  refine (k1.out _ hb.out).mono ?_
                  rintro e w2 ⟨tb, rfl, h⟩
                  have k2 := Lib.hid (k2.out w2 tb h)
                  clear h k1
                  go_wp2_with fail
                  refine k2.out.mono ?_
                  rintro e w3 ⟨rfl, h⟩
                  have k3 := Lib.hid (k3.out w3 tb h)
                  clear h k2
                  go_wp2_with fail
                  refine k3.out.mono ?_
                  rintro e w4 ⟨v4, S4, rfl, hS4, h⟩
                  have fin := Lib.hid h.below
                  obtain ⟨a4, cap4, rfl, -⟩ := hS4.form
                  clear h k3 hS4
                  go_wp2_with fail
                  go_ret
                  exact ⟨by first | (simp; done) | (simp; omega), fin.out⟩

theorem hashes12_row {a b c : Int} {f : Bool} {w : World} (r0 : Read Try.prog w 5 [.int .u8 a]) (r1 : Read Try.prog w 5 [.int .u8 b]) (r2 : Read Try.prog w 5 [.int .u8 c]) :
    Calls Try.prog 4 #[.int .u8 a, .int .u8 b, .int .u8 c, .bool f] w fun e w' => e = .returned (.bool true) ∧ Below w.heap.size w w' := by
  obtain ⟨x, hx, wf⟩ := r0.int (by kernel_rfl : Try.prog.underlying 5 = some (.int .u8))
  obtain ⟨y, hy, wf2⟩ := r1.int (by kernel_rfl : Try.prog.underlying 5 = some (.int .u8))
  obtain ⟨z, hz, wf3⟩ := r2.int (by kernel_rfl : Try.prog.underlying 5 = some (.int .u8))
  simp only [List.cons.injEq, Value.int.injEq, true_and, and_true] at hx hy hz
  subst hx hy hz
  obtain ⟨h1, h2⟩ := bounds_u8 wf
  obtain ⟨h3, h4⟩ := bounds_u8 wf2
  obtain ⟨h5, h6⟩ := bounds_u8 wf3
  obtain ⟨a, rfl⟩ := Int.eq_ofNat_of_zero_le h1
  obtain ⟨b, rfl⟩ := Int.eq_ofNat_of_zero_le h3
  obtain ⟨c, rfl⟩ := Int.eq_ofNat_of_zero_le h5
  exact hashes12_nat f (a := a) (b := b) (c := c) (by omega) (by omega) (by omega) w
end Go.Proofs.Ytbfelfejelkdpaa
