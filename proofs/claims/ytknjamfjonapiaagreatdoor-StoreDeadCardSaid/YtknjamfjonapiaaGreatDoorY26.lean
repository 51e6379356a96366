import Derived.Test.YtknjamfjonapiaaGreatDoorY01
import Derived.Test.YtknjamfjonapiaaGreatDoorY24
import Derived.Test.YtknjamfjonapiaaGreatDoorY25
namespace Go.Proofs.YtknjamfjonapiaaGreatDoor
open Go.RowKit
set_option linter.unusedVariables false
set_option linter.unusedSectionVars false
set_option maxRecDepth 100000
def TiSt (B : Nat) (w0 w : World) (sb : Nat) (bs : List Nat) (t u i : Nat) : Prop := StoIs false B w0 w sb bs (tiN t u i) [] 1
theorem ti_one {B : Nat} {w0 w : World} {sb : Nat} {bs : List Nat} {t u i : Nat} (h : TiSt B w0 w sb bs t u i) (hi : i < 1000) :
  Calls Tryz.prog 31 #[bpt sb] w fun e w' => e = noneV ∧ TiSt B w0 w' sb bs t u (i + 1) :=
 st_tick h (by show (-1 : Int) ≤ (i : Int); omega) (by show (i : Int) < 4611686018427387904; omega) (ti_tickok t u i hi) (by decide) (by decide) (by decide) (ti_tick t u i)
def tiB (t u i : Nat) : Nat := if atF t u = 0 ∨ i < atF t u then 1 else 0
theorem tiM_len (t u i : Nat) : (tiM t u i).length = tiB t u i := by unfold tiM tiB; split <;> rfl
set_option maxHeartbeats 8000000 in
theorem times19_walk {w : World} {a b k t u n : Nat} (ha : a < 256) (hb : b < 256) (hk : k < 256) (hu : a % 20 = u) (ht : b % 20 = t) (hn : k % 30 = n) (hM : Most w.heap.size w) :
  Calls Tryz.prog 9 #[.int .u8 a, .int .u8 b, .int .u8 k] w fun e w' => e = .returned (.bool true) ∧ Below w.heap.size w w' := by
 have ck := Lib.hid (known19_true w hM)
 have u1 : (a : Int).tmod 20 = u := by rw [Int.tmod_eq_emod_of_nonneg (by omega)]; omega
 have u2 : (a : Int) % 20 = u := by omega
 have t1 : (b : Int).tmod 20 = t := by rw [Int.tmod_eq_emod_of_nonneg (by omega)]; omega
 have t2 : (b : Int) % 20 = t := by omega
 have n1 : (k : Int).tmod 30 = n := by rw [Int.tmod_eq_emod_of_nonneg (by omega)]; omega
 have n2 : (k : Int) % 30 = n := by omega
 have u20 : u < 20 := by omega
 have t20 : t < 20 := by omega
 have n30 : n < 30 := by omega
 have u3 : (0 : Int) ≤ u := by omega
 have u4 : (u : Int) < 20 := by omega
 have t3 : (0 : Int) ≤ t := by omega
 have t4 : (t : Int) < 20 := by omega
 have n3 : (0 : Int) ≤ n := by omega
 have n4 : (n : Int) < 30 := by omega
 have a0 : (0 : Int) ≤ a := by omega
 have a1 : (a : Int) < 256 := by omega
 have b0 : (0 : Int) ≤ b := by omega
 have b1 : (b : Int) < 256 := by omega
 have k0 : (0 : Int) ≤ k := by omega
 have k1 : (k : Int) < 256 := by omega
 clear ha hb hk hu ht hn
 go_enter Tryz.func9, Tryz.ntmps9
 go_wp2_with fail
 refine ck.out.mono ?_
 rintro e w1 ⟨rfl, hb⟩
 have c2 := Lib.hid (st_new (qT := false) (fun h => nomatch h) hM ((St.start w).grow hb) 1000)
 clear ck hb hM
 go_wp2_with fail
 refine c2.out.mono ?_
 rintro r w2 ⟨sb, rfl, h1⟩
 have c3 := Lib.hid (st_queue h1 [113] (oT u) 0 (by decide) (ti_queue u u20))
 clear c2 h1
 go_wp2_with fail
 refine c3.out.mono ?_
 rintro r w3 ⟨rfl, bs, h2⟩
 have cp0 := st_publish h2 (tiX t) (by show (-1 : Int) ≤ 0; omega) (by show (0 : Int) < 4611686018427387904; omega) (by show 1 ≤ 1000; omega) (ti_run t u) (by decide) (by decide) (by decide)
 have cp : Hid (Calls Tryz.prog 30 #[bpt sb, enV (tiX t)] w3 fun e w' => e = .returned (.tuple #[.bool true, .int .i64 1]) ∧ Hid (TiSt w.heap.size w w' sb bs t u 0)) := Lib.hid (cp0.mono (by
  rintro e w' ⟨rfl, h'⟩
  rw [ti_pub t u t20 u20] at h'
  rw [ti_pub t u t20 u20]
  have e0 : tiN t u 0 = tiS u [tiE t u] 1 0 := by
   unfold tiN tiM
   rw [if_pos (by omega)]
   rfl
  refine ⟨rfl, Lib.hid ?_⟩
  unfold TiSt
  rw [e0]
  exact h'))
 clear c3 h2 cp0
 go_wp2_with fail
 refine cp.out.mono ?_
 rintro r w4 ⟨rfl, h4⟩
 clear cp
 rcases (by omega : (t = 0 ∧ u = 0) ∨ (t = 0 ∧ 0 < u) ∨ (0 < t ∧ u = 0) ∨ (0 < t ∧ 0 < u ∧ u < t) ∨ (0 < t ∧ 0 < u ∧ ¬ u < t)) with ⟨q1, q2⟩ | ⟨q1, q2⟩ | ⟨q1, q2⟩ | ⟨q1, q2, q3⟩ | ⟨q1, q2, q3⟩
 ·have hat : atF t u = 0 := by unfold atF; rw [if_neg (by omega)]; exact q2
  have f1 : ¬ (0 : Int) < t := by omega
  have g1 : ¬ 0 < t := by omega
  have f2 : ¬ (0 : Int) < u := by omega
  have g2 : ¬ 0 < u := by omega
  clear q1 q2
  have hstart := h4
  clear h4
  go_wp2_with fail
  clear u1 u2 t1 t2 a0 a1 b0 b1
  go_loopg [11] n (fun g v11 wr => ∃ i j : Nat, v11 = .int .i64 i ∧ Hid (i = j + 1) ∧ Hid (j + g = n) ∧ Hid (TiSt w.heap.size w wr sb bs t u j))
  case atStart => exact ⟨1, 0, rfl, Lib.hid rfl, Lib.hid (by omega), hstart⟩
  case round =>
   clear hstart
   obtain ⟨i, j, rfl, hij, hj, h⟩ := hrel
   have i0 : (0 : Int) ≤ i := by omega
   have ismall : Hid (j + 1 ≤ n → (i : Int) < 100) := Lib.hid fun hh => by have := hij.out; omega
   by_cases hlt : i ≤ n
   ·have hle : (i : Int) ≤ n := by omega
    have i1 : (i : Int) < 100 := ismall.out (by have := hij.out; omega)
    have hg : Hid (∀ m, j + m = n → n - (j + 1) < m) := Lib.hid fun m hm => by have := hij.out; omega
    have hg2 : Hid (j + 1 + (n - (j + 1)) = n) := Lib.hid (by have := hij.out; omega)
    have ct := Lib.hid (ti_one h.out (by have := hij.out; omega))
    clear h ismall hlt
    go_wp2_with fail
    refine ct.out.mono ?_
    rintro r w5 ⟨rfl, h5⟩
    have h5' : StoIs false w.heap.size w w5 sb bs (tiN t u (j + 1)) [] 1 := h5
    have cn : Hid (Calls Tryz.prog 38 #[bpt sb] w5 fun e w' => e = .returned (.int .i64 i) ∧ w' = w5) := Lib.hid (by
     rw [show (i : Int) = ((j + 1 : Nat) : Int) by rw [hij.out]]
     exact st_now h5')
    have cr := Lib.hid (st_ready h5' [113])
    have er : (tiN t u (j + 1)).readyOf [113] = tiM t u (j + 1) := ti_ready _ _ _ _
    rw [er] at cr
    clear ct h5 h5' er
    go_wp2_with fail
    refine cn.out.mono ?_
    rintro r w6 ⟨rfl, rfl⟩
    clear cn
    go_wp2_with fail
    refine cr.out.mono ?_
    rintro r w7 ⟨ra, rc, Y, rfl, -, h7⟩
    have h8 : Hid (TiSt w.heap.size w w7 sb bs t u (j + 1)) := Lib.hid (h7.sub (List.nil_sublist _))
    rw [tiM_len]
    clear cr h7
    have hB : tiB t u (j + 1) = 1 := by unfold tiB; rw [if_pos (.inl hat)]
    rw [hB]
    clear hat
    go_wp2_with fail
    go_roundg (n - (j + 1))
    case measure => exact hg.out _ hj.out
    case rel => exact ⟨i + 1, j + 1, by go_num, Lib.hid (by rw [hij.out]), hg2, h8⟩
   ·have hle : ¬ (i : Int) ≤ n := by omega
    have fin := Lib.hid (StoIs.below h.out)
    clear h ismall hlt
    go_wp2_with fail
    go_ret
    exact ⟨rfl, fin.out⟩
 ·have hat : atF t u = u := by unfold atF; rw [if_neg (by omega)]
  have f1 : ¬ (0 : Int) < t := by omega
  have g1 : ¬ 0 < t := by omega
  have f2 : (0 : Int) < u := by omega
  have g2 : 0 < u := by omega
  have f3 : ((u : Int) == 0) = false := by rw [beq_eq_false_iff_ne]; omega
  clear q1 q2
  have hstart := h4
  clear h4
  go_wp2_with fail
  clear u1 u2 t1 t2 a0 a1 b0 b1
  go_loopg [11] n (fun g v11 wr => ∃ i j : Nat, v11 = .int .i64 i ∧ Hid (i = j + 1) ∧ Hid (j + g = n) ∧ Hid (TiSt w.heap.size w wr sb bs t u j))
  case atStart => exact ⟨1, 0, rfl, Lib.hid rfl, Lib.hid (by omega), hstart⟩
  case round =>
   clear hstart
   obtain ⟨i, j, rfl, hij, hj, h⟩ := hrel
   have i0 : (0 : Int) ≤ i := by omega
   have ismall : Hid (j + 1 ≤ n → (i : Int) < 100) := Lib.hid fun hh => by have := hij.out; omega
   by_cases hlt : i ≤ n
   ·have hle : (i : Int) ≤ n := by omega
    have i1 : (i : Int) < 100 := ismall.out (by have := hij.out; omega)
    have hg : Hid (∀ m, j + m = n → n - (j + 1) < m) := Lib.hid fun m hm => by have := hij.out; omega
    have hg2 : Hid (j + 1 + (n - (j + 1)) = n) := Lib.hid (by have := hij.out; omega)
    have ct := Lib.hid (ti_one h.out (by have := hij.out; omega))
    clear h ismall hlt
    go_wp2_with fail
    refine ct.out.mono ?_
    rintro r w5 ⟨rfl, h5⟩
    have h5' : StoIs false w.heap.size w w5 sb bs (tiN t u (j + 1)) [] 1 := h5
    have cn : Hid (Calls Tryz.prog 38 #[bpt sb] w5 fun e w' => e = .returned (.int .i64 i) ∧ w' = w5) := Lib.hid (by
     rw [show (i : Int) = ((j + 1 : Nat) : Int) by rw [hij.out]]
     exact st_now h5')
    have cr := Lib.hid (st_ready h5' [113])
    have er : (tiN t u (j + 1)).readyOf [113] = tiM t u (j + 1) := ti_ready _ _ _ _
    rw [er] at cr
    clear ct h5 h5' er
    go_wp2_with fail
    refine cn.out.mono ?_
    rintro r w6 ⟨rfl, rfl⟩
    clear cn
    go_wp2_with fail
    refine cr.out.mono ?_
    rintro r w7 ⟨ra, rc, Y, rfl, -, h7⟩
    have h8 : Hid (TiSt w.heap.size w w7 sb bs t u (j + 1)) := Lib.hid (h7.sub (List.nil_sublist _))
    rw [tiM_len]
    clear cr h7
    by_cases hlv : j + 1 < u
    ·have hB : tiB t u (j + 1) = 1 := by unfold tiB; rw [if_pos (.inr (by omega))]
     have hlv2 : (i : Int) < u := by have := hij.out; omega
     rw [hB]
     clear hlv hat
     go_wp2_with fail
     go_roundg (n - (j + 1))
     case measure => exact hg.out _ hj.out
     case rel => exact ⟨i + 1, j + 1, by go_num, Lib.hid (by rw [hij.out]), hg2, h8⟩
    ·have hB : tiB t u (j + 1) = 0 := by unfold tiB; rw [if_neg (by omega)]
     have hlv2 : ¬ (i : Int) < u := by have := hij.out; omega
     rw [hB]
     clear hlv hat
     go_wp2_with fail
     go_roundg (n - (j + 1))
     case measure => exact hg.out _ hj.out
     case rel => exact ⟨i + 1, j + 1, by go_num, Lib.hid (by rw [hij.out]), hg2, h8⟩
   ·have hle : ¬ (i : Int) ≤ n := by omega
    have fin := Lib.hid (StoIs.below h.out)
    clear h ismall hlt
    go_wp2_with fail
    go_ret
    exact ⟨rfl, fin.out⟩
 ·have hat : atF t u = t := by unfold atF; rw [if_pos (by omega), if_neg (by omega)]
  have f1 : (0 : Int) < t := by omega
  have g1 : 0 < t := by omega
  have f2 : ¬ (0 : Int) < u := by omega
  have g2 : ¬ 0 < u := by omega
  have f3 : ((t : Int) == 0) = false := by rw [beq_eq_false_iff_ne]; omega
  clear q1 q2
  have hstart := h4
  clear h4
  go_wp2_with fail
  clear u1 u2 t1 t2 a0 a1 b0 b1
  go_loopg [11] n (fun g v11 wr => ∃ i j : Nat, v11 = .int .i64 i ∧ Hid (i = j + 1) ∧ Hid (j + g = n) ∧ Hid (TiSt w.heap.size w wr sb bs t u j))
  case atStart => exact ⟨1, 0, rfl, Lib.hid rfl, Lib.hid (by omega), hstart⟩
  case round =>
   clear hstart
   obtain ⟨i, j, rfl, hij, hj, h⟩ := hrel
   have i0 : (0 : Int) ≤ i := by omega
   have ismall : Hid (j + 1 ≤ n → (i : Int) < 100) := Lib.hid fun hh => by have := hij.out; omega
   by_cases hlt : i ≤ n
   ·have hle : (i : Int) ≤ n := by omega
    have i1 : (i : Int) < 100 := ismall.out (by have := hij.out; omega)
    have hg : Hid (∀ m, j + m = n → n - (j + 1) < m) := Lib.hid fun m hm => by have := hij.out; omega
    have hg2 : Hid (j + 1 + (n - (j + 1)) = n) := Lib.hid (by have := hij.out; omega)
    have ct := Lib.hid (ti_one h.out (by have := hij.out; omega))
    clear h ismall hlt
    go_wp2_with fail
    refine ct.out.mono ?_
    rintro r w5 ⟨rfl, h5⟩
    have h5' : StoIs false w.heap.size w w5 sb bs (tiN t u (j + 1)) [] 1 := h5
    have cn : Hid (Calls Tryz.prog 38 #[bpt sb] w5 fun e w' => e = .returned (.int .i64 i) ∧ w' = w5) := Lib.hid (by
     rw [show (i : Int) = ((j + 1 : Nat) : Int) by rw [hij.out]]
     exact st_now h5')
    have cr := Lib.hid (st_ready h5' [113])
    have er : (tiN t u (j + 1)).readyOf [113] = tiM t u (j + 1) := ti_ready _ _ _ _
    rw [er] at cr
    clear ct h5 h5' er
    go_wp2_with fail
    refine cn.out.mono ?_
    rintro r w6 ⟨rfl, rfl⟩
    clear cn
    go_wp2_with fail
    refine cr.out.mono ?_
    rintro r w7 ⟨ra, rc, Y, rfl, -, h7⟩
    have h8 : Hid (TiSt w.heap.size w w7 sb bs t u (j + 1)) := Lib.hid (h7.sub (List.nil_sublist _))
    rw [tiM_len]
    clear cr h7
    by_cases hlv : j + 1 < t
    ·have hB : tiB t u (j + 1) = 1 := by unfold tiB; rw [if_pos (.inr (by omega))]
     have hlv2 : (i : Int) < t := by have := hij.out; omega
     rw [hB]
     clear hlv hat
     go_wp2_with fail
     go_roundg (n - (j + 1))
     case measure => exact hg.out _ hj.out
     case rel => exact ⟨i + 1, j + 1, by go_num, Lib.hid (by rw [hij.out]), hg2, h8⟩
    ·have hB : tiB t u (j + 1) = 0 := by unfold tiB; rw [if_neg (by omega)]
     have hlv2 : ¬ (i : Int) < t := by have := hij.out; omega
     rw [hB]
     clear hlv hat
     go_wp2_with fail
     go_roundg (n - (j + 1))
     case measure => exact hg.out _ hj.out
     case rel => exact ⟨i + 1, j + 1, by go_num, Lib.hid (by rw [hij.out]), hg2, h8⟩
   ·have hle : ¬ (i : Int) ≤ n := by omega
    have fin := Lib.hid (StoIs.below h.out)
    clear h ismall hlt
    go_wp2_with fail
    go_ret
    exact ⟨rfl, fin.out⟩
 ·have hat : atF t u = u := by unfold atF; rw [if_pos (by omega), if_pos (by omega)]
  have f1 : (0 : Int) < t := by omega
  have g1 : 0 < t := by omega
  have f2 : (0 : Int) < u := by omega
  have g2 : 0 < u := by omega
  have f3 : ((u : Int) == 0) = false := by rw [beq_eq_false_iff_ne]; omega
  have f5 : ((t : Int) == 0) = false := by rw [beq_eq_false_iff_ne]; omega
  have f4 : (u : Int) < t := by omega
  have g4 : u < t := by omega
  clear q1 q2 q3
  have hstart := h4
  clear h4
  go_wp2_with fail
  clear u1 u2 t1 t2 a0 a1 b0 b1
  go_loopg [11] n (fun g v11 wr => ∃ i j : Nat, v11 = .int .i64 i ∧ Hid (i = j + 1) ∧ Hid (j + g = n) ∧ Hid (TiSt w.heap.size w wr sb bs t u j))
  case atStart => exact ⟨1, 0, rfl, Lib.hid rfl, Lib.hid (by omega), hstart⟩
  case round =>
   clear hstart
   obtain ⟨i, j, rfl, hij, hj, h⟩ := hrel
   have i0 : (0 : Int) ≤ i := by omega
   have ismall : Hid (j + 1 ≤ n → (i : Int) < 100) := Lib.hid fun hh => by have := hij.out; omega
   by_cases hlt : i ≤ n
   ·have hle : (i : Int) ≤ n := by omega
    have i1 : (i : Int) < 100 := ismall.out (by have := hij.out; omega)
    have hg : Hid (∀ m, j + m = n → n - (j + 1) < m) := Lib.hid fun m hm => by have := hij.out; omega
    have hg2 : Hid (j + 1 + (n - (j + 1)) = n) := Lib.hid (by have := hij.out; omega)
    have ct := Lib.hid (ti_one h.out (by have := hij.out; omega))
    clear h ismall hlt
    go_wp2_with fail
    refine ct.out.mono ?_
    rintro r w5 ⟨rfl, h5⟩
    have h5' : StoIs false w.heap.size w w5 sb bs (tiN t u (j + 1)) [] 1 := h5
    have cn : Hid (Calls Tryz.prog 38 #[bpt sb] w5 fun e w' => e = .returned (.int .i64 i) ∧ w' = w5) := Lib.hid (by
     rw [show (i : Int) = ((j + 1 : Nat) : Int) by rw [hij.out]]
     exact st_now h5')
    have cr := Lib.hid (st_ready h5' [113])
    have er : (tiN t u (j + 1)).readyOf [113] = tiM t u (j + 1) := ti_ready _ _ _ _
    rw [er] at cr
    clear ct h5 h5' er
    go_wp2_with fail
    refine cn.out.mono ?_
    rintro r w6 ⟨rfl, rfl⟩
    clear cn
    go_wp2_with fail
    refine cr.out.mono ?_
    rintro r w7 ⟨ra, rc, Y, rfl, -, h7⟩
    have h8 : Hid (TiSt w.heap.size w w7 sb bs t u (j + 1)) := Lib.hid (h7.sub (List.nil_sublist _))
    rw [tiM_len]
    clear cr h7
    by_cases hlv : j + 1 < u
    ·have hB : tiB t u (j + 1) = 1 := by unfold tiB; rw [if_pos (.inr (by omega))]
     have hlv2 : (i : Int) < u := by have := hij.out; omega
     rw [hB]
     clear hlv hat
     go_wp2_with fail
     go_roundg (n - (j + 1))
     case measure => exact hg.out _ hj.out
     case rel => exact ⟨i + 1, j + 1, by go_num, Lib.hid (by rw [hij.out]), hg2, h8⟩
    ·have hB : tiB t u (j + 1) = 0 := by unfold tiB; rw [if_neg (by omega)]
     have hlv2 : ¬ (i : Int) < u := by have := hij.out; omega
     rw [hB]
     clear hlv hat
     go_wp2_with fail
     go_roundg (n - (j + 1))
     case measure => exact hg.out _ hj.out
     case rel => exact ⟨i + 1, j + 1, by go_num, Lib.hid (by rw [hij.out]), hg2, h8⟩
   ·have hle : ¬ (i : Int) ≤ n := by omega
    have fin := Lib.hid (StoIs.below h.out)
    clear h ismall hlt
    go_wp2_with fail
    go_ret
    exact ⟨rfl, fin.out⟩
 ·have hat : atF t u = t := by unfold atF; rw [if_pos (by omega), if_neg (by omega)]
  have f1 : (0 : Int) < t := by omega
  have g1 : 0 < t := by omega
  have f2 : (0 : Int) < u := by omega
  have g2 : 0 < u := by omega
  have f3 : ((t : Int) == 0) = false := by rw [beq_eq_false_iff_ne]; omega
  have f4 : ¬ (u : Int) < t := by omega
  have g4 : ¬ u < t := by omega
  clear q1 q2 q3
  have hstart := h4
  clear h4
  go_wp2_with fail
  clear u1 u2 t1 t2 a0 a1 b0 b1
  go_loopg [11] n (fun g v11 wr => ∃ i j : Nat, v11 = .int .i64 i ∧ Hid (i = j + 1) ∧ Hid (j + g = n) ∧ Hid (TiSt w.heap.size w wr sb bs t u j))
  case atStart => exact ⟨1, 0, rfl, Lib.hid rfl, Lib.hid (by omega), hstart⟩
  case round =>
   clear hstart
   obtain ⟨i, j, rfl, hij, hj, h⟩ := hrel
   have i0 : (0 : Int) ≤ i := by omega
   have ismall : Hid (j + 1 ≤ n → (i : Int) < 100) := Lib.hid fun hh => by have := hij.out; omega
   by_cases hlt : i ≤ n
   ·have hle : (i : Int) ≤ n := by omega
    have i1 : (i : Int) < 100 := ismall.out (by have := hij.out; omega)
    have hg : Hid (∀ m, j + m = n → n - (j + 1) < m) := Lib.hid fun m hm => by have := hij.out; omega
    have hg2 : Hid (j + 1 + (n - (j + 1)) = n) := Lib.hid (by have := hij.out; omega)
    have ct := Lib.hid (ti_one h.out (by have := hij.out; omega))
    clear h ismall hlt
    go_wp2_with fail
    refine ct.out.mono ?_
    rintro r w5 ⟨rfl, h5⟩
    have h5' : StoIs false w.heap.size w w5 sb bs (tiN t u (j + 1)) [] 1 := h5
    have cn : Hid (Calls Tryz.prog 38 #[bpt sb] w5 fun e w' => e = .returned (.int .i64 i) ∧ w' = w5) := Lib.hid (by
     rw [show (i : Int) = ((j + 1 : Nat) : Int) by rw [hij.out]]
     exact st_now h5')
    have cr := Lib.hid (st_ready h5' [113])
    have er : (tiN t u (j + 1)).readyOf [113] = tiM t u (j + 1) := ti_ready _ _ _ _
    rw [er] at cr
    clear ct h5 h5' er
    go_wp2_with fail
    refine cn.out.mono ?_
    rintro r w6 ⟨rfl, rfl⟩
    clear cn
    go_wp2_with fail
    refine cr.out.mono ?_
    rintro r w7 ⟨ra, rc, Y, rfl, -, h7⟩
    have h8 : Hid (TiSt w.heap.size w w7 sb bs t u (j + 1)) := Lib.hid (h7.sub (List.nil_sublist _))
    rw [tiM_len]
    clear cr h7
    by_cases hlv : j + 1 < t
    ·have hB : tiB t u (j + 1) = 1 := by unfold tiB; rw [if_pos (.inr (by omega))]
     have hlv2 : (i : Int) < t := by have := hij.out; omega
     rw [hB]
     clear hlv hat
     go_wp2_with fail
     go_roundg (n - (j + 1))
     case measure => exact hg.out _ hj.out
     case rel => exact ⟨i + 1, j + 1, by go_num, Lib.hid (by rw [hij.out]), hg2, h8⟩
    ·have hB : tiB t u (j + 1) = 0 := by unfold tiB; rw [if_neg (by omega)]
     have hlv2 : ¬ (i : Int) < t := by have := hij.out; omega
     rw [hB]
     clear hlv hat
     go_wp2_with fail
     go_roundg (n - (j + 1))
     case measure => exact hg.out _ hj.out
     case rel => exact ⟨i + 1, j + 1, by go_num, Lib.hid (by rw [hij.out]), hg2, h8⟩
   ·have hle : ¬ (i : Int) ≤ n := by omega
    have fin := Lib.hid (StoIs.below h.out)
    clear h ismall hlt
    go_wp2_with fail
    go_ret
    exact ⟨rfl, fin.out⟩
theorem times19_row {z0 z1 z2 : Int} {w : World} (hM : Most w.heap.size w) (r0 : Read Tryz.prog w 5 [.int .u8 z0]) (r1 : Read Tryz.prog w 5 [.int .u8 z1]) (r2 : Read Tryz.prog w 5 [.int .u8 z2]) :
  Calls Tryz.prog 9 #[.int .u8 z0, .int .u8 z1, .int .u8 z2] w fun e w' => e = .returned (.bool true) ∧ Below w.heap.size w w' := by
 have hu : Tryz.prog.underlying 5 = some (.int .u8) := by kernel_rfl
 obtain ⟨y, hy, wf⟩ := r0.int hu
 simp only [List.cons.injEq, Value.int.injEq, true_and, and_true] at hy
 subst hy
 obtain ⟨y, hy, wf1⟩ := r1.int hu
 simp only [List.cons.injEq, Value.int.injEq, true_and, and_true] at hy
 subst hy
 obtain ⟨y, hy, wf2⟩ := r2.int hu
 simp only [List.cons.injEq, Value.int.injEq, true_and, and_true] at hy
 subst hy
 obtain ⟨h1, h2⟩ := bounds_u8 wf
 obtain ⟨h3, h4⟩ := bounds_u8 wf1
 obtain ⟨h5, h6⟩ := bounds_u8 wf2
 obtain ⟨a, rfl⟩ := Int.eq_ofNat_of_zero_le h1
 obtain ⟨b, rfl⟩ := Int.eq_ofNat_of_zero_le h3
 obtain ⟨k, rfl⟩ := Int.eq_ofNat_of_zero_le h5
 exact times19_walk (by omega) (by omega) (by omega) rfl rfl rfl hM
end Go.Proofs.YtknjamfjonapiaaGreatDoor
namespace Go.Proofs.YtknjamfjonapiaaGreatDoor
open Go.RowKit
set_option linter.unusedVariables false
set_option maxRecDepth 100000
def fitEB (e : Ent) : Bool := decide (e.exch.length ≤ 1000) && (decide (e.key.length ≤ 1000) && decide (-9223372036854775808 ≤ e.hops))
theorem fitEB_ok {e : Ent} (h : fitEB e = true) : FitE e := by
 simp only [fitEB, Bool.and_eq_true, decide_eq_true_eq] at h
 exact ⟨h.1, h.2.1, h.2.2⟩
def rkB (M : List Ent) : Bool := decide (M.Pairwise fun a b => lessE a b = true) && (M.all (fun e => decide (0 ≤ e.prio ∧ e.prio ≤ 3)) && decide (M.map (·.id)).Nodup)
theorem rkB_ok {M : List Ent} (h : rkB M = true) : RkOk M := by
 simp only [rkB, Bool.and_eq_true, decide_eq_true_eq, List.all_eq_true] at h
 exact ⟨h.1, h.2.1, h.2.2⟩
def fitQB (p : Plq) : Bool := decide (p.o.dead.length ≤ 1000) && (decide (p.o.deadKey.length ≤ 1000) && (p.M.all fitEB && (decide (p.M.length ≤ 60) && rkB p.M)))
theorem fitQB_ok {p : Plq} (h : fitQB p = true) : FitQ 60 p := by
 simp only [fitQB, Bool.and_eq_true, decide_eq_true_eq, List.all_eq_true] at h
 exact ⟨⟨h.1, h.2.1⟩, fun e he => fitEB_ok (h.2.2.1 e he), h.2.2.2.1, rkB_ok h.2.2.2.2⟩
def tskB (n : Nat) : Tsk → Bool
 | .mail _ e way => fitEB e && way.all fun i => decide (i < n)
 | .dead i W => W.all fitEB && decide (i < n)
 | .owed _ => true
theorem tskB_ok {n : Nat} {t : Tsk} (h : tskB n t = true) : t.Fit n := by
 cases t with
 | mail top e way =>
  simp only [tskB, Bool.and_eq_true, List.all_eq_true, decide_eq_true_eq] at h
  exact ⟨fitEB_ok h.1, h.2⟩
 | dead i W =>
  simp only [tskB, Bool.and_eq_true, List.all_eq_true, decide_eq_true_eq] at h
  exact ⟨fun x hx => fitEB_ok (h.1 x hx), h.2⟩
 | owed b => trivial
def runB (C : Cf) : Bool := decide (C.S.A.length ≤ 40) && (decide (C.pot ≤ 900000000000) && (decide (-1 ≤ C.S.last ∧ C.S.last ≤ 1000000) && (C.S.sl.bs.all (fun x => decide (x.2.1 ≤ 1000000)) && (C.S.L.all fitQB && C.R.all (tskB C.S.L.length)))))
theorem runB_ok {C : Cf} (h : runB C = true) : RunOk 4611686018427387903 60 C := by
 simp only [runB, Bool.and_eq_true, List.all_eq_true, decide_eq_true_eq] at h
 obtain ⟨h1, h2, h3, h4, h5, h6⟩ := h
 exact ⟨⟨h1, Nat.le_refl _, by omega, fun x hx => by have := h4 x hx; omega, fun p hp => fitQB_ok (h5 p hp), fun t ht => tskB_ok (h6 t ht)⟩, h2, h3.1⟩
theorem step_Llen (C : Cf) : (stepF C).S.L.length = C.S.L.length := by
 obtain ⟨S, R, r⟩ := C
 cases R with
 | nil => rfl
 | cons t R =>
  cases t with
  | owed b => show (S.letGo b).L.length = _; rw [letGo_L]
  | mail top e way =>
   cases way with
   | nil => rfl
   | cons i way =>
    have hL : ∀ p N, ((S.hold e.body).setM i p N).L.length = S.L.length := fun p N => by
     show ((S.hold e.body).L.set i _).length = _
     rw [hold_L, List.length_set]
    cases hp : S.L[i]? with
    | none => simp only [stepF, hp]
    | some p =>
     simp only [stepF, hp]
     split
     ·exact hL _ _
     ·rw [letGo_L]; exact hL _ _
  | dead i W =>
   cases W with
   | nil => rfl
   | cons x W =>
    cases hy : (S.L[i]?).bind fun p => S.letter p.o x with
    | none => simp only [stepF, hy]
    | some y => simp only [stepF, hy]; rfl
theorem runF_Llen : ∀ (n : Nat) (C : Cf), (runF n C).S.L.length = C.S.L.length
 | 0, _ => rfl
 | n + 1, C => by
  unfold runF
  split
  ·rfl
  ·rw [runF_Llen n, step_Llen]
theorem tick1_Llen (S : Sto) (i : Nat) : (S.tick1 i).L.length = S.L.length := by
 unfold Sto.tick1
 cases h : S.L[i]? with
 | none => rfl
 | some d =>
  show (runF _ _).S.L.length = _
  rw [runF_Llen]
  show (S.L.set i _).length = _
  rw [List.length_set]
theorem tickN_Llen (S : Sto) : ∀ i, (tickN S i).L.length = S.L.length
 | 0 => rfl
 | i + 1 => by
  show ((tickN S i).tick1 i).L.length = _
  rw [tick1_Llen, tickN_Llen S i]
abbrev dK (key : Bool) : List UInt8 := if key = true then [111, 116, 104, 101, 114] else []
abbrev dW (key : Bool) : List UInt8 := if key = true then [111, 116, 104, 101, 114] else [113]
abbrev oD (how : Nat) (key : Bool) : Opt := ⟨[120], dK key, if how = 1 then 1 else 0, if how = 0 then 1 else 0, 0, 0⟩
abbrev gvN : List UInt8 := [103, 114, 97, 118, 101]
def dd1 (how : Nat) (key : Bool) : Sto := ((newS 1000).queue [113] (oD how key) 0).1
def dd2 (how : Nat) (key : Bool) : Sto := ((dd1 how key).queue gvN oZ 0).1
def dd3 (how : Nat) (key : Bool) : Sto := ((dd2 how key).exch [120] [116, 111, 112, 105, 99] 0).1
def dd4 (how : Nat) (key : Bool) : Sto := ((dd3 how key).bind ([120], gvN, [35]) 0).1
abbrev dE (h : Nat) : Ent := ⟨0, 0, 0, [], [113], 0, 9, 0, false, h⟩
def dd5 (how : Nat) (key : Bool) (h : Nat) : Sto := ((dd4 how key).publish (dE h)).1
abbrev dE2 : Ent := ⟨0, 0, 0, [], [113], 0, 0, 0, false, 0⟩
abbrev dX (h : Nat) : Ent := ⟨1, 0, 0, [], [113], 0, 9, 9, false, h⟩
def ddT (key : Bool) (h : Nat) : Sto := ((dd5 2 key h).take [113] 0).1
def dd6 (how : Nat) (key : Bool) (h : Nat) : Sto := if how = 0 then tickN (dd5 0 key h) 2 else if how = 1 then ((dd5 1 key h).publish dE2).1 else (ddT key h).dead 1 (dX h)
abbrev dG (how : Nat) (key : Bool) (h : Nat) : Ent := ⟨if how = 1 then 3 else 2, 0, 0, [120], dW key, 0, 0, 0, false, h + 1⟩
section
variable (how : Nat) (key : Bool) (h : Nat)
theorem dd1_is (hw : how < 3) : (newS 1000).queue [113] (oD how key) 0 = (dd1 how key, 0, 0, 0) := by
 obtain rfl | rfl | rfl : how = 0 ∨ how = 1 ∨ how = 2 := by omega
 all_goals (cases key <;> kernel_rfl)
theorem dd2_is (hw : how < 3) : (dd1 how key).queue gvN oZ 0 = (dd2 how key, 0, 0, 0) := by
 obtain rfl | rfl | rfl : how = 0 ∨ how = 1 ∨ how = 2 := by omega
 all_goals (cases key <;> kernel_rfl)
theorem dd3_is (hw : how < 3) : (dd2 how key).exch [120] [116, 111, 112, 105, 99] 0 = (dd3 how key, 0) := by
 obtain rfl | rfl | rfl : how = 0 ∨ how = 1 ∨ how = 2 := by omega
 all_goals (cases key <;> kernel_rfl)
theorem dd4_is (hw : how < 3) : (dd3 how key).bind ([120], gvN, [35]) 0 = (dd4 how key, 0) := by
 obtain rfl | rfl | rfl : how = 0 ∨ how = 1 ∨ how = 2 := by omega
 all_goals (cases key <;> kernel_rfl)
theorem dd1_num (hw : how < 3) : (dd1 how key).num < 4611686018427387904 := by
 obtain rfl | rfl | rfl : how = 0 ∨ how = 1 ∨ how = 2 := by omega
 all_goals (cases key <;> decide +kernel)
theorem dd5_is (hw : how < 3) (hh : h < 6) : (dd4 how key).publish (dE h) = (dd5 how key h, true, 1) := by
 obtain rfl | rfl | rfl : how = 0 ∨ how = 1 ∨ how = 2 := by omega
 all_goals
  obtain rfl | rfl | rfl | rfl | rfl | rfl : h = 0 ∨ h = 1 ∨ h = 2 ∨ h = 3 ∨ h = 4 ∨ h = 5 := by omega
 all_goals (cases key <;> kernel_rfl)
theorem dd5_run (hw : how < 3) (hh : h < 6) : RunOk 4611686018427387903 60 ⟨(dd4 how key).born, [(dd4 how key).mail true (dE h)], false⟩ := by
 refine runB_ok ?_
 obtain rfl | rfl | rfl : how = 0 ∨ how = 1 ∨ how = 2 := by omega
 all_goals
  obtain rfl | rfl | rfl | rfl | rfl | rfl : h = 0 ∨ h = 1 ∨ h = 2 ∨ h = 3 ∨ h = 4 ∨ h = 5 := by omega
 all_goals (cases key <;> kernel_rfl)
theorem dd4_last (hw : how < 3) : (dd4 how key).last = 0 := by
 obtain rfl | rfl | rfl : how = 0 ∨ how = 1 ∨ how = 2 := by omega
 all_goals (cases key <;> kernel_rfl)
theorem dd5_last (hw : how < 3) (hh : h < 6) : (dd5 how key h).last = 1 := by
 obtain rfl | rfl | rfl : how = 0 ∨ how = 1 ∨ how = 2 := by omega
 all_goals
  obtain rfl | rfl | rfl | rfl | rfl | rfl : h = 0 ∨ h = 1 ∨ h = 2 ∨ h = 3 ∨ h = 4 ∨ h = 5 := by omega
 all_goals (cases key <;> kernel_rfl)
theorem dd5_now (hh : h < 6) : (dd5 0 key h).now = 0 := by
 obtain rfl | rfl | rfl | rfl | rfl | rfl : h = 0 ∨ h = 1 ∨ h = 2 ∨ h = 3 ∨ h = 4 ∨ h = 5 := by omega
 all_goals (cases key <;> kernel_rfl)
theorem dd5_len (hh : h < 6) : (dd5 0 key h).L.length = 2 := by
 obtain rfl | rfl | rfl | rfl | rfl | rfl : h = 0 ∨ h = 1 ∨ h = 2 ∨ h = 3 ∨ h = 4 ∨ h = 5 := by omega
 all_goals (cases key <;> kernel_rfl)
def tickB (S : Sto) (i : Nat) : Bool := match (tickN S i).L[i]? with
 | none => false
 | some d => runB ((tickN S i).tickC i d)
theorem dd6_tick (hh : h < 6) : ∀ i d, (tickN (dd5 0 key h) i).L[i]? = some d → RunOk 4611686018427387903 60 ((tickN (dd5 0 key h) i).tickC i d) := by
 intro i d hd
 have hl := (List.getElem?_eq_some_iff.1 hd).1
 rw [tickN_Llen, dd5_len key h hh] at hl
 have hB : tickB (dd5 0 key h) i = true := by
  obtain rfl | rfl : i = 0 ∨ i = 1 := by omega
  all_goals
   obtain rfl | rfl | rfl | rfl | rfl | rfl : h = 0 ∨ h = 1 ∨ h = 2 ∨ h = 3 ∨ h = 4 ∨ h = 5 := by omega
  all_goals (cases key <;> kernel_rfl)
 unfold tickB at hB
 rw [hd] at hB
 exact runB_ok hB
theorem dd6_pub (hh : h < 6) : (dd5 1 key h).publish dE2 = (dd6 1 key h, true, 1) := by
 obtain rfl | rfl | rfl | rfl | rfl | rfl : h = 0 ∨ h = 1 ∨ h = 2 ∨ h = 3 ∨ h = 4 ∨ h = 5 := by omega
 all_goals (cases key <;> kernel_rfl)
theorem dd6_run (hh : h < 6) : RunOk 4611686018427387903 60 ⟨(dd5 1 key h).born, [(dd5 1 key h).mail true dE2], false⟩ := by
 refine runB_ok ?_
 obtain rfl | rfl | rfl | rfl | rfl | rfl : h = 0 ∨ h = 1 ∨ h = 2 ∨ h = 3 ∨ h = 4 ∨ h = 5 := by omega
 all_goals (cases key <;> kernel_rfl)
theorem ddT_is (hh : h < 6) : (dd5 2 key h).take [113] 0 = (ddT key h, dX h, 1, 0, 0) := by
 obtain rfl | rfl | rfl | rfl | rfl | rfl : h = 0 ∨ h = 1 ∨ h = 2 ∨ h = 3 ∨ h = 4 ∨ h = 5 := by omega
 all_goals (cases key <;> kernel_rfl)
theorem ddT_num (hh : h < 6) : (ddT key h).byNum 1 = some 0 := by
 obtain rfl | rfl | rfl | rfl | rfl | rfl : h = 0 ∨ h = 1 ∨ h = 2 ∨ h = 3 ∨ h = 4 ∨ h = 5 := by omega
 all_goals (cases key <;> kernel_rfl)
theorem ddT_run (hh : h < 6) : RunOk 4611686018427387903 60 ⟨ddT key h, [.dead 0 [dX h]], false⟩ := by
 refine runB_ok ?_
 obtain rfl | rfl | rfl | rfl | rfl | rfl : h = 0 ∨ h = 1 ∨ h = 2 ∨ h = 3 ∨ h = 4 ∨ h = 5 := by omega
 all_goals (cases key <;> kernel_rfl)
theorem ddT_bs (hh : h < 6) : (ddT key h).sl.bs = [] := by
 obtain rfl | rfl | rfl | rfl | rfl | rfl : h = 0 ∨ h = 1 ∨ h = 2 ∨ h = 3 ∨ h = 4 ∨ h = 5 := by omega
 all_goals (cases key <;> kernel_rfl)
theorem dd6_grave (hw : how < 3) (hh : h < 6) : (dd6 how key h).readyOf gvN = if h < 3 then [dG how key h] else [] := by
 obtain rfl | rfl | rfl : how = 0 ∨ how = 1 ∨ how = 2 := by omega
 all_goals
  obtain rfl | rfl | rfl | rfl | rfl | rfl : h = 0 ∨ h = 1 ∨ h = 2 ∨ h = 3 ∨ h = 4 ∨ h = 5 := by omega
 all_goals (cases key <;> kernel_rfl)
end
end Go.Proofs.YtknjamfjonapiaaGreatDoor
namespace Go.Proofs.YtknjamfjonapiaaGreatDoor
open Go.RowKit
set_option linter.unusedVariables false
set_option linter.unusedSectionVars false
set_option maxRecDepth 100000
def GrvR (B : Nat) (w0 : World) (how : Nat) (key : Bool) (h : Nat) (r : Ending) (w' : World) : Prop :=
 ∃ a cp, r = .returned (.slice a (if h < 3 then 1 else 0) cp) ∧ Below B w0 w' ∧ (h < 3 → ∃ g off, a = some ⟨g, off, none⟩ ∧ w'.cell? ⟨g, off + 3, none⟩ = some (tx [120]) ∧ w'.cell? ⟨g, off + 4, none⟩ = some (tx (dW key)) ∧ w'.cell? ⟨g, off + 6, none⟩ = some (.int .i64 0) ∧ w'.cell? ⟨g, off + 7, none⟩ = some (.int .i64 0) ∧ w'.cell? ⟨g, off + 9, none⟩ = some (.int .i64 ((h : Int) + 1)))
theorem grave_any {B : Nat} {w0 w : World} {sb c : Nat} {bs : List Nat} {F : List (Nat × Obj)} {how h : Nat} {key : Bool} (h1 : StoIs false B w0 w sb bs (dd6 how key h) F c) (hw : how < 3) (hh : h < 6) :
  Calls Tryz.prog 20 #[bpt sb, tx gvN] w (GrvR B w0 how key h) := by
 refine (st_ready h1 gvN).mono ?_
 rintro r w' ⟨a, cp, Y, rfl, hy, h2⟩
 rw [dd6_grave how key h hw hh] at hy ⊢
 by_cases h3 : h < 3
 ·rw [if_pos h3] at hy ⊢
  obtain ⟨g, off, rfl, q0, q1, q2, q3, q4, q5, q6, q7, q8, q9⟩ := h2.reads (M := [dG how key h]) (Y := Y) (F' := F) hy List.perm_append_comm 0 _ rfl
  simp only [Nat.zero_mul, Nat.add_zero] at q0 q1 q2 q3 q4 q5 q6 q7 q8 q9
  exact ⟨_, cp, by rw [if_pos h3]; rfl, h2.below, fun _ => ⟨g, off, rfl, q3, q4, q6, q7, q9⟩⟩
 ·rw [if_neg h3] at hy ⊢
  exact ⟨_, cp, by rw [if_neg h3]; rfl, h2.below, fun h4 => absurd h4 h3⟩
set_option maxHeartbeats 16000000 in
theorem dead19_walk {w : World} {a b h n : Nat} {key : Bool} (ha : a < 256) (hb : b < 256) (hn : a % 3 = n) (hh : b % 6 = h) (hM : Most w.heap.size w) :
  Calls Tryz.prog 5 #[.int .u8 a, .int .u8 b, .bool key] w fun e w' => e = .returned (.bool true) ∧ Below w.heap.size w w' := by
 have ck := Lib.hid (known19_true w hM)
 have h1 : (b : Int).tmod 6 = h := by rw [Int.tmod_eq_emod_of_nonneg (by omega)]; omega
 have h2 : (b : Int) % 6 = h := by omega
 have n1 : (a : Int).tmod 3 = n := by rw [Int.tmod_eq_emod_of_nonneg (by omega)]; omega
 have n2 : (a : Int) % 3 = n := by omega
 have h6 : h < 6 := by omega
 have n3 : n < 3 := by omega
 have x0 : (0 : Int) ≤ a := by omega
 have x1 : (a : Int) < 256 := by omega
 have y0 : (0 : Int) ≤ b := by omega
 have y1 : (b : Int) < 256 := by omega
 have h0i : (0 : Int) ≤ h := by omega
 have h6i : (h : Int) < 6 := by omega
 clear ha hb hn hh
 rcases (by omega : n = 0 ∨ n = 1 ∨ n = 2) with rfl | rfl | rfl
 ·have n4 : (a : Int).tmod 3 = 0 := n1
  have n5 : (a : Int) % 3 = 0 := n2
  clear n1 n2
  cases key
  ·go_enter Tryz.func5, Tryz.ntmps5
   go_wp2_with fail
   refine ck.out.mono ?_
   rintro e w1 ⟨rfl, hb⟩
   have c2 := Lib.hid (st_new (qT := false) (fun h => nomatch h) hM ((St.start w).grow hb) 1000)
   clear ck hb hM
   go_wp2_with fail
   refine c2.out.mono ?_
   rintro r w2 ⟨sb, rfl, s1⟩
   have s2 := s1.alloc (opO (oD 0 false))
   obtain ⟨o0, o1, o2, o3, o4, o5⟩ := s2.opC (b := w2.heap.size) (x := oD 0 false) List.mem_cons_self
   have c3 := Lib.hid (st_queue s2 [113] (oD 0 false) 0 (by decide) (dd1_is 0 false n3))
   clear c2 s1 s2
   go_wp2_with fail
   refine c3.out.mono ?_
   rintro r w3 ⟨rfl, bs3, s3⟩
   have c4 := Lib.hid (st_queue (s3.sub (List.nil_sublist _)) gvN oZ 0 (dd1_num 0 false n3) (dd2_is 0 false n3))
   clear c3 s3 o0 o1 o2 o3 o4 o5
   go_wp2_with fail
   refine c4.out.mono ?_
   rintro r w4 ⟨rfl, bs, s4⟩
   have c5 := Lib.hid (st_exch s4 [120] [116, 111, 112, 105, 99] 0 (dd3_is 0 false n3))
   clear c4 s4
   go_wp2_with fail
   refine c5.out.mono ?_
   rintro r w5 ⟨rfl, s5⟩
   have c6 := Lib.hid (st_bind s5 (b1 := [120]) (b2 := gvN) (b3 := [35]) ⟨by decide, by decide, by decide⟩ (by decide) 0 (dd4_is 0 false n3))
   clear c5 s5
   go_wp2_with fail
   refine c6.out.mono ?_
   rintro r w6 ⟨rfl, s6⟩
   have s7 := s6.alloc (enO (dE h))
   obtain ⟨e0, e1, e2, e3, e4, e5, e6, e7, e8, e9⟩ := (s7.enAt (k := w6.heap.size) (e := dE h) List.mem_cons_self).1
   have cp0 := st_publish s7 (dE h) (by rw [dd4_last 0 false n3]; decide) (by rw [dd4_last 0 false n3]; decide) (by show 1 ≤ 1000; omega) (dd5_run 0 false h n3 h6) (by decide) (by decide) (by decide)
   rw [dd5_is 0 false h n3 h6] at cp0
   have cp : Hid (Calls Tryz.prog 30 #[bpt sb, enV (dE h)] (w6.alloc (enO (dE h))) fun e w' => e = .returned (.tuple #[.bool true, .int .i64 1]) ∧ StoIs false w.heap.size w w' sb bs (dd5 0 false h) [] 51) := Lib.hid (cp0.mono (by
    rintro e w' ⟨rfl, h'⟩
    exact ⟨rfl, h'.sub (List.nil_sublist _)⟩))
   clear c6 s6 s7 cp0
   go_wp2_with fail
   refine cp.out.mono ?_
   rintro r w7 ⟨rfl, s8⟩
   have ct := Lib.hid (st_tick s8 (by rw [dd5_now false h h6]; decide) (by rw [dd5_now false h h6]; decide) (dd6_tick false h h6) (by decide) (by decide) (by decide) (S' := dd6 0 false h) (by rw [dd5_len false h h6]; rfl))
   clear cp s8 e0 e1 e2 e3 e4 e5 e6 e7 e8 e9
   go_wp2_with fail
   refine ct.out.mono ?_
   rintro r w8 ⟨rfl, s9⟩
   have cg := Lib.hid (grave_any s9 n3 h6)
   clear ct s9
   go_wp2_with fail
   refine cg.out.mono ?_
   rintro r w10 ⟨ga, gc, rfl, hb, hg⟩
   by_cases h3 : h < 3
   ·rw [if_pos h3]
    obtain ⟨g, off, rfl, q3, q4, q6, q7, q9⟩ := hg h3
    have h3i : (h : Int) < 3 := by omega
    replace hb := Lib.hid hb
    clear cg hg
    go_wp2_with fail
    go_ret
    exact ⟨ret_bool (by simp), hb.out⟩
   ·rw [if_neg h3]
    have h3i : ¬ (h : Int) < 3 := by omega
    replace hb := Lib.hid hb
    clear cg hg
    go_wp2_with fail
    go_ret
    exact ⟨ret_bool (by simp), hb.out⟩
  ·go_enter Tryz.func5, Tryz.ntmps5
   go_wp2_with fail
   refine ck.out.mono ?_
   rintro e w1 ⟨rfl, hb⟩
   have c2 := Lib.hid (st_new (qT := false) (fun h => nomatch h) hM ((St.start w).grow hb) 1000)
   clear ck hb hM
   go_wp2_with fail
   refine c2.out.mono ?_
   rintro r w2 ⟨sb, rfl, s1⟩
   have s2 := s1.alloc (opO (oD 0 true))
   obtain ⟨o0, o1, o2, o3, o4, o5⟩ := s2.opC (b := w2.heap.size) (x := oD 0 true) List.mem_cons_self
   have c3 := Lib.hid (st_queue s2 [113] (oD 0 true) 0 (by decide) (dd1_is 0 true n3))
   clear c2 s1 s2
   go_wp2_with fail
   refine c3.out.mono ?_
   rintro r w3 ⟨rfl, bs3, s3⟩
   have c4 := Lib.hid (st_queue (s3.sub (List.nil_sublist _)) gvN oZ 0 (dd1_num 0 true n3) (dd2_is 0 true n3))
   clear c3 s3 o0 o1 o2 o3 o4 o5
   go_wp2_with fail
   refine c4.out.mono ?_
   rintro r w4 ⟨rfl, bs, s4⟩
   have c5 := Lib.hid (st_exch s4 [120] [116, 111, 112, 105, 99] 0 (dd3_is 0 true n3))
   clear c4 s4
   go_wp2_with fail
   refine c5.out.mono ?_
   rintro r w5 ⟨rfl, s5⟩
   have c6 := Lib.hid (st_bind s5 (b1 := [120]) (b2 := gvN) (b3 := [35]) ⟨by decide, by decide, by decide⟩ (by decide) 0 (dd4_is 0 true n3))
   clear c5 s5
   go_wp2_with fail
   refine c6.out.mono ?_
   rintro r w6 ⟨rfl, s6⟩
   have s7 := s6.alloc (enO (dE h))
   obtain ⟨e0, e1, e2, e3, e4, e5, e6, e7, e8, e9⟩ := (s7.enAt (k := w6.heap.size) (e := dE h) List.mem_cons_self).1
   have cp0 := st_publish s7 (dE h) (by rw [dd4_last 0 true n3]; decide) (by rw [dd4_last 0 true n3]; decide) (by show 1 ≤ 1000; omega) (dd5_run 0 true h n3 h6) (by decide) (by decide) (by decide)
   rw [dd5_is 0 true h n3 h6] at cp0
   have cp : Hid (Calls Tryz.prog 30 #[bpt sb, enV (dE h)] (w6.alloc (enO (dE h))) fun e w' => e = .returned (.tuple #[.bool true, .int .i64 1]) ∧ StoIs false w.heap.size w w' sb bs (dd5 0 true h) [] 51) := Lib.hid (cp0.mono (by
    rintro e w' ⟨rfl, h'⟩
    exact ⟨rfl, h'.sub (List.nil_sublist _)⟩))
   clear c6 s6 s7 cp0
   go_wp2_with fail
   refine cp.out.mono ?_
   rintro r w7 ⟨rfl, s8⟩
   have ct := Lib.hid (st_tick s8 (by rw [dd5_now true h h6]; decide) (by rw [dd5_now true h h6]; decide) (dd6_tick true h h6) (by decide) (by decide) (by decide) (S' := dd6 0 true h) (by rw [dd5_len true h h6]; rfl))
   clear cp s8 e0 e1 e2 e3 e4 e5 e6 e7 e8 e9
   go_wp2_with fail
   refine ct.out.mono ?_
   rintro r w8 ⟨rfl, s9⟩
   have cg := Lib.hid (grave_any s9 n3 h6)
   clear ct s9
   go_wp2_with fail
   refine cg.out.mono ?_
   rintro r w10 ⟨ga, gc, rfl, hb, hg⟩
   by_cases h3 : h < 3
   ·rw [if_pos h3]
    obtain ⟨g, off, rfl, q3, q4, q6, q7, q9⟩ := hg h3
    have h3i : (h : Int) < 3 := by omega
    replace hb := Lib.hid hb
    clear cg hg
    go_wp2_with fail
    go_ret
    exact ⟨ret_bool (by simp), hb.out⟩
   ·rw [if_neg h3]
    have h3i : ¬ (h : Int) < 3 := by omega
    replace hb := Lib.hid hb
    clear cg hg
    go_wp2_with fail
    go_ret
    exact ⟨ret_bool (by simp), hb.out⟩
 ·have n4 : (a : Int).tmod 3 = 1 := n1
  have n5 : (a : Int) % 3 = 1 := n2
  clear n1 n2
  cases key
  ·go_enter Tryz.func5, Tryz.ntmps5
   go_wp2_with fail
   refine ck.out.mono ?_
   rintro e w1 ⟨rfl, hb⟩
   have c2 := Lib.hid (st_new (qT := false) (fun h => nomatch h) hM ((St.start w).grow hb) 1000)
   clear ck hb hM
   go_wp2_with fail
   refine c2.out.mono ?_
   rintro r w2 ⟨sb, rfl, s1⟩
   have s2 := s1.alloc (opO (oD 1 false))
   obtain ⟨o0, o1, o2, o3, o4, o5⟩ := s2.opC (b := w2.heap.size) (x := oD 1 false) List.mem_cons_self
   have c3 := Lib.hid (st_queue s2 [113] (oD 1 false) 0 (by decide) (dd1_is 1 false n3))
   clear c2 s1 s2
   go_wp2_with fail
   refine c3.out.mono ?_
   rintro r w3 ⟨rfl, bs3, s3⟩
   have c4 := Lib.hid (st_queue (s3.sub (List.nil_sublist _)) gvN oZ 0 (dd1_num 1 false n3) (dd2_is 1 false n3))
   clear c3 s3 o0 o1 o2 o3 o4 o5
   go_wp2_with fail
   refine c4.out.mono ?_
   rintro r w4 ⟨rfl, bs, s4⟩
   have c5 := Lib.hid (st_exch s4 [120] [116, 111, 112, 105, 99] 0 (dd3_is 1 false n3))
   clear c4 s4
   go_wp2_with fail
   refine c5.out.mono ?_
   rintro r w5 ⟨rfl, s5⟩
   have c6 := Lib.hid (st_bind s5 (b1 := [120]) (b2 := gvN) (b3 := [35]) ⟨by decide, by decide, by decide⟩ (by decide) 0 (dd4_is 1 false n3))
   clear c5 s5
   go_wp2_with fail
   refine c6.out.mono ?_
   rintro r w6 ⟨rfl, s6⟩
   have s7 := s6.alloc (enO (dE h))
   obtain ⟨e0, e1, e2, e3, e4, e5, e6, e7, e8, e9⟩ := (s7.enAt (k := w6.heap.size) (e := dE h) List.mem_cons_self).1
   have cp0 := st_publish s7 (dE h) (by rw [dd4_last 1 false n3]; decide) (by rw [dd4_last 1 false n3]; decide) (by show 1 ≤ 1000; omega) (dd5_run 1 false h n3 h6) (by decide) (by decide) (by decide)
   rw [dd5_is 1 false h n3 h6] at cp0
   have cp : Hid (Calls Tryz.prog 30 #[bpt sb, enV (dE h)] (w6.alloc (enO (dE h))) fun e w' => e = .returned (.tuple #[.bool true, .int .i64 1]) ∧ StoIs false w.heap.size w w' sb bs (dd5 1 false h) [] 51) := Lib.hid (cp0.mono (by
    rintro e w' ⟨rfl, h'⟩
    exact ⟨rfl, h'.sub (List.nil_sublist _)⟩))
   clear c6 s6 s7 cp0
   go_wp2_with fail
   refine cp.out.mono ?_
   rintro r w7 ⟨rfl, s8⟩
   have cq0 := st_publish s8 dE2 (by rw [dd5_last 1 false h n3 h6]; decide) (by rw [dd5_last 1 false h n3 h6]; decide) (by decide) (dd6_run false h h6) (by decide) (by decide) (by decide)
   rw [dd6_pub false h h6] at cq0
   have ct := Lib.hid cq0
   clear cp s8 e0 e1 e2 e3 e4 e5 e6 e7 e8 e9 cq0
   go_wp2_with fail
   refine ct.out.mono ?_
   rintro r w8 ⟨rfl, s9⟩
   have cg := Lib.hid (grave_any s9 n3 h6)
   clear ct s9
   go_wp2_with fail
   refine cg.out.mono ?_
   rintro r w10 ⟨ga, gc, rfl, hb, hg⟩
   by_cases h3 : h < 3
   ·rw [if_pos h3]
    obtain ⟨g, off, rfl, q3, q4, q6, q7, q9⟩ := hg h3
    have h3i : (h : Int) < 3 := by omega
    replace hb := Lib.hid hb
    clear cg hg
    go_wp2_with fail
    go_ret
    exact ⟨ret_bool (by simp), hb.out⟩
   ·rw [if_neg h3]
    have h3i : ¬ (h : Int) < 3 := by omega
    replace hb := Lib.hid hb
    clear cg hg
    go_wp2_with fail
    go_ret
    exact ⟨ret_bool (by simp), hb.out⟩
  ·go_enter Tryz.func5, Tryz.ntmps5
   go_wp2_with fail
   refine ck.out.mono ?_
   rintro e w1 ⟨rfl, hb⟩
   have c2 := Lib.hid (st_new (qT := false) (fun h => nomatch h) hM ((St.start w).grow hb) 1000)
   clear ck hb hM
   go_wp2_with fail
   refine c2.out.mono ?_
   rintro r w2 ⟨sb, rfl, s1⟩
   have s2 := s1.alloc (opO (oD 1 true))
   obtain ⟨o0, o1, o2, o3, o4, o5⟩ := s2.opC (b := w2.heap.size) (x := oD 1 true) List.mem_cons_self
   have c3 := Lib.hid (st_queue s2 [113] (oD 1 true) 0 (by decide) (dd1_is 1 true n3))
   clear c2 s1 s2
   go_wp2_with fail
   refine c3.out.mono ?_
   rintro r w3 ⟨rfl, bs3, s3⟩
   have c4 := Lib.hid (st_queue (s3.sub (List.nil_sublist _)) gvN oZ 0 (dd1_num 1 true n3) (dd2_is 1 true n3))
   clear c3 s3 o0 o1 o2 o3 o4 o5
   go_wp2_with fail
   refine c4.out.mono ?_
   rintro r w4 ⟨rfl, bs, s4⟩
   have c5 := Lib.hid (st_exch s4 [120] [116, 111, 112, 105, 99] 0 (dd3_is 1 true n3))
   clear c4 s4
   go_wp2_with fail
   refine c5.out.mono ?_
   rintro r w5 ⟨rfl, s5⟩
   have c6 := Lib.hid (st_bind s5 (b1 := [120]) (b2 := gvN) (b3 := [35]) ⟨by decide, by decide, by decide⟩ (by decide) 0 (dd4_is 1 true n3))
   clear c5 s5
   go_wp2_with fail
   refine c6.out.mono ?_
   rintro r w6 ⟨rfl, s6⟩
   have s7 := s6.alloc (enO (dE h))
   obtain ⟨e0, e1, e2, e3, e4, e5, e6, e7, e8, e9⟩ := (s7.enAt (k := w6.heap.size) (e := dE h) List.mem_cons_self).1
   have cp0 := st_publish s7 (dE h) (by rw [dd4_last 1 true n3]; decide) (by rw [dd4_last 1 true n3]; decide) (by show 1 ≤ 1000; omega) (dd5_run 1 true h n3 h6) (by decide) (by decide) (by decide)
   rw [dd5_is 1 true h n3 h6] at cp0
   have cp : Hid (Calls Tryz.prog 30 #[bpt sb, enV (dE h)] (w6.alloc (enO (dE h))) fun e w' => e = .returned (.tuple #[.bool true, .int .i64 1]) ∧ StoIs false w.heap.size w w' sb bs (dd5 1 true h) [] 51) := Lib.hid (cp0.mono (by
    rintro e w' ⟨rfl, h'⟩
    exact ⟨rfl, h'.sub (List.nil_sublist _)⟩))
   clear c6 s6 s7 cp0
   go_wp2_with fail
   refine cp.out.mono ?_
   rintro r w7 ⟨rfl, s8⟩
   have cq0 := st_publish s8 dE2 (by rw [dd5_last 1 true h n3 h6]; decide) (by rw [dd5_last 1 true h n3 h6]; decide) (by decide) (dd6_run true h h6) (by decide) (by decide) (by decide)
   rw [dd6_pub true h h6] at cq0
   have ct := Lib.hid cq0
   clear cp s8 e0 e1 e2 e3 e4 e5 e6 e7 e8 e9 cq0
   go_wp2_with fail
   refine ct.out.mono ?_
   rintro r w8 ⟨rfl, s9⟩
   have cg := Lib.hid (grave_any s9 n3 h6)
   clear ct s9
   go_wp2_with fail
   refine cg.out.mono ?_
   rintro r w10 ⟨ga, gc, rfl, hb, hg⟩
   by_cases h3 : h < 3
   ·rw [if_pos h3]
    obtain ⟨g, off, rfl, q3, q4, q6, q7, q9⟩ := hg h3
    have h3i : (h : Int) < 3 := by omega
    replace hb := Lib.hid hb
    clear cg hg
    go_wp2_with fail
    go_ret
    exact ⟨ret_bool (by simp), hb.out⟩
   ·rw [if_neg h3]
    have h3i : ¬ (h : Int) < 3 := by omega
    replace hb := Lib.hid hb
    clear cg hg
    go_wp2_with fail
    go_ret
    exact ⟨ret_bool (by simp), hb.out⟩
 ·have n4 : (a : Int).tmod 3 = 2 := n1
  have n5 : (a : Int) % 3 = 2 := n2
  clear n1 n2
  cases key
  ·go_enter Tryz.func5, Tryz.ntmps5
   go_wp2_with fail
   refine ck.out.mono ?_
   rintro e w1 ⟨rfl, hb⟩
   have c2 := Lib.hid (st_new (qT := false) (fun h => nomatch h) hM ((St.start w).grow hb) 1000)
   clear ck hb hM
   go_wp2_with fail
   refine c2.out.mono ?_
   rintro r w2 ⟨sb, rfl, s1⟩
   have s2 := s1.alloc (opO (oD 2 false))
   obtain ⟨o0, o1, o2, o3, o4, o5⟩ := s2.opC (b := w2.heap.size) (x := oD 2 false) List.mem_cons_self
   have c3 := Lib.hid (st_queue s2 [113] (oD 2 false) 0 (by decide) (dd1_is 2 false n3))
   clear c2 s1 s2
   go_wp2_with fail
   refine c3.out.mono ?_
   rintro r w3 ⟨rfl, bs3, s3⟩
   have c4 := Lib.hid (st_queue (s3.sub (List.nil_sublist _)) gvN oZ 0 (dd1_num 2 false n3) (dd2_is 2 false n3))
   clear c3 s3 o0 o1 o2 o3 o4 o5
   go_wp2_with fail
   refine c4.out.mono ?_
   rintro r w4 ⟨rfl, bs, s4⟩
   have c5 := Lib.hid (st_exch s4 [120] [116, 111, 112, 105, 99] 0 (dd3_is 2 false n3))
   clear c4 s4
   go_wp2_with fail
   refine c5.out.mono ?_
   rintro r w5 ⟨rfl, s5⟩
   have c6 := Lib.hid (st_bind s5 (b1 := [120]) (b2 := gvN) (b3 := [35]) ⟨by decide, by decide, by decide⟩ (by decide) 0 (dd4_is 2 false n3))
   clear c5 s5
   go_wp2_with fail
   refine c6.out.mono ?_
   rintro r w6 ⟨rfl, s6⟩
   have s7 := s6.alloc (enO (dE h))
   obtain ⟨e0, e1, e2, e3, e4, e5, e6, e7, e8, e9⟩ := (s7.enAt (k := w6.heap.size) (e := dE h) List.mem_cons_self).1
   have cp0 := st_publish s7 (dE h) (by rw [dd4_last 2 false n3]; decide) (by rw [dd4_last 2 false n3]; decide) (by show 1 ≤ 1000; omega) (dd5_run 2 false h n3 h6) (by decide) (by decide) (by decide)
   rw [dd5_is 2 false h n3 h6] at cp0
   have cp : Hid (Calls Tryz.prog 30 #[bpt sb, enV (dE h)] (w6.alloc (enO (dE h))) fun e w' => e = .returned (.tuple #[.bool true, .int .i64 1]) ∧ StoIs false w.heap.size w w' sb bs (dd5 2 false h) [] 51) := Lib.hid (cp0.mono (by
    rintro e w' ⟨rfl, h'⟩
    exact ⟨rfl, h'.sub (List.nil_sublist _)⟩))
   clear c6 s6 s7 cp0
   go_wp2_with fail
   refine cp.out.mono ?_
   rintro r w7 ⟨rfl, s8⟩
   have ct := Lib.hid (st_take s8 [113] 0 (ddT_is false h h6))
   clear cp s8 e0 e1 e2 e3 e4 e5 e6 e7 e8 e9
   go_wp2_with fail
   refine ct.out.mono ?_
   rintro r w8 ⟨rfl, s9⟩
   have s10 := s9.alloc (enO (dX h))
   obtain ⟨e0, e1, e2, e3, e4, e5, e6, e7, e8, e9⟩ := (s10.enAt (k := w8.heap.size) (e := dX h) List.mem_cons_self).1
   have cd := Lib.hid (st_dead s10 1 (dX h) (fun x hx => by rw [ddT_bs false h h6] at hx; exact (nomatch hx)) (fun i hi => by
    rw [ddT_num false h h6] at hi
    cases hi
    exact ddT_run false h h6) (by decide) (by decide) (by decide))
   clear ct s9 s10
   go_wp2_with fail
   refine cd.out.mono ?_
   rintro r w9 ⟨rfl, s11⟩
   have s12 : StoIs false w.heap.size w w9 sb bs (dd6 2 false h) [(w8.heap.size, enO (dX h))] 51 := s11
   have cg := Lib.hid (grave_any s12 n3 h6)
   clear cd s11 s12 e0 e1 e2 e3 e4 e5 e6 e7 e8 e9
   go_wp2_with fail
   refine cg.out.mono ?_
   rintro r w10 ⟨ga, gc, rfl, hb, hg⟩
   by_cases h3 : h < 3
   ·rw [if_pos h3]
    obtain ⟨g, off, rfl, q3, q4, q6, q7, q9⟩ := hg h3
    have h3i : (h : Int) < 3 := by omega
    replace hb := Lib.hid hb
    clear cg hg
    go_wp2_with fail
    go_ret
    exact ⟨ret_bool (by simp), hb.out⟩
   ·rw [if_neg h3]
    have h3i : ¬ (h : Int) < 3 := by omega
    replace hb := Lib.hid hb
    clear cg hg
    go_wp2_with fail
    go_ret
    exact ⟨ret_bool (by simp), hb.out⟩
  ·go_enter Tryz.func5, Tryz.ntmps5
   go_wp2_with fail
   refine ck.out.mono ?_
   rintro e w1 ⟨rfl, hb⟩
   have c2 := Lib.hid (st_new (qT := false) (fun h => nomatch h) hM ((St.start w).grow hb) 1000)
   clear ck hb hM
   go_wp2_with fail
   refine c2.out.mono ?_
   rintro r w2 ⟨sb, rfl, s1⟩
   have s2 := s1.alloc (opO (oD 2 true))
   obtain ⟨o0, o1, o2, o3, o4, o5⟩ := s2.opC (b := w2.heap.size) (x := oD 2 true) List.mem_cons_self
   have c3 := Lib.hid (st_queue s2 [113] (oD 2 true) 0 (by decide) (dd1_is 2 true n3))
   clear c2 s1 s2
   go_wp2_with fail
   refine c3.out.mono ?_
   rintro r w3 ⟨rfl, bs3, s3⟩
   have c4 := Lib.hid (st_queue (s3.sub (List.nil_sublist _)) gvN oZ 0 (dd1_num 2 true n3) (dd2_is 2 true n3))
   clear c3 s3 o0 o1 o2 o3 o4 o5
   go_wp2_with fail
   refine c4.out.mono ?_
   rintro r w4 ⟨rfl, bs, s4⟩
   have c5 := Lib.hid (st_exch s4 [120] [116, 111, 112, 105, 99] 0 (dd3_is 2 true n3))
   clear c4 s4
   go_wp2_with fail
   refine c5.out.mono ?_
   rintro r w5 ⟨rfl, s5⟩
   have c6 := Lib.hid (st_bind s5 (b1 := [120]) (b2 := gvN) (b3 := [35]) ⟨by decide, by decide, by decide⟩ (by decide) 0 (dd4_is 2 true n3))
   clear c5 s5
   go_wp2_with fail
   refine c6.out.mono ?_
   rintro r w6 ⟨rfl, s6⟩
   have s7 := s6.alloc (enO (dE h))
   obtain ⟨e0, e1, e2, e3, e4, e5, e6, e7, e8, e9⟩ := (s7.enAt (k := w6.heap.size) (e := dE h) List.mem_cons_self).1
   have cp0 := st_publish s7 (dE h) (by rw [dd4_last 2 true n3]; decide) (by rw [dd4_last 2 true n3]; decide) (by show 1 ≤ 1000; omega) (dd5_run 2 true h n3 h6) (by decide) (by decide) (by decide)
   rw [dd5_is 2 true h n3 h6] at cp0
   have cp : Hid (Calls Tryz.prog 30 #[bpt sb, enV (dE h)] (w6.alloc (enO (dE h))) fun e w' => e = .returned (.tuple #[.bool true, .int .i64 1]) ∧ StoIs false w.heap.size w w' sb bs (dd5 2 true h) [] 51) := Lib.hid (cp0.mono (by
    rintro e w' ⟨rfl, h'⟩
    exact ⟨rfl, h'.sub (List.nil_sublist _)⟩))
   clear c6 s6 s7 cp0
   go_wp2_with fail
   refine cp.out.mono ?_
   rintro r w7 ⟨rfl, s8⟩
   have ct := Lib.hid (st_take s8 [113] 0 (ddT_is true h h6))
   clear cp s8 e0 e1 e2 e3 e4 e5 e6 e7 e8 e9
   go_wp2_with fail
   refine ct.out.mono ?_
   rintro r w8 ⟨rfl, s9⟩
   have s10 := s9.alloc (enO (dX h))
   obtain ⟨e0, e1, e2, e3, e4, e5, e6, e7, e8, e9⟩ := (s10.enAt (k := w8.heap.size) (e := dX h) List.mem_cons_self).1
   have cd := Lib.hid (st_dead s10 1 (dX h) (fun x hx => by rw [ddT_bs true h h6] at hx; exact (nomatch hx)) (fun i hi => by
    rw [ddT_num true h h6] at hi
    cases hi
    exact ddT_run true h h6) (by decide) (by decide) (by decide))
   clear ct s9 s10
   go_wp2_with fail
   refine cd.out.mono ?_
   rintro r w9 ⟨rfl, s11⟩
   have s12 : StoIs false w.heap.size w w9 sb bs (dd6 2 true h) [(w8.heap.size, enO (dX h))] 51 := s11
   have cg := Lib.hid (grave_any s12 n3 h6)
   clear cd s11 s12 e0 e1 e2 e3 e4 e5 e6 e7 e8 e9
   go_wp2_with fail
   refine cg.out.mono ?_
   rintro r w10 ⟨ga, gc, rfl, hb, hg⟩
   by_cases h3 : h < 3
   ·rw [if_pos h3]
    obtain ⟨g, off, rfl, q3, q4, q6, q7, q9⟩ := hg h3
    have h3i : (h : Int) < 3 := by omega
    replace hb := Lib.hid hb
    clear cg hg
    go_wp2_with fail
    go_ret
    exact ⟨ret_bool (by simp), hb.out⟩
   ·rw [if_neg h3]
    have h3i : ¬ (h : Int) < 3 := by omega
    replace hb := Lib.hid hb
    clear cg hg
    go_wp2_with fail
    go_ret
    exact ⟨ret_bool (by simp), hb.out⟩
theorem dead19_row {z0 z1 : Int} {b2 : Bool} {w : World} (hM : Most w.heap.size w) (r0 : Read Tryz.prog w 5 [.int .u8 z0]) (r1 : Read Tryz.prog w 5 [.int .u8 z1]) :
  Calls Tryz.prog 5 #[.int .u8 z0, .int .u8 z1, .bool b2] w fun e w' => e = .returned (.bool true) ∧ Below w.heap.size w w' := by
 have hu : Tryz.prog.underlying 5 = some (.int .u8) := by kernel_rfl
 obtain ⟨y, hy, wf⟩ := r0.int hu
 simp only [List.cons.injEq, Value.int.injEq, true_and, and_true] at hy
 subst hy
 obtain ⟨y, hy, wf1⟩ := r1.int hu
 simp only [List.cons.injEq, Value.int.injEq, true_and, and_true] at hy
 subst hy
 obtain ⟨h1, h2⟩ := bounds_u8 wf
 obtain ⟨h3, h4⟩ := bounds_u8 wf1
 obtain ⟨a, rfl⟩ := Int.eq_ofNat_of_zero_le h1
 obtain ⟨b, rfl⟩ := Int.eq_ofNat_of_zero_le h3
 exact dead19_walk (by omega) (by omega) rfl rfl hM
end Go.Proofs.YtknjamfjonapiaaGreatDoor
