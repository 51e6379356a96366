/- The document's own slips: whether one is there, how many of a consumer; two rows compared. -/
import Derived.Test.YtdkchcbmhmlhnaaSpL
namespace Go.Proofs.Ytdkchcbmhmlhnaa
open Go.RowKit
set_option linter.unusedVariables false
set_option linter.unusedSectionVars false
set_option linter.unusedSimpArgs false
set_option maxRecDepth 100000

theorem drew_drew17 (w : World) (a b : Nat) : (w.drewN a).drewN b = w.drewN (a + b) := by
  simp [World.drewN, Nat.add_assoc]
theorem bne_slip (e : Slp) (w : World) : (binOp .neq 33 (slV e) (slV e)).run Try.prog w = .ok (.bool false) w := by
  go_simp
theorem beq_slip (e : Slp) (w : World) : (binOp .eql 33 (slV e) (slV e)).run Try.prog w = .ok (.bool true) w := by
  go_simp
/-- What is read of the document's slips. -/
structure RdS (w : World) (fb : Nat) (N : List Slp) (a : Option Addr) (c : Nat) : Prop where
  c0 : w.cell? ⟨fb, 0, none⟩ = some (.slice a N.length c)
  rd : ReadSs w a N
section
variable {w w' : World} {fb : Nat} {N L : List Slp} {a : Option Addr} {c : Nat}
theorem RdS.below (h : RdS w fb N a c) (hb : Below w.heap.size w w') : RdS w' fb N a c := ⟨cellUp h.c0 hb, h.rd.below hb⟩
set_option maxHeartbeats 1000000 in
theorem rs_has (h : RdS w fb N a c) (hl : N.length ≤ 100000) (t : Int) : Calls Try.prog 20 #[gptr fb, .int .i64 t] w fun e w' => e = .returned (.bool (hasS N t)) ∧ w' = w := by
  obtain ⟨c0, hr⟩ := h
  obtain ⟨R, hR⟩ : ∃ R, R = hasS N t := ⟨_, rfl⟩
  rw [← hR]
  have hyes : Hid (∀ (i : Nat) x, N[i]? = some x → x.tag = t → R = true) := Lib.hid fun i x hi he => by
    rw [hR]
    exact hasS_yes (he ▸ List.mem_map_of_mem (List.mem_of_getElem? hi))
  have hno : Hid ((∀ (j : Nat) x, j < N.length → N[j]? = some x → x.tag ≠ t) → R = false) := Lib.hid fun hno => by
    rw [hR]
    refine hasS_no fun hm => ?_
    obtain ⟨x, hx, e⟩ := List.mem_map.1 hm
    obtain ⟨j, hj⟩ := List.getElem?_of_mem hx
    exact hno j x (List.getElem?_eq_some_iff.1 hj).1 hj e
  have hl0 : (N.length : Int) ≤ 100000 := by omega
  replace hr := Lib.hid hr
  clear hR
  go_enter Try.func20, Try.ntmps20
  go_wp2_with fail
  go_loopg [5] N.length (fun g v5 wr => ∃ i : Nat, v5 = .int .i64 i ∧ i + g = N.length ∧ Hid (∀ (j : Nat) x, j < i → N[j]? = some x → x.tag ≠ t) ∧ wr = w)
  case atStart => exact ⟨0, rfl, by omega, Lib.hid fun j x hj => absurd hj (by omega), rfl⟩
  case round =>
    obtain ⟨i, rfl, hi, hn, rfl⟩ := hrel
    have i0 : (0 : Int) ≤ i := by omega
    by_cases hlt : i < N.length
    · have i1 : (i : Int) < N.length := by omega
      obtain ⟨x, hx⟩ : ∃ x, N[i]? = some x := ⟨_, List.getElem?_eq_getElem hlt⟩
      obtain ⟨b, o, rfl, x0, -⟩ := hr.out i x hx
      by_cases he : x.tag = t
      · have fin := Lib.hid (hyes.out i x hx he)
        have heB : (x.tag == t) = true := by simpa using he
        clear hx hn hyes hno he
        go_wp2_with fail
        go_ret
        exact ⟨ret_bool fin.out.symm, rfl⟩
      · have hn2 : Hid (∀ (j : Nat) y, j < i + 1 → N[j]? = some y → y.tag ≠ t) := Lib.hid fun j y hj hy => by
          rcases (by omega : j < i ∨ j = i) with h9 | rfl
          · exact hn.out j y h9 hy
          · rw [hx] at hy
            cases hy
            exact he
        have heB : (x.tag == t) = false := by simpa using he
        clear hx hn hyes hno he
        go_wp2_with fail
        go_roundg (N.length - (i + 1))
        case measure => omega
        case rel => exact ⟨i + 1, by go_num, by omega, hn2, rfl⟩
    · have fin : Hid (R = false) := Lib.hid (hno.out fun j x hj => hn.out j x (by omega))
      clear hn hyes hno
      go_wp2_with fail
      go_ret
      exact ⟨ret_bool fin.out.symm, rfl⟩

theorem of_succ {i : Nat} {x : Slp} (hx : N[i]? = some x) (q : List UInt8) : ofS (N.take (i + 1)) q = ofS (N.take i) q + if x.cons = q then 1 else 0 := by
  rw [List.take_add_one, hx]
  unfold ofS
  rw [List.filter_append, List.length_append]
  congr 1
  by_cases h : x.cons = q
  · simp [h]
  · simp [h]
set_option maxHeartbeats 1000000 in
theorem rs_of (h : RdS w fb N a c) (hl : N.length ≤ 100000) (q : List UInt8) : Calls Try.prog 18 #[gptr fb, tx q] w fun e w' => e = .returned (.int .i64 (ofS N q)) ∧ w' = w := by
  obtain ⟨c0, hr⟩ := h
  have hl0 : (N.length : Int) ≤ 100000 := by omega
  replace hr := Lib.hid hr
  go_enter Try.func18, Try.ntmps18
  go_wp2_with fail
  go_loopg [5, 6] N.length (fun g v5 v6 wr => ∃ i m : Nat, v5 = .int .i64 m ∧ v6 = .int .i64 i ∧ i + g = N.length ∧ Hid (m = ofS (N.take i) q) ∧ wr = w)
  case atStart => exact ⟨0, 0, rfl, rfl, by omega, Lib.hid rfl, rfl⟩
  case round =>
    obtain ⟨i, m, rfl, rfl, hi, hm, rfl⟩ := hrel
    have i0 : (0 : Int) ≤ i := by omega
    by_cases hlt : i < N.length
    · have i1 : (i : Int) < N.length := by omega
      obtain ⟨x, hx⟩ : ∃ x, N[i]? = some x := ⟨_, List.getElem?_eq_getElem hlt⟩
      have hs := of_succ hx q
      rw [← hm.out] at hs
      have hml : m ≤ i := by
        have := of_le (M := N.take i) q
        rw [← hm.out, List.length_take] at this
        omega
      have hm0 : (0 : Int) ≤ m := by omega
      have hm1 : (m : Int) ≤ 100000 := by omega
      obtain ⟨b, o, rfl, x0, x1, x2, -⟩ := hr.out i x hx
      by_cases he : x.cons = q
      · rw [if_pos he] at hs
        have hm2 : Hid (m + 1 = ofS (N.take (i + 1)) q) := Lib.hid hs.symm
        have hbq : (x.cons == q) = true := by rw [beq_iff_eq]; exact he
        clear hx hm he hs hml
        go_wp2_with fail
        go_roundg (N.length - (i + 1))
        case measure => omega
        case rel => exact ⟨i + 1, m + 1, by go_num, by go_num, by omega, hm2, rfl⟩
      · rw [if_neg he] at hs
        have hm2 : Hid (m = ofS (N.take (i + 1)) q) := Lib.hid hs.symm
        have hbq : (x.cons == q) = false := by rw [beq_eq_false_iff_ne]; exact he
        clear hx hm he hs hml
        go_wp2_with fail
        go_roundg (N.length - (i + 1))
        case measure => omega
        case rel => exact ⟨i + 1, m, rfl, by go_num, by omega, hm2, rfl⟩
    · have hin : i = N.length := by omega
      have fin : Hid (m = ofS N q) := Lib.hid (by rw [hm.out, hin, List.take_length])
      clear hm
      go_wp2_with fail
      go_ret
      exact ⟨ret_int (by rw [fin.out]), rfl⟩

set_option maxHeartbeats 1000000 in
theorem rs_same {a2 : Option Addr} {c2 : Nat} (hr : ReadSs w a L) (hr2 : ReadSs w a2 L) (hl : L.length ≤ 100000) : Calls Try.prog 12 #[.slice a L.length c, .slice a2 L.length c2] w fun r w' => r = .returned (.bool true) ∧ ∃ n, w' = w.drewN n := by
  have hr' : Hid (∀ m, ReadSs (w.drewN m) a L) := Lib.hid fun m => hr.below (drewN_below _ m)
  have hr2' : Hid (∀ m, ReadSs (w.drewN m) a2 L) := Lib.hid fun m => hr2.below (drewN_below _ m)
  have hl0 : (L.length : Int) ≤ 100000 := by omega
  clear hr hr2
  go_enter Try.func12, Try.ntmps12
  go_wp2_with fail
  go_loopg [5] L.length (fun g v5 wr => ∃ i m : Nat, v5 = .int .i64 i ∧ i + g = L.length ∧ wr = w.drewN m)
  case atStart => exact ⟨0, 0, rfl, by omega, rfl⟩
  case round =>
    obtain ⟨i, m, rfl, hi, rfl⟩ := hrel
    have i0 : (0 : Int) ≤ i := by omega
    by_cases hlt : i < L.length
    · have i1 : (i : Int) < L.length := by omega
      obtain ⟨x, hx⟩ : ∃ x, L[i]? = some x := ⟨_, List.getElem?_eq_getElem hlt⟩
      obtain ⟨b1, o1, rfl, x0, x1, x2, x3, x4, x5, x6, x7, x8, x9, x10, x11, x12⟩ := hr'.out m i x hx
      obtain ⟨b2, o2, rfl, y0, y1, y2, y3, y4, y5, y6, y7, y8, y9, y10, y11, y12⟩ := hr2'.out m i x hx
      clear hx hr' hr2'
      generalize hV : w.drewN m = V at *
      replace hV := Lib.hid hV
      go_wp2_with fail
      go_quiet (fail)
      go_wp2_with fail
      go_roundg (L.length - (i + 1))
      case measure => omega
      case rel => exact ⟨i + 1, _, by go_num, by omega, by rw [← hV.out]; exact drew_drew17 _ _ _⟩
    · clear hr' hr2'
      go_wp2_with fail
      go_ret
      exact ⟨rfl, m, rfl⟩
end
end Go.Proofs.Ytdkchcbmhmlhnaa
