/- The document's own sets in memory: what only reads them. -/
import Derived.Test.YtkahncfhphdkfaaRgsH
import Derived.Test.YtkahncfhphdkfaaRgsQ
import Derived.Test.YtkahncfhphdkfaaSame
namespace Go.Proofs.Ytkahncfhphdkfaa
open Go.RowKit
set_option linter.unusedVariables false

section
variable {B : Nat} {w0 w : World} {F S X : List (Nat × Obj)} {fb : Nat} {v : Value} {l : List Row}

/-- In w there lies at block fb the document's set with the rows l, its slice v in S. -/
structure RefAt (B : Nat) (w0 w : World) (fb : Nat) (v : Value) (l : List Row) (F S : List (Nat × Obj)) : Prop where
  sl : SlIs 40 2 v l.length (rowsV l) S
  st : St B w0 w (((fb, .cells #[v] 29) :: F) ++ S)

theorem RefAt.c0 (h : RefAt B w0 w fb v l F S) : w.cell? ⟨fb, 0, none⟩ = some v := h.st.cell List.mem_cons_self rfl
theorem RefAt.soft (h : RefAt B w0 w fb v l F S) (i : Nat) : w.frozen? ⟨fb, i, none⟩ = false := St.soft h.st List.mem_cons_self i
theorem RefAt.read (h : RefAt B w0 w fb v l F S) : ReadRows w v l := h.sl.readRows h.st
theorem RefAt.drewN (h : RefAt B w0 w fb v l F S) (n : Nat) : RefAt B w0 (w.drewN n) fb v l F S := ⟨h.sl, h.st.drewN n⟩

set_option maxHeartbeats 1000000 in
theorem refCount_any (h0 : w.cell? ⟨fb, 0, none⟩ = some v) (h : ReadRows w v l) (hf : Fit l) (hl : l.length ≤ 2000000) : Calls Try.prog 16 #[gptr fb] w fun e w' => e = .returned (.int .i64 (cnt l)) ∧ ∃ q, w' = w.drewN q := by
  obtain ⟨a, cap, rfl, hc⟩ := h
  replace hc := Lib.hid hc
  replace hf := Lib.hid hf
  go_enter Try.func16, Try.ntmps16
  go_wp2_with fail
  go_loopg [3, 4] l.length (fun g v3 v4 wr => ∃ k q : Nat, v4 = .int .i64 k ∧ v3 = .int .i64 (cnt (l.take k)) ∧ k + g = l.length ∧ wr = w.drewN q)
  case atStart => exact ⟨0, 0, rfl, by simp [cnt], by omega, rfl⟩
  case round =>
    obtain ⟨k, q, rfl, rfl, hk, rfl⟩ := hrel
    by_cases hlt : k < l.length
    · have hr : l[k]? = some l[k] := List.getElem?_eq_getElem hlt
      have hs := cnt_take_succ hr
      have hb := hf.out l[k] (List.getElem_mem _)
      have hb2 := (hf.out.take k).cnt
      have hb3 : (l.take k).length ≤ 2000000 := by rw [List.length_take]; omega
      generalize l[k] = r at hr hs hb
      obtain ⟨r1, r2⟩ := r
      simp only at hs hb
      obtain ⟨b, off, rfl, k1, k2⟩ := hc.out k _ hr
      simp only at k1 k2
      obtain ⟨hb0, hb1⟩ := hb2
      have hb4 : cnt (l.take k) ≤ 2000000000000 := by omega
      have hi0 : (0 : Int) ≤ k := by omega
      have hi1 : (k : Int) < l.length := by omega
      obtain ⟨hr0, hr1, hr2⟩ := hb
      replace hs := Lib.hid hs
      generalize cnt (l.take k) = cn at *
      clear hr hb1 hb3
      go_wp2_with fail
      go_quiet (fail)
      go_wp2_with fail
      go_roundg (l.length - (k + 1))
      case measure => omega
      case rel => exact ⟨k + 1, _, by go_num, congrArg (Value.int .i64) (by have := hs.out; omega), by omega, rfl⟩
    · obtain rfl : k = l.length := by omega
      rw [List.take_length]
      go_wp2_with fail
      go_ret
      exact ⟨rfl, _, rfl⟩

set_option maxHeartbeats 1000000 in
theorem refHas_any (h0 : w.cell? ⟨fb, 0, none⟩ = some v) (h : ReadRows w v l) (hl : l.length ≤ 2000000) (n : Int) : Calls Try.prog 18 #[gptr fb, .int .i64 n] w fun e w' => e = .returned (.bool (innB l n)) ∧ w = w' := by
  obtain ⟨a, cap, rfl, hc⟩ := h
  replace hc := Lib.hid hc
  go_enter Try.func18, Try.ntmps18
  go_wp2_with fail
  go_loopg [5] l.length (fun g v5 wr => ∃ k : Nat, v5 = .int .i64 k ∧ k + g = l.length ∧ Hid (∀ r ∈ l.take k, ¬ (r.1 ≤ n ∧ n ≤ r.2)) ∧ w = wr)
  case atStart => exact ⟨0, rfl, by omega, Lib.hid (by simp), rfl⟩
  case round =>
    obtain ⟨k, rfl, hk, hno, rfl⟩ := hrel
    by_cases hlt : k < l.length
    · have hr : l[k]? = some l[k] := List.getElem?_eq_getElem hlt
      have hm : l[k] ∈ l := List.getElem_mem _
      have hnext : ¬ (l[k].1 ≤ n ∧ n ≤ l[k].2) → ∀ r ∈ l.take (k + 1), ¬ (r.1 ≤ n ∧ n ≤ r.2) := fun h r hr' => by
        rw [List.take_add_one, hr] at hr'
        rcases List.mem_append.1 hr' with hr' | hr'
        · exact hno.out r hr'
        · obtain rfl := List.mem_singleton.1 hr'
          exact h
      have hyes : l[k].1 ≤ n ∧ n ≤ l[k].2 → innB l n = true := fun h => innB_true ⟨_, hm, h.1, h.2⟩
      generalize l[k] = r at *
      obtain ⟨r1, r2⟩ := r
      obtain ⟨b, off, rfl, k1, k2⟩ := hc.out k _ hr
      simp only at k1 k2 hnext hyes
      have hi0 : (0 : Int) ≤ k := by omega
      have hi1 : (k : Int) < l.length := by omega
      replace hnext := Lib.hid hnext
      replace hyes := Lib.hid hyes
      clear hr hm
      by_cases h1 : r1 ≤ n
      · by_cases h2 : n ≤ r2
        · have e := Lib.hid (hyes.out ⟨h1, h2⟩)
          clear hyes hnext
          go_wp2_with fail
          go_ret
          exact ⟨ret_bool e.out.symm, rfl⟩
        · have h2' : decide (n ≤ r2) = false := by simpa using h2
          have e := Lib.hid (hnext.out (by omega))
          clear hyes hnext h2
          go_wp2_with fail
          go_roundg (l.length - (k + 1))
          case measure => omega
          case rel => exact ⟨k + 1, by go_num, by omega, e, rfl⟩
      · have h1' : decide (r1 ≤ n) = false := by simpa using h1
        have e := Lib.hid (hnext.out (by omega))
        clear hyes hnext h1
        go_wp2_with fail
        go_roundg (l.length - (k + 1))
        case measure => omega
        case rel => exact ⟨k + 1, by go_num, by omega, e, rfl⟩
    · obtain rfl : k = l.length := by omega
      have e : innB l n = false := innB_false fun ⟨r, hr, h1, h2⟩ => hno.out r (by rw [List.take_length]; exact hr) ⟨h1, h2⟩
      replace e := Lib.hid e
      go_wp2_with fail
      go_ret
      exact ⟨ret_bool e.out.symm, rfl⟩

set_option maxHeartbeats 1000000 in
theorem sameRows_true {v1 v2 : Value} (h1 : ReadRows w v1 l) (h2 : ReadRows w v2 l) (hl : l.length ≤ 1073741824) : Calls Try.prog 13 #[v1, v2] w fun e w' => e = .returned (.bool true) ∧ ∃ n, w' = w.drewN n := by
  obtain ⟨a1, c1, rfl, h1⟩ := h1
  obtain ⟨a2, c2, rfl, h2⟩ := h2
  replace h1 := Lib.hid h1
  replace h2 := Lib.hid h2
  have peq := pair_equal
  go_enter Try.func13, Try.ntmps13
  go_wp2_with fail
  go_loopg [5] l.length (fun g i wt => ∃ p : Nat, i = .int .i64 p ∧ p + g = l.length ∧ ∃ m, wt = w.drewN m)
  case atStart => exact ⟨0, rfl, by omega, 0, rfl⟩
  case round =>
    obtain ⟨p, rfl, hp, m, rfl⟩ := hrel
    by_cases hlt : p < l.length
    · have hx : l[p]? = some l[p] := List.getElem?_eq_getElem hlt
      generalize l[p] = x at hx
      obtain ⟨b1, o1, rfl, k1, k2⟩ := h1.out p x hx
      obtain ⟨b2, o2, rfl, k3, k4⟩ := h2.out p x hx
      obtain ⟨x1, x2⟩ := x
      simp only at k1 k2 k3 k4
      have hp1 : (p : Int) < l.length := by omega
      clear hx
      go_wp2_with fail
      go_quiet (fail)
      go_wp2_with fail
      go_roundg (l.length - (p + 1))
      case measure => omega
      case rel => exact ⟨p + 1, by go_num, by omega, _, rfl⟩
    · go_wp2_with fail
      go_ret
      exact ⟨rfl, _, rfl⟩
end
end Go.Proofs.Ytkahncfhphdkfaa
