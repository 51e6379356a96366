/- Octets: Text, TakeText. -/
import Derived.Test.YtipinglchpmgaaaDoorStrC
namespace Go.Proofs.YtipinglchpmgaaaDoor
open Go.RowKit
set_option linter.unusedVariables false

theorem text_to {l r : List UInt8} {en : Int} (hx : textL l = (r, en)) (hl : l.length ≤ 16777216) (w : World) :
    Calls Tryd.prog 31 #[tx l] w fun e w' => e = .returned (.tuple #[tx r, .int .i64 en]) ∧ Below w.heap.size w w' := by
  unfold textL at hx
  have c1 := num_any (l.length : Int) 1
  rw [show heldN 1 = 1 from rfl, low_one] at c1
  generalize oct (l.length : Int) = o at *
  replace c1 := Lib.hid c1
  go_enter Tryd.func31, Tryd.ntmps31
  by_cases hs : 255 < l.length
  · rw [if_pos hs] at hx
    simp only [Prod.mk.injEq] at hx
    obtain ⟨rfl, rfl⟩ := hx
    have hs' : (255 : Int) < l.length := by omega
    go_wp2_with fail
    go_ret2
    exact ⟨rfl, Below.refl _ _⟩
  · rw [if_neg hs] at hx
    simp only [Prod.mk.injEq] at hx
    obtain ⟨rfl, rfl⟩ := hx
    have hs' : ¬ (255 : Int) < l.length := by omega
    go_wp2_with fail
    refine (c1.out _).mono ?_
    rintro e w1 ⟨rfl, hb⟩
    replace hb := Lib.hid hb
    have ha : (Op.stringOp .add ⟨[o].toArray⟩ ⟨l.toArray⟩).run Tryd.prog w1 = .ok (tx (o :: l)) w1 := by
      rw [run_string_add_lists w1 [o] l (by simp) (by omega)]
      rfl
    go_wp2_with fail
    go_ret2
    exact ⟨rfl, hb.out⟩

/-! ### TakeText -/
set_option maxHeartbeats 1000000 in
theorem taketext_to {l t r : List UInt8} {most en : Int} (hx : takeTextL l most = (t, r, en)) (hl : l.length ≤ 16777216) (w : World) :
    Calls Tryd.prog 24 #[tx l, .int .i64 most] w fun e w' => e = .returned (.tuple #[tx t, tx r, .int .i64 en]) ∧ Below w.heap.size w w' := by
  have hm : l.length ≤ maxLen := by unfold maxLen; omega
  cases l with
  | nil =>
    simp only [takeTextL, Prod.mk.injEq] at hx
    obtain ⟨rfl, rfl, rfl⟩ := hx
    have c1 := Lib.hid (take_to takeL_nil1 hm)
    go_enter Tryd.func24, Tryd.ntmps24
    go_wp2_with fail
    refine (c1.out _).mono ?_
    rintro e w1 ⟨rfl, n, rfl⟩
    go_wp2_with fail
    go_ret3
    exact ⟨rfl, drewN_below w _⟩
  | cons b q =>
    have c1 := Lib.hid (take_to (takeL_cons1 b q) hm)
    simp only [takeTextL] at hx
    have hb := u8_lt b
    by_cases h1 : most < b.toNat
    · rw [if_pos h1] at hx
      simp only [Prod.mk.injEq] at hx
      obtain ⟨rfl, rfl, rfl⟩ := hx
      go_enter Tryd.func24, Tryd.ntmps24
      go_wp2_with fail
      refine (c1.out _).mono ?_
      rintro e w1 ⟨rfl, n, rfl⟩
      go_wp2_with fail
      go_ret3
      exact ⟨rfl, drewN_below w _⟩
    · rw [if_neg h1] at hx
      by_cases h2 : q.length < b.toNat
      · rw [if_pos h2] at hx
        simp only [Prod.mk.injEq] at hx
        obtain ⟨rfl, rfl, rfl⟩ := hx
        have h2' : (q.length : Int) < b.toNat := by omega
        go_enter Tryd.func24, Tryd.ntmps24
        go_wp2_with fail
        refine (c1.out _).mono ?_
        rintro e w1 ⟨rfl, n, rfl⟩
        go_wp2_with fail
        go_ret3
        exact ⟨rfl, drewN_below w _⟩
      · rw [if_neg h2] at hx
        simp only [Prod.mk.injEq] at hx
        obtain ⟨rfl, rfl, rfl⟩ := hx
        have h2' : ¬ (q.length : Int) < b.toNat := by omega
        have h3 : (b.toNat : Int) ≤ q.length := by omega
        have h4 : (0 : Int) ≤ b.toNat := by omega
        have c2 := Lib.hid (fun w => clone_any (q.take b.toNat) w (by simp at hl ⊢; omega))
        generalize b.toNat = k at *
        go_enter Tryd.func24, Tryd.ntmps24
        go_wp2_with fail
        refine (c1.out _).mono ?_
        rintro e w1 ⟨rfl, n, rfl⟩
        go_wp2_with fail
        have ex : (⟨q.toArray⟩ : ByteArray).extract 0 k = ⟨(q.take k).toArray⟩ := by
          rw [ByteArray.extract_mk]
          simp
        have ey : (⟨q.toArray⟩ : ByteArray).extract k q.length = ⟨(q.drop k).toArray⟩ := by
          rw [ByteArray.extract_mk, List.take_of_length_le (by rw [List.length_drop]; omega)]
        go_region_held3 (fun _ => True) (trivial) ((go_at_call 35; refine (c2.out _).mono ?_; rintro e w2 ⟨rfl, hb2⟩))
        replace hb2 := Lib.hid hb2
        go_wp2_with fail
        go_ret3
        exact ⟨rfl, (drewN_below w _).trans hb2.out⟩
end Go.Proofs.YtipinglchpmgaaaDoor
