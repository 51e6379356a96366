/- OctetsTell. -/
import Derived.Test.YtecifdbakkpcaaaOcE
namespace Go.Proofs.Ytecifdbakkpcaaa
open Go.RowKit
set_option linter.unusedVariables false

theorem takeL_any (l : List UInt8) (k : Int) : ∃ m r en, takeL l k = (m, r, en) := ⟨_, _, _, rfl⟩
theorem takeTextL_any (l : List UInt8) (k : Int) : ∃ t r en, takeTextL l k = (t, r, en) := ⟨_, _, _, rfl⟩

set_option maxHeartbeats 4000000 in
theorem tell_walk (n k : Int) (s t : List UInt8) (most : Int) (hs : s.length ≤ maxLen) (ht : t.length ≤ maxLen) (w : World) :
    Calls Try.prog 3 #[.int .i64 n, .int .i64 k, tx s, tx t, .int .i64 most] w fun e w' => e = .returned (.bool true) ∧ Below w.heap.size w w' := by
  have c1 := Lib.hid known6_true
  by_cases hsl : 600 < s.length
  · have hsl' : (600 : Int) < s.length := by omega
    go_enter Try.func3, Try.ntmps3
    go_wp2_with fail
    refine (c1.out _).mono ?_
    rintro e w1 ⟨rfl, h1⟩
    replace h1 := Lib.hid h1
    go_wp2_with fail
    go_ret
    exact ⟨rfl, h1.out⟩
  by_cases htl : 600 < t.length
  · have hsl' : ¬ (600 : Int) < s.length := by omega
    have htl' : (600 : Int) < t.length := by omega
    go_enter Try.func3, Try.ntmps3
    go_wp2_with fail
    refine (c1.out _).mono ?_
    rintro e w1 ⟨rfl, h1⟩
    replace h1 := Lib.hid h1
    go_wp2_with fail
    go_ret
    exact ⟨rfl, h1.out⟩
  have hsl' : ¬ (600 : Int) < s.length := by omega
  have htl' : ¬ (600 : Int) < t.length := by omega
  obtain ⟨m, r, en, hx⟩ := takeL_any t k
  obtain ⟨p, q, en2, hy⟩ := takeTextL_any t most
  have c2 := Lib.hid (take_b hx ht)
  have c3 := Lib.hid (rtake_b hx ht)
  have c4 := Lib.hid (taketext_to hy (by omega))
  have c5 := Lib.hid (rtaketext_b hy (by omega))
  have c7 := Lib.hid (num_any n k)
  have c8 := Lib.hid (rnum_any n k)
  have hz : ∃ T en3, textL s = (T, en3) ∧ (s.length ≤ 255 ∧ en3 = 0 ∨ 255 < s.length ∧ en3 = 15) := by
    unfold textL
    by_cases h : 255 < s.length
    · rw [if_pos h]
      exact ⟨_, _, rfl, .inr ⟨h, rfl⟩⟩
    · rw [if_neg h]
      exact ⟨_, _, rfl, .inl ⟨by omega, rfl⟩⟩
  obtain ⟨T, en3, hz, hor⟩ := hz
  have c6 := Lib.hid (text_to hz (by omega))
  have c9 := Lib.hid (rtext_to hz (by omega))
  generalize low (heldN k) n = L at *
  clear hx hy hz
  go_enter Try.func3, Try.ntmps3
  go_wp2_with fail
  refine (c1.out _).mono ?_
  rintro e w1 ⟨rfl, h1⟩
  replace h1 := Lib.hid h1
  go_wp2_with fail
  refine (c2.out _).mono ?_
  rintro e w2 ⟨rfl, h2⟩
  replace h2 := Lib.hid h2
  go_wp2_with fail
  refine (c3.out _).mono ?_
  rintro e w3 ⟨rfl, h3⟩
  replace h3 := Lib.hid h3
  go_wp2_with fail
  refine (c4.out _).mono ?_
  rintro e w4 ⟨rfl, h4⟩
  replace h4 := Lib.hid h4
  go_wp2_with fail
  refine (c5.out _).mono ?_
  rintro e w5 ⟨rfl, h5⟩
  replace h5 := Lib.hid h5
  go_wp2_with fail
  refine (c6.out _).mono ?_
  rintro e w6 ⟨rfl, h6⟩
  replace h6 := Lib.hid h6
  go_wp2_with fail
  refine (c7.out _).mono ?_
  rintro e w7 ⟨rfl, h7⟩
  replace h7 := Lib.hid h7
  go_wp2_with fail
  refine (c8.out _).mono ?_
  rintro e w8 ⟨rfl, h8⟩
  replace h8 := Lib.hid h8
  rcases hor with ⟨h, rfl⟩ | ⟨h, rfl⟩
  · have h' : (s.length : Int) ≤ 255 := by omega
    go_wp2_with fail
    refine (c9.out _).mono ?_
    rintro e w9 ⟨rfl, h9⟩
    replace h9 := Lib.hid h9
    go_wp2_with fail
    go_ret
    exact ⟨rfl, bel (bel (bel (bel (bel (bel (bel (bel h1.out h2.out) h3.out) h4.out) h5.out) h6.out) h7.out) h8.out) h9.out⟩
  · have h' : ¬ (s.length : Int) ≤ 255 := by omega
    go_wp2_with fail
    refine (c9.out _).mono ?_
    rintro e w9 ⟨rfl, h9⟩
    replace h9 := Lib.hid h9
    go_wp2_with fail
    go_ret
    exact ⟨ret_bool (by simp; omega), bel (bel (bel (bel (bel (bel (bel (bel h1.out h2.out) h3.out) h4.out) h5.out) h6.out) h7.out) h8.out) h9.out⟩

theorem tell_row {n k most : Int} {s t : ByteArray} {w : World} (rs : Read Try.prog w 9 [.string s]) (rt : Read Try.prog w 9 [.string t]) :
    Calls Try.prog 3 #[.int .i64 n, .int .i64 k, .string s, .string t, .int .i64 most] w fun e w' => e = .returned (.bool true) ∧ Below w.heap.size w w' := by
  obtain ⟨s', h1, hs⟩ := rs.string uStr6
  obtain ⟨t', h2, ht⟩ := rt.string uStr6
  simp only [List.cons.injEq, and_true, Value.string.injEq] at h1 h2
  subst h1 h2
  exact tell_walk n k s.data.toList t.data.toList most hs ht w
end Go.Proofs.Ytecifdbakkpcaaa
