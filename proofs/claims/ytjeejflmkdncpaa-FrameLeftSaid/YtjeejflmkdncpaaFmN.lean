/- FrameLeft. -/
import Derived.Test.YtjeejflmkdncpaaFmK
namespace Go.Proofs.Ytjeejflmkdncpaa
open Go.RowKit
set_option linter.unusedVariables false

set_option maxHeartbeats 8000000 in
set_option maxRecDepth 100000 in
theorem left_nat (d : List UInt8) (c : Nat) (hc : c ≤ 65535) (w : World) : Calls Try.prog 8 #[tx d, .int .u16 c] w fun e w' => e = .returned (.bool true) ∧ Below w.heap.size w w' := by
  have c1 := Lib.hid known7_true
  by_cases h1 : 500 < d.length
  · have h1' : (500 : Int) < d.length := by omega
    go_enter Try.func8, Try.ntmps8
    go_wp2_with fail
    refine (c1.out _).mono ?_
    rintro e w1 ⟨rfl, hb⟩
    replace hb := Lib.hid hb
    go_wp2_with fail
    go_ret
    exact ⟨rfl, hb.out⟩
  have h1' : ¬ (500 : Int) < d.length := by omega
  have hfr : frBytes 2 7 d = frRaw 2 7 d := if_pos (by decide)
  have c2 := Lib.hid (fun w => bytes_to (k := 2) (c := 7) (d := d) hfr (by omega) w)
  have c3 := Lib.hid (fun w => rbytes_to (k := 2) (c := 7) (d := d) hfr (by omega) w)
  have hRl := frRaw_length 2 7 d
  obtain ⟨q, hq⟩ : ∃ q, q = c % (frRaw 2 7 d).length := ⟨_, rfl⟩
  have hql : q < (frRaw 2 7 d).length := by rw [hq]; exact Nat.mod_lt _ (by omega)
  have hn1 : nextL 4096 false (frRaw 2 7 d ++ (frRaw 2 7 d).take q) = ((2, 7, d), true, 0, false, (frRaw 2 7 d).take q) := nextL_raw (M := 4096) (k := 2) (c := 7) (by decide) (by decide) (by decide) (by omega) (by decide)
  have hn2 : nextL 4096 false ((frRaw 2 7 d).take q) = ((0, 0, []), false, 0, false, (frRaw 2 7 d).take q) := nextL_cut (M := 4096) (k := 2) (c := 7) (by decide) (by decide) (by omega) (by decide) (by omega)
  have htl : ((frRaw 2 7 d).take q).length = q := by rw [List.length_take]; omega
  have ex : (⟨(frRaw 2 7 d).toArray⟩ : ByteArray).extract 0 q = ⟨((frRaw 2 7 d).take q).toArray⟩ := by rw [ByteArray.extract_mk]; simp
  have ad : ∀ W : World, (Op.stringOp .add ⟨(frRaw 2 7 d).toArray⟩ ⟨((frRaw 2 7 d).take q).toArray⟩).run Try.prog W = .ok (tx (frRaw 2 7 d ++ (frRaw 2 7 d).take q)) W := fun W => run_string_add_lists W _ _ (by omega) (by omega)
  have hQl : ((frRaw 2 7 d).take q).length ≤ 4000000 := by omega
  have hal : (frRaw 2 7 d ++ (frRaw 2 7 d).take q).length ≤ 2000 := by rw [List.length_append]; omega
  generalize frRaw 2 7 d ++ (frRaw 2 7 d).take q = RR at *
  generalize (frRaw 2 7 d).take q = Q at *
  generalize frRaw 2 7 d = R at *
  have hRi : (R.length : Int) = (d.length : Int) + 8 := by omega
  have hRp : (0 : Int) < R.length := by omega
  have hRe : ((R.length : Int) == (d.length : Int) + 8) = true := by rw [hRi]; simp
  have hqi : (c : Int) % (R.length : Int) = q := by rw [hq]; simp
  have hq0 : (0 : Int) ≤ q := by omega
  have hq1 : (q : Int) ≤ R.length := by omega
  have hc0 : (0 : Int) ≤ c := by omega
  have hc1 : (c : Int) ≤ 65535 := by omega
  replace hRi := Lib.hid hRi
  replace hq := Lib.hid hq
  replace hn1 := Lib.hid hn1
  replace hn2 := Lib.hid hn2
  clear hfr hRl
  go_enter Try.func8, Try.ntmps8
  go_wp2_with fail
  refine (c1.out _).mono ?_
  rintro e w1 ⟨rfl, hb1⟩
  replace hb1 := Lib.hid hb1
  clear c1
  go_wp2_with fail
  refine (c2.out _).mono ?_
  rintro e w2 ⟨rfl, hb2⟩
  have c4 := Lib.hid (fr_new ((St.start w).grow (bel hb1.out hb2)) 4096)
  clear hb1 hb2 c2
  go_wp2_with fail
  refine c4.out.mono ?_
  rintro e w3 ⟨rfl, hp⟩
  rw [show heldM 4096 = 4096 by decide] at hp
  generalize w2.heap.size = pb at *
  have c5 := Lib.hid (fr_feed hp RR (by simp; omega))
  clear hp c4
  go_wp2_with fail
  refine c5.out.mono ?_
  rintro e w4 ⟨rfl, hp⟩
  have c6 := Lib.hid (next_to hp (by simp [fedL]; omega) hn1.out)
  clear hp c5
  go_wp2_with fail
  refine c6.out.mono ?_
  rintro e w5 ⟨rfl, hp⟩
  have c7 := left_to (hp.alloc (frO 2 7 d)) hQl
  rw [htl] at c7
  replace c7 := Lib.hid c7
  clear hp c6
  go_wp2_with fail
  refine c7.out.mono ?_
  rintro e w6 ⟨rfl, hp⟩
  have c8 := Lib.hid (next_to hp hQl hn2.out)
  clear hp c7
  go_wp2_with fail
  refine c8.out.mono ?_
  rintro e w7 ⟨rfl, hp⟩
  have hp2 := hp.alloc (frO 0 0 [])
  have c9 := left_to hp2 hQl
  rw [htl] at c9
  replace c9 := Lib.hid c9
  have q0 := hp2.cell (b := w5.heap.size) (c := #[.int .i64 2, .int .i64 7, tx d]) (T := 23) (i := 0) (v := .int .i64 2) (by simp) rfl
  have q1 := hp2.cell (b := w5.heap.size) (c := #[.int .i64 2, .int .i64 7, tx d]) (T := 23) (i := 1) (v := .int .i64 7) (by simp) rfl
  have q2 := hp2.cell (b := w5.heap.size) (c := #[.int .i64 2, .int .i64 7, tx d]) (T := 23) (i := 2) (v := tx d) (by simp) rfl
  clear hp hp2 c8
  go_wp2_with fail
  refine c9.out.mono ?_
  rintro e w8 ⟨rfl, hp⟩
  have r0 := hp.cell (b := w5.heap.size) (c := #[.int .i64 2, .int .i64 7, tx d]) (T := 23) (i := 0) (v := .int .i64 2) (by simp) rfl
  have r1 := hp.cell (b := w5.heap.size) (c := #[.int .i64 2, .int .i64 7, tx d]) (T := 23) (i := 1) (v := .int .i64 7) (by simp) rfl
  have r2 := hp.cell (b := w5.heap.size) (c := #[.int .i64 2, .int .i64 7, tx d]) (T := 23) (i := 2) (v := tx d) (by simp) rfl
  have hb := Lib.hid hp.below
  clear hp c9
  go_wp2_with fail
  refine (c3.out _).mono ?_
  rintro e w9 ⟨rfl, hb9⟩
  replace hb9 := Lib.hid (bel hb.out hb9)
  go_wp2_with fail
  go_ret
  exact ⟨rfl, hb9.out⟩

theorem left_row {n : Int} {s : ByteArray} {w : World} (rn : Read Try.prog w 50 [.int .u16 n]) :
    Calls Try.prog 8 #[.string s, .int .u16 n] w fun e w' => e = .returned (.bool true) ∧ Below w.heap.size w w' := by
  have uU16 : Try.prog.underlying 50 = some (.int .u16) := by kernel_rfl
  obtain ⟨n', h1, wn⟩ := rn.int uU16
  simp only [List.cons.injEq, and_true, Value.int.injEq, true_and] at h1
  subst h1
  obtain ⟨n0, n1⟩ := bounds_u16 wn
  obtain ⟨m, rfl⟩ := Int.eq_ofNat_of_zero_le n0
  exact left_nat s.data.toList m (by omega) w
end Go.Proofs.Ytjeejflmkdncpaa
