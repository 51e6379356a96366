/- What is known of slips by hand. -/
import Derived.Test.YtdkchcbmhmlhnaaSpJ
namespace Go.Proofs.Ytdkchcbmhmlhnaa
open Go.RowKit
set_option linter.unusedVariables false
set_option linter.unusedSectionVars false
set_option linter.unusedSimpArgs false
set_option maxRecDepth 100000

/-- A slip of a tag, a queue, a consumer. -/
abbrev lO (t q : Int) (c : List UInt8) : Slp := ⟨t, q, c, 0, 0, 0, [], [], 0, 0, 0, false, 0⟩
abbrev lOV (t q : Int) (c : List UInt8) : Value := .agg #[.int .i64 t, .int .i64 q, tx c, .int .i64 0, .int .i64 0, .int .i64 0, tx [], tx [], .int .i64 0, .int .i64 0, .int .i64 0, .bool false, .int .i64 0]
section
variable {B : Nat} {w0 w w' : World} {sb k : Nat} {M N L : List Slp} {F S X Y : List (Nat × Obj)} {t q : Int} {c : List UInt8} {x y : Slp} {ok : Bool}
theorem SlipsIs.reads {a : Option Addr} {c : Nat} (h : SlipsIs B w0 w sb M F) (hs : SlsIs (.slice a L.length c) L S) (hp : F.Perm (X ++ S)) : ReadSs w a L := by
  obtain ⟨Z, z1, -⟩ := h.beside
  refine hs.read (X := Z ++ X) (z1.perm ?_)
  rw [List.append_assoc]
  exact hp.append_left Z
theorem add_lo (hok : addOkS M (lO t q c) = ok) (hN : addS M (lO t q c) = N) (hc : c.length ≤ 140737488351232) (h : SlipsIs B w0 w sb M F) : Calls Try.prog 8 #[gptr sb, lOV t q c] w fun e w' => e = .returned (.bool ok) ∧ SlipsIs B w0 w' sb N F := by
  subst hok hN
  exact sl_add (x := lO t q c) h ⟨hc, by simp, by simp⟩
theorem take_lo {t q : Int} {c : List UInt8} (hx : lO t q c ∈ M) (hN : dropS M t = N) (h : SlipsIs B w0 w sb M F) : Calls Try.prog 10 #[gptr sb, .int .i64 t] w fun e w' => e = .returned (.tuple #[lOV t q c, .bool true]) ∧ SlipsIs B w0 w' sb N F := by
  subst hN
  exact sl_take_yes (x := lO t q c) h hx
abbrev c99 : List UInt8 := [99]
abbrev k1 : Slp := lO 1 0 [99]
abbrev k2 : Slp := lO 2 0 [99]
abbrev k4 : Slp := lO 4 0 []

set_option maxHeartbeats 4000000 in
theorem known17_true (w : World) : Calls Try.prog 6 #[] w fun e w' => e = .returned (.bool true) ∧ Below w.heap.size w w' := by
  have c0 := Lib.hid (sl_new (St.start w))
  go_enter Try.func6, Try.ntmps6
  go_wp2_with fail
  refine c0.out.mono ?_
  rintro r w1 ⟨rfl, h1⟩
  generalize hsb : w.heap.size = sb at *
  have c1 := Lib.hid (add_lo (t := 1) (q := 0) (c := [99]) (ok := true) (N := [k1]) rfl rfl (by simp) h1)
  clear c0 h1
  go_wp2_with fail
  refine c1.out.mono ?_
  rintro r w2 ⟨rfl, h2⟩
  have c2 := Lib.hid (add_lo (t := 4) (q := 0) (c := []) (ok := true) (N := [k1, k4]) rfl rfl (by simp) h2)
  clear c1 h2
  go_wp2_with fail
  refine c2.out.mono ?_
  rintro r w3 ⟨rfl, h3⟩
  have c3 := Lib.hid (add_lo (t := 4) (q := 0) (c := []) (ok := false) (N := [k1, k4]) rfl rfl (by simp) h3)
  clear c2 h3
  go_wp2_with fail
  refine c3.out.mono ?_
  rintro r w4 ⟨rfl, h4⟩
  have c4 := Lib.hid (add_lo (t := 2) (q := 0) (c := [99]) (ok := true) (N := [k1, k2, k4]) rfl rfl (by simp) h4)
  clear c3 h4
  go_wp2_with fail
  refine c4.out.mono ?_
  rintro r w5 ⟨rfl, h5⟩
  have c5 := Lib.hid (sl_of h5 [99])
  rw [show ofS [k1, k2, k4] [99] = 2 from rfl] at c5
  clear c4
  simp only [Int.cast_ofNat_Int] at c5
  go_wp2_with fail
  refine c5.out.mono ?_
  rintro r w6 ⟨rfl, rfl⟩
  have c6 := Lib.hid (sl_upto h5 2 (m := 2) rfl (W := [k1, k2]) (N := [k4]) rfl rfl)
  clear c5 h5
  go_wp2_with fail
  refine c6.out.mono ?_
  rintro r w7 ⟨a7, n7, S7, rfl, hs7, h7⟩
  have c7 := Lib.hid (take_lo (t := 4) (q := 0) (c := []) (N := []) (by simp) rfl h7)
  clear c6 h7
  simp only [List.length_cons, List.length_nil, Nat.zero_add, Nat.reduceAdd, Int.cast_ofNat_Int] at hs7 ⊢
  go_wp2_with fail
  refine c7.out.mono ?_
  rintro r w8 ⟨rfl, h8⟩
  have h9 := h8.alloc (slO k4)
  have c8 := Lib.hid (sl_take_no h9 (t := 4) (by simp [tagsL]))
  clear c7 h8 h9
  go_wp2_with fail
  refine c8.out.mono ?_
  rintro r w9 ⟨rfl, h10⟩
  have h11 := h10.alloc (slO z0L)
  have rd := h11.reads (X := (w9.heap.size, slO z0L) :: (w8.heap.size, slO k4) :: []) (L := [k1, k2]) hs7 (by
    classical
    exact List.perm_iff_count.2 fun a => by simp only [List.count_append, List.count_cons, List.count_nil]; omega)
  obtain ⟨b7, o7, rfl, d7, -⟩ := rd 1 k2 rfl
  have x0 : (w9.alloc (slO z0L)).cell? ⟨w8.heap.size, 0, none⟩ = some (.int .i64 4) := (h11.slip (b := w8.heap.size) (x := k4) (by simp)).1.1
  have d7' : (w9.alloc (slO z0L)).cell? ⟨b7, o7 + 13, none⟩ = some (.int .i64 2) := by simpa using d7
  have c9 := Lib.hid (sl_len h11)
  have c10 := Lib.hid (sl_has h11 4)
  rw [show hasS [] 4 = false from rfl] at c10
  clear c8 h10 rd d7 h11 hs7
  simp only [List.length_nil, Int.cast_ofNat_Int] at c9
  go_wp2_with fail
  refine c9.out.mono ?_
  rintro r w10 ⟨rfl, rfl⟩
  clear c9 x0 d7'
  go_wp2_with fail
  refine c10.out.mono ?_
  rintro r w11 ⟨rfl, h12⟩
  have c11 := Lib.hid (sl_all h12)
  clear c10 h12
  go_wp2_with fail
  refine c11.out.mono ?_
  rintro r w12 ⟨a12, n12, S12, rfl, hs12, h13⟩
  have c12 := Lib.hid (add_lo (t := 0) (q := 0) (c := []) (ok := false) (N := []) rfl rfl (by simp) h13)
  clear c11 h13 hs12
  simp only [List.length_nil]
  go_wp2_with fail
  refine c12.out.mono ?_
  rintro r w13 ⟨rfl, h14⟩
  have fin : Hid (Below w.heap.size w w13) := Lib.hid (by rw [hsb]; exact h14.below)
  clear c12 h14
  go_wp2_with fail
  go_ret
  exact ⟨rfl, fin.out⟩
end
end Go.Proofs.Ytdkchcbmhmlhnaa
