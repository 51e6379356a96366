/- What is known of guests by hand. -/
import Derived.Test.YtpnkaamijjeckaaDoorGsK
namespace Go.Proofs.YtpnkaamijjeckaaDoor
open Go.RowKit
set_option linter.unusedVariables false
set_option linter.unusedSectionVars false
set_option linter.unusedSimpArgs false
set_option maxRecDepth 100000

section
variable {B : Nat} {w0 w w' : World} {gb b c T k g off n cap i j sl sc : Nat} {M N L : List Gst} {a sa : Option Addr} {v : Value} {S R F F' X : List (Nat × Obj)} {x y : Gst} {sp : Nat → Bool}
/-- A guest of a connection, a tag. -/
abbrev gC (q : Int) (t : List UInt8) (m : Int) : Gst := ⟨q, 0, t, m, false, false⟩
abbrev gCV (q : Int) (t : List UInt8) (m : Int) : Value := .agg #[.int .i64 q, .int .i64 0, tx t, .int .i64 m, .bool false, .bool false]
theorem add_gc {q m : Int} {t : List UInt8} {ok : Bool} (hok : addOkG M (gC q t m) = ok) (hN : addG M (gC q t m) = N) (ht : t.length ≤ 140737488351232) (hl : M.length < 60000) (h : GuIs B w0 w gb M T F) :
    Calls Tryd.prog 9 #[gup gb, gCV q t m] w fun e w' => e = .returned (.bool ok) ∧ GuIs B w0 w' gb N T F := gu_add (x := gC q t m) h ht hl hok hN
/-- Pick, where bools tell who has spare; the answer in a block of its own. -/
theorem pick_b {l : List Bool} {r : Gst} {T' : Nat} (h : GuIs B w0 w gb M T F) (hl : l.length ≤ 1000000) (hrr : pickG M.length T (sparG M.length l.length fun k => l.getD k false) = some k) (hx : M[k]? = some r) (hT' : turnG M.length (k + 1) = T') :
    Calls Tryd.prog 13 #[gup gb, .slice (some ⟨w.heap.size, 0, none⟩) l.length sc] (w.alloc (boolsO l)) fun e w' => e = .returned (.tuple #[gsV r, .bool true]) ∧ GuIs B w0 (w'.alloc (gsO r)) gb M T' ((w'.heap.size, gsO r) :: F) := by
  have h1 := h.alloc (boolsO l)
  refine (gu_pick_yes h1 (h1.spare (l := l) List.mem_cons_self hl) hrr hx hT').mono ?_
  rintro e w' ⟨rfl, h2⟩
  exact ⟨rfl, (h2.sub (List.sublist_cons_self _ _)).alloc _⟩
theorem pick_z {l : List Bool} (h : GuIs B w0 w gb M T F) (hl : l.length ≤ 1000000) (hrr : pickG M.length T (sparG M.length l.length fun k => l.getD k false) = none) :
    Calls Tryd.prog 13 #[gup gb, .slice (some ⟨w.heap.size, 0, none⟩) l.length sc] (w.alloc (boolsO l)) fun e w' => e = .returned (.tuple #[gsV z0G, .bool false]) ∧ GuIs B w0 (w'.alloc (gsO z0G)) gb M T ((w'.heap.size, gsO z0G) :: F) := by
  have h1 := h.alloc (boolsO l)
  refine (gu_pick_no h1 (h1.spare (l := l) List.mem_cons_self hl) hrr).mono ?_
  rintro e w' ⟨rfl, h2⟩
  exact ⟨rfl, (h2.sub (List.sublist_cons_self _ _)).alloc _⟩

theorem pick_two {p q : Bool} {r : Gst} {T' : Nat} (h : GuIs B w0 w gb M T F) (hrr : pickG M.length T (sparG M.length 2 fun k => [p, q].getD k false) = some k) (hx : M[k]? = some r) (hT' : turnG M.length (k + 1) = T') :
    Calls Tryd.prog 13 #[gup gb, .slice (some ⟨w.heap.size, 0, none⟩) 2 2] (w.alloc (.cells #[.bool p, .bool q] 4)) fun e w' => e = .returned (.tuple #[gsV r, .bool true]) ∧ GuIs B w0 (w'.alloc (gsO r)) gb M T' ((w'.heap.size, gsO r) :: F) :=
  pick_b (sc := 2) (l := [p, q]) h (by simp) hrr hx hT'
abbrev ga : Gst := gC 0 [97] 0
abbrev gbb : Gst := gC 0 [98] 0
set_option maxHeartbeats 1000000 in
theorem known18_true (w : World) (hT : Tab w.heap.size w) : Calls Tryd.prog 7 #[] w fun e w' => e = .returned (.bool true) ∧ Below w.heap.size w w' := by
  have c0 := Lib.hid (gu_new hT (St.start w))
  clear hT
  go_enter Tryd.func7, Tryd.ntmps7
  go_wp2_with fail
  refine c0.out.mono ?_
  rintro r w1 ⟨gb, rfl, h1⟩
  have c1 := Lib.hid (pick_z (sc := 1) (l := [true]) h1 (by simp) (by decide))
  clear c0 h1
  go_wp2_with fail
  refine c1.out.mono ?_
  rintro r w2 ⟨rfl, h2⟩
  have c2 := Lib.hid (add_gc (q := 0) (t := [97]) (m := 0) (ok := true) (N := [ga]) rfl rfl (by simp) (by simp) h2)
  clear c1 h2
  go_wp2_with fail
  refine c2.out.mono ?_
  rintro r w3 ⟨rfl, h3⟩
  have c3 := Lib.hid (add_gc (q := 0) (t := [98]) (m := 0) (ok := true) (N := [ga, gbb]) rfl rfl (by simp) (by simp) h3)
  clear c2 h3
  go_wp2_with fail
  refine c3.out.mono ?_
  rintro r w4 ⟨rfl, h4⟩
  have c4 := Lib.hid (add_gc (q := 0) (t := [97]) (m := 3) (ok := false) (N := [ga, gbb]) rfl rfl (by simp) (by simp) h4)
  clear c3 h4
  go_wp2_with fail
  refine c4.out.mono ?_
  rintro r w5 ⟨rfl, h5⟩
  have c5 := Lib.hid (pick_two (p := true) (q := true) (k := 0) (r := ga) (T' := 1) h5 (by decide) rfl rfl)
  clear c4 h5
  go_wp2_with fail
  refine c5.out.mono ?_
  rintro r w6 ⟨rfl, h6⟩
  have c6 := (pick_two (p := true) (q := true) (k := 1) (r := gbb) (T' := 0) h6 (by decide) rfl rfl)
  rw [World.size_alloc] at c6
  replace c6 := Lib.hid c6
  clear c5 h6
  go_wp2_with fail
  refine c6.out.mono ?_
  rintro r w7 ⟨rfl, h7⟩
  have c7 := (pick_two (p := false) (q := true) (k := 1) (r := gbb) (T' := 0) h7 (by decide) rfl rfl)
  rw [World.size_alloc] at c7
  replace c7 := Lib.hid c7
  clear c6 h7
  go_wp2_with fail
  refine c7.out.mono ?_
  rintro r w8 ⟨rfl, h8⟩
  have c8 := Lib.hid (gu_drop h8 0 0 [97] (ok := true) (N := [gbb]) (T' := 0) rfl rfl rfl)
  clear c7 h8
  go_wp2_with fail
  refine c8.out.mono ?_
  rintro r w9 ⟨rfl, h9⟩
  have e7 := (h9.guest (b := w6.heap.size) (x := ga) (by simp)).1.2.2.1
  have e9 := (h9.guest (b := w7.heap.size) (x := gbb) (by simp)).1.2.2.1
  have e11 := (h9.guest (b := w8.heap.size) (x := gbb) (by simp)).1.2.2.1
  have c9 := Lib.hid (gu_len h9)
  clear c8 h9
  rw [show (([gbb].length : Nat) : Int) = 1 from rfl] at c9
  go_wp2_with fail
  refine c9.out.mono ?_
  rintro r w10 ⟨rfl, h10⟩
  have c10 := Lib.hid (gu_all h10)
  clear c9 h10
  go_wp2_with fail
  refine c10.out.mono ?_
  rintro r w11 ⟨a11, n11, S11, rfl, -, h11⟩
  simp only [List.length_cons, List.length_nil, Nat.zero_add]
  have c11 := Lib.hid (gu_sole h11 (s := false) rfl)
  clear c10 h11
  go_wp2_with fail
  refine c11.out.mono ?_
  rintro r w12 ⟨rfl, h12⟩
  have c12 := Lib.hid (spin_any 1 4 (by decide) w12)
  have hq : FloatKind.f64.format.order (cRe (spn 1 4)) 0 = some .eq := by decide +kernel
  have hq2 : FloatKind.f64.format.order (cIm (spn 1 4)) 4607182418800017408 = some .eq := by decide +kernel
  have hB := Lib.hid h12.below
  unfold cV at c12
  generalize cRe (spn 1 4) = x1 at *
  generalize cIm (spn 1 4) = y1 at *
  clear c11 h12
  go_wp2_with fail
  refine c12.out.mono ?_
  rintro r w13 ⟨rfl, rfl⟩
  have c13 := Lib.hid (spin_no 1 3 (by decide) (by decide) (by decide) w13)
  have hq3 : FloatKind.f64.format.order 0 0 = some .eq := by decide +kernel
  clear c12
  go_wp2_with fail
  refine c13.out.mono ?_
  rintro r w14 ⟨rfl, rfl⟩
  go_wp2_with fail
  go_ret
  exact ⟨rfl, hB.out⟩
end
end Go.Proofs.YtpnkaamijjeckaaDoor
