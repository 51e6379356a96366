/- The known case of layer 7. -/
import Derived.Test.YtjeejflmkdncpaaFmI
namespace Go.Proofs.Ytjeejflmkdncpaa
open Go.RowKit
set_option linter.unusedVariables false

section
variable {B : Nat} {w0 w : World} {S F A X : List (Nat × Obj)} {v : Value} {l : List Frm} {pb M : Nat} {bad : Bool} {L : List UInt8}

/-- Split beside a parser. -/
theorem PsIs.split (h : PsIs B w0 w pb M bad L F) (k c : Int) (d : List UInt8) (most : Int) (hd : d.length ≤ 50000) :
    Calls Try.prog 13 #[.int .i64 k, .int .i64 c, tx d, .int .i64 most] w fun e w' => ∃ v S, e = .returned v ∧ FrsIs v (splitL k c d most) S ∧ PsIs B w0 w' pb M bad L (F ++ S) := by
  obtain ⟨X, hX, back⟩ := h.st
  refine (fr_split hX k c d most hd).mono ?_
  rintro e w' ⟨v, S, rfl, hs, hst⟩
  exact ⟨v, S, rfl, hs, back _ _ (by rw [← List.append_assoc]; exact hst)⟩
theorem next_to (h : PsIs B w0 w pb M bad L F) (hL : L.length ≤ 4000000) {k c : Int} {d : List UInt8} {ok : Bool} {en : Int} {bad' : Bool} {L' : List UInt8} (hx : nextL M bad L = ((k, c, d), ok, en, bad', L')) :
    Calls Try.prog 19 #[fpt pb] w fun e w' => e = .returned (.tuple #[frV k c d, .bool ok, .int .i64 en]) ∧ PsIs B w0 w' pb M bad' L' F := by
  have := fr_next h hL
  rw [hx] at this
  exact this
theorem left_to (h : PsIs B w0 w pb M bad L F) (hL : L.length ≤ 4000000) : Calls Try.prog 21 #[fpt pb] w fun e w' => e = .returned (.int .i64 (L.length : Int)) ∧ PsIs B w0 w' pb M bad L F := by
  refine (fr_left h hL).mono ?_
  rintro e w' ⟨rfl, n, rfl⟩
  exact ⟨rfl, h.drewN n⟩
theorem bytes_to {k c : Int} {d r : List UInt8} (hr : frBytes k c d = r) (hd : d.length ≤ 8000000) (w : World) : Calls Try.prog 10 #[frV k c d] w fun e w' => e = .returned (tx r) ∧ Below w.heap.size w w' := by
  subst hr
  exact bytes_any k c d w hd
theorem rbytes_to {k c : Int} {d r : List UInt8} (hr : frBytes k c d = r) (hd : d.length ≤ 8000000) (w : World) : Calls Try.prog 11 #[frV k c d] w fun e w' => e = .returned (tx r) ∧ Below w.heap.size w w' := by
  subst hr
  exact rbytes_any k c d w hd

theorem split_known : splitL 3 2 (List.replicate 100 0) 64 = [(3, 2, List.replicate 56 0), (3, 2, List.replicate 44 0)] := by
  unfold splitL
  rw [show heldM 64 - 8 = 56 by decide, cutsL_step (by decide) (by decide), cutsL_step (by decide) (by decide)]
  have e : ((List.replicate 100 (0 : UInt8)).drop 56).drop 56 = [] := by decide
  rw [e, cutsL_nil]
  decide

set_option maxHeartbeats 4000000 in
set_option maxRecDepth 100000 in
theorem known7_true (w : World) : Calls Try.prog 9 #[] w fun e w' => e = .returned (.bool true) ∧ Below w.heap.size w w' := by
  have hst : St w.heap.size w (w.alloc (frO 1 1 [97, 98])) [(w.heap.size, frO 1 1 [97, 98])] := (St.start w).alloc _
  have c1 := Lib.hid (bytes_to (k := 1) (c := 1) (d := [97, 98]) (r := [1, 0, 1, 0, 0, 0, 2, 97, 98, 206]) (by decide +kernel) (by decide))
  have c2 := Lib.hid (bytes_to (k := -1) (c := 0) (d := []) (r := []) (by decide +kernel) (by decide))
  replace hst := Lib.hid hst
  go_enter Try.func9, Try.ntmps9
  go_wp2_with fail
  refine (c1.out _).mono ?_
  rintro e w1 ⟨rfl, h1⟩
  have hs1 := hst.out.grow h1
  have c3 := Lib.hid (fr_new hs1 100)
  clear h1 hst
  go_wp2_with fail
  refine c3.out.mono ?_
  rintro e w2 ⟨rfl, hp⟩
  rw [show heldM 100 = 100 by decide] at hp
  have ex1 : (⟨#[1, 0, 1, 0, 0, 0, 2, 97, 98, 206]⟩ : ByteArray).extract 0 9 = ⟨#[1, 0, 1, 0, 0, 0, 2, 97, 98]⟩ := by decide +kernel
  have ex2 : (⟨#[1, 0, 1, 0, 0, 0, 2, 97, 98, 206]⟩ : ByteArray).extract 9 10 = ⟨#[206]⟩ := by decide +kernel
  have ad : ∀ W : World, (Op.stringOp .add ⟨#[206]⟩ ⟨#[7]⟩).run Try.prog W = .ok (tx [206, 7]) W := fun W => run_string_add_lists W [206] [7] (by decide) (by decide)
  generalize hpb : w1.heap.size = pb at *
  replace hpb := Lib.hid hpb
  have c4 := Lib.hid (fr_feed hp [1, 0, 1, 0, 0, 0, 2, 97, 98] (by decide))
  clear hp c3 hs1
  go_wp2_with fail
  refine c4.out.mono ?_
  rintro e w3 ⟨rfl, hp⟩
  have c5 := Lib.hid (next_to hp (by decide) (k := 0) (c := 0) (d := []) (ok := false) (en := 0) (bad' := false) (L' := [1, 0, 1, 0, 0, 0, 2, 97, 98]) (by decide +kernel))
  clear hp c4
  go_wp2_with fail
  refine c5.out.mono ?_
  rintro e w4 ⟨rfl, hp⟩
  have c6 := Lib.hid (fr_feed (hp.alloc (frO 0 0 [])) [206, 7] (by decide))
  clear hp c5
  go_wp2_with fail
  refine c6.out.mono ?_
  rintro e w5 ⟨rfl, hp⟩
  have c7 := Lib.hid (next_to hp (by decide) (k := 1) (c := 1) (d := [97, 98]) (ok := true) (en := 0) (bad' := false) (L' := [7]) (by decide +kernel))
  clear hp c6
  go_wp2_with fail
  refine c7.out.mono ?_
  rintro e w6 ⟨rfl, hp⟩
  have c8 := Lib.hid (next_to (hp.alloc (frO 1 1 [97, 98])) (by decide) (k := 0) (c := 0) (d := []) (ok := false) (en := 501) (bad' := true) (L' := []) (by decide +kernel))
  clear hp c7
  go_wp2_with fail
  refine c8.out.mono ?_
  rintro e w7 ⟨rfl, hp⟩
  have mk : ∀ w : World, (Instr.makeSlice 45 (.int .i64 100) (.int .i64 100)).run Try.prog w = .ok (.slice (some ⟨w.heap.size, 0, none⟩) 100 100) (w.alloc (rowOf (List.replicate 100 0))) := fun w => mk_row w 100 (by decide)
  have cv := zeros_conv (w7.alloc (frO 0 0 [])) 100
  rw [World.size_alloc] at cv
  have hp2 := (hp.alloc (frO 0 0 [])).alloc (rowOf (List.replicate 100 0))
  have c9 := Lib.hid (hp2.split 3 2 (List.replicate 100 0) 64 (by decide))
  rw [split_known, World.size_alloc] at c9
  generalize rowOf (List.replicate 100 0) = zo at *
  generalize List.replicate 100 (0 : UInt8) = Z at *
  clear hp hp2 c8
  go_wp2_with fail
  refine c9.out.mono ?_
  rintro e w8 ⟨v, S, rfl, hs, hp⟩
  obtain ⟨X, hX, -⟩ := hp.st
  obtain ⟨a, cap, rfl, hrd⟩ := hs.read (A := X ++ _) (by rw [List.append_assoc]; exact hX)
  obtain ⟨b, off, rfl, k1, k2, k3⟩ := hrd 0 _ rfl
  rw [Nat.zero_mul, Nat.add_zero] at k1 k2 k3
  simp only [List.length_cons, List.length_nil] at *
  have hl56 : (List.replicate 56 (0 : UInt8)).length = 56 := by simp
  generalize List.replicate 56 (0 : UInt8) = Y at *
  have q0 := hp.cell (b := w6.heap.size) (c := #[.int .i64 1, .int .i64 1, tx [97, 98]]) (T := 23) (i := 0) (by simp) rfl
  have q1 := hp.cell (b := w6.heap.size) (c := #[.int .i64 1, .int .i64 1, tx [97, 98]]) (T := 23) (i := 1) (by simp) rfl
  have q2 := hp.cell (b := w6.heap.size) (c := #[.int .i64 1, .int .i64 1, tx [97, 98]]) (T := 23) (i := 2) (by simp) rfl
  have r0 := hp.cell (b := w.heap.size) (c := #[.int .i64 1, .int .i64 1, tx [97, 98]]) (T := 23) (i := 0) (by simp) rfl
  have r1 := hp.cell (b := w.heap.size) (c := #[.int .i64 1, .int .i64 1, tx [97, 98]]) (T := 23) (i := 1) (by simp) rfl
  have r2 := hp.cell (b := w.heap.size) (c := #[.int .i64 1, .int .i64 1, tx [97, 98]]) (T := 23) (i := 2) (by simp) rfl
  have c10 := Lib.hid (fr_left hp (by decide))
  have hbel := Lib.hid hp.below
  clear hp hX hs hrd c9
  go_wp2_with fail
  refine c10.out.mono ?_
  rintro e w9 ⟨rfl, n, rfl⟩
  clear c10
  go_wp2_with fail
  refine (c2.out _).mono ?_
  rintro e w10 ⟨rfl, hb⟩
  have hb2 := Lib.hid (hbel.out.trans ((drewN_below w8 n).trans hb |>.mono hbel.out.size))
  clear hb hbel
  go_wp2_with fail
  go_ret
  exact ⟨rfl, hb2.out⟩
end
end Go.Proofs.Ytjeejflmkdncpaa
