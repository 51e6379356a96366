/- All frames that a parser tells now, in a row (the law's own function). -/
import Derived.Test.YtjeejflmkdncpaaFmK
namespace Go.Proofs.Ytjeejflmkdncpaa
open Go.RowKit
set_option linter.unusedVariables false

/-- From these bytes these frames are told, and then those bytes are left, which lack some. -/
inductive Tells (M : Nat) : List UInt8 → List Frm → List UInt8 → Prop where
  | done {R : List UInt8} (h : nextL M false R = ((0, 0, []), false, 0, false, R)) : Tells M R [] R
  | more {L L' R : List UInt8} {k c : Int} {d : List UInt8} {fs : List Frm} (h : nextL M false L = ((k, c, d), true, 0, false, L')) (t : Tells M L' fs R) : Tells M L ((k, c, d) :: fs) R
theorem Tells.len {M : Nat} {L R : List UInt8} {fs : List Frm} (h : Tells M L fs R) : R.length ≤ L.length := by
  induction h with
  | done h => exact Nat.le_refl _
  | more h t ih =>
    rename_i L L' R k c d fs
    have := nextL_len M false L
    rw [h] at this
    exact Nat.le_trans ih this

section
variable {B : Nat} {w0 w : World} {S F A X : List (Nat × Obj)} {pb M : Nat} {bad : Bool} {L R : List UInt8} {v : Value} {l fs : List Frm}

theorem PsIs.beside (h : PsIs B w0 w pb M bad L (S ++ F)) : ∃ X, St B w0 w (X ++ S) ∧ ∀ w' S', St B w0 w' (X ++ S') → PsIs B w0 w' pb M bad L (S' ++ F) := by
  obtain ⟨X, hX, back⟩ := h.st
  refine ⟨X ++ F, hX.perm ?_, fun w' S' h' => back _ _ (h'.perm ?_)⟩
  · rw [List.append_assoc]; exact List.perm_append_comm.append_left X
  · rw [List.append_assoc]; exact List.perm_append_comm.append_left X

/-- Behind all. -/
def AllR (B : Nat) (w0 : World) (pb M : Nat) (l : List Frm) (R : List UInt8) (F : List (Nat × Obj)) (e : Ending) (w' : World) : Prop :=
  ∃ v S, e = .returned (.tuple #[v, .bool true, .bool true]) ∧ FrsIs v l S ∧ PsIs B w0 w' pb M false R (S ++ F)
/-- .. on the way. -/
def AllRel (B : Nat) (w0 : World) (pb M : Nat) (l fs : List Frm) (R : List UInt8) (F : List (Nat × Obj)) (v : Value) (i : Nat) (w' : World) : Prop :=
  ∃ (told rest : List Frm) (L : List UInt8) (S : List (Nat × Obj)), told.length = i ∧ told ++ rest = fs ∧ Tells M L rest R ∧ L.length ≤ 4000000 ∧ FrsIs v (l ++ told) S ∧ PsIs B w0 w' pb M false L (S ++ F)

set_option maxHeartbeats 4000000 in
theorem all_to (hs : FrsIs v l S) (h : PsIs B w0 w pb M false L (S ++ F)) (ht : Tells M L fs R) (hL : L.length ≤ 4000000) (hfs : fs.length < 2000) (hl : l.length ≤ 50000) :
    Calls Try.prog 22 #[fpt pb, v] w (AllR B w0 pb M (l ++ fs) R F) := by
  have h0 : AllRel B w0 pb M l fs R F v 0 w := ⟨[], fs, L, S, rfl, rfl, ht, hL, by rw [List.append_nil]; exact hs, h⟩
  replace h0 := Lib.hid h0
  clear hs h ht hL
  go_enter Try.func22, Try.ntmps22
  go_wp2_with fail
  go_loopg [1, 7] 2000 (fun g v1 v7 wr => ∃ i : Nat, v7 = .int .i64 i ∧ i + g = 2000 ∧ Hid (AllRel B w0 pb M l fs R F v1 i wr))
  case atStart => exact ⟨0, rfl, by omega, h0⟩
  case round =>
    clear h0
    obtain ⟨i, rfl, hi, hrel⟩ := hrel
    obtain ⟨told, rest, L, S, rfl, hfe, ht, hL, hs, hp⟩ := hrel.out
    clear hrel
    have hfl : told.length ≤ fs.length := by rw [← hfe, List.length_append]; omega
    have hlt : (told.length : Int) < 2000 := by omega
    cases ht with
    | done hn =>
      have c1 := Lib.hid (next_to hp hL hn)
      have fin : Hid (∀ w1 o, PsIs B w0 w1 pb M false R (S ++ F) → AllR B w0 pb M (l ++ fs) R F (.returned (.tuple #[_, .bool true, .bool true])) (w1.alloc o)) := Lib.hid fun w1 o h1 => ⟨_, S, rfl, by rw [← hfe, List.append_nil]; exact hs, (h1.alloc o).sub (List.sublist_cons_self _ _)⟩
      have hs' : SlIs _ _ _ _ _ _ := hs
      obtain ⟨av, cv, rfl, -, -, -⟩ := hs'.form
      clear hs hs' hp hfe
      generalize (l ++ told).length = n at *
      go_wp2_with fail
      refine c1.out.mono ?_
      rintro e w1 ⟨rfl, hp⟩
      have fin2 := Lib.hid (fin.out _ (frO 0 0 []) hp)
      clear hp c1 fin
      go_wp2_with fail
      go_ret3
      exact fin2.out
    | more hn t =>
      rename_i L' k c d rest
      have c1 := Lib.hid (next_to hp hL hn)
      have hL' : L'.length ≤ 4000000 := by
        have := nextL_len M false L
        rw [hn] at this
        exact Nat.le_trans this hL
      have hlen : (l ++ told).length ≤ 100000 := by rw [List.length_append]; omega
      have ap : Hid (∀ w1, PsIs B w0 w1 pb M false L' (S ++ F) → ∃ a cap W2, (Builtin.append_ #[27, 27] 0 #[_, .slice (some ⟨(w1.alloc (frO k c d)).heap.size, 0, none⟩) 1 1]).run Try.prog ((w1.alloc (frO k c d)).alloc (frO k c d)) = .ok (.slice a ((l ++ told).length + 1) cap) W2 ∧
          AllRel B w0 pb M l fs R F (.slice a ((l ++ told).length + 1) cap) (told.length + 1) W2) := Lib.hid fun w1 h1 => by
        obtain ⟨X, hX, back⟩ := ((h1.alloc (frO k c d)).sub (F' := S ++ F) (List.sublist_cons_self _ _)).beside
        obtain ⟨a, cap, W2, F2, hr, hs2, hst2⟩ := frame_append hs hX k c d hlen
        exact ⟨a, cap, W2, hr, told ++ [(k, c, d)], rest, L', F2, by simp, by rw [List.append_assoc]; exact hfe, t, hL', by rw [← List.append_assoc]; exact hs2, back _ _ hst2⟩
      have hs' : SlIs _ _ _ _ _ _ := hs
      obtain ⟨av, cv, rfl, -, -, -⟩ := hs'.form
      clear hs hs' hp hfe t
      generalize (l ++ told).length = n at *
      go_wp2_with fail
      refine c1.out.mono ?_
      rintro e w1 ⟨rfl, hp⟩
      obtain ⟨a2, cap2, W2, hrun, fin⟩ := ap.out _ hp
      rw [World.size_alloc] at hrun
      replace fin := Lib.hid fin
      clear hp c1 ap
      go_wp2_with (at_builtin; refine wpList_append_go rfl (.tmp 33) (.tmp 35) 27 27 rfl _ _ rfl rfl hrun ?_)
      go_roundg (2000 - (told.length + 1))
      case measure => omega
      case rel => exact ⟨told.length + 1, by go_num, by omega, fin⟩
end
end Go.Proofs.Ytjeejflmkdncpaa
