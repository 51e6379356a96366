/- FrameReads. -/
import Derived.Test.YtjeejflmkdncpaaFmL
import Derived.Test.YtjeejflmkdncpaaTxts
import Derived.Deep.QuietTactic
import Derived.BigQuiet
namespace Go.Proofs.Ytjeejflmkdncpaa
open Go.RowKit
set_option linter.unusedVariables false

section
variable {B : Nat} {w0 w : World} {S F A X : List (Nat × Obj)} {pb rb M : Nat} {bad bad2 : Bool} {L L2 : List UInt8}

/-- Both parsers side by side. -/
def Duo (B : Nat) (w0 w : World) (pb rb M : Nat) (bad : Bool) (L : List UInt8) (bad2 : Bool) (L2 : List UInt8) (F : List (Nat × Obj)) : Prop :=
  PsIs B w0 w pb M bad L ((rb, rpO M L2 bad2) :: F) ∧ (bad2 = true → L2 = [])
theorem Duo.ref (h : Duo B w0 w pb rb M bad L bad2 L2 F) : ∃ X, RpIs B w0 w rb M bad2 L2 (X ++ F) ∧ ∀ w' bad' L', RpIs B w0 w' rb M bad' L' (X ++ F) → Duo B w0 w' pb rb M bad L bad' L' F := by
  obtain ⟨h1, h2⟩ := h
  have hM : 64 ≤ M ∧ M ≤ 4096 := by obtain ⟨_, _, _, _, _, _, _, _, h⟩ := h1; exact h
  obtain ⟨X, hX, back⟩ := h1.st
  exact ⟨X, ⟨hX.perm List.perm_middle, h2, hM⟩, fun w' bad' L' h' => ⟨back _ _ (h'.1.perm List.perm_middle.symm), h'.2.1⟩⟩
theorem Duo.alloc (h : Duo B w0 w pb rb M bad L bad2 L2 F) (o : Obj) : Duo B w0 (w.alloc o) pb rb M bad L bad2 L2 ((w.heap.size, o) :: F) := ⟨(h.1.alloc o).perm (List.Perm.swap _ _ _), h.2⟩
theorem Duo.sub {F' : List (Nat × Obj)} (h : Duo B w0 w pb rb M bad L bad2 L2 F) (hs : F'.Sublist F) : Duo B w0 w pb rb M bad L bad2 L2 F' := ⟨h.1.sub (hs.cons_cons _), h.2⟩
theorem Duo.drewN (h : Duo B w0 w pb rb M bad L bad2 L2 F) (n : Nat) : Duo B w0 (w.drewN n) pb rb M bad L bad2 L2 F := ⟨h.1.drewN n, h.2⟩
theorem Duo.below (h : Duo B w0 w pb rb M bad L bad2 L2 F) : Below B w0 w := h.1.below

theorem duo_next (h : Duo B w0 w pb rb M bad L bad2 L2 F) (hL : L.length ≤ 4000000) {k c : Int} {d : List UInt8} {ok : Bool} {en : Int} {bad' : Bool} {L' : List UInt8} (hx : nextL M bad L = ((k, c, d), ok, en, bad', L')) :
    Calls Try.prog 19 #[fpt pb] w fun e w' => e = .returned (.tuple #[frV k c d, .bool ok, .int .i64 en]) ∧ Duo B w0 w' pb rb M bad' L' bad2 L2 F :=
  (next_to h.1 hL hx).mono fun e w' ⟨h1, h2⟩ => ⟨h1, h2, h.2⟩
theorem duo_rnext (h : Duo B w0 w pb rb M bad L bad2 L2 F) (hL : L2.length ≤ 4000000) {k c : Int} {d : List UInt8} {ok : Bool} {en : Int} {bad' : Bool} {L' : List UInt8} (hx : nextL M bad2 L2 = ((k, c, d), ok, en, bad', L')) :
    Calls Try.prog 20 #[fpt rb] w fun e w' => e = .returned (.tuple #[frV k c d, .bool ok, .int .i64 en]) ∧ Duo B w0 w' pb rb M bad L bad' L' F := by
  obtain ⟨X, hr, back⟩ := h.ref
  have := rp_next hr hL
  rw [hx] at this
  exact this.mono fun e w' ⟨h1, h2⟩ => ⟨h1, back _ _ _ h2⟩
theorem duo_feed (h : Duo B w0 w pb rb M bad L bad2 L2 F) (b : List UInt8) (hL : L.length + b.length ≤ 4000000) :
    Calls Try.prog 17 #[fpt pb, tx b] w fun e w' => e = .returned (.tuple #[]) ∧ Duo B w0 w' pb rb M bad (fedL bad L b) bad2 L2 F :=
  (fr_feed h.1 b hL).mono fun e w' ⟨h1, h2⟩ => ⟨h1, h2, h.2⟩
theorem duo_rfeed (h : Duo B w0 w pb rb M bad L bad2 L2 F) (b : List UInt8) (hL : L2.length + b.length ≤ 4000000) :
    Calls Try.prog 18 #[fpt rb, tx b] w fun e w' => e = .returned (.tuple #[]) ∧ Duo B w0 w' pb rb M bad L bad2 (fedL bad2 L2 b) F := by
  obtain ⟨X, hr, back⟩ := h.ref
  exact (rp_feed hr b hL).mono fun e w' ⟨h1, h2⟩ => ⟨h1, back _ _ _ h2⟩
theorem duo_new (h : St B w0 w F) (most : Int) : Calls Try.prog 15 #[.int .i64 most] w fun e w' => e = .returned (fpt w.heap.size) ∧ PsIs B w0 w' w.heap.size (heldM most) false [] F := fr_new h most
theorem duo_rnew {most : Int} (h : PsIs B w0 w pb (heldM most) false [] F) : Calls Try.prog 16 #[.int .i64 most] w fun e w' => e = .returned (fpt w.heap.size) ∧ Duo B w0 w' pb w.heap.size (heldM most) false [] false [] F := by
  obtain ⟨X, hX, back⟩ := h.st
  refine (rp_new hX most).mono ?_
  rintro e w' ⟨rfl, h1, h2, h3⟩
  exact ⟨rfl, back _ _ (h1.perm List.perm_middle.symm), h2⟩

theorem nextL_len (M : Nat) (bad : Bool) (L : List UInt8) : (nextL M bad L).2.2.2.2.length ≤ L.length := by
  unfold nextL
  cases bad with
  | true => simp
  | false =>
    simp only [Bool.false_eq_true, if_false]
    cases stepL M L <;> simp
theorem fedL_len (bad : Bool) (L b : List UInt8) : (fedL bad L b).length ≤ L.length + b.length := by
  unfold fedL
  cases bad <;> simp

set_option maxHeartbeats 8000000 in
set_option maxRecDepth 100000 in
theorem reads_walk {a : Option Addr} {len cap : Nat} {T : List (List UInt8)} {most : Int} {w : World} (h : TextsAt w a len T) :
    Calls Try.prog 4 #[.slice a len cap, .int .i64 most] w fun e w' => e = .returned (.bool true) ∧ Below w.heap.size w w' := by
  have c1 := Lib.hid known7_true
  by_cases h30 : 30 < len
  · have h30' : (30 : Int) < len := by omega
    clear h
    go_enter Try.func4, Try.ntmps4
    go_wp2_with fail
    refine (c1.out _).mono ?_
    rintro e w1 ⟨rfl, h1⟩
    replace h1 := Lib.hid h1
    go_wp2_with fail
    go_ret
    exact ⟨rfl, h1.out⟩
  have h30' : ¬ (30 : Int) < len := by omega
  replace h := Lib.hid h
  go_enter Try.func4, Try.ntmps4
  go_wp2_with fail
  refine (c1.out _).mono ?_
  rintro e w1 ⟨rfl, h1⟩
  have c2 := Lib.hid (fr_new ((St.start w).grow h1) most)
  clear c1 h1
  go_wp2_with fail
  refine c2.out.mono ?_
  rintro e w2 ⟨rfl, h2⟩
  have c3 := Lib.hid (duo_rnew h2)
  clear c2 h2
  generalize w1.heap.size = pb at *
  go_wp2_with fail
  refine c3.out.mono ?_
  rintro e w3 ⟨rfl, h3⟩
  generalize w2.heap.size = rb at *
  generalize heldM most = M at *
  replace h3 := Lib.hid h3
  clear c3
  go_wp2_with fail
  go_loopg [7] len (fun g v7 wr => ∃ (i : Nat) (bad : Bool) (L : List UInt8), v7 = .int .i64 i ∧ i + g = len ∧ L.length ≤ 300 * i ∧ Hid (Duo w.heap.size w wr pb rb M bad L bad L []))
  case atStart => exact ⟨0, false, [], rfl, by omega, by simp, h3⟩
  case round =>
    clear h3
    obtain ⟨i, bad, L, rfl, hi, hL, hD⟩ := hrel
    have hlen := h.out.size
    by_cases hlt : i < len
    · have hx : T[i]? = some T[i] := List.getElem?_eq_getElem (by omega)
      generalize T[i] = x at hx
      obtain ⟨hm, b, off, rfl, hc⟩ := (h.out.below hD.out.below).at_ i x hx
      have hi0 : (0 : Int) ≤ i := by omega
      have hi1 : (i : Int) < len := by omega
      by_cases hbig : 300 < x.length
      · have hbig' : (300 : Int) < x.length := by omega
        have fin := Lib.hid hD.out.below
        clear hlen hx hD
        go_wp2_with fail
        go_ret
        exact ⟨rfl, fin.out⟩
      have hbig' : ¬ (300 : Int) < x.length := by omega
      have c4 := Lib.hid (duo_feed hD.out x (by omega))
      have hcell : Hid (∀ W, Below w.heap.size w W → W.cell? ⟨b, off + i, none⟩ = some (tx x)) := Lib.hid fun W hW => by
        obtain ⟨_, b', off', e, hc'⟩ := (h.out.below hW).at_ i x hx
        cases e
        exact hc'
      clear hD hx hlen
      go_wp2_with fail
      refine c4.out.mono ?_
      rintro e w4 ⟨rfl, h4⟩
      have d4 := hcell.out _ h4.below
      have c5 := Lib.hid (duo_rfeed h4 x (by omega))
      have hfl := fedL_len bad L x
      clear c4 h4 hcell
      go_wp2_with fail
      refine c5.out.mono ?_
      rintro e w5 ⟨rfl, h5⟩
      generalize fedL bad L x = L1 at *
      replace h5 := Lib.hid h5
      clear c5
      go_wp2_with fail
      have hbd : L1.length ≤ 300 * (i + 1) := by omega
      clear hfl hL
      go_loopg [8] 400 (fun g2 v8 w6 => ∃ (k : Nat) (bad : Bool) (L : List UInt8), v8 = .int .i64 k ∧ k + g2 = 400 ∧ L.length ≤ 300 * (i + 1) ∧ Hid (Duo w.heap.size w w6 pb rb M bad L bad L []))
      case atStart => exact ⟨0, bad, L1, rfl, by omega, hbd, h5⟩
      case round =>
        clear h5 hbd d4 hc
        obtain ⟨k, bad, L, rfl, hk, hL, hD⟩ := hrel
        by_cases hlk : k < 400
        · have hlk' : (k : Int) < 400 := by omega
          have hk0 : (0 : Int) ≤ k := by omega
          obtain ⟨⟨⟨fk, fc, fd⟩, ok, en, bad', L'⟩, hx⟩ : ∃ r, nextL M bad L = r := ⟨_, rfl⟩
          have hL' : L'.length ≤ L.length := by
            have := nextL_len M bad L
            rw [hx] at this
            exact this
          have c6 := Lib.hid (duo_next hD.out (by omega) hx)
          replace hx := Lib.hid hx
          clear hD
          go_wp2_with fail
          refine c6.out.mono ?_
          rintro e w7 ⟨rfl, h7⟩
          have c7 := Lib.hid (duo_rnext (h7.alloc (frO fk fc fd)) (by omega) hx.out)
          clear c6 h7
          go_wp2_with fail
          refine c7.out.mono ?_
          rintro e w8 ⟨rfl, h8⟩
          have h9 := h8.alloc (frO fk fc fd)
          have q0 := h9.1.cell (b := w7.heap.size) (c := #[.int .i64 fk, .int .i64 fc, tx fd]) (T := 23) (i := 0) (v := .int .i64 fk) (by simp) rfl
          have q1 := h9.1.cell (b := w7.heap.size) (c := #[.int .i64 fk, .int .i64 fc, tx fd]) (T := 23) (i := 1) (v := .int .i64 fc) (by simp) rfl
          have q2 := h9.1.cell (b := w7.heap.size) (c := #[.int .i64 fk, .int .i64 fc, tx fd]) (T := 23) (i := 2) (v := tx fd) (by simp) rfl
          have r1 : (w8.alloc (frO fk fc fd)).cell? ⟨rb, 1, none⟩ = some (tx L') := h9.1.cell (b := rb) (c := #[.int .i64 (M : Int), tx L', .bool bad']) (T := 43) (i := 1) List.mem_cons_self rfl
          have cl := Lib.hid (fun q => fr_left (h9.drewN q).1 (by omega))
          have fin := Lib.hid (fun q => (h9.drewN q).sub (F' := []) (List.nil_sublist _))
          clear c7 h8 h9
          cases ok with
          | true =>
            go_wp2_with fail
            go_quiet ((go_at_call 21; with_reducible exact Calls.quiet_of (cl.out _)))
            go_wp2_with fail
            go_roundg (400 - (k + 1))
            case measure => omega
            case rel => exact ⟨k + 1, bad', L', by go_num, by omega, by omega, Lib.hid (fin.out _)⟩
          | false =>
            go_wp2_with fail
            go_quiet ((go_at_call 21; with_reducible exact Calls.quiet_of (cl.out _)))
            go_wp2_with fail
            go_roundg (len - (i + 1))
            case measure => omega
            case rel => exact ⟨i + 1, bad', L', by go_num, by omega, by omega, Lib.hid (fin.out _)⟩
        · have hlk' : ¬ (k : Int) < 400 := by omega
          go_wp2_with fail
          go_roundg (len - (i + 1))
          case measure => omega
          case rel => exact ⟨i + 1, bad, L, by go_num, by omega, by omega, hD⟩
    · obtain rfl : i = len := by omega
      have fin := Lib.hid hD.out.below
      clear hD
      go_wp2_with fail
      go_ret
      exact ⟨rfl, fin.out⟩

theorem reads_row {a : Option Addr} {len cap : Nat} {most : Int} {w : World} (r : Read Try.prog w 30 [.slice a len cap]) :
    Calls Try.prog 4 #[.slice a len cap, .int .i64 most] w fun e w' => e = .returned (.bool true) ∧ Below w.heap.size w w' := by
  have hu : Try.prog.underlying 30 = some (.slice 9) := by kernel_rfl
  have hco : Try.prog.cellsOf 9 = 1 := by kernel_rfl
  obtain ⟨rd, hr⟩ := r.slice hu (by rw [hco]; decide)
  obtain ⟨T, hT⟩ := TextsAt.of hr
  exact reads_walk hT
end
end Go.Proofs.Ytjeejflmkdncpaa
