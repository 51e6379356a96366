/- Guests: who is next, from the turn on, round and round. -/
import Derived.Test.YtpnkaamijjeckaaDoorGsH
namespace Go.Proofs.YtpnkaamijjeckaaDoor
open Go.RowKit
set_option linter.unusedVariables false
set_option linter.unusedSectionVars false
set_option maxRecDepth 100000

set_option maxHeartbeats 4000000 in
theorem fl_succ_all : (List.range 1000).all (fun s : Nat => floatBits .add .f64 (floatOfInt .f64 (s : Int)) 4607182418800017408 == some (floatOfInt .f64 ((s : Int) + 1))) = true := by decide +kernel
theorem fl_succ (s : Nat) (hs : s < 1000) (t : TypeId) (w : World) : (binOp .add t (.float .f64 (floatOfInt .f64 (s : Int))) (.float .f64 4607182418800017408)).run Tryd.prog w = .ok (.float .f64 (floatOfInt .f64 (((s + 1 : Nat)) : Int))) w := by
  have h := List.all_eq_true.1 fl_succ_all s (List.mem_range.2 hs)
  rw [beq_iff_eq] at h
  exact run_float_arith w .add t .f64 _ _ _ h

def nextV (r : Option Nat) : Value := match r with | none => .tuple #[.complex .f64 0 0, .bool false] | some k => .tuple #[seatV (k % 64) (k / 64), .bool true]
def NxJ (w : World) (gb : Nat) (sv : Value) (f : Nat → Bool) (n T st g : Nat) (aq : Act) (wt : World) : Prop :=
  ∃ p s, p < 64 ∧ s ≤ 940 ∧ SeatJ f n T st p s g ∧ Fr 62 [(0, gup gb), (1, sv), (4, .complex .f64 0 0), (5, .bool false), (6, seatV p s), (7, .int .i64 (st : Int)), (8, .int .i64 (g : Int))] aq ∧ Below w.heap.size w wt

section
variable {B : Nat} {w0 w w' : World} {gb b c T k g off n cap i j sl sc : Nat} {M L : List Gst} {a sa : Option Addr} {v : Value} {S R F F' X : List (Nat × Obj)} {x y : Gst} {sp : Nat → Bool}
set_option maxHeartbeats 4000000 in
theorem next_g (hT : Tab w.heap.size w) (hr : RdG w gb M a c) (h1 : w.cell? ⟨gb, 1, none⟩ = some (seatV (T % 64) (T / 64))) (hok : OkT M.length T) (hl : M.length ≤ 60000) (hs : SpAt w sa sl sp) {r : Option Nat} (hrr : pickG M.length T (sparG M.length sl sp) = r) :
    Calls Tryd.prog 28 #[gup gb, .slice sa sl sc] w fun e w' => e = .returned (nextV r) ∧ Below w.heap.size w w' := by
  have cp : Hid (∀ wt, Below w.heap.size w wt → ∀ p s, s ≤ 1000 → Calls Tryd.prog 32 #[gup gb, seatV p s, .slice sa sl sc] wt fun e w' => ∃ bb, e = .returned (bptr bb) ∧ BmIs wt.heap.size wt w' bb (inSt (sparG M.length sl sp) s) 64 []) :=
    Lib.hid fun wt hb p s hs5 => places_any (hT.below hb) (hr.below hb) hl (hs.below hb) p s hs5
  obtain ⟨f, hf⟩ : ∃ f, f = sparG M.length sl sp := ⟨_, rfl⟩
  have hflt : Hid (∀ p, f p = true → p < M.length) := Lib.hid (by rw [hf]; exact sparG_lt)
  rw [← hf] at cp hrr
  have hstart := Lib.hid (SeatJ.start (f := f) hok)
  obtain ⟨st, hst⟩ : ∃ st, st = (M.length + 63) / 64 := ⟨_, rfl⟩
  have hst2 : Hid (M.length ≤ 64 * st) := Lib.hid (by omega)
  have hstl : st ≤ 938 := by omega
  have hT0 : T ≤ 60000 := by rcases hok with h | h <;> omega
  have c0 := hr.c0
  have hn0 : (0 : Int) ≤ M.length := by omega
  have hn1 : (M.length : Int) ≤ 60000 := by omega
  have hst3 : ((M.length : Int) + 64 - 1) / 64 = st := by omega
  rw [← hst] at hstart
  have hst0 : (0 : Int) ≤ st := by omega
  have hst1 : (st : Int) ≤ 938 := by omega
  generalize M.length = n at *
  replace hst := Lib.hid hst
  clear hf hT hr hok hs hl
  go_enter Tryd.func28, Tryd.ntmps28
  go_wp2_with fail
  refine wp_scope_ghost 0 (NxJ w gb (.slice sa sl sc) f n T st) rfl ?_ ?_
  · rintro g a' wr ⟨p, s, hp, hsl, hJ, hfr, hb⟩
    obtain ⟨q', rfl, hl'⟩ := hfr.lit
    clear hfr
    simp only [List.mem_cons, List.not_mem_nil, or_false, forall_eq_or_imp, forall_eq] at hl'
    obtain ⟨f0, f1, f4, f5, f6, f7, f8⟩ := hl'
    simp only [List.range, List.range.loop, List.map, f0, f1, f4, f5, f6, f7, f8]
    clear f0 f1 f4 f5 f6 f7 f8 c0 h1 hstart hst3
    replace hb := Lib.hid hb
    cases g with
    | zero =>
      have hnone := hJ.none
      rw [hrr] at hnone
      subst hnone
      clear hJ cp hflt hst2
      go_wp2_with fail
      simp only [Exit.jump]
      go_ret2
      exact ⟨rfl, hb.out⟩
    | succ l =>
      have hc := cp.out _ hb.out p s (by omega)
      replace hc := Lib.hid hc
      have c1 := fl_conv p (by omega)
      have c2 := fl_conv s (by omega)
      have es : ((s + 1 : Nat) : Int) = (s : Int) + 1 := by omega
      have c3 := fl_conv (s + 1) (by omega)
      have hadd := fl_succ s (by omega) 50
      rw [es] at c3 hadd
      clear es
      have hl0 : ((l + 1 : Nat) : Int) = (l : Int) + 1 := by omega
      have hs0 : (0 : Int) ≤ s := by omega
      have hp0 : (0 : Int) ≤ p := by omega
      have hl1 : (0 : Int) ≤ l := by omega
      have hl2 : (l : Int) ≤ 2000 := by
        cases hJ with
        | first k1 k2 k3 k4 k5 k6 => omega
        | again k1 k2 k3 k4 k5 => omega
      have hbel : Hid (∀ (w2 w3 : World) (bb : Nat), BmIs wr.heap.size wr w3 bb (inSt f s) 64 [] → Below w.heap.size w w3) := Lib.hid fun w2 w3 bb h => bel hb.out h.below
      cases hq : firstAt (inSt f s) 64 p with
      | some q =>
        obtain ⟨hfound, hq64, hpq⟩ := hJ.found hflt.out hq
        rw [hrr] at hfound
        subst hfound
        have hn : nextAt (inSt f s) 64 p = some q := by
          unfold nextAt
          rw [hq]
          rfl
        have cnx : Hid (∀ w2 bb, BmIs wr.heap.size wr w2 bb (inSt f s) 64 [] → Calls Tryd.prog 33 #[bptr bb, .int .i64 (p : Int)] w2 fun e w' => e = .returned (.tuple #[.int .i64 (q : Int), .bool true]) ∧ BmIs wr.heap.size wr w' bb (inSt f s) 64 []) := Lib.hid fun w2 bb h =>
          bm_next h (p : Int) (by omega) (r := some q) (by rw [Int.toNat_natCast]; exact hn)
        have fin : Hid (Ending.returned (.tuple #[.complex .f64 (floatOfInt .f64 (q : Int)) (floatOfInt .f64 (s : Int)), .bool true]) = .returned (nextV (some (64 * s + q)))) := Lib.hid (by
          show _ = Ending.returned (.tuple #[seatV ((64 * s + q) % 64) ((64 * s + q) / 64), .bool true])
          rw [show (64 * s + q) % 64 = q by omega, show (64 * s + q) / 64 = s by omega])
        have hpq0 : (p : Int) ≤ q := by omega
        clear hq hJ cp hn c2 c3 hadd hflt hst2 hst
        unfold seatV at *
        generalize floatOfInt .f64 (p : Int) = x1 at *
        generalize floatOfInt .f64 (s : Int) = x2 at *
        go_wp2_with fail
        refine hc.out.mono ?_
        rintro e w2 ⟨bb, rfl, hB⟩
        have cn2 := Lib.hid (cnx.out _ _ hB)
        clear hB hc cnx
        go_wp2_with fail
        refine cn2.out.mono ?_
        rintro e w3 ⟨rfl, hB⟩
        replace hB := Lib.hid (hbel.out w2 _ _ hB)
        clear cn2
        go_wp2_with fail
        simp only [Exit.jump]
        go_ret2
        exact ⟨fin.out, hB.out⟩
      | none =>
        obtain ⟨q0, okk, hn, hq0⟩ : ∃ (q0 : Nat) (okk : Bool), nextAt (inSt f s) 64 p = (if okk then some q0 else none) ∧ (okk = true → q0 < p) := by
          unfold nextAt
          rw [hq, Option.none_or]
          cases h0 : firstAt (inSt f s) 64 0 with
          | none => exact ⟨0, false, rfl, fun h => by cases h⟩
          | some q0 =>
            refine ⟨q0, true, rfl, fun _ => ?_⟩
            obtain ⟨k1, k2, -, -⟩ := firstAt_is h0
            rcases Nat.lt_or_ge q0 p with h | h
            · exact h
            · rw [firstAt_isnone hq q0 h k1] at k2
              cases k2
        have cnx : Hid (∀ w2 bb, BmIs wr.heap.size wr w2 bb (inSt f s) 64 [] → Calls Tryd.prog 33 #[bptr bb, .int .i64 (p : Int)] w2 fun e w' => e = .returned (.tuple #[.int .i64 (((if okk then some q0 else none : Option Nat).getD 0 : Nat) : Int), .bool (if okk then some q0 else none : Option Nat).isSome]) ∧ BmIs wr.heap.size wr w' bb (inSt f s) 64 []) := Lib.hid fun w2 bb h =>
          bm_next h (p : Int) (by omega) (by rw [Int.toNat_natCast]; exact hn)
        by_cases hlt : s + 1 < st
        · have nxt := Lib.hid (hJ.more hflt.out hst2.out hq hlt)
          have hlt0 : ¬ (st : Int) ≤ (s : Int) + 1 := by omega
          have hs9 : s + 1 ≤ 940 := by omega
          clear hq hJ cp hn c2 hflt hst2 hst hlt hsl
          cases okk
          all_goals
            simp only [if_true, if_false, Option.getD_some, Option.getD_none, Option.isSome_some, Option.isSome_none, Bool.false_eq_true] at cnx
            first | (have hpq0 : ¬ (p : Int) ≤ q0 := by have := hq0 rfl; omega) | skip
            clear hq0
            unfold seatV at *
            go_wp2_with fail
            refine hc.out.mono ?_
            rintro e w2 ⟨bb, rfl, hB⟩
            have cn2 := Lib.hid (cnx.out _ _ hB)
            clear hB hc cnx
            go_wp2_with fail
            refine cn2.out.mono ?_
            rintro e w3 ⟨rfl, hB⟩
            replace hB := Lib.hid (hbel.out w2 _ _ hB)
            clear cn2
            go_wp2_with fail
            refine wp_goto ?_
            exact ⟨rfl, l, by omega, 0, s + 1, by decide, hs9, nxt.out, ⟨rfl, rfl, by simp [fl_zero]⟩, hB.out⟩
        · have nxt := Lib.hid (hJ.round hflt.out hst2.out hq (by omega))
          have hlt0 : (st : Int) ≤ (s : Int) + 1 := by omega
          clear hq hJ cp hn c2 hflt hst2 hst hlt hsl
          cases okk
          all_goals
            simp only [if_true, if_false, Option.getD_some, Option.getD_none, Option.isSome_some, Option.isSome_none, Bool.false_eq_true] at cnx
            first | (have hpq0 : ¬ (p : Int) ≤ q0 := by have := hq0 rfl; omega) | skip
            clear hq0
            unfold seatV at *
            go_wp2_with fail
            refine hc.out.mono ?_
            rintro e w2 ⟨bb, rfl, hB⟩
            have cn2 := Lib.hid (cnx.out _ _ hB)
            clear hB hc cnx
            go_wp2_with fail
            refine cn2.out.mono ?_
            rintro e w3 ⟨rfl, hB⟩
            replace hB := Lib.hid (hbel.out w2 _ _ hB)
            clear cn2
            go_wp2_with fail
            refine wp_goto ?_
            exact ⟨rfl, l, by omega, 0, 0, by decide, by decide, nxt.out, ⟨rfl, rfl, by simp [fl_zero]⟩, hB.out⟩
  · intro H
    clear cp hflt
    go_wp2_with fail
    refine wp_label ?_
    go_step
    go_step
    exact H (st + 1) _ _ ⟨T % 64, T / 64, by omega, by omega, hstart.out, ⟨rfl, rfl, by simp; exact hst3⟩, Below.refl _ _⟩
end
end Go.Proofs.YtpnkaamijjeckaaDoor
