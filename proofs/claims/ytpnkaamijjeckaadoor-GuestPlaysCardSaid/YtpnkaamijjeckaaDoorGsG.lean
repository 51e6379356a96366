/- Guests: one goes. -/
import Derived.Test.YtpnkaamijjeckaaDoorGsF
namespace Go.Proofs.YtpnkaamijjeckaaDoor
open Go.RowKit
set_option linter.unusedVariables false
set_option linter.unusedSectionVars false
set_option maxRecDepth 100000

section
variable {B : Nat} {w0 w w' : World} {gb b c T k g off n cap i j : Nat} {M L : List Gst} {a : Option Addr} {v : Value} {S R F F' X : List (Nat × Obj)} {x y : Gst}
/-- The row cut, at the store behind the call. -/
theorem GuAt.cut (h : GuAt B w0 w gb v M T S F) (hi : i < M.length) (hn : M.length ≤ 100000) :
    Calls Tryd.prog 24 #[v, .int .i64 i, .int .i64 ((i : Int) + 1)] w fun e w' => ∃ a c S', e = .returned (.slice a (M.eraseIdx i).length c) ∧ w'.cell? ⟨gb, 0, none⟩ = some v ∧ w'.frozen? ⟨gb, 0, none⟩ = false ∧
      GuAt B w0 (w'.setCell ⟨gb, 0, none⟩ (.slice a (M.eraseIdx i).length c)) gb (.slice a (M.eraseIdx i).length c) (M.eraseIdx i) T S' F := by
  have hp : ∀ S : List (Nat × Obj), (gb, gusO v (seatV (T % 64) (T / 64))) :: (F ++ S) = ((gb, gusO v (seatV (T % 64) (T / 64))) :: F) ++ S := fun S => rfl
  refine (gdelete_any h.sl (hp S ▸ h.st) hi hn).mono ?_
  rintro e w' ⟨a, c, S', rfl, h1, h2⟩
  exact ⟨a, c, S', rfl, h2.cell (b := gb) (i := 0) List.mem_cons_self rfl, St.soft (b := gb) h2 List.mem_cons_self 0, h1, St.set0 h2 0 _⟩

set_option maxHeartbeats 4000000 in
theorem gu_drop (h : GuIs B w0 w gb M T F) (p q : Int) (t : List UInt8) {N : List Gst} {T' : Nat} {ok : Bool} (hok : (idxG M p q t).isSome = ok) (hN : dropM M p q t = N) (hT' : dropT M T p q t = T') :
    Calls Tryd.prog 11 #[gup gb, .int .i64 p, .int .i64 q, tx t] w fun e w' => e = .returned (.bool ok) ∧ GuIs B w0 w' gb N T' F := by
  have few := h.few
  obtain ⟨a, c, hr⟩ := h.rdg
  have cf := Lib.hid (find_any hr (by omega) p q t rfl)
  unfold dropM at hN
  unfold dropT at hT'
  cases hi : idxG M p q t with
  | none =>
    rw [hi] at cf hok hN hT'
    obtain rfl : ok = false := by rw [← hok]; rfl
    simp only at hN hT'
    subst hN hT'
    replace h := Lib.hid h
    simp only [idxV, Option.isSome_none, Option.getD_none] at cf
    clear hr hi hok
    go_enter Tryd.func11, Tryd.ntmps11
    go_wp2_with fail
    refine cf.out.mono ?_
    rintro e w2 ⟨rfl, rfl⟩
    go_wp2_with fail
    go_ret
    exact ⟨rfl, h.out⟩
  | some i =>
    rw [hi] at cf hok hN hT'
    obtain rfl : ok = true := by rw [← hok]; rfl
    simp only at hN hT'
    subst hN
    obtain ⟨hlt, -⟩ := idx_is hi
    simp only [idxV, Option.isSome_some, Option.getD_some] at cf
    obtain ⟨hTab, hokT, -, v, S, h⟩ := h
    have c0 := h.c0
    have cd := Lib.hid (h.cut hlt (by omega))
    have hTb : T ≤ 60000 := by rcases hokT with h | rfl <;> omega
    have el : (M.eraseIdx i).length = M.length - 1 := by rw [List.length_eraseIdx, if_pos hlt]
    have crk : Hid (∀ w, Calls Tryd.prog 25 #[seatV (T % 64) (T / 64)] w fun e w' => e = .returned (.int .i64 (T : Int)) ∧ w' = w) := Lib.hid fun w => by
      have := rank_any (T % 64) (T / 64) (Nat.mod_lt _ (by decide)) (by omega) w
      rw [show 64 * (T / 64) + T % 64 = T by omega] at this
      exact this
    have fin : Hid (∀ W v' S', GuAt B w0 W gb v' (M.eraseIdx i) T' S' F → GuIs B w0 W gb (M.eraseIdx i) T' F) := Lib.hid fun W v' S' h' => ⟨hTab, by rw [el, ← hT']; exact turn_ok _ _, by rw [el]; omega, v', S', h'⟩
    have hel : (M.eraseIdx i).length ≤ 100000 := by rw [el]; omega
    have ht2 : Hid (turnG (M.eraseIdx i).length (if i < T then T - 1 else T) = T') := Lib.hid (by rw [el]; exact hT')
    obtain ⟨a0, c0', rfl⟩ := h.form
    have hw1 : IntKind.i64.wrap ((i : Int) + 1) = (i : Int) + 1 := IntWalk.i64_in _ (by omega)
    replace hw1 := Lib.hid hw1
    have hi1 : (i : Int) < 60000 := by omega
    have hi0 : (0 : Int) ≤ i := by omega
    have hT0 : (0 : Int) ≤ T := by omega
    have hT1 : (T : Int) ≤ 60000 := by omega
    generalize M.eraseIdx i = N at *
    replace hel := Lib.hid hel
    clear hr hi hok h hTab hokT el hT' hlt few
    go_enter Tryd.func11, Tryd.ntmps11
    go_wp2_with fail
    refine cf.out.mono ?_
    rintro e w2 ⟨rfl, rfl⟩
    go_wp2_with fail
    refine cd.out.mono ?_
    rintro e w3 ⟨a1, c1, S1, rfl, e0, f0, h3⟩
    have d1 := h3.c1
    have ct := Lib.hid (fun k hk => turn_any h3 hel.out k hk)
    obtain ⟨W3, hW3⟩ : ∃ W, W = w3.setCell ⟨gb, 0, none⟩ (.slice a1 N.length c1) := ⟨_, rfl⟩
    rw [← hW3] at d1 ct
    clear h3 cd cf
    go_upto_region 5 with fail
    rw [← hW3]
    clear hW3 e0 f0 c0
    go_wp2_with fail
    refine (crk.out W3).mono ?_
    rintro e w4 ⟨rfl, rfl⟩
    by_cases hd : i < T
    · have hd0 : (i : Int) < T := by omega
      rw [if_pos hd] at ht2
      have ct2 := ct.out (T - 1) (by omega)
      rw [show ((T - 1 : Nat) : Int) = (T : Int) - 1 by omega, ht2.out] at ct2
      replace ct2 := Lib.hid ct2
      clear ct ht2
      go_wp2_with fail
      refine ct2.out.mono ?_
      rintro e w5 ⟨rfl, h5⟩
      have cg := Lib.hid (ggive_any h5 hel.out)
      clear h5 ct2 d1
      go_wp2_with fail
      refine cg.out.mono ?_
      rintro e w6 ⟨rfl, v6, S6, h6⟩
      replace h6 := Lib.hid h6
      clear cg
      go_wp2_with fail
      go_ret
      exact ⟨rfl, fin.out _ _ _ h6.out⟩
    · have hd0 : ¬ (i : Int) < T := by omega
      rw [if_neg hd] at ht2
      have ct2 := ct.out T (by omega)
      rw [ht2.out] at ct2
      replace ct2 := Lib.hid ct2
      clear ct ht2
      go_wp2_with fail
      refine ct2.out.mono ?_
      rintro e w5 ⟨rfl, h5⟩
      have cg := Lib.hid (ggive_any h5 hel.out)
      clear h5 ct2 d1
      go_wp2_with fail
      refine cg.out.mono ?_
      rintro e w6 ⟨rfl, v6, S6, h6⟩
      replace h6 := Lib.hid h6
      clear cg
      go_wp2_with fail
      go_ret
      exact ⟨rfl, fin.out _ _ _ h6.out⟩
end
end Go.Proofs.YtpnkaamijjeckaaDoor
