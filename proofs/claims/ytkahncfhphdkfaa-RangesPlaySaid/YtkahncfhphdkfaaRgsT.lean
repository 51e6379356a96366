/- The document's own sets in memory: numbers come and go; the numbers up to one. -/
import Derived.Test.YtkahncfhphdkfaaRgsS
namespace Go.Proofs.Ytkahncfhphdkfaa
open Go.RowKit
set_option linter.unusedVariables false

def turnTo (on : Bool) (lo hi : Int) (l : List Row) : List Row := if max lo 1 ≤ min hi 1000000 then turnL on (max lo 1) (min hi 1000000) l else l
theorem turnTo_is {l : List Row} (h : Canon l) (on : Bool) (lo hi : Int) :
    Canon (turnTo on lo hi l) ∧ ∀ k, Inn (turnTo on lo hi l) k ↔ if on = true then Inn l k ∨ (max lo 1 ≤ k ∧ k ≤ min hi 1000000) else Inn l k ∧ ¬ (max lo 1 ≤ k ∧ k ≤ min hi 1000000) := by
  unfold turnTo
  by_cases hn : max lo 1 ≤ min hi 1000000
  · rw [if_pos hn]
    exact turn_is h on (by omega) hn (by omega)
  · rw [if_neg hn]
    have hem : ∀ k : Int, ¬ (max lo 1 ≤ k ∧ k ≤ min hi 1000000) := fun k => by omega
    refine ⟨h, fun k => ?_⟩
    cases on
    · simp only [Bool.false_eq_true, if_false]; exact ⟨fun h => ⟨h, hem k⟩, fun h => h.1⟩
    · simp only [if_true]; exact ⟨.inl, fun h => h.elim id fun h => absurd h (hem k)⟩

section
variable {B : Nat} {w0 w : World} {F S X : List (Nat × Obj)} {fb : Nat} {v : Value} {l : List Row}

def TurnR (B : Nat) (w0 : World) (fb : Nat) (l : List Row) (F : List (Nat × Obj)) (l' : List Row) (e : Ending) (w' : World) : Prop :=
  ∃ v' S', e = .returned (.int .i64 (max (cnt l' - cnt l) (cnt l - cnt l'))) ∧ RefAt B w0 w' fb v' l' F S'

theorem canon_turnTo {l : List Row} (h : Canon l) (on : Bool) (lo hi : Int) : Canon (turnTo on lo hi l) := (turnTo_is h on lo hi).1

set_option maxHeartbeats 4000000 in
set_option maxRecDepth 100000 in
theorem refTurn_any (on : Bool) (lo hi : Int) (h : RefAt B w0 w fb v l F S) (hc : Canon l) : Calls Try.prog 12 #[gptr fb, .int .i64 lo, .int .i64 hi, .bool on] w (TurnR B w0 fb l F (turnTo on lo hi l)) := by
  have hct := canon_turnTo hc on lo hi
  have hlen := hc.len_half
  obtain ⟨hb0, hb1⟩ := hc.cnt_bd
  obtain ⟨ht0, ht1⟩ := hct.cnt_bd
  have hlt := hct.len_half
  have fin0 : min hi 1000000 < max lo 1 → TurnR B w0 fb l F (turnTo on lo hi l) (.returned (.int .i64 0)) w := fun hn => by
    unfold turnTo
    rw [if_neg (by omega)]
    exact ⟨v, S, by rw [Int.sub_self]; rfl, h⟩
  have hcall : max lo 1 ≤ min hi 1000000 → ∀ q, Calls Try.prog 25 #[gptr fb, .int .i64 (max lo 1), .int .i64 (min hi 1000000), .bool on] (w.drewN q) (RowsR B w0 (((fb, .cells #[v] 29) :: F) ++ S) (turnTo on lo hi l)) := fun hn q => by
    unfold turnTo
    rw [if_pos hn]
    exact turned_any on (by omega) hn (by omega) (h.drewN q) hc.fits (by omega)
  have c1 := Lib.hid (refCount_any h.c0 h.read hc.fits (by omega))
  have ea : (lo ≤ 1 ∧ max lo 1 = 1) ∨ (¬ lo ≤ 1 ∧ max lo 1 = lo) := by omega
  have eb : ((1000000 : Int) ≤ hi ∧ min hi 1000000 = 1000000) ∨ (¬ (1000000 : Int) ≤ hi ∧ min hi 1000000 = hi) := by omega
  generalize hl' : turnTo on lo hi l = l' at *
  generalize hA : max lo 1 = a at *
  generalize hB : min hi 1000000 = b at *
  replace fin0 := Lib.hid fin0
  replace hcall := Lib.hid hcall
  replace hct := Lib.hid hct
  replace hlt := Lib.hid hlt
  clear hA hB hl' hc
  go_enter Try.func12, Try.ntmps12
  go_upto_region 1 with fail
  go_cut [9, 10] (fun v9 v10 wx => v9 = .int .i64 a ∧ v10 = .int .i64 b ∧ wx = w)
  case first =>
    clear fin0 hcall c1 hct hlt h
    obtain ⟨h1, rfl⟩ | ⟨h1, rfl⟩ := ea <;> obtain ⟨h2, rfl⟩ | ⟨h2, rfl⟩ := eb
    all_goals
      go_wp2_with fail
      all_goals
        go_meet
        case rel => exact ⟨by first | rfl | exact congrArg (Value.int .i64) (by omega), by first | rfl | exact congrArg (Value.int .i64) (by omega), rfl⟩
  case rest =>
    obtain ⟨rfl, rfl, rfl⟩ := hcut
    clear ea eb
    by_cases hn : b < a
    · have f := Lib.hid (fin0.out hn)
      clear fin0 hcall c1 h
      go_wp2_with fail
      go_ret
      exact f.out
    · have hn' : decide (b < a) = false := by simpa using hn
      have ct := Lib.hid (hcall.out (by omega))
      clear fin0 hcall h hn
      go_wp2_with fail
      refine c1.out.mono ?_
      rintro e w1 ⟨rfl, q, rfl⟩
      clear c1
      go_wp2_with fail
      refine (ct.out q).mono ?_
      rintro e w2 ⟨v', S', rfl, hs, hst⟩
      have k0 : w2.cell? ⟨fb, 0, none⟩ = some v := hst.cell (b := fb) (c := #[v]) (T := 29) (fr := (0, 0)) (by simp) rfl
      have kf : w2.frozen? ⟨fb, 0, none⟩ = false := St.soft hst (b := fb) (c := #[v]) (T := 29) (by simp) 0
      have hst2 := hst.sub (H' := ((fb, Obj.cells #[v] 29) :: F) ++ S') ((List.sublist_append_left _ _).append (List.Sublist.refl _))
      obtain ⟨a', cap', rfl, -, -, -⟩ := hs.form
      have h3 : RefAt B w0 (w2.setCell ⟨fb, 0, none⟩ (.slice a' l'.length cap')) fb (.slice a' l'.length cap') l' F S' := ⟨hs, hst2.set0 (C := F ++ S') 0 _⟩
      have c2a := Lib.hid (refCount_any h3.c0 h3.read hct.out.fits (by have := hlt.out; omega))
      have c2 := Lib.hid (fun q => refCount_any (h3.drewN q).c0 (h3.drewN q).read hct.out.fits (by have := hlt.out; omega))
      have h4 := Lib.hid (fun q => h3.drewN q)
      generalize l'.length = n' at *
      generalize hcl : cnt l = cl at *
      generalize hcl' : cnt l' = cl' at *
      replace hcl := Lib.hid hcl
      replace hcl' := Lib.hid hcl'
      clear hs hst hst2 h3 ct
      go_wp2_with fail
      refine c2a.out.mono ?_
      rintro e w3 ⟨rfl, q1, rfl⟩
      have d1 : cl' - cl ≤ 1000001 := by omega
      have d2 : -1000001 ≤ cl' - cl := by omega
      clear c2a
      go_wp2_with fail
      refine (c2.out _).mono ?_
      rintro e w4 ⟨rfl, q2, rfl⟩
      have fin : ∀ q, TurnR B w0 fb l F l' (.returned (.int .i64 (max (cl' - cl) (cl - cl')))) (World.drewN _ q) := fun q => ⟨_, S', by rw [← hcl.out, ← hcl'.out], h4.out q⟩
      rcases Decidable.em (cl - cl' ≤ cl' - cl) with hm | hm
      · rw [Int.max_eq_left hm] at fin
        replace fin := Lib.hid fin
        clear c2 h4
        go_wp2_with fail
        all_goals
          go_ret
          first | exact fin.out _ | (exfalso; omega)
      · rw [Int.max_eq_right (by omega)] at fin
        replace fin := Lib.hid fin
        clear c2 h4
        go_wp2_with fail
        all_goals
          go_ret
          first | exact fin.out _ | (exfalso; omega)
end
end Go.Proofs.Ytkahncfhphdkfaa
