/- The document's own sets in memory: the numbers up to one. -/
import Derived.Test.YtkahncfhphdkfaaRgsT
namespace Go.Proofs.Ytkahncfhphdkfaa
open Go.RowKit
set_option linter.unusedVariables false

def upG (P : List Int) (n : Int) : List Int := (P.filter fun x => decide (x ≤ n)).take 1000
theorem upG_len (P : List Int) (n : Int) : (upG P n).length ≤ 1000 := by simp [upG]; omega
theorem upG_push {P : List Int} {n x : Int} (hx : x ≤ n) (h : (upG P n).length < 1000) : upG (P ++ [x]) n = upG P n ++ [x] := by
  unfold upG at h ⊢
  have h1 : (P.filter fun x => decide (x ≤ n)).length < 1000 := by rw [List.length_take] at h; omega
  rw [List.filter_append, List.take_of_length_le (l := P.filter _) (by omega)]
  have h2 : [x].filter (fun x => decide (x ≤ n)) = [x] := by simp [hx]
  rw [h2]
  exact List.take_of_length_le (by rw [List.length_append]; simp; omega)
theorem upG_over {P Q : List Int} {n : Int} (h : ∀ y ∈ Q, n < y) : upG (P ++ Q) n = upG P n := by
  unfold upG
  have h2 : Q.filter (fun x => decide (x ≤ n)) = [] := List.filter_eq_nil_iff.2 fun x hx => by have := h x hx; simp; omega
  rw [List.filter_append, h2, List.append_nil]
theorem upG_full {P Q : List Int} {n : Int} (h : (upG P n).length = 1000) : upG (P ++ Q) n = upG P n := by
  unfold upG at h ⊢
  rw [List.filter_append]
  rw [List.length_take] at h
  exact List.take_append_of_le_length (by omega)

section
variable {B : Nat} {w0 w : World} {F S X : List (Nat × Obj)} {fb : Nat} {v : Value} {l : List Row}

def UpRR (B : Nat) (w0 : World) (X : List (Nat × Obj)) (T : List Int) (e : Ending) (w' : World) : Prop :=
  ∃ v' S', e = .returned v' ∧ SlIs 3 1 v' T.length (nms T) S' ∧ St B w0 w' (X ++ S')

set_option maxHeartbeats 4000000 in
set_option maxRecDepth 100000 in
theorem refUpto_any (h : RefAt B w0 w fb v l F S) (hf : Fit l) (hl : l.length ≤ 1000000) (n : Int) : Calls Try.prog 21 #[gptr fb, .int .i64 n] w (UpRR B w0 (((fb, .cells #[v] 29) :: F) ++ S) (uptoL l n)) := by
  obtain ⟨a, cap, rfl, -⟩ := h.read
  have hcell : ∀ W Ft, St B w0 W ((((fb, .cells #[.slice a l.length cap] 29) :: F) ++ S) ++ Ft) → W.cell? ⟨fb, 0, none⟩ = some (.slice a l.length cap) ∧ ∀ j r, l[j]? = some r → ∃ b off, a = some ⟨b, off, none⟩ ∧ W.cell? ⟨b, off + j * 2, none⟩ = some (.int .i64 r.1) ∧ W.cell? ⟨b, off + j * 2 + 1, none⟩ = some (.int .i64 r.2) := fun W Ft h1 => by
    refine ⟨h1.cell List.mem_cons_self rfl, fun j r hr => ?_⟩
    obtain ⟨a', cap', e, h2⟩ := h.sl.readRows (h1.sub (List.sublist_append_left _ _))
    cases e
    exact h2 j r hr
  have hst := Lib.hid h.st
  generalize hX : ((fb, Obj.cells #[.slice a l.length cap] 29 (0, 0)) :: F) ++ S = X at *
  replace hcell := Lib.hid hcell
  replace hf := Lib.hid hf
  clear h hX
  go_enter Try.func21, Try.ntmps21
  go_wp2_with fail
  go_loopg [5, 6] l.length (fun g v5 v6 wr => ∃ (j cap' : Nat) (a' : Option Addr) (T : List Int) (Ft : List (Nat × Obj)), v6 = .int .i64 j ∧ v5 = .slice a' T.length cap' ∧ j + g = l.length ∧ Hid (T = upG (flat (l.take j)) n) ∧ SlIs 3 1 (.slice a' T.length cap') T.length (nms T) Ft ∧ St B w0 wr (X ++ Ft))
  case atStart => exact ⟨0, 0, none, [], [], rfl, rfl, by omega, Lib.hid (by simp [flat, upG]), SlIs.nil, by simpa using hst.out⟩
  case round =>
    obtain ⟨j, cap', a', T, Ft, rfl, rfl, hj, hT, h1, h2⟩ := hrel
    obtain ⟨c0, hcr⟩ := hcell.out _ _ h2
    by_cases hlt : j < l.length
    · have hr : l[j]? = some l[j] := List.getElem?_eq_getElem hlt
      have hfit := hf.out l[j] (List.getElem_mem _)
      generalize l[j] = r at hr hfit
      obtain ⟨r1, r2⟩ := r
      obtain ⟨b, off, rfl, k1, k2⟩ := hcr j _ hr
      simp only at k1 k2 hfit
      have hj1 : (j : Int) < l.length := by omega
      have hj0 : (0 : Int) ≤ j := by omega
      have hrr := Lib.hid hr
      obtain ⟨f1, f2, f3⟩ := hfit
      replace h1 := Lib.hid h1
      replace h2 := Lib.hid h2
      clear hr hcr
      go_wp2_with fail
      clear k1 k2 c0
      go_loopg [5, 7] (r2 + 1 - r1).toNat (fun g v5 v7 wi => ∃ (k cap' : Nat) (a' : Option Addr) (T : List Int) (Ft : List (Nat × Obj)), v7 = .int .i64 (r1 + k) ∧ v5 = .slice a' T.length cap' ∧ (k : Int) + g = r2 + 1 - r1 ∧ Hid (T = upG (flat (l.take j) ++ (nums (r1, r2)).take k) n) ∧
        SlIs 3 1 (.slice a' T.length cap') T.length (nms T) Ft ∧ St B w0 wi (X ++ Ft))
      case atStart => exact ⟨0, cap', a', T, Ft, by simp, rfl, by omega, Lib.hid (by rw [hT.out]; simp), h1.out, h2.out⟩
      case round =>
        clear hT h1 h2
        obtain ⟨k, cap', a', T, Ft, rfl, rfl, hk, hT, h1, h2⟩ := hrel
        obtain ⟨c0, hcr⟩ := hcell.out _ _ h2
        obtain ⟨b', off', e, k1, k2⟩ := hcr j _ hrr.out
        cases e
        simp only at k1 k2
        clear hcr
        have hTl : T.length ≤ 1000 := by rw [hT.out]; exact upG_len _ _
        have hdone : T = upG (flat (l.take j) ++ nums (r1, r2)) n → T = upG (flat (l.take (j + 1))) n := fun e => by
          rw [List.take_add_one, hrr.out, flat_append]
          exact e.trans (by simp [flat])
        have hsp : nums (r1, r2) = (nums (r1, r2)).take k ++ (nums (r1, r2)).drop k := (List.take_append_drop _ _).symm
        by_cases hle : r1 + (k : Int) ≤ r2
        · by_cases hxn : r1 + (k : Int) ≤ n
          · by_cases hth : T.length < 1000
            · as_aux_lemma =>
                obtain ⟨a2, cap2, w2, F2, hr2, h3, h4⟩ := nms_push h1 h2 (r1 + (k : Int)) (by omega)
                have hT2 : T ++ [r1 + (k : Int)] = upG (flat (l.take j) ++ (nums (r1, r2)).take (k + 1)) n := by
                  rw [List.take_add_one, nums_at (r := (r1, r2)) (k := k) (by show (k : Int) < r2 + 1 - r1; omega), ← List.append_assoc]
                  show _ = upG (_ ++ [r1 + (k : Int)]) n
                  rw [upG_push hxn (by rw [← hT.out]; exact hth), ← hT.out]
                have hlen2 : Hid ((T ++ [r1 + (k : Int)]).length = T.length + 1) := Lib.hid (by simp)
                have hth3 : (T.length : Int) < 1000 := by omega
                replace hT2 := Lib.hid hT2
                replace h3 := Lib.hid h3
                replace h4 := Lib.hid h4
                clear h1 h2 hdone hsp hT hth
                go_wp2_with (at_builtin; refine wpList_append_go rfl (.tmp 47) (.tmp 49) 42 42 rfl _ _ rfl rfl hr2 ?_)
                go_roundg (r2 + 1 - r1 - (k + 1)).toNat
                case measure => omega
                case rel => exact ⟨k + 1, cap2, a2, _, F2, by go_num, by rw [hlen2.out], by omega, hT2, h3.out, h4.out⟩
            · as_aux_lemma =>
                have hT2 := hdone (by rw [hsp, ← List.append_assoc, upG_full (by rw [← hT.out]; omega), ← hT.out])
                have hth' : decide ((T.length : Int) < 1000) = false := by simp; omega
                replace hT2 := Lib.hid hT2
                replace h1 := Lib.hid h1
                replace h2 := Lib.hid h2
                clear hdone hsp hth hT
                go_wp2_with fail
                go_roundg (l.length - (j + 1))
                case measure => omega
                case rel => exact ⟨j + 1, cap', a', T, Ft, by go_num, rfl, by omega, hT2, h1.out, h2.out⟩
          · as_aux_lemma =>
              have hT2 := hdone (by
                rw [hsp, ← List.append_assoc, upG_over (fun y hy => by have := (mem_nums_drop hy).1; simp only at this; omega), ← hT.out])
              have hxn' : decide (r1 + (k : Int) ≤ n) = false := by simpa using hxn
              replace hT2 := Lib.hid hT2
              replace h1 := Lib.hid h1
              replace h2 := Lib.hid h2
              clear hdone hsp hxn hT
              go_wp2_with fail
              go_roundg (l.length - (j + 1))
              case measure => omega
              case rel => exact ⟨j + 1, cap', a', T, Ft, by go_num, rfl, by omega, hT2, h1.out, h2.out⟩
        · as_aux_lemma =>
            have hT2 := hdone (by
              have e1 : (nums (r1, r2)).take k = nums (r1, r2) := List.take_of_length_le (by rw [nums_len]; show (r2 + 1 - r1).toNat ≤ k; omega)
              rw [hT.out, e1])
            have hle' : decide (r1 + (k : Int) ≤ r2) = false := by simpa using hle
            replace hT2 := Lib.hid hT2
            replace h1 := Lib.hid h1
            replace h2 := Lib.hid h2
            clear hdone hsp hle hT
            go_wp2_with fail
            go_roundg (l.length - (j + 1))
            case measure => omega
            case rel => exact ⟨j + 1, cap', a', T, Ft, by go_num, rfl, by omega, hT2, h1.out, h2.out⟩
    · obtain rfl : j = l.length := by omega
      have fin : UpRR B w0 X (uptoL l n) (.returned (.slice a' T.length cap')) wr := by
        have h3 := hT.out
        rw [List.take_length] at h3
        have h4 : T = uptoL l n := h3
        subst h4
        exact ⟨_, Ft, rfl, h1, h2⟩
      replace fin := Lib.hid fin
      generalize T.length = tl at *
      clear h1 h2 hcr hT
      go_wp2_with fail
      go_ret
      exact fin.out
end
end Go.Proofs.Ytkahncfhphdkfaa
