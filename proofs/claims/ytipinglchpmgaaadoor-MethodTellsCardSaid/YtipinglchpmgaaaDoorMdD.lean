/- Methods in memory; few; Is, by the program and by the document's own. -/
import Derived.Test.YtipinglchpmgaaaDoorMdC
namespace Go.Proofs.YtipinglchpmgaaaDoor
open Go.RowKit
set_option linter.unusedVariables false

/-- In w the slice reads as these texts, wherever they lie. -/
def TxtS (w : World) (v : Value) (L : List (List UInt8)) : Prop :=
  ∃ a cap, v = .slice a L.length cap ∧ L.length ≤ cap ∧ cap ≤ maxLen ∧ ∀ (i : Nat) x, L[i]? = some x → x.length ≤ maxLen ∧ ∃ b off, a = some ⟨b, off, none⟩ ∧ w.cell? ⟨b, off + i, none⟩ = some (tx x)
def NumS (w : World) (v : Value) (N : List Int) : Prop :=
  ∃ a cap, v = .slice a N.length cap ∧ N.length ≤ cap ∧ cap ≤ maxLen ∧ ∀ (i : Nat) x, N[i]? = some x → ∃ b off, a = some ⟨b, off, none⟩ ∧ w.cell? ⟨b, off + i, none⟩ = some (.int .i64 x)
/-- In w the struct reads as this method. -/
def RdM (w : World) (v : Value) (m : Meth) : Prop := ∃ s n, v = .agg #[.int .i64 m.kind, s, n, .int .i64 m.bits] ∧ TxtS w s m.S ∧ NumS w n m.N
abbrev mO (k : Int) (s n : Value) (x : Int) : Obj := .cells #[.int .i64 k, s, n, .int .i64 x] 25

section
variable {w w' : World} {v : Value} {L : List (List UInt8)} {N : List Int} {m : Meth}
theorem TxtS.below (h : TxtS w v L) (hb : Below w.heap.size w w') : TxtS w' v L := by
  obtain ⟨a, cap, e, h1, h2, h3⟩ := h
  refine ⟨a, cap, e, h1, h2, fun i x hx => ?_⟩
  obtain ⟨h4, b, off, e', hc⟩ := h3 i x hx
  exact ⟨h4, b, off, e', (hb.cell (p := ⟨b, off + i, none⟩) (World.block_lt_of_cell? w _ hc)).trans hc⟩
theorem NumS.below (h : NumS w v N) (hb : Below w.heap.size w w') : NumS w' v N := by
  obtain ⟨a, cap, e, h1, h2, h3⟩ := h
  refine ⟨a, cap, e, h1, h2, fun i x hx => ?_⟩
  obtain ⟨b, off, e', hc⟩ := h3 i x hx
  exact ⟨b, off, e', (hb.cell (p := ⟨b, off + i, none⟩) (World.block_lt_of_cell? w _ hc)).trans hc⟩
theorem RdM.below (h : RdM w v m) (hb : Below w.heap.size w w') : RdM w' v m := by
  obtain ⟨s, n, e, h1, h2⟩ := h
  exact ⟨s, n, e, h1.below hb, h2.below hb⟩
theorem new_below (w : World) (o : Obj) : Below w.heap.size w (w.alloc o) := (Below.refl _ w).alloc (Nat.le_refl _) o
end

def few1 (S : List (List UInt8)) : Bool := S.all fun t => decide (t.length ≤ 300)
def fewM (m : Meth) : Bool := few1 m.S && (decide (m.S.length ≤ 8) && decide (m.N.length ≤ 8))
theorem few1_step {S : List (List UInt8)} {p : Nat} {x : List UInt8} (h : S[p]? = some x) : few1 (S.drop p) = (decide (x.length ≤ 300) && few1 (S.drop (p + 1))) := by
  have hi := (List.getElem?_eq_some_iff.1 h).1
  rw [List.drop_eq_getElem_cons hi]
  rw [List.getElem?_eq_getElem hi, Option.some.injEq] at h
  rw [h]
  rfl
theorem okT_step {S : List (List UInt8)} {p : Nat} {x : List UInt8} (h : S[p]? = some x) : okT (S.drop p) = (decide (x.length ≤ 255) && okT (S.drop (p + 1))) := by
  have hi := (List.getElem?_eq_some_iff.1 h).1
  rw [List.drop_eq_getElem_cons hi]
  rw [List.getElem?_eq_getElem hi, Option.some.injEq] at h
  rw [h]
  rfl
theorem okN_step {N : List Int} {p : Nat} {x : Int} (h : N[p]? = some x) : okN (N.drop p) = (okN1 x && okN (N.drop (p + 1))) := by
  have hi := (List.getElem?_eq_some_iff.1 h).1
  rw [List.drop_eq_getElem_cons hi]
  rw [List.getElem?_eq_getElem hi, Option.some.injEq] at h
  rw [h]
  rfl

set_option maxHeartbeats 1000000 in
theorem few_any {m : Meth} {v : Value} {w : World} (h : RdM w v m) : Calls Tryd.prog 9 #[v] w fun e w' => e = .returned (.bool (fewM m)) ∧ Below w.heap.size w w' := by
  obtain ⟨s, n, rfl, ⟨a, cap, rfl, hl, hm, hx⟩, ⟨a2, cap2, rfl, hl2, hm2, -⟩⟩ := h
  obtain ⟨k, S, N, x⟩ := m
  simp only at *
  have hb := Lib.hid (new_below w (mO k (.slice a S.length cap) (.slice a2 N.length cap2) x))
  have hS : Hid (fewM ⟨k, S, N, x⟩ = (few1 S && (decide (S.length ≤ 8) && decide (N.length ≤ 8)))) := Lib.hid rfl
  generalize fewM ⟨k, S, N, x⟩ = r at *
  have hx' : Hid (∀ (i : Nat) y, S[i]? = some y → y.length ≤ maxLen ∧ ∃ b off, a = some ⟨b, off, none⟩ ∧ (w.alloc (mO k (.slice a S.length cap) (.slice a2 N.length cap2) x)).cell? ⟨b, off + i, none⟩ = some (tx y)) := Lib.hid fun i y hi => by
    obtain ⟨h1, b, off, e, hc⟩ := hx i y hi
    exact ⟨h1, b, off, e, (hb.out.cell (p := ⟨b, off + i, none⟩) (World.block_lt_of_cell? w _ hc)).trans hc⟩
  clear hx
  have hSm : S.length ≤ maxLen := by omega
  simp only [maxLen] at hSm
  go_enter Tryd.func9, Tryd.ntmps9
  go_wp2_with fail
  go_loopg [3] S.length (fun g v3 wr => ∃ p : Nat, v3 = .int .i64 p ∧ p + g = S.length ∧ wr = w.alloc (mO k (.slice a S.length cap) (.slice a2 N.length cap2) x) ∧ Hid (few1 (S.drop p) = few1 S))
  case atStart => exact ⟨0, rfl, by omega, rfl, Lib.hid rfl⟩
  case round =>
    obtain ⟨p, rfl, hp, rfl, hf⟩ := hrel
    by_cases hlt : p < S.length
    · have hy : S[p]? = some S[p] := List.getElem?_eq_getElem hlt
      generalize S[p] = y at hy
      obtain ⟨hym, b, off, rfl, hc⟩ := hx'.out p y hy
      have hst := few1_step hy
      have hp0 : (0 : Int) ≤ p := by omega
      have hp1 : (p : Int) < S.length := by omega
      by_cases hbig : y.length ≤ 300
      · have hbig' : (y.length : Int) ≤ 300 := by omega
        rw [hf.out, decide_eq_true hbig, Bool.true_and] at hst
        have hf' := Lib.hid hst.symm
        clear hst hf hy
        go_wp2_with fail
        go_roundg (S.length - (p + 1))
        case measure => omega
        case rel => exact ⟨p + 1, by go_num, by omega, rfl, hf'⟩
      · have hbig' : ¬ (y.length : Int) ≤ 300 := by omega
        rw [hf.out, decide_eq_false hbig, Bool.false_and] at hst
        rw [hst, Bool.false_and] at hS
        clear hst hf hy
        go_wp2_with fail
        go_ret
        exact ⟨ret_bool hS.out.symm, hb.out⟩
    · have e0 : few1 (S.drop p) = true := by rw [List.drop_of_length_le (by omega)]; rfl
      rw [← hf.out, e0, Bool.true_and] at hS
      obtain rfl : p = S.length := by omega
      clear e0 hf hx'
      by_cases h8 : S.length ≤ 8
      · have h8' : (S.length : Int) ≤ 8 := by omega
        rw [decide_eq_true h8, Bool.true_and] at hS
        go_wp2_with fail
        go_ret
        exact ⟨ret_bool (by rw [hS.out]; simp; omega), hb.out⟩
      · have h8' : ¬ (S.length : Int) ≤ 8 := by omega
        rw [decide_eq_false h8, Bool.false_and] at hS
        go_wp2_with fail
        go_ret
        exact ⟨ret_bool hS.out.symm, hb.out⟩

set_option maxHeartbeats 2000000 in
theorem is_any {m : Meth} {v : Value} {w : World} (hT : Kinds w.heap.size w) (h : RdM w v m) : Calls Tryd.prog 14 #[v] w fun e w' => e = .returned (.bool (isM m)) ∧ Below w.heap.size w w' := by
  obtain ⟨s, n, rfl, ⟨a, cap, rfl, hl, hm, hx⟩, ⟨a2, cap2, rfl, hl2, hm2, hx2⟩⟩ := h
  obtain ⟨k, S, N, x⟩ := m
  simp only at *
  have hb := Lib.hid (new_below w (mO k (.slice a S.length cap) (.slice a2 N.length cap2) x))
  have hR : Hid (isM ⟨k, S, N, x⟩ = (isKd k && ((S.length == shT k) && ((N.length == shN k) && ((shB k || x == 0) && (okT S && (okN N && okB x))))))) := Lib.hid rfl
  generalize isM ⟨k, S, N, x⟩ = r at *
  have c1 := Lib.hid (shape_any k (w.alloc (mO k (.slice a S.length cap) (.slice a2 N.length cap2) x)) (hT.below hb.out))
  have hx' : Hid (∀ (i : Nat) y, S[i]? = some y → y.length ≤ maxLen ∧ ∃ b off, a = some ⟨b, off, none⟩ ∧ (w.alloc (mO k (.slice a S.length cap) (.slice a2 N.length cap2) x)).cell? ⟨b, off + i, none⟩ = some (tx y)) := Lib.hid fun i y hi => by
    obtain ⟨h1, b, off, e, hc⟩ := hx i y hi
    exact ⟨h1, b, off, e, (hb.out.cell (p := ⟨b, off + i, none⟩) (World.block_lt_of_cell? w _ hc)).trans hc⟩
  have hx2' : Hid (∀ (i : Nat) y, N[i]? = some y → ∃ b off, a2 = some ⟨b, off, none⟩ ∧ (w.alloc (mO k (.slice a S.length cap) (.slice a2 N.length cap2) x)).cell? ⟨b, off + i, none⟩ = some (.int .i64 y)) := Lib.hid fun i y hi => by
    obtain ⟨b, off, e, hc⟩ := hx2 i y hi
    exact ⟨b, off, e, (hb.out.cell (p := ⟨b, off + i, none⟩) (World.block_lt_of_cell? w _ hc)).trans hc⟩
  clear hx hx2
  have hSm : S.length ≤ maxLen := by omega
  have hNm : N.length ≤ maxLen := by omega
  simp only [maxLen] at hSm hNm
  have c4 := Lib.hid fits4_any
  have c5 := Lib.hid (fits1_any x)
  generalize shT k = T at *
  generalize shN k = M at *
  generalize shB k = D at *
  generalize isKd k = K at *
  cases K with
  | false =>
    rw [Bool.false_and] at hR
    go_enter Tryd.func14, Tryd.ntmps14
    go_wp2_with fail
    refine c1.out.mono ?_
    rintro e w1 ⟨rfl, rfl⟩
    go_wp2_with fail
    go_ret
    exact ⟨ret_bool hR.out.symm, hb.out⟩
  | true =>
  rw [Bool.true_and] at hR
  by_cases h1 : S.length = T
  · by_cases h2 : N.length = M
    · have h3 : (D = true) ∨ (D = false ∧ x ≠ 0) ∨ (D = false ∧ x = 0) := by
        cases D
        · by_cases h : x = 0
          · exact .inr (.inr ⟨rfl, h⟩)
          · exact .inr (.inl ⟨rfl, h⟩)
        · exact .inl rfl
      subst h1 h2
      rw [beq_self_eq_true, beq_self_eq_true, Bool.true_and, Bool.true_and] at hR
      by_cases hgo : D = false ∧ x ≠ 0
      · obtain ⟨rfl, hx0⟩ := hgo
        have hx1 : (x == 0) = false := by simpa using hx0
        rw [hx1, Bool.false_or, Bool.false_and] at hR
        go_enter Tryd.func14, Tryd.ntmps14
        go_wp2_with fail
        refine c1.out.mono ?_
        rintro e w1 ⟨rfl, rfl⟩
        go_wp2_with fail
        go_ret
        exact ⟨ret_bool hR.out.symm, hb.out⟩
      · have hR2 : Hid (r = (okT S && (okN N && okB x))) := by
          refine Lib.hid ?_
          rw [hR.out]
          cases D
          · have : x = 0 := by
              rcases Classical.em (x = 0) with h | h
              · exact h
              · exact (hgo ⟨rfl, h⟩).elim
            rw [this]
            rfl
          · rfl
        have hx3 : D = true ∨ (D = false ∧ x = 0) := by
          cases D
          · exact .inr ⟨rfl, by rcases Classical.em (x = 0) with h | h
                                · exact h
                                · exact (hgo ⟨rfl, h⟩).elim⟩
          · exact .inl rfl
        clear hR hgo h3
        go_enter Tryd.func14, Tryd.ntmps14
        go_wp2_with fail
        refine c1.out.mono ?_
        rintro e w1 ⟨rfl, rfl⟩
        rcases hx3 with rfl | ⟨rfl, rfl⟩
        all_goals
          go_wp2_with fail
          go_loopg [8, 47] S.length (fun g v8 v47 wr => ∃ p : Nat, v47 = .int .i64 p ∧ p + g = S.length ∧ wr = w.alloc (mO k (.slice a S.length cap) (.slice a2 N.length cap2) _) ∧ Hid (okT (S.drop p) = okT S))
          case atStart => exact ⟨0, rfl, by omega, rfl, Lib.hid rfl⟩
          case round =>
            obtain ⟨p, rfl, hp, rfl, hf⟩ := hrel
            by_cases hlt : p < S.length
            · have hy : S[p]? = some S[p] := List.getElem?_eq_getElem hlt
              generalize S[p] = y at hy
              obtain ⟨hym, b, off, rfl, hc⟩ := hx'.out p y hy
              have hst := okT_step hy
              have hp0 : (0 : Int) ≤ p := by omega
              have hp1 : (p : Int) < S.length := by omega
              by_cases hbig : y.length ≤ 255
              · have hbig' : (y.length : Int) ≤ 255 := by omega
                rw [hf.out, decide_eq_true hbig, Bool.true_and] at hst
                have hf' := Lib.hid hst.symm
                clear hst hf hy
                go_wp2_with fail
                go_roundg (S.length - (p + 1))
                case measure => omega
                case rel => exact ⟨p + 1, by go_num, by omega, rfl, hf'⟩
              · have hbig' : ¬ (y.length : Int) ≤ 255 := by omega
                rw [hf.out, decide_eq_false hbig, Bool.false_and] at hst
                rw [hst, Bool.false_and] at hR2
                clear hst hf hy
                go_wp2_with fail
                go_ret
                exact ⟨ret_bool hR2.out.symm, hb.out⟩
            · have e0 : okT (S.drop p) = true := by rw [List.drop_of_length_le (by omega)]; rfl
              rw [← hf.out, e0, Bool.true_and] at hR2
              obtain rfl : p = S.length := by omega
              clear e0 hf hx' c1
              go_wp2_with fail
              go_loopg [10, 58] N.length (fun g v10 v58 wr => ∃ p : Nat, v58 = .int .i64 p ∧ p + g = N.length ∧ wr = w.alloc (mO k (.slice a S.length cap) (.slice a2 N.length cap2) _) ∧ Hid (okN (N.drop p) = okN N))
              case atStart => exact ⟨0, rfl, by omega, rfl, Lib.hid rfl⟩
              case round =>
                obtain ⟨p, rfl, hp, rfl, hf⟩ := hrel
                by_cases hlt : p < N.length
                · have hy : N[p]? = some N[p] := List.getElem?_eq_getElem hlt
                  generalize N[p] = y at hy
                  obtain ⟨b, off, rfl, hc⟩ := hx2'.out p y hy
                  have hst := okN_step hy
                  have hp0 : (0 : Int) ≤ p := by omega
                  have hp1 : (p : Int) < N.length := by omega
                  have c6 := Lib.hid (c4.out y)
                  generalize okN1 y = o at *
                  cases o with
                  | true =>
                    rw [hf.out, Bool.true_and] at hst
                    have hf' := Lib.hid hst.symm
                    clear hst hf hy
                    go_wp2_with fail
                    refine (c6.out _).mono ?_
                    rintro e w1 ⟨rfl, rfl⟩
                    go_wp2_with fail
                    go_roundg (N.length - (p + 1))
                    case measure => omega
                    case rel => exact ⟨p + 1, by go_num, by omega, rfl, hf'⟩
                  | false =>
                    rw [hf.out, Bool.false_and] at hst
                    rw [hst, Bool.false_and] at hR2
                    clear hst hf hy
                    go_wp2_with fail
                    refine (c6.out _).mono ?_
                    rintro e w1 ⟨rfl, rfl⟩
                    go_wp2_with fail
                    go_ret
                    exact ⟨ret_bool hR2.out.symm, hb.out⟩
                · have e0 : okN (N.drop p) = true := by rw [List.drop_of_length_le (by omega)]; rfl
                  rw [← hf.out, e0, Bool.true_and] at hR2
                  obtain rfl : p = N.length := by omega
                  clear e0 hf hx2' c4
                  go_wp2_with fail
                  refine (c5.out _).mono ?_
                  rintro e w1 ⟨rfl, rfl⟩
                  go_wp2_with fail
                  go_ret
                  exact ⟨ret_bool hR2.out.symm, hb.out⟩
    · have h2' : ¬ (N.length : Int) = M := by omega
      have h2'' : (N.length == M) = false := by simpa using h2
      subst h1
      rw [h2'', Bool.false_and, Bool.and_false] at hR
      go_enter Tryd.func14, Tryd.ntmps14
      go_wp2_with fail
      refine c1.out.mono ?_
      rintro e w1 ⟨rfl, rfl⟩
      go_wp2_with fail
      go_ret
      exact ⟨ret_bool hR.out.symm, hb.out⟩
  · have h1' : ¬ (S.length : Int) = T := by omega
    have h1'' : (S.length == T) = false := by simpa using h1
    rw [h1'', Bool.false_and] at hR
    go_enter Tryd.func14, Tryd.ntmps14
    go_wp2_with fail
    refine c1.out.mono ?_
    rintro e w1 ⟨rfl, rfl⟩
    go_wp2_with fail
    go_ret
    exact ⟨ret_bool hR.out.symm, hb.out⟩
end Go.Proofs.YtipinglchpmgaaaDoor
