/- Bytes, by the document's own. -/
import Derived.Test.YtipinglchpmgaaaDoorMdG
import Derived.Test.YtipinglchpmgaaaDoorMdE
import Derived.Test.YtipinglchpmgaaaDoorOcD
namespace Go.Proofs.YtipinglchpmgaaaDoor
open Go.RowKit
set_option linter.unusedVariables false

theorem rawT_take {S : List (List UInt8)} {p : Nat} {t : List UInt8} (h : S[p]? = some t) : rawT (S.take (p + 1)) = rawT (S.take p) ++ (oct t.length :: t) := by
  rw [List.take_add_one, h, Option.toList_some]
  simp [rawT]
theorem rawN_take {N : List Int} {p : Nat} {t : Int} (h : N[p]? = some t) : rawN (N.take (p + 1)) = rawN (N.take p) ++ low 4 t := by
  rw [List.take_add_one, h, Option.toList_some]
  simp [rawN]
theorem rawT_take_len (S : List (List UInt8)) (p : Nat) : (rawT (S.take p)).length ≤ (rawT S).length := by
  have e : rawT S = rawT (S.take p) ++ rawT (S.drop p) := by unfold rawT; rw [← List.flatMap_append, List.take_append_drop]
  rw [e, List.length_append]
  omega
theorem rawN_take_len (N : List Int) (p : Nat) : (rawN (N.take p)).length ≤ (rawN N).length := by
  have e : rawN N = rawN (N.take p) ++ rawN (N.drop p) := by unfold rawN; rw [← List.flatMap_append, List.take_append_drop]
  rw [e, List.length_append]
  omega

theorem TxtS.at_ {w : World} {v : Value} {L : List (List UInt8)} (h : TxtS w v L) : ∃ a cap, v = .slice a L.length cap ∧ ∀ (i : Nat) x, L[i]? = some x → ∃ b off, a = some ⟨b, off, none⟩ ∧ ∀ w', Below w.heap.size w w' → w'.cell? ⟨b, off + i, none⟩ = some (tx x) := by
  obtain ⟨a, cap, rfl, _, _, hx⟩ := h
  refine ⟨a, cap, rfl, fun i x hi => ?_⟩
  obtain ⟨_, b, off, e, hc⟩ := hx i x hi
  exact ⟨b, off, e, fun w' hb => (hb.cell (p := ⟨b, off + i, none⟩) (World.block_lt_of_cell? w _ hc)).trans hc⟩
theorem NumS.at_ {w : World} {v : Value} {L : List Int} (h : NumS w v L) : ∃ a cap, v = .slice a L.length cap ∧ ∀ (i : Nat) x, L[i]? = some x → ∃ b off, a = some ⟨b, off, none⟩ ∧ ∀ w', Below w.heap.size w w' → w'.cell? ⟨b, off + i, none⟩ = some (.int .i64 x) := by
  obtain ⟨a, cap, rfl, _, _, hx⟩ := h
  refine ⟨a, cap, rfl, fun i x hi => ?_⟩
  obtain ⟨b, off, e, hc⟩ := hx i x hi
  exact ⟨b, off, e, fun w' hb => (hb.cell (p := ⟨b, off + i, none⟩) (World.block_lt_of_cell? w _ hc)).trans hc⟩

set_option maxHeartbeats 4000000 in
theorem rbytesM_any {m : Meth} {v : Value} {w : World} (h : RdM w v m) : Calls Tryd.prog 19 #[v] w fun e w' => e = .returned (tx (bytesM m)) ∧ Below w.heap.size w w' := by
  have hb0 : ∀ k s n x, Below w.heap.size w (w.alloc (mO k s n x)) := fun k s n x => new_below w _
  obtain ⟨s, n, rfl, hs, hn⟩ := id h
  have hH := Lib.hid (MdHeld.start w m.kind s n m.bits)
  have c1 := Lib.hid (ris_any (h.below (hb0 m.kind s n m.bits)))
  cases hM : isM m with
  | false =>
    rw [bytesM_none hM]
    rw [hM] at c1
    obtain ⟨k, S, N, x⟩ := m
    simp only at *
    go_enter Tryd.func19, Tryd.ntmps19
    go_wp2_with fail
    refine c1.out.mono ?_
    rintro e w1 ⟨rfl, hb1⟩
    have hb2 := Lib.hid (hH.out.step hb1)
    clear hb1
    go_wp2_with fail
    go_ret
    exact ⟨rfl, hb2.out.below⟩
  | true =>
    have hI := isM_iff.1 hM
    rw [bytesM_of hI]
    rw [hM] at c1
    have hlen := (rawM_len hI).2
    obtain ⟨k, S, N, x⟩ := m
    simp only at *
    have hot := Lib.hid hI.ot
    have hSl : S.length ≤ 3 := by have h1 := hI.lt; have h2 := shT_le k; simp only at h1; omega
    have hNl : N.length ≤ 3 := by have h1 := hI.ln; have h2 := shN_le k; simp only at h1; omega
    have c2 := Lib.hid (rnum_any k 2)
    rw [show heldN 2 = 2 from rfl] at c2
    have c3 := Lib.hid (rnum_any x 1)
    rw [show heldN 1 = 1 from rfl] at c3
    have c4 := Lib.hid (fun t => rnum_any t 4)
    rw [show heldN 4 = 4 from rfl] at c4
    have c5 := Lib.hid (rshape_any k)
    have hR : Hid (low 2 k ++ (rawT S ++ (rawN N ++ rawB (shB k) x)) = rawM ⟨k, S, N, x⟩) := Lib.hid rfl
    have hl2 := low_length 2 k
    generalize rawM ⟨k, S, N, x⟩ = R at *
    generalize low 2 k = acc0 at *
    generalize shB k = D at *
    generalize shT k = T0 at *
    generalize shN k = M0 at *
    obtain ⟨sa, sc, rfl, hxs⟩ := hs.at_
    obtain ⟨an, cn, rfl, hxn⟩ := hn.at_
    have hRl := congrArg List.length hR.out
    simp only [List.length_append] at hRl
    have lT := Lib.hid (fun p => (show acc0.length + (rawT (S.take p)).length ≤ 1000 by have := rawT_take_len S p; omega))
    have lN := Lib.hid (fun p => (show (acc0 ++ rawT S).length + (rawN (N.take p)).length ≤ 1000 by have := rawN_take_len N p; rw [List.length_append]; omega))
    replace hxs := Lib.hid hxs
    replace hxn := Lib.hid hxn
    clear hI hM h hs hn hb0 hlen hRl
    go_enter Tryd.func19, Tryd.ntmps19
    go_wp2_with fail
    refine c1.out.mono ?_
    rintro e w1 ⟨rfl, hb1⟩
    replace hH := Lib.hid (hH.out.step hb1)
    have q0 := hH.out.c0
    clear hb1 c1
    go_wp2_with fail
    refine (c2.out _).mono ?_
    rintro e w2 ⟨rfl, hb1⟩
    replace hH := Lib.hid (hH.out.step hb1)
    clear hb1 c2 q0
    go_wp2_with fail
    go_loopg [3, 4] S.length (fun g v3 v4 wr => ∃ p : Nat, v3 = tx (acc0 ++ rawT (S.take p)) ∧ v4 = .int .i64 p ∧ p + g = S.length ∧ Hid (MdHeld w wr w.heap.size k (.slice sa S.length sc) (.slice an N.length cn) x))
    case atStart => exact ⟨0, by simp [rawT], rfl, by omega, hH⟩
    case round =>
      clear hH
      obtain ⟨p, rfl, rfl, hp, hH⟩ := hrel
      have q1 := hH.out.c1
      by_cases hlt : p < S.length
      · have hx : S[p]? = some S[p] := List.getElem?_eq_getElem hlt
        have ht : S[p].length ≤ 255 := hot.out _ (List.getElem_mem hlt)
        generalize S[p] = t at hx ht
        obtain ⟨b, off, rfl, hc⟩ := hxs.out p t hx
        have hc1 := hc _ hH.out.below
        replace hc := Lib.hid hc
        have cT := Lib.hid (rtext_to (textL_eq ht) (by omega))
        have hp0 : (0 : Int) ≤ p := by omega
        have hp1 : (p : Int) < S.length := by omega
        have hpl := lT.out p
        have hst := Lib.hid (rawT_take hx)
        have hadd := fun W => run_string_add_lists (P := Tryd.prog) W (acc0 ++ rawT (S.take p)) (oct t.length :: t) (by rw [List.length_append]; omega) (by rw [List.length_cons]; omega)
        clear hx hpl
        go_wp2_with fail
        refine (cT.out _).mono ?_
        rintro e w3 ⟨rfl, hb1⟩
        replace hH := Lib.hid (hH.out.step hb1)
        clear hb1 cT
        go_wp2_with fail
        go_roundg (S.length - (p + 1))
        case measure => omega
        case rel => exact ⟨p + 1, by rw [hst.out, ← List.append_assoc], by go_num, by omega, hH⟩
      · obtain rfl : p = S.length := by omega
        rw [List.take_length]
        replace hR : Hid (acc0 ++ rawT S ++ (rawN N ++ rawB D x) = R) := Lib.hid (by rw [List.append_assoc]; exact hR.out)
        clear hxs lT
        generalize acc0 ++ rawT S = acc1 at *
        go_wp2_with fail
        go_loopg [3, 5] N.length (fun g v3 v5 wr => ∃ p : Nat, v3 = tx (acc1 ++ rawN (N.take p)) ∧ v5 = .int .i64 p ∧ p + g = N.length ∧ Hid (MdHeld w wr w.heap.size k (.slice sa S.length sc) (.slice an N.length cn) x))
        case atStart => exact ⟨0, by simp [rawN], rfl, by omega, hH⟩
        case round =>
          clear hH q1
          obtain ⟨p, rfl, rfl, hp, hH⟩ := hrel
          have q2 := hH.out.c2
          by_cases hlt : p < N.length
          · have hx : N[p]? = some N[p] := List.getElem?_eq_getElem hlt
            generalize N[p] = t at hx
            obtain ⟨b, off, rfl, hc⟩ := hxn.out p t hx
            have hc1 := hc _ hH.out.below
            replace hc := Lib.hid hc
            have cT := Lib.hid (c4.out t)
            have hp0 : (0 : Int) ≤ p := by omega
            have hp1 : (p : Int) < N.length := by omega
            have hpl := lN.out p
            have hst := Lib.hid (rawN_take hx)
            have h4 := low_length 4 t
            have hadd := fun W => run_string_add_lists (P := Tryd.prog) W (acc1 ++ rawN (N.take p)) (low 4 t) (by rw [List.length_append]; omega) (by omega)
            clear hx hpl
            go_wp2_with fail
            refine (cT.out _).mono ?_
            rintro e w3 ⟨rfl, hb1⟩
            replace hH := Lib.hid (hH.out.step hb1)
            clear hb1 cT
            go_wp2_with fail
            go_roundg (N.length - (p + 1))
            case measure => omega
            case rel => exact ⟨p + 1, by rw [hst.out, ← List.append_assoc], by go_num, by omega, hH⟩
          · obtain rfl : p = N.length := by omega
            rw [List.take_length]
            have hpl := lN.out N.length
            rw [List.take_length] at hpl
            have q0 := hH.out.c0
            have q3 := hH.out.c3
            clear hxn lN c4
            cases D with
            | false =>
              have e : acc1 ++ rawN N = R := by rw [← hR.out]; simp [rawB]
              rw [e]
              go_wp2_with fail
              refine (c5.out _).mono ?_
              rintro e w3 ⟨rfl, rfl⟩
              go_wp2_with fail
              go_ret
              exact ⟨rfl, hH.out.below⟩
            | true =>
              have e : acc1 ++ rawN N ++ low 1 x = R := by rw [← hR.out]; simp [rawB]
              have h4 := low_length 1 x
              have hadd := fun W => run_string_add_lists (P := Tryd.prog) W (acc1 ++ rawN N) (low 1 x) (by rw [List.length_append]; omega) (by omega)
              rw [e] at hadd
              clear e hpl
              generalize acc1 ++ rawN N = acc2 at *
              go_wp2_with fail
              refine (c5.out _).mono ?_
              rintro e w3 ⟨rfl, rfl⟩
              go_wp2_with fail
              refine (c3.out _).mono ?_
              rintro e w3 ⟨rfl, hb1⟩
              replace hH := Lib.hid (hH.out.step hb1)
              clear hb1
              go_wp2_with fail
              go_ret
              exact ⟨rfl, hH.out.below⟩
end Go.Proofs.YtipinglchpmgaaaDoor
