/- The document's own table. -/
import Derived.Test.YtpogfbnaendfoaaBdG
namespace Go.Proofs.Ytpogfbnaendfoaa
open Go.RowKit
set_option linter.unusedVariables false

section
variable {B : Nat} {w0 w w' : World} {S F A X : List (Nat × Obj)} {T : TypeId} {tb : Nat} {v u : Value} {L l : List Bnd} {b : Bnd}

theorem bnd_copy (hs : BnsIs v L S) (hst : St B w0 w (X ++ S)) (hL : L.length ≤ 100000) :
    ∃ a cap W2 F2, (Builtin.append_ #[27, 27] 0 #[.slice none 0 0, v]).run Try.prog w = .ok (.slice a L.length cap) W2 ∧ BnsIs (.slice a L.length cap) L F2 ∧ St B w0 W2 ((X ++ S) ++ F2) := by
  obtain ⟨i0, hi0, hz0, hz1, hz2⟩ := info_parts infBnd
  have hs' : SlIs 31 3 v L.length (bndsV L) S := hs
  obtain ⟨v2, W2, F2, hr, hs2, hst2⟩ := run_append_sl (P := Try.prog) 27 0 31 i0 _ 3 48 uBnds hi0 hz0 hz1 hz2 rfl (SlIs.nil (T := 31) (size := 3)) (A := X ++ S) (by simpa using hst) (hs'.reads hst)
    (bndsV_one L) (by unfold maxLen; omega) (by omega)
  rw [Nat.zero_add, List.nil_append] at hs2
  obtain ⟨a, cap, rfl, -⟩ := hs2.form
  exact ⟨a, cap, W2, F2, hr, hs2, hst2⟩
theorem bnd_put (hs : BnsIs v l S) (hst : St B w0 w (X ++ S)) {p : Nat} (hp : (p, bO b) ∈ X) (hl : l.length ≤ 100000) :
    ∃ a cap W2 F2, (Builtin.append_ #[27, 27] 0 #[v, .slice (some ⟨p, 0, none⟩) 1 1]).run Try.prog w = .ok (.slice a (l.length + 1) cap) W2 ∧
      BnsIs (.slice a (l.length + 1) cap) (l ++ [b]) F2 ∧ St B w0 W2 (X ++ F2) := by
  obtain ⟨i0, hi0, hz0, hz1, hz2⟩ := info_parts infBnd
  have hb : w.heap[p]? = some (.cells [tx b.1, tx b.2.1, tx b.2.2].toArray 31) := hst.get (List.mem_append_left _ hp)
  have hrd : Reads w (.slice (some ⟨p, 0, none⟩) 1 1) 1 3 [tx b.1, tx b.2.1, tx b.2.2] := Reads.block hb rfl 1
  obtain ⟨v2, W2, F2, hr, hs2, hst2⟩ := run_append_sl (P := Try.prog) 27 0 31 i0 _ 3 48 uBnds hi0 hz0 hz1 hz2 rfl hs hst hrd (bndsV_one [b]) (by unfold maxLen; omega) (by omega)
  obtain ⟨a, cap, rfl, -⟩ := hs2.form
  refine ⟨a, cap, W2, F2, hr, ?_, hst2⟩
  unfold BnsIs
  rw [List.length_append, List.length_singleton, bndsV_append]
  exact hs2

/-! ### Of -/
def RofAt (w : World) (L : List Bnd) (p : Bnd → Bool) (u : Value) (i : Nat) (w' : World) : Prop := ∃ S, BnsIs u ((L.take i).filter p) S ∧ St w.heap.size w w' S
/-- One row more, or none. -/
theorem RofAt.put {p : Bnd → Bool} {i : Nat} {x : Bnd} (h : RofAt w L p u i w') (hx : L[i]? = some x) (hpx : p x = true) (hL : L.length ≤ 10000) : ∃ au cu a cap W2, u = .slice au ((L.take i).filter p).length cu ∧
    (Builtin.append_ #[27, 27] 0 #[u, .slice (some ⟨w'.heap.size, 0, none⟩) 1 1]).run Try.prog (w'.alloc (bO x)) = .ok (.slice a (((L.take i).filter p).length + 1) cap) W2 ∧ RofAt w L p (.slice a (((L.take i).filter p).length + 1) cap) (i + 1) W2 := by
  obtain ⟨S, hs, hst⟩ := h
  have hlt := (List.getElem?_eq_some_iff.1 hx).1
  have hlen := filter_len_take (L := L) p i
  obtain ⟨au, cu, e⟩ := hs.form
  obtain ⟨a, cap, W2, F2, hrun, hs2, hst2⟩ := bnd_append (X := []) hs hst x (by omega)
  refine ⟨au, cu, a, cap, W2, e, hrun, F2, ?_, hst2⟩
  rw [filter_step hx, hpx, if_pos rfl]
  exact hs2
theorem RofAt.pass {p : Bnd → Bool} {i : Nat} {x : Bnd} (h : RofAt w L p u i w') (hx : L[i]? = some x) (hpx : p x = false) : ∃ au cu, u = .slice au ((L.take i).filter p).length cu ∧ RofAt w L p u (i + 1) w' := by
  obtain ⟨S, hs, hst⟩ := h
  obtain ⟨au, cu, e⟩ := hs.form
  refine ⟨au, cu, e, S, ?_, hst⟩
  rw [filter_step hx, hpx, if_neg (by decide), List.append_nil]
  exact hs
theorem RofAt.start (w : World) (L : List Bnd) (p : Bnd → Bool) : RofAt w L p (.slice none 0 0) 0 w := ⟨[], BnsIs.nil, St.start w⟩
theorem RofAt.end_ {p : Bnd → Bool} {i : Nat} (h : RofAt w L p u i w') (hi : L.length ≤ i) : ∃ S au cu, u = .slice au (L.filter p).length cu ∧ BnsIs u (L.filter p) S ∧ St w.heap.size w w' S := by
  obtain ⟨S, hs, hst⟩ := h
  rw [List.take_of_length_le hi] at hs
  obtain ⟨au, cu, e⟩ := hs.form
  exact ⟨S, au, cu, e, hs, hst⟩
/-- The table's cell, one row's cells: wherever only new blocks came. -/
theorem rows_at (h : OneAt T w tb v) (hv : ReadBs w v L) : ∃ a cap, v = .slice a L.length cap ∧ Hid (∀ w', Below w.heap.size w w' → (w'.cell? ⟨tb, 0, none⟩ = some v ∧ w'.frozen? ⟨tb, 0, none⟩ = false) ∧
    ∀ (i : Nat) x, L[i]? = some x → ∃ b1 o1, a = some ⟨b1, o1, none⟩ ∧ w'.cell? ⟨b1, o1 + i * 3, none⟩ = some (tx x.1) ∧ w'.cell? ⟨b1, o1 + i * 3 + 1, none⟩ = some (tx x.2.1) ∧ w'.cell? ⟨b1, o1 + i * 3 + 2, none⟩ = some (tx x.2.2)) := by
  obtain ⟨a, cap, rfl, -⟩ := id hv
  refine ⟨a, cap, rfl, Lib.hid fun w' hb => ⟨⟨(h.below hb).cell, (h.below hb).soft⟩, fun i x hx => ?_⟩⟩
  obtain ⟨a1, c1, e, hc⟩ := hv.below hb
  cases e
  exact hc i x hx

set_option maxHeartbeats 1000000 in
theorem rof_any (h : OneAt T w tb v) (hv : ReadBs w v L) (hL : L.length ≤ 10000) (x : List UInt8) : Calls Try.prog 17 #[bpt tb, tx x] w (OfR w (L.filter fun b => b.1 == x)) := by
  obtain ⟨a, cap, rfl, hr⟩ := rows_at h hv
  have h0 := Lib.hid (RofAt.start w L (fun b => b.1 == x))
  clear h hv
  go_enter Try.func17, Try.ntmps17
  go_wp2_with fail
  go_loopg [5, 6] L.length (fun g v5 v6 wr => ∃ i : Nat, v6 = .int .i64 i ∧ i + g = L.length ∧ Hid (RofAt w L (fun b => b.1 == x) v5 i wr))
  case atStart => exact ⟨0, rfl, by omega, h0⟩
  case round =>
    clear h0
    obtain ⟨i, rfl, hi, hR⟩ := hrel
    have hi0 : (0 : Int) ≤ i := by omega
    obtain ⟨⟨ct, -⟩, hrows⟩ := hr.out wr (by obtain ⟨S, -, hst⟩ := hR.out; exact hst.below)
    by_cases hlt : i < L.length
    · have hi1 : (i : Int) < L.length := by omega
      have hx : L[i]? = some L[i] := List.getElem?_eq_getElem hlt
      generalize L[i] = y at hx
      obtain ⟨b1, o1, rfl, k1, k2, k3⟩ := hrows i y hx
      cases hpx : (y.1 == x) with
      | true =>
        obtain ⟨au, cu, a2, cap2, W2, rfl, hrun, fin⟩ := hR.out.put hx hpx hL
        replace fin := Lib.hid fin
        obtain ⟨y1, y2, y3⟩ := y
        simp only at k1 k2 k3 hpx
        obtain rfl := beq_iff_eq.1 hpx
        generalize ((L.take i).filter fun b => b.1 == y1).length = q0 at *
        clear hR hx hr hrows hpx
        go_wp2_with (at_builtin; refine wpList_append_go rfl (.tmp 26) (.tmp 34) 27 27 rfl _ _ rfl rfl hrun ?_)
        go_roundg (L.length - (i + 1))
        case measure => omega
        case rel => exact ⟨i + 1, by go_num, by omega, fin⟩
      | false =>
        obtain ⟨au, cu, rfl, fin⟩ := hR.out.pass hx hpx
        replace fin := Lib.hid fin
        obtain ⟨y1, y2, y3⟩ := y
        simp only at k1 k2 k3 hpx
        generalize ((L.take i).filter fun b => b.1 == x).length = q0 at *
        clear hR hx hr hrows
        go_wp2_with fail
        go_roundg (L.length - (i + 1))
        case measure => omega
        case rel => exact ⟨i + 1, by go_num, by omega, fin⟩
    · obtain ⟨S, au, cu, rfl, hs, hst⟩ := hR.out.end_ (by omega)
      have fin : Hid (OfR w (L.filter fun b => b.1 == x) (.returned (.slice au (L.filter fun b => b.1 == x).length cu)) wr) := Lib.hid ⟨_, rfl, hs.read (A := []) hst, hst.below⟩
      clear hs hst hR hr hrows
      go_wp2_with fail
      go_ret
      exact fin.out

/-! ### DropExchange, Drop -/
set_option maxHeartbeats 1000000 in
theorem rdropE_any (h : TbIs T B w0 w tb L A) (hL : L.length ≤ 10000) (x : List UInt8) : Calls Try.prog 16 #[bpt tb, tx x] w (CutsR T B w0 tb (L.filter fun b => !(b.1 == x)) A (.tuple #[])) := by
  obtain ⟨v, ho, hv⟩ := h.one
  obtain ⟨a, cap, rfl, hr⟩ := rows_at ho hv
  have h0 := Lib.hid (RofAt.start w L (fun b => !(b.1 == x)))
  have ht := Lib.hid (fun (w1 : World) (m : List Bnd) (z : Value) (R : List (Nat × Obj)) (hz : BnsIs z m R) (hst : St w.heap.size w w1 R) => TbIs.turn (S := []) h hz hst)
  obtain ⟨M, hM⟩ : ∃ M, M = L.filter fun b => !(b.1 == x) := ⟨_, rfl⟩
  rw [← hM]
  replace hM := Lib.hid hM
  clear h hv ho
  go_enter Try.func16, Try.ntmps16
  go_wp2_with fail
  go_loopg [4, 5] L.length (fun g v5 v6 wr => ∃ i : Nat, v6 = .int .i64 i ∧ i + g = L.length ∧ Hid (RofAt w L (fun b => !(b.1 == x)) v5 i wr))
  case atStart => exact ⟨0, rfl, by omega, h0⟩
  case round =>
    clear h0
    obtain ⟨i, rfl, hi, hR⟩ := hrel
    have hi0 : (0 : Int) ≤ i := by omega
    obtain ⟨⟨ct, fz⟩, hrows⟩ := hr.out wr (by obtain ⟨S, -, hst⟩ := hR.out; exact hst.below)
    by_cases hlt : i < L.length
    · have hi1 : (i : Int) < L.length := by omega
      have hx : L[i]? = some L[i] := List.getElem?_eq_getElem hlt
      generalize L[i] = y at hx
      obtain ⟨b1, o1, rfl, k1, k2, k3⟩ := hrows i y hx
      cases hpx : (y.1 == x) with
      | false =>
        obtain ⟨au, cu, a2, cap2, W2, rfl, hrun, fin⟩ := hR.out.put hx (by rw [hpx]; rfl) hL
        replace fin := Lib.hid fin
        obtain ⟨y1, y2, y3⟩ := y
        simp only at k1 k2 k3 hpx
        generalize ((L.take i).filter fun b => !(b.1 == x)).length = q0 at *
        clear hR hx hr hrows ht fz
        go_wp2_with (at_builtin; refine wpList_append_go rfl (.tmp 25) (.tmp 33) 27 27 rfl _ _ rfl rfl hrun ?_)
        go_roundg (L.length - (i + 1))
        case measure => omega
        case rel => exact ⟨i + 1, by go_num, by omega, fin⟩
      | true =>
        obtain ⟨au, cu, rfl, fin⟩ := hR.out.pass hx (by rw [hpx]; rfl)
        replace fin := Lib.hid fin
        obtain ⟨y1, y2, y3⟩ := y
        simp only at k1 k2 k3 hpx
        obtain rfl := beq_iff_eq.1 hpx
        generalize ((L.take i).filter fun b => !(b.1 == y1)).length = q0 at *
        clear hR hx hr hrows ht fz hpx
        go_wp2_with fail
        go_roundg (L.length - (i + 1))
        case measure => omega
        case rel => exact ⟨i + 1, by go_num, by omega, fin⟩
    · obtain ⟨S, au, cu, rfl, hs, hst⟩ := hR.out.end_ (by omega)
      rw [← hM.out] at hs
      have fin := Lib.hid (ht.out _ _ _ _ hs hst)
      rw [← hM.out]
      clear hs hst hR hr hrows ht hM
      go_wp2_with fail
      exact bodyPost_end (results_none rfl _ _ _) rfl ⟨rfl, by simpa using fin.out⟩

set_option maxHeartbeats 2000000 in
theorem rdrop_any (h : TbIs T B w0 w tb L A) (hL : L.length ≤ 10000) (x : Bnd) : Calls Try.prog 11 #[bpt tb, bV x] w (CutsR T B w0 tb (L.filter fun b => !(b == x)) A (.bool (decide ((L.filter fun b => !(b == x)).length < L.length)))) := by
  have h1 := h.alloc (bO x)
  have q0 : (w.alloc (bO x)).cell? ⟨w.heap.size, 0, none⟩ = some (tx x.1) := by simp
  have q1 : (w.alloc (bO x)).cell? ⟨w.heap.size, 1, none⟩ = some (tx x.2.1) := by simp
  have q2 : (w.alloc (bO x)).cell? ⟨w.heap.size, 2, none⟩ = some (tx x.2.2) := by simp
  obtain ⟨W1, hW⟩ : ∃ W1, W1 = w.alloc (bO x) := ⟨_, rfl⟩
  rw [← hW] at h1 q0 q1 q2
  obtain ⟨v, ho, hv⟩ := h1.one
  obtain ⟨a, cap, rfl, hr⟩ := rows_at ho hv
  have h0 := Lib.hid (RofAt.start W1 L (fun b => !(b == x)))
  have ht := Lib.hid (fun (w1 : World) (m : List Bnd) (z : Value) (R : List (Nat × Obj)) (hz : BnsIs z m R) (hst : St W1.heap.size W1 w1 R) => TbIs.turn (S := []) (h1.sub (List.sublist_cons_self _ _)) hz hst)
  have hq : Hid (∀ w2, Below W1.heap.size W1 w2 → w2.cell? ⟨w.heap.size, 0, none⟩ = some (tx x.1) ∧ w2.cell? ⟨w.heap.size, 1, none⟩ = some (tx x.2.1) ∧ w2.cell? ⟨w.heap.size, 2, none⟩ = some (tx x.2.2)) := Lib.hid fun w2 hb2 =>
    ⟨cellOn (c := (_, 0)) q0 hb2, cellOn (c := (_, 1)) q1 hb2, cellOn (c := (_, 2)) q2 hb2⟩
  obtain ⟨p, hp⟩ : ∃ p : Bnd → Bool, p = fun b => !(b == x) := ⟨_, rfl⟩
  have py : Hid (∀ y : Bnd, (p y = true ∧ ((y.1 == x.1) = false ∨ (y.1 = x.1 ∧ (y.2.1 == x.2.1) = false) ∨ (y.1 = x.1 ∧ y.2.1 = x.2.1 ∧ (y.2.2 == x.2.2) = false))) ∨ (p y = false ∧ y = x)) := Lib.hid fun y => by
    rcases bnd_cases y x with h | h
    · exact .inr ⟨by rw [hp, h]; simp, h⟩
    · exact .inl ⟨by rw [hp]; simpa using bnd_ne h, h⟩
  rw [← hp] at h0 ⊢
  obtain ⟨M, hM⟩ : ∃ M, M = L.filter p := ⟨_, rfl⟩
  rw [← hM]
  replace hM := Lib.hid hM
  obtain ⟨x1, x2, x3⟩ := x
  simp only at py hq
  replace hW : Hid (w.alloc (.cells #[tx x1, tx x2, tx x3] 31) = W1) := Lib.hid hW.symm
  clear h h1 hv ho q0 q1 q2 hp
  go_enter Try.func11, Try.ntmps11
  go_upto_region 2 with fail
  rw [hW.out]
  go_wp2_with fail
  go_loopg [5, 6] L.length (fun g v5 v6 wr => ∃ i : Nat, v6 = .int .i64 i ∧ i + g = L.length ∧ Hid (RofAt W1 L p v5 i wr))
  case atStart => exact ⟨0, rfl, by omega, h0⟩
  case round =>
    clear h0
    obtain ⟨i, rfl, hi, hR⟩ := hrel
    have hi0 : (0 : Int) ≤ i := by omega
    have hbel : Below W1.heap.size W1 wr := by obtain ⟨S, -, hst⟩ := hR.out; exact hst.below
    obtain ⟨⟨ct, fz⟩, hrows⟩ := hr.out wr hbel
    obtain ⟨q0, q1, q2⟩ := hq.out wr hbel
    replace hbel := Lib.hid hbel
    by_cases hlt : i < L.length
    · have hi1 : (i : Int) < L.length := by omega
      have hx : L[i]? = some L[i] := List.getElem?_eq_getElem hlt
      generalize L[i] = y at hx
      obtain ⟨b1, o1, rfl, k1, k2, k3⟩ := hrows i y hx
      rcases py.out y with ⟨hpy, hc⟩ | ⟨hpy, rfl⟩
      · obtain ⟨S, hs, hst⟩ := hR.out
        obtain ⟨au, cu, rfl⟩ := hs.form
        have ap : Hid (∀ n, ∃ a cap W2, (Builtin.append_ #[27, 27] 0 #[.slice au ((L.take i).filter p).length cu, .slice (some ⟨wr.heap.size, 0, none⟩) 1 1]).run Try.prog ((wr.drewN n).alloc (bO y)) = .ok (.slice a (((L.take i).filter p).length + 1) cap) W2 ∧ RofAt W1 L p (.slice a (((L.take i).filter p).length + 1) cap) (i + 1) W2) :=
          Lib.hid fun n => by
            have h2 : RofAt W1 L p (.slice au ((L.take i).filter p).length cu) i (wr.drewN n) := ⟨S, hs, hst.drewN n⟩
            obtain ⟨_, _, a, cap, W2, _, hrun, hf⟩ := h2.put hx hpy hL
            exact ⟨a, cap, W2, hrun, hf⟩
        obtain ⟨y1, y2, y3⟩ := y
        simp only at k1 k2 k3 hc
        clear hR hx hr hrows ht fz py hq hs hst hM
        generalize ((L.take i).filter p).length = q0 at *
        rcases hc with hc | ⟨rfl, hc⟩ | ⟨rfl, rfl, hc⟩
        all_goals
          go_wp2_with fail
          go_quiet (fail)
          obtain ⟨a2, cap2, W2, hrun, fin⟩ := ap.out nq
          replace fin := Lib.hid fin
          go_wp2_with (at_builtin; refine wpList_append_go rfl (.tmp 26) (.tmp 34) 27 27 rfl _ _ rfl rfl hrun ?_)
          go_roundg (L.length - (i + 1))
          case measure => omega
          case rel => exact ⟨i + 1, by go_num, by omega, fin⟩
      · obtain ⟨au, cu, rfl, fin⟩ := hR.out.pass hx hpy
        have fin2 : Hid (∀ n, RofAt W1 L p (.slice au ((L.take i).filter p).length cu) (i + 1) (wr.drewN n)) := Lib.hid fun n => by
          obtain ⟨S, hs, hst⟩ := fin
          exact ⟨S, hs, hst.drewN n⟩
        simp only at k1 k2 k3
        clear hR hx hr hrows ht fz py hq fin hM
        generalize ((L.take i).filter p).length = q0 at *
        go_wp2_with fail
        go_quiet (fail)
        go_wp2_with fail
        go_roundg (L.length - (i + 1))
        case measure => omega
        case rel => exact ⟨i + 1, by go_num, by omega, Lib.hid (fin2.out _)⟩
    · obtain ⟨S, au, cu, rfl, hs, hst⟩ := hR.out.end_ (by omega)
      rw [← hM.out] at hs
      have fin := Lib.hid (ht.out _ _ _ _ hs hst)
      rw [← hM.out]
      clear hs hst hR hr hrows ht hM py hq
      go_wp2_with fail
      go_ret
      exact ⟨ret_bool (decide_eq_decide.2 (by omega)), by simpa using fin.out⟩
end
end Go.Proofs.Ytpogfbnaendfoaa
