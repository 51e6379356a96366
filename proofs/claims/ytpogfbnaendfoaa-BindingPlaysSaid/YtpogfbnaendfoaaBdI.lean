/- The document's own table: DropQueue; SameBindings. -/
import Derived.Test.YtpogfbnaendfoaaBdH
namespace Go.Proofs.Ytpogfbnaendfoaa
open Go.RowKit
set_option linter.unusedVariables false

section
variable {B : Nat} {w0 w w' : World} {S F A X : List (Nat × Obj)} {T : TypeId} {tb : Nat} {v u z : Value} {L l : List Bnd} {b : Bnd}

set_option maxHeartbeats 1000000 in
theorem sameB_true {v1 v2 : Value} (h1 : ReadBs w v1 l) (h2 : ReadBs w v2 l) (hl : l.length ≤ 1073741824) : Calls Try.prog 18 #[v1, v2] w fun e w' => e = .returned (.bool true) ∧ Below w.heap.size w w' := by
  obtain ⟨a1, c1, rfl, h1⟩ := h1
  obtain ⟨a2, c2, rfl, h2⟩ := h2
  replace h1 := Lib.hid h1
  replace h2 := Lib.hid h2
  go_enter Try.func18, Try.ntmps18
  go_wp2_with fail
  go_loopg [5] l.length (fun g i wt => ∃ p : Nat, i = .int .i64 p ∧ p + g = l.length ∧ ∃ m, wt = w.drewN m)
  case atStart => exact ⟨0, rfl, by omega, 0, rfl⟩
  case round =>
    obtain ⟨p, rfl, hp, m, rfl⟩ := hrel
    have hp0 : (0 : Int) ≤ p := by omega
    by_cases hlt : p < l.length
    · have hx : l[p]? = some l[p] := List.getElem?_eq_getElem hlt
      generalize l[p] = x at hx
      obtain ⟨b1, o1, rfl, k1, k2, k3⟩ := h1.out p x hx
      obtain ⟨b2, o2, rfl, k4, k5, k6⟩ := h2.out p x hx
      obtain ⟨x1, x2, x3⟩ := x
      simp only at k1 k2 k3 k4 k5 k6
      have hp1 : (p : Int) < l.length := by omega
      clear hx
      go_wp2_with fail
      go_quiet (fail)
      go_wp2_with fail
      go_roundg (l.length - (p + 1))
      case measure => omega
      case rel => exact ⟨p + 1, by go_num, by omega, _, rfl⟩
    · go_wp2_with fail
      go_ret
      exact ⟨rfl, drewN_below _ _⟩

/-! ### DropQueue -/
def RdqAt (w : World) (L : List Bnd) (x : List UInt8) (u z : Value) (i : Nat) (w' : World) : Prop :=
  ∃ S R, BnsIs u ((L.take i).filter fun b => !(b.2.1 == x)) S ∧ TssIs z (onceL [] (((L.take i).filter fun b => b.2.1 == x).map (·.1))) R ∧ St w.heap.size w w' (S ++ R)

set_option maxHeartbeats 4000000 in
theorem rdropQ_any (h : TbIs T B w0 w tb L A) (hL : L.length ≤ 10000) (hfit : ∀ b ∈ L, FitB b) (x : List UInt8) :
    Calls Try.prog 14 #[bpt tb, tx x] w (CutNR T B w0 tb (L.filter fun b => !(b.2.1 == x)) A (onceL [] ((L.filter fun b => b.2.1 == x).map (·.1)))) := by
  obtain ⟨v, ho, hv⟩ := h.one
  obtain ⟨a, cap, rfl, hr⟩ := rows_at ho hv
  have h0 : Hid (RdqAt w L x (.slice none 0 0) (.slice none 0 0) 0 w) := Lib.hid ⟨[], [], BnsIs.nil, TssIs.nil, St.start w⟩
  have hmax : ∀ (i : Nat), ∀ y ∈ onceL [] (((L.take i).filter fun b => b.2.1 == x).map (·.1)), y.length ≤ maxLen := by
    intro i y hy
    rcases (onceL_mem _ _ _).1 hy with h | h
    · simp at h
    · obtain ⟨b, hb, rfl⟩ := List.mem_map.1 h
      have := (hfit b (List.mem_of_mem_take (List.mem_filter.1 hb).1)).1
      unfold maxLen
      omega
  have hlenO : ∀ (i : Nat), (onceL [] (((L.take i).filter fun b => b.2.1 == x).map (·.1))).length ≤ 10000 := by
    intro i
    have h1 := onceL_len [] (((L.take i).filter fun b => b.2.1 == x).map (·.1))
    have h2 := filter_len_take (L := L) (fun b => b.2.1 == x) i
    rw [List.length_map, List.length_nil] at h1
    have h3 := List.length_filter_le (fun b : Bnd => b.2.1 == x) (L.take i)
    rw [List.length_take] at h3
    omega
  replace hmax := Lib.hid hmax
  replace hlenO := Lib.hid hlenO
  have fin : Hid (∀ i u z w1, L.length ≤ i → RdqAt w L x u z i w1 → ∃ au qu cu az qz cz, u = .slice au qu cu ∧ z = .slice az qz cz ∧ CutNR T B w0 tb (L.filter fun b => !(b.2.1 == x)) A (onceL [] ((L.filter fun b => b.2.1 == x).map (·.1))) (.returned z) (w1.setCell ⟨tb, 0, none⟩ u)) := by
    refine Lib.hid ?_
    rintro i u z w1 hi ⟨S, R, hs, hz, hst⟩
    rw [List.take_of_length_le hi] at hs hz
    obtain ⟨au, cu, e1⟩ := hs.form
    obtain ⟨az, cz, e2⟩ := hz.form
    exact ⟨au, _, cu, az, _, cz, e1, e2, z, R, rfl, hz, TbIs.turn (S := R) h hs (hst.perm List.perm_append_comm)⟩
  clear h hv ho hfit
  go_enter Try.func14, Try.ntmps14
  go_wp2_with fail
  go_loopg [5, 6, 7] L.length (fun g v5 v6 v7 wr => ∃ i : Nat, v7 = .int .i64 i ∧ i + g = L.length ∧ Hid (RdqAt w L x v5 v6 i wr))
  case atStart => exact ⟨0, rfl, by omega, h0⟩
  case round =>
    clear h0
    obtain ⟨i, rfl, hi, hR⟩ := hrel
    have hi0 : (0 : Int) ≤ i := by omega
    have hbel : Below w.heap.size w wr := by obtain ⟨S, R, -, -, hst⟩ := hR.out; exact hst.below
    obtain ⟨⟨ct, fz⟩, hrows⟩ := hr.out wr hbel
    clear hbel
    by_cases hlt : i < L.length
    · obtain ⟨S, R, hs, hz, hst⟩ := hR.out
      have hi1 : (i : Int) < L.length := by omega
      have hx : L[i]? = some L[i] := List.getElem?_eq_getElem hlt
      generalize L[i] = y at hx
      obtain ⟨b1, o1, rfl, k1, k2, k3⟩ := hrows i y hx
      have st1 := filter_step (p := fun b => !(b.2.1 == x)) hx
      have st2 := filter_step (p := fun b => b.2.1 == x) hx
      have hl1 := filter_len_take (L := L) (fun b => !(b.2.1 == x)) i
      have hlO := hlenO.out i
      have hm := hmax.out i
      cases hpx : (y.2.1 == x) with
      | false =>
        simp only [hpx, Bool.not_false, if_true, Bool.false_eq_true, if_false, List.append_nil] at st1 st2
        obtain ⟨a2, cap2, W2, F2, hrun, hs2, hst2⟩ := bnd_append (X := R) hs (hst.perm List.perm_append_comm) y (by omega)
        have nxt : Hid (RdqAt w L x (.slice a2 (((L.take i).filter fun b => !(b.2.1 == x)).length + 1) cap2) _ (i + 1) W2) := Lib.hid ⟨F2, R, by rw [st1]; exact hs2, by rw [st2]; exact hz, hst2.perm List.perm_append_comm⟩
        obtain ⟨au, cu, rfl⟩ := hs.form
        obtain ⟨az, cz, rfl⟩ := hz.form
        obtain ⟨y1, y2, y3⟩ := y
        simp only at k1 k2 k3 hpx
        generalize ((L.take i).filter fun b => !(b.2.1 == x)).length = q0 at *
        generalize (onceL [] (((L.take i).filter fun b => b.2.1 == x).map (·.1))).length = q1 at *
        clear hR hx hr hrows hs hz hst hs2 hst2 st1 st2 hl1 hlO hm hmax hlenO fin fz
        go_wp2_with (at_builtin; refine wpList_append_go rfl (.tmp 27) (.tmp 35) 27 27 rfl _ _ rfl rfl hrun ?_)
        go_roundg (L.length - (i + 1))
        case measure => omega
        case rel => exact ⟨i + 1, by go_num, by omega, nxt⟩
      | true =>
        simp only [hpx, Bool.not_true, if_true, Bool.false_eq_true, if_false, List.append_nil] at st1 st2
        have st3 : onceL [] (((L.take (i + 1)).filter fun b => b.2.1 == x).map (·.1)) = onceS (onceL [] (((L.take i).filter fun b => b.2.1 == x).map (·.1))) y.1 := by
          rw [st2, List.map_append]
          exact onceL_snoc _ _ _
        generalize onceL [] (((L.take i).filter fun b => b.2.1 == x).map (·.1)) = m at *
        have cn := Lib.hid (has_any (TssIs.read (X := S) hz hst hm) (by omega) y.1)
        by_cases hin : y.1 ∈ m
        · rw [decide_eq_true hin] at cn
          rw [onceS, if_pos hin] at st3
          have nxt : Hid (RdqAt w L x _ _ (i + 1) wr) := Lib.hid ⟨S, R, by rw [st1]; exact hs, by rw [st3]; exact hz, hst⟩
          obtain ⟨au, cu, rfl⟩ := hs.form
          obtain ⟨az, cz, rfl⟩ := hz.form
          obtain ⟨y1, y2, y3⟩ := y
          simp only at k1 k2 k3 hpx
          obtain rfl := beq_iff_eq.1 hpx
          generalize ((L.take i).filter fun b => !(b.2.1 == y2)).length = q0 at *
          generalize m.length = q1 at *
          clear hR hx hr hrows hs hz hst st1 st2 st3 hl1 hlO hm hmax hlenO fin fz hpx hin
          go_wp2_with fail
          refine cn.out.mono ?_
          rintro e w3 ⟨rfl, rfl⟩
          go_wp2_with fail
          go_roundg (L.length - (i + 1))
          case measure => omega
          case rel => exact ⟨i + 1, by go_num, by omega, nxt⟩
        · rw [decide_eq_false hin] at cn
          rw [onceS, if_neg hin] at st3
          obtain ⟨a2, cap2, W2, F2, hrun, hs2, hst2⟩ := TssIs.append (X := S) hz hst y.1 (by omega)
          have nxt : Hid (RdqAt w L x _ (.slice a2 (m.length + 1) cap2) (i + 1) W2) := Lib.hid ⟨S, F2, by rw [st1]; exact hs, by rw [st3]; exact hs2, hst2⟩
          obtain ⟨au, cu, rfl⟩ := hs.form
          obtain ⟨az, cz, rfl⟩ := hz.form
          obtain ⟨y1, y2, y3⟩ := y
          simp only at k1 k2 k3 hpx
          obtain rfl := beq_iff_eq.1 hpx
          generalize ((L.take i).filter fun b => !(b.2.1 == y2)).length = q0 at *
          generalize m.length = q1 at *
          clear hR hx hr hrows hs hz hst hs2 hst2 st1 st2 st3 hl1 hlO hm hmax hlenO fin fz hpx hin
          go_wp2_with fail
          refine cn.out.mono ?_
          rintro e w3 ⟨rfl, rfl⟩
          go_wp2_with (at_builtin; refine wpList_append_go rfl (.tmp 48) (.tmp 57) 41 41 rfl _ _ rfl rfl hrun ?_)
          go_roundg (L.length - (i + 1))
          case measure => omega
          case rel => exact ⟨i + 1, by go_num, by omega, nxt⟩
    · obtain ⟨au, qu, cu, az, qz, cz, rfl, rfl, f⟩ := fin.out _ _ _ _ (by omega) hR.out
      replace f := Lib.hid f
      clear hR hr hrows hmax hlenO fin
      go_wp2_with fail
      go_ret
      exact f.out

end
end Go.Proofs.Ytpogfbnaendfoaa
