/- The document's own dial: Set. -/
import Derived.Test.YtldocgpnmfmnaaaDlR
namespace Go.Proofs.Ytldocgpnmfmnaaa
open Go.RowKit
set_option linter.unusedVariables false

/-- What is to come behind T: the rest, and the new one if it isn't laid yet. -/
def comes (x : Int × Int) (d : Bool) (R : List (Int × Int)) : List (Int × Int) := if d then R else ins x R

section
variable {B : Nat} {w0 w : World} {rb : Nat} {A S X : List (Nat × Obj)} {v : Value} {L : List (Int × Int)} {id t : Int}

theorem comes_cons {x y : Int × Int} {R : List (Int × Int)} : comes x false (y :: R) = if lt2 x y then x :: y :: comes x true R else y :: comes x false R := by
  unfold comes
  simp only [Bool.false_eq_true, if_false, if_true]
  rfl

/-- Behind a call without results: the row is L. -/
def RdR (B : Nat) (w0 : World) (A : List (Nat × Obj)) (rb : Nat) (L : List (Int × Int)) (e : Ending) (w' : World) : Prop :=
  e = .returned (.tuple #[]) ∧ RefAt B w0 w' A rb L

/-- The loop of Set over the row L, the new one x: i rows are done. -/
def SetAt (B : Nat) (w0 : World) (X : List (Nat × Obj)) (x : Int × Int) (L : List (Int × Int)) (g : Nat) (v6 v7 v8 : Value) (wr : World) : Prop :=
  ∃ (i : Nat) (d : Bool) (a : Option Addr) (c : Nat) (T : List (Int × Int)) (Ft : List (Nat × Obj)), v8 = .int .i64 i ∧ v7 = .bool d ∧ v6 = .slice a T.length c ∧ i + g = L.length ∧ Hid (T ++ comes x d (L.drop i) = ins x L) ∧ T.length ≤ i + d.toNat ∧
    SlIs 42 2 (.slice a T.length c) T.length (duesV T) Ft ∧ St B w0 wr (X ++ Ft)

set_option maxHeartbeats 4000000 in
set_option maxRecDepth 100000 in
theorem rd_set (h : RefAt B w0 w A rb L) (hL : L.length ≤ 5000) (id t : Int) : Calls Try.prog 10 #[.pointer (some ⟨rb, 0, none⟩), .int .i64 id, .int .i64 t] w (RdR B w0 A rb (setL id t L)) := by
  have cc := Lib.hid (rd_clear h hL id)
  have hdl : (del id L).length ≤ 5000 := Nat.le_trans (List.length_filter_le _ _) hL
  clear h
  unfold setL
  go_enter Try.func10, Try.ntmps10
  go_wp2_with fail
  refine cc.out.mono ?_
  rintro e w1 ⟨rfl, v, S, hs, hst⟩
  clear cc hL
  generalize decide ((del id L).length < L.length) = bb
  generalize del id L = L' at *
  have hc0 : Hid (∀ W Ft, St B w0 W (((A ++ [(rb, refO v)]) ++ S) ++ Ft) → W.cell? ⟨rb, 0, none⟩ = some v ∧ W.frozen? ⟨rb, 0, none⟩ = false) := Lib.hid fun W Ft h1 =>
    ⟨h1.cell (b := rb) (c := #[v]) (T := 29) (fr := (0, 0)) (by simp) rfl, St.soft h1 (b := rb) (c := #[v]) (T := 29) (by simp) 0⟩
  have hcell : Hid (∀ W Ft, St B w0 W (((A ++ [(rb, refO v)]) ++ S) ++ Ft) → ∀ i x, L'[i]? = some x → ∃ g off cap, v = .slice (some ⟨g, off, none⟩) L'.length cap ∧ W.cell? ⟨g, off + i * 2, none⟩ = some (.int .i64 x.1) ∧ W.cell? ⟨g, off + i * 2 + 1, none⟩ = some (.int .i64 x.2)) := Lib.hid fun W Ft h1 i x hx => by
    obtain ⟨a, cap, rfl, _, _, ha⟩ := hs.form
    obtain ⟨g, off, rfl⟩ := ha i (List.getElem?_eq_some_iff.1 hx).1
    exact ⟨g, off, cap, rfl, hs.due (h1.perm (perm_k _ _ _)) hx⟩
  have fin : Hid (∀ W Ft a n c (T : List (Int × Int)), SlIs 42 2 (.slice a n c) T.length (duesV T) Ft → St B w0 W (((A ++ [(rb, refO v)]) ++ S) ++ Ft) → RefAt B w0 (W.setCell ⟨rb, 0, none⟩ (.slice a n c)) A rb T) := Lib.hid fun W Ft a n c T h1 h2 => RefAt.relaid h2 h1
  obtain ⟨av, cv, rfl, -, -, -⟩ := hs.form
  replace hst := Lib.hid hst
  have hL1 : (L'.length : Int) ≤ 5000 := by omega
  generalize hX : (A ++ [(rb, refO (.slice av L'.length cv))]) ++ S = X at *
  clear hs hX
  go_wp2_with fail
  go_loopg [6, 7, 8] L'.length (fun g v6 v7 v8 wr => SetAt B w0 X (t, id) L' g v6 v7 v8 wr)
  case atStart => exact ⟨0, false, none, 0, [], [], rfl, rfl, rfl, by omega, Lib.hid rfl, by simp, SlIs.nil, by simpa using hst.out⟩
  case round =>
    obtain ⟨i, d, a, c, T, Ft, rfl, rfl, rfl, hi, hT, hTl, h1, h2⟩ := hrel
    clear hst
    obtain ⟨c0, cf⟩ := hc0.out _ _ h2
    have hd1 := Bool.toNat_le d
    by_cases hlt : i < L'.length
    · have hx : L'[i]? = some L'[i] := List.getElem?_eq_getElem hlt
      have hdr : L'.drop i = L'[i] :: L'.drop (i + 1) := List.drop_eq_getElem_cons hlt
      generalize L'[i] = x at hx hdr
      obtain ⟨gb, off, cap, e, k1, k2⟩ := hcell.out _ _ h2 i x hx
      cases e
      have hi1 : (i : Int) < L'.length := by omega
      have hi0 : (0 : Int) ≤ i := by omega
      have hT' := hT.out
      rw [hdr] at hT'
      have hst1 : St B w0 (wr.alloc (.cells #[.int .i64 x.1, .int .i64 x.2] 42)) (((wr.heap.size, .cells #[.int .i64 x.1, .int .i64 x.2] 42) :: X) ++ Ft) := h2.alloc _
      have hd0 : (wr.alloc (.cells #[.int .i64 x.1, .int .i64 x.2] 42)).cell? ⟨wr.heap.size, 0, none⟩ = some (.int .i64 x.1) := hst1.cell (List.mem_append_left _ List.mem_cons_self) rfl
      have hd1 : (wr.alloc (.cells #[.int .i64 x.1, .int .i64 x.2] 42)).cell? ⟨wr.heap.size, 1, none⟩ = some (.int .i64 x.2) := hst1.cell (List.mem_append_left _ List.mem_cons_self) rfl
      have plain : (d = true ∨ ¬ lt2 (t, id) x) → T ++ comes (t, id) d (x :: L'.drop (i + 1)) = (T ++ [x]) ++ comes (t, id) d (L'.drop (i + 1)) := by
        rintro (rfl | hn)
        · simp [comes]
        · cases d
          · rw [comes_cons, if_neg hn]; simp
          · simp [comes]
      by_cases hins : d = true ∨ ¬ lt2 (t, id) x
      · obtain ⟨a2, c2, W2, F2, hr, hs2, hst2⟩ := due_append h1 hst1 x (by omega)
        rw [World.size_alloc] at hr
        have hst3 := hst2.sub (H' := X ++ F2) (List.sublist_cons_self _ _)
        have hT2 := hT'
        rw [plain hins] at hT2
        replace hT2 := Lib.hid hT2
        have hlen : T.length + 1 = (T ++ [x]).length := by simp
        rw [hlen] at hr hs2
        have hTl2 : (T ++ [x]).length ≤ i + 1 + d.toNat := by omega
        replace hs2 := Lib.hid hs2
        replace hst3 := Lib.hid hst3
        obtain ⟨x1, x2⟩ := x
        simp only at k1 k2 hd0 hd1 hr
        generalize T ++ [(x1, x2)] = T2 at *
        have hins' : d = true ∨ (¬ t < x1 ∧ ¬ (t = x1 ∧ id < x2)) := by
          rcases hins with h | h
          · exact .inl h
          · exact .inr (by unfold lt2 at h; simp only at h; omega)
        clear hins plain hT' hT hx hdr h1 h2 hst1 hst2 cf hlen
        generalize T.length = tl at *
        rcases hins' with rfl | ⟨hn1, hn2⟩
        · go_wp2_with (at_builtin; refine wpList_append_go rfl (.tmp 55) (.tmp 57) 27 27 rfl _ _ rfl rfl hr ?_)
          go_roundg (L'.length - (i + 1))
          case measure => omega
          case rel => exact ⟨i + 1, true, a2, c2, T2, F2, by go_num, rfl, rfl, by omega, hT2, hTl2, hs2.out, hst3.out⟩
        · cases d
          · rcases Int.lt_trichotomy x1 t with hc | rfl | hc
            · have hq : (x1 == t) = false := by rw [beq_eq_false_iff_ne]; omega
              go_wp2_with (at_builtin; refine wpList_append_go rfl (.tmp 55) (.tmp 57) 27 27 rfl _ _ rfl rfl hr ?_)
              go_roundg (L'.length - (i + 1))
              case measure => omega
              case rel => exact ⟨i + 1, false, a2, c2, T2, F2, by go_num, rfl, rfl, by omega, hT2, hTl2, hs2.out, hst3.out⟩
            · have hq : ¬ id < x2 := fun h => hn2 ⟨rfl, h⟩
              clear hn1 hn2
              go_wp2_with (at_builtin; refine wpList_append_go rfl (.tmp 55) (.tmp 57) 27 27 rfl _ _ rfl rfl hr ?_)
              go_roundg (L'.length - (i + 1))
              case measure => omega
              case rel => exact ⟨i + 1, false, a2, c2, T2, F2, by go_num, rfl, rfl, by omega, hT2, hTl2, hs2.out, hst3.out⟩
            · omega
          · go_wp2_with (at_builtin; refine wpList_append_go rfl (.tmp 55) (.tmp 57) 27 27 rfl _ _ rfl rfl hr ?_)
            go_roundg (L'.length - (i + 1))
            case measure => omega
            case rel => exact ⟨i + 1, true, a2, c2, T2, F2, by go_num, rfl, rfl, by omega, hT2, hTl2, hs2.out, hst3.out⟩
      · obtain ⟨rfl, hlt2⟩ : d = false ∧ lt2 (t, id) x := by
          cases d
          · exact ⟨rfl, Decidable.byContradiction fun h => hins (.inr h)⟩
          · exact absurd (.inl rfl) hins
        obtain ⟨a2, c2, W2, F2, hr, hs2, hst2⟩ := due_append h1 hst1 (t, id) (by omega)
        rw [World.size_alloc] at hr
        have hlen2 : T.length + 1 = (T ++ [(t, id)]).length := by simp
        rw [hlen2] at hr hs2
        have hTl0 : T.length ≤ i := hTl
        have e0 : W2.cell? ⟨wr.heap.size, 0, none⟩ = some (.int .i64 x.1) := hst2.cell (List.mem_append_left _ List.mem_cons_self) rfl
        have e1 : W2.cell? ⟨wr.heap.size, 1, none⟩ = some (.int .i64 x.2) := hst2.cell (List.mem_append_left _ List.mem_cons_self) rfl
        obtain ⟨a3, c3, W3, F3, hr3, hs3, hst3⟩ := due_append hs2 hst2 x (by omega)
        have hst4 := hst3.sub (H' := X ++ F3) (List.sublist_cons_self _ _)
        have hT2 : (T ++ [(t, id)] ++ [x]) ++ comes (t, id) true (L'.drop (i + 1)) = ins (t, id) L' := by
          rw [← hT', comes_cons, if_pos hlt2]; simp
        replace hT2 := Lib.hid hT2
        have hlen3 : (T ++ [(t, id)]).length + 1 = (T ++ [(t, id)] ++ [x]).length := by simp
        rw [hlen3] at hr3 hs3
        have hTl3 : (T ++ [(t, id)] ++ [x]).length ≤ i + 1 + (true : Bool).toNat := by simp; omega
        replace hs3 := Lib.hid hs3
        replace hst4 := Lib.hid hst4
        obtain ⟨x1, x2⟩ := x
        simp only at k1 k2 hd0 hd1 hr hr3 e0 e1
        have hlt3 : t < x1 ∨ (t = x1 ∧ id < x2) := hlt2
        generalize T ++ [(t, id)] ++ [(x1, x2)] = T3 at *
        generalize T ++ [(t, id)] = T2 at *
        clear hins plain hT' hT hx hdr h1 h2 hst1 hst2 cf hlen2 hlen3 hs2 hst3 hlt2
        generalize T.length = tl at *
        generalize T2.length = tl2 at *
        rcases hlt3 with hc | ⟨rfl, hc⟩
        · go_wp2_with (first | (at_builtin; refine wpList_append_go rfl (.tmp 49) (.tmp 53) 27 27 rfl _ _ rfl rfl hr ?_) | (at_builtin; refine wpList_append_go rfl (.tmp 55) (.tmp 57) 27 27 rfl _ _ rfl rfl hr3 ?_))
          go_roundg (L'.length - (i + 1))
          case measure => omega
          case rel => exact ⟨i + 1, true, a3, c3, T3, F3, by go_num, rfl, rfl, by omega, hT2, hTl3, hs3.out, hst4.out⟩
        · go_wp2_with (first | (at_builtin; refine wpList_append_go rfl (.tmp 49) (.tmp 53) 27 27 rfl _ _ rfl rfl hr ?_) | (at_builtin; refine wpList_append_go rfl (.tmp 55) (.tmp 57) 27 27 rfl _ _ rfl rfl hr3 ?_))
          go_roundg (L'.length - (i + 1))
          case measure => omega
          case rel => exact ⟨i + 1, true, a3, c3, T3, F3, by go_num, rfl, rfl, by omega, hT2, hTl3, hs3.out, hst4.out⟩
    · obtain rfl : i = L'.length := by omega
      have hT2 := hT.out
      rw [List.drop_length] at hT2
      cases d
      · obtain ⟨a2, c2, W2, F2, hr, hs2, hst2⟩ := due_append h1 h2 (t, id) (by omega)
        obtain ⟨e0, ef⟩ := hc0.out _ _ hst2
        have hT3 : T ++ [(t, id)] = ins (t, id) L' := hT2
        rw [hT3] at hs2
        have hlen : T.length + 1 = (ins (t, id) L').length := by rw [← hT3]; simp
        rw [hlen] at hr hs2
        have f2 := Lib.hid (fin.out _ _ _ _ _ _ hs2 hst2)
        clear h1 h2 hT hT2 hT3 hs2 hst2 hlen hTl
        generalize T.length = tl at *
        generalize (ins (t, id) L').length = tl2 at *
        go_wp2_with (at_builtin; refine wpList_append_go rfl (.tmp 61) (.tmp 65) 27 27 rfl _ _ rfl rfl hr ?_)
        exact bodyPost_end (results_none rfl _ _ _) rfl ⟨rfl, f2.out⟩
      · have hT3 : T = ins (t, id) L' := by rw [← hT2]; simp [comes]
        have f2 : Hid (RefAt B w0 (wr.setCell ⟨rb, 0, none⟩ (.slice a T.length c)) A rb (ins (t, id) L')) := Lib.hid (by
          have h3 := fin.out _ _ _ _ _ _ h1 h2
          rw [← hT3]
          exact h3)
        clear h1 h2 hT hT2 hT3 hTl
        generalize T.length = tl at *
        go_wp2_with fail
        exact bodyPost_end (results_none rfl _ _ _) rfl ⟨rfl, f2.out⟩
end
end Go.Proofs.Ytldocgpnmfmnaaa
