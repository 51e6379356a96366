/- The document's own dial: a sorted row. Clear, Set, When, Due. -/
import Derived.Test.YtldocgpnmfmnaaaDlK
import Derived.Deep.DeepCutAuto
namespace Go.Proofs.Ytldocgpnmfmnaaa
open Go.RowKit
set_option linter.unusedVariables false

/-! ### rows as cells -/
def duesV (l : List (Int × Int)) : List Value := l.flatMap fun r => [.int .i64 r.1, .int .i64 r.2]
theorem duesV_cons (r : Int × Int) (l : List (Int × Int)) : duesV (r :: l) = .int .i64 r.1 :: .int .i64 r.2 :: duesV l := rfl
theorem duesV_append (l m : List (Int × Int)) : duesV (l ++ m) = duesV l ++ duesV m := by simp [duesV]
theorem duesV_len : ∀ (l : List (Int × Int)), (duesV l).length = l.length * 2
  | [] => rfl
  | r :: l => by rw [duesV_cons, List.length_cons, List.length_cons, duesV_len l, List.length_cons]; omega
theorem duesV_at : ∀ {l : List (Int × Int)} {i : Nat} {r : Int × Int}, l[i]? = some r → (duesV l)[i * 2]? = some (.int .i64 r.1) ∧ (duesV l)[i * 2 + 1]? = some (.int .i64 r.2)
  | [], _, _, h => by simp at h
  | r :: l, 0, s, h => by simp at h; subst h; simp [duesV_cons]
  | r :: l, i + 1, s, h => by
    have := duesV_at (l := l) (i := i) (r := s) (by simpa using h)
    rw [duesV_cons]
    rw [show (i + 1) * 2 = i * 2 + 1 + 1 by omega, show i * 2 + 1 + 1 + 1 = (i * 2 + 1) + 1 + 1 by omega]
    simpa using this
theorem duesV_one (l : List (Int × Int)) : ∀ u ∈ duesV l, u.oneCell' = true := by
  intro u hu
  obtain ⟨r, _, hr⟩ := List.mem_flatMap.1 hu
  rcases List.mem_cons.1 hr with rfl | hr
  · rfl
  · obtain rfl := List.mem_singleton.1 hr
    rfl

theorem uDues : Try.prog.underlying 27 = some (.slice 42) := by kernel_rfl
theorem infDue : (Try.prog.info? 42).map (fun i => (i.zero, i.size, i.bytes)) = some (some (.agg #[.int .i64 0, .int .i64 0]), 2, 16) := by kernel_rfl

abbrev refO (v : Value) : Obj := .cells #[v] 29
/-- At rb lies the document's dial with the row L; beside it A. -/
def RefAt (B : Nat) (w0 w : World) (A : List (Nat × Obj)) (rb : Nat) (L : List (Int × Int)) : Prop :=
  ∃ v S, SlIs 42 2 v L.length (duesV L) S ∧ St B w0 w ((A ++ [(rb, refO v)]) ++ S)

section
variable {B : Nat} {w0 w : World} {rb : Nat} {A S X : List (Nat × Obj)} {v : Value} {L : List (Int × Int)} {id t : Int}

theorem SlIs.due {g off cap n i : Nat} {x : Int × Int} (h : SlIs 42 2 (.slice (some ⟨g, off, none⟩) n cap) n (duesV L) S) (hst : St B w0 w (X ++ S)) (hx : L[i]? = some x) :
    w.cell? ⟨g, off + i * 2, none⟩ = some (.int .i64 x.1) ∧ w.cell? ⟨g, off + i * 2 + 1, none⟩ = some (.int .i64 x.2) :=
  ⟨h.cellAt hst (duesV_at hx).1, h.cellAt hst (duesV_at hx).2⟩

theorem perm_k {α : Type} (X S T : List α) : ((X ++ S) ++ T).Perm ((X ++ T) ++ S) := by
  classical
  exact List.perm_iff_count.2 fun a => by simp only [List.count_append]; omega

/-- One row more, onto a slice of the call's own. -/
theorem due_append {v : Value} {T : List (Int × Int)} {Ft : List (Nat × Obj)} (hs : SlIs 42 2 v T.length (duesV T) Ft) (hst : St B w0 w (X ++ Ft)) (x : Int × Int) (hl : T.length ≤ 100000) :
    ∃ a c W2 F2, (Builtin.append_ #[27, 27] 0 #[v, .slice (some ⟨w.heap.size, 0, none⟩) 1 1]).run Try.prog (w.alloc (.cells #[.int .i64 x.1, .int .i64 x.2] 42)) = .ok (.slice a (T.length + 1) c) W2 ∧
      SlIs 42 2 (.slice a (T.length + 1) c) (T ++ [x]).length (duesV (T ++ [x])) F2 ∧ St B w0 W2 (X ++ F2) := by
  obtain ⟨i0, hi0, hz0, hz1, hz2⟩ := info_parts5 infDue
  have hb : (w.alloc (.cells #[.int .i64 x.1, .int .i64 x.2] 42)).heap[w.heap.size]? = some (.cells [Value.int .i64 x.1, .int .i64 x.2].toArray 42) := (MapKept.heap_alloc w _).1
  have hrd : Reads (w.alloc (.cells #[.int .i64 x.1, .int .i64 x.2] 42)) (.slice (some ⟨w.heap.size, 0, none⟩) 1 1) 1 2 [.int .i64 x.1, .int .i64 x.2] := Reads.block hb rfl 1
  obtain ⟨v2, W2, F2, hr, hs2, hst2⟩ := run_append_sl (P := Try.prog) 27 0 42 i0 _ 2 16 uDues hi0 hz0 hz1 hz2 rfl hs (A := (w.heap.size, .cells #[.int .i64 x.1, .int .i64 x.2] 42) :: X) (hst.alloc _) hrd
    (by intro u hu; simp only [List.mem_cons, List.not_mem_nil, or_false] at hu; rcases hu with rfl | rfl <;> rfl) (by unfold maxLen; omega) (by omega)
  obtain ⟨a, c, rfl, -⟩ := hs2.form
  refine ⟨a, c, W2, F2, hr, ?_, hst2.sub (List.sublist_cons_self _ _)⟩
  rw [List.length_append, List.length_singleton, duesV_append]
  exact hs2

/-- The header turned to a slice that lies beside. -/
theorem RefAt.relaid {v v' : Value} {T : List (Int × Int)} {S Ft : List (Nat × Obj)} (hst : St B w0 w (((A ++ [(rb, refO v)]) ++ S) ++ Ft)) (hs : SlIs 42 2 v' T.length (duesV T) Ft) :
    RefAt B w0 (w.setCell ⟨rb, 0, none⟩ v') A rb T := by
  refine ⟨v', Ft, hs, ?_⟩
  have h1 : St B w0 w (A ++ (rb, refO v) :: (S ++ Ft)) := by simpa using hst
  have h2 : St B w0 (w.setCell ⟨rb, 0, none⟩ v') (A ++ (rb, refO v') :: (S ++ Ft)) := h1.set 0 v'
  refine (h2.sub (H' := A ++ (rb, refO v') :: Ft) ?_).perm (List.Perm.of_eq (by simp))
  exact (List.Sublist.refl A).append (List.Sublist.cons_cons _ (List.sublist_append_right _ _))

theorem del_step {L : List (Int × Int)} {i : Nat} {x : Int × Int} (hx : L[i]? = some x) : del id (L.take (i + 1)) = del id (L.take i) ++ (if x.2 = id then [] else [x]) := by
  rw [List.take_add_one, hx]
  unfold del
  rw [List.filter_append]
  congr 1
  by_cases h : x.2 = id <;> simp [h]
theorem has_del (h : (L.map (·.2)).Nodup) : hasL id L = decide ((del id L).length < L.length) := by
  unfold hasL whenL del
  rw [Option.isSome_map]
  induction L with
  | nil => rfl
  | cons y L ih =>
    rw [List.map_cons, List.nodup_cons] at h
    have hle := List.length_filter_le (fun x : Int × Int => x.2 != id) L
    by_cases hy : y.2 = id
    · rw [List.find?_cons_of_pos (by simpa using hy), List.filter_cons_of_neg (by simpa using hy)]
      simp only [Option.isSome_some, List.length_cons]
      exact (decide_eq_true (by omega)).symm
    · rw [List.find?_cons_of_neg (by simpa using hy), List.filter_cons_of_pos (by simpa using hy), ih h.2]
      simp

/-- Behind Clear. -/
def RdClearR (B : Nat) (w0 : World) (A : List (Nat × Obj)) (rb : Nat) (L : List (Int × Int)) (id : Int) (e : Ending) (w' : World) : Prop :=
  e = .returned (.bool (decide ((del id L).length < L.length))) ∧ RefAt B w0 w' A rb (del id L)

set_option maxHeartbeats 2000000 in
set_option maxRecDepth 100000 in
theorem rd_clear (h : RefAt B w0 w A rb L) (hL : L.length ≤ 5000) (id : Int) : Calls Try.prog 12 #[.pointer (some ⟨rb, 0, none⟩), .int .i64 id] w (RdClearR B w0 A rb L id) := by
  obtain ⟨v, S, hs, hst⟩ := h
  have hc0 : Hid (∀ W Ft, St B w0 W (((A ++ [(rb, refO v)]) ++ S) ++ Ft) → W.cell? ⟨rb, 0, none⟩ = some v ∧ W.frozen? ⟨rb, 0, none⟩ = false) := Lib.hid fun W Ft h1 =>
    ⟨h1.cell (b := rb) (c := #[v]) (T := 29) (fr := (0, 0)) (by simp) rfl, St.soft h1 (b := rb) (c := #[v]) (T := 29) (by simp) 0⟩
  have hcell : Hid (∀ W Ft, St B w0 W (((A ++ [(rb, refO v)]) ++ S) ++ Ft) → ∀ i x, L[i]? = some x → ∃ g off cap, v = .slice (some ⟨g, off, none⟩) L.length cap ∧ W.cell? ⟨g, off + i * 2, none⟩ = some (.int .i64 x.1) ∧ W.cell? ⟨g, off + i * 2 + 1, none⟩ = some (.int .i64 x.2)) := Lib.hid fun W Ft h1 i x hx => by
    obtain ⟨a, cap, rfl, _, _, ha⟩ := hs.form
    obtain ⟨g, off, rfl⟩ := ha i (List.getElem?_eq_some_iff.1 hx).1
    exact ⟨g, off, cap, rfl, hs.due (h1.perm (perm_k _ _ _)) hx⟩
  have fin : Hid (∀ W Ft a n c, SlIs 42 2 (.slice a n c) (del id L).length (duesV (del id L)) Ft → St B w0 W (((A ++ [(rb, refO v)]) ++ S) ++ Ft) → RefAt B w0 (W.setCell ⟨rb, 0, none⟩ (.slice a n c)) A rb (del id L)) := Lib.hid fun W Ft a n c h1 h2 => RefAt.relaid h2 h1
  obtain ⟨av, cv, rfl, -, -, -⟩ := hs.form
  replace hst := Lib.hid hst
  have hL1 : (L.length : Int) ≤ 5000 := by omega
  generalize hX : (A ++ [(rb, refO (.slice av L.length cv))]) ++ S = X at *
  clear hs hX
  go_enter Try.func12, Try.ntmps12
  go_wp2_with fail
  go_loopg [5, 6] L.length (fun g v5 v6 wr => ∃ (i : Nat) (a : Option Addr) (c : Nat) (T : List (Int × Int)) (Ft : List (Nat × Obj)), v6 = .int .i64 i ∧ v5 = .slice a T.length c ∧ i + g = L.length ∧ Hid (T = del id (L.take i)) ∧ T.length ≤ 5000 ∧ SlIs 42 2 (.slice a T.length c) T.length (duesV T) Ft ∧ St B w0 wr (X ++ Ft))
  case atStart => exact ⟨0, none, 0, [], [], rfl, rfl, by omega, Lib.hid rfl, by simp, SlIs.nil, by simpa using hst.out⟩
  case round =>
    obtain ⟨i, a, c, T, Ft, rfl, rfl, hi, hT, hTl, h1, h2⟩ := hrel
    clear hst
    obtain ⟨c0, cf⟩ := hc0.out _ _ h2
    by_cases hlt : i < L.length
    · have hx : L[i]? = some L[i] := List.getElem?_eq_getElem hlt
      generalize L[i] = x at hx
      obtain ⟨gb, off, cap, e, k1, k2⟩ := hcell.out _ _ h2 i x hx
      cases e
      have hd := del_step (id := id) hx
      have hi1 : (i : Int) < L.length := by omega
      have hi0 : (0 : Int) ≤ i := by omega
      have hdl : (del id (L.take (i + 1))).length ≤ 5000 := by
        have := List.length_filter_le (fun x : Int × Int => x.2 != id) (L.take (i + 1))
        rw [List.length_take] at this
        unfold del
        omega
      rw [← hT.out] at hd
      by_cases he : x.2 = id
      · have he' : (x.2 != id) = false := by simp [he]
        rw [if_pos he, List.append_nil] at hd
        replace hT := Lib.hid hd.symm
        replace h1 := Lib.hid h1
        replace h2 := Lib.hid h2
        obtain ⟨x1, x2⟩ := x
        simp only at k1 k2 he he'
        clear hd hx cf hdl he
        go_wp2_with fail
        go_roundg (L.length - (i + 1))
        case measure => omega
        case rel => exact ⟨i + 1, a, c, T, Ft, by go_num, rfl, by omega, hT, hTl, h1.out, h2.out⟩
      · have he' : (x.2 != id) = true := by simp [he]
        rw [if_neg he] at hd
        obtain ⟨a2, c2, W2, F2, hr, hs2, hst2⟩ := due_append h1 h2 x (by omega)
        rw [← hd] at hs2
        have hlen : T.length + 1 = (del id (L.take (i + 1))).length := by rw [hd]; simp
        rw [hlen] at hr hs2
        replace h1 := Lib.hid h1
        replace h2 := Lib.hid h2
        replace hs2 := Lib.hid hs2
        replace hst2 := Lib.hid hst2
        obtain ⟨x1, x2⟩ := x
        simp only at k1 k2 he he' hr
        generalize hT2 : del id (L.take (i + 1)) = T2 at *
        replace hT2 := Lib.hid hT2.symm
        clear hd hx cf he hlen
        generalize T.length = tl at *
        go_wp2_with (at_builtin; refine wpList_append_go rfl (.tmp 27) (.tmp 35) 27 27 rfl _ _ rfl rfl hr ?_)
        go_roundg (L.length - (i + 1))
        case measure => omega
        case rel => exact ⟨i + 1, a2, c2, T2, F2, by go_num, rfl, by omega, hT2, hdl, hs2.out, hst2.out⟩
    · obtain rfl : i = L.length := by omega
      have hT2 := hT.out
      rw [List.take_length] at hT2
      have f2 : Hid (∀ e W, e = .returned (.bool (decide (T.length < L.length))) → W = wr.setCell ⟨rb, 0, none⟩ (.slice a T.length c) → RdClearR B w0 A rb L id e W) := Lib.hid fun e W he hW => by
        subst he hW hT2
        exact ⟨rfl, fin.out _ _ _ _ _ h1 h2⟩
      have hT0 : (0 : Int) ≤ T.length := by omega
      have hT5 : (T.length : Int) ≤ 5000 := by omega
      clear h1 h2 hT hT2
      generalize T.length = tl at *
      go_wp2_with fail
      go_ret
      exact f2.out _ _ rfl rfl

/-! ### When -/
theorem RefAt.cells (h : RefAt B w0 w A rb L) : ∃ a cap, w.cell? ⟨rb, 0, none⟩ = some (.slice a L.length cap) ∧ ∀ i x, L[i]? = some x → ∃ g off, a = some ⟨g, off, none⟩ ∧ w.cell? ⟨g, off + i * 2, none⟩ = some (.int .i64 x.1) ∧ w.cell? ⟨g, off + i * 2 + 1, none⟩ = some (.int .i64 x.2) := by
  obtain ⟨v, S, hs, hst⟩ := h
  have hs' := hs
  obtain ⟨a, cap, rfl, _, _, ha⟩ := hs'.form
  refine ⟨a, cap, hst.cell (b := rb) (c := #[.slice a L.length cap]) (T := 29) (fr := (0, 0)) (by simp) rfl, fun i x hx => ?_⟩
  obtain ⟨g, off, rfl⟩ := ha i (List.getElem?_eq_some_iff.1 hx).1
  exact ⟨g, off, rfl, hs.due hst hx⟩

theorem when_step {L : List (Int × Int)} {i : Nat} {x : Int × Int} (hx : L[i]? = some x) : whenL id (L.drop i) = if x.2 = id then some x.1 else whenL id (L.drop (i + 1)) := by
  obtain ⟨hlt, he⟩ := List.getElem?_eq_some_iff.1 hx
  rw [List.drop_eq_getElem_cons hlt, he]
  unfold whenL
  by_cases h : x.2 = id
  · rw [List.find?_cons_of_pos (by simpa using h), if_pos h]; rfl
  · rw [List.find?_cons_of_neg (by simpa using h), if_neg h]

set_option maxHeartbeats 1000000 in
theorem rd_when (h : RefAt B w0 w A rb L) (hL : L.length ≤ 5000) (id : Int) : Calls Try.prog 17 #[.pointer (some ⟨rb, 0, none⟩), .int .i64 id] w fun e w' => e = .returned (optV (whenL id L)) ∧ w' = w := by
  obtain ⟨a, cap, c0, hcell⟩ := h.cells
  have hL1 : (L.length : Int) ≤ 5000 := by omega
  replace hcell := Lib.hid hcell
  clear h
  go_enter Try.func17, Try.ntmps17
  go_wp2_with fail
  go_loopg [6] L.length (fun g v6 wr => ∃ i : Nat, v6 = .int .i64 i ∧ i + g = L.length ∧ Hid (whenL id L = whenL id (L.drop i)) ∧ wr = w)
  case atStart => exact ⟨0, rfl, by omega, Lib.hid rfl, rfl⟩
  case round =>
    obtain ⟨i, rfl, hi, hw, rfl⟩ := hrel
    by_cases hlt : i < L.length
    · have hx : L[i]? = some L[i] := List.getElem?_eq_getElem hlt
      generalize L[i] = x at hx
      obtain ⟨g, off, rfl, k1, k2⟩ := hcell.out i x hx
      have hd := when_step (id := id) hx
      rw [← hw.out] at hd
      have hi1 : (i : Int) < L.length := by omega
      have hi0 : (0 : Int) ≤ i := by omega
      obtain ⟨x1, x2⟩ := x
      simp only at k1 k2 hd
      clear hx
      by_cases he : x2 = id
      · have he' : (x2 == id) = true := by simp [he]
        rw [if_pos he] at hd
        replace hd := Lib.hid hd
        clear he
        go_wp2_with fail
        go_ret2
        exact ⟨by rw [hd.out]; rfl, rfl⟩
      · have he' : (x2 == id) = false := by simp [he]
        rw [if_neg he] at hd
        replace hd := Lib.hid hd
        clear he
        go_wp2_with fail
        go_roundg (L.length - (i + 1))
        case measure => omega
        case rel => exact ⟨i + 1, by go_num, by omega, hd, rfl⟩
    · obtain rfl : i = L.length := by omega
      have hd := hw.out
      rw [List.drop_length] at hd
      replace hd := Lib.hid hd
      go_wp2_with fail
      go_ret2
      exact ⟨by rw [hd.out]; rfl, rfl⟩
end
end Go.Proofs.Ytldocgpnmfmnaaa
