/- The document's own sets in memory: a turn. -/
import Derived.Test.YtkahncfhphdkfaaRgsR
import Derived.Deep.CutBlock
namespace Go.Proofs.Ytkahncfhphdkfaa
open Go.RowKit
set_option linter.unusedVariables false

theorem stepT_x (on : Bool) (lo hi : Int) (s : TS) (y : Row) : (stepT on lo hi s y).x = s.x ∨ (stepT on lo hi s y).x = joinR s.x y := by
  unfold stepT
  split
  · exact .inr rfl
  · split
    · exact .inl rfl
    · split <;> exact .inl rfl
theorem pieces_len (lo hi : Int) (y : Row) : (pieces lo hi y).length ≤ 2 := by
  unfold pieces
  split <;> split <;> simp
theorem stepT_len (on : Bool) (lo hi : Int) (s : TS) (y : Row) : (stepT on lo hi s y).out.length ≤ s.out.length + 2 := by
  have := pieces_len lo hi y
  unfold stepT
  split
  · simp
  · split
    · simp
    · split
      · simp
      · simp only [List.length_append]; omega
def FitR (r : Row) : Prop := 1 ≤ r.1 ∧ r.1 ≤ r.2 ∧ r.2 ≤ 1000000
theorem foldT_is (on : Bool) (lo hi : Int) : ∀ (l : List Row) (s : TS), FitR s.x → Fit l → FitR (l.foldl (stepT on lo hi) s).x ∧ (l.foldl (stepT on lo hi) s).out.length ≤ s.out.length + 2 * l.length
  | [], s, h, _ => ⟨h, by simp⟩
  | y :: l, s, h, hf => by
    have hy := hf y (by simp)
    have hx : FitR (stepT on lo hi s y).x := by
      rcases stepT_x on lo hi s y with e | e
      · rw [e]; exact h
      · rw [e]
        obtain ⟨h1, h2, h3⟩ := h
        exact ⟨by show 1 ≤ min s.x.1 y.1; omega, by show min s.x.1 y.1 ≤ max s.x.2 y.2; omega, by show max s.x.2 y.2 ≤ 1000000; omega⟩
    obtain ⟨h1, h2⟩ := foldT_is on lo hi l _ hx fun x hx => hf x (by simp [hx])
    have h3 := stepT_len on lo hi s y
    refine ⟨h1, ?_⟩
    rw [List.foldl_cons, List.length_cons]
    omega
theorem runT_is (on : Bool) {lo hi : Int} (h0 : 1 ≤ lo) (h1 : lo ≤ hi) (h2 : hi ≤ 1000000) {l : List Row} (hf : Fit l) : FitR (runT on lo hi l).x ∧ (runT on lo hi l).out.length ≤ 2 * l.length := by
  obtain ⟨h3, h4⟩ := foldT_is on lo hi l (startT on lo hi) ⟨h0, h1, h2⟩ hf
  exact ⟨h3, by simpa [startT, runT] using h4⟩

section
variable {B : Nat} {w0 w : World} {F S X : List (Nat × Obj)} {fb : Nat} {v : Value} {l : List Row}

/-- Rows more behind a slice that the call owns. -/
theorem rows_push {X Ft : List (Nat × Obj)} {T : List Row} {a : Option Addr} {cap : Nat} (hs : SlIs 40 2 (.slice a T.length cap) T.length (rowsV T) Ft) (hst : St B w0 w (X ++ Ft)) (qs : List Row) (hl : T.length + qs.length ≤ 4000000) :
    ∃ a' cap' w' F', (Builtin.append_ #[27, 27] 0 #[.slice a T.length cap, .slice (some ⟨w.heap.size, 0, none⟩) qs.length qs.length]).run Try.prog (w.alloc (.cells (rowsV qs).toArray 40)) = .ok (.slice a' (T ++ qs).length cap') w' ∧
      SlIs 40 2 (.slice a' (T ++ qs).length cap') (T ++ qs).length (rowsV (T ++ qs)) F' ∧ St B w0 w' (X ++ F') := by
  obtain ⟨i0, hi0, hz0, hz1, hz2⟩ := info_parts infPair
  have hst1 := (hst.alloc (.cells (rowsV qs).toArray 40)).sub (List.sublist_cons_self _ _)
  have hrd : Reads (w.alloc (.cells (rowsV qs).toArray 40)) (.slice (some ⟨w.heap.size, 0, none⟩) qs.length qs.length) qs.length 2 (rowsV qs) :=
    Reads.block (cs := rowsV qs) (T := 40) (fr := (0, 0)) (MapKept.heap_alloc w _).1 (rowsV_len qs) _
  obtain ⟨v', w', F', hr, hs', hst'⟩ := run_append_sl (P := Try.prog) 27 0 40 i0 _ 2 16 uRows hi0 hz0 hz1 hz2 rfl hs hst1 hrd (rowsV_one qs) (by unfold maxLen; omega) (by omega)
  rw [← rowsV_append, ← List.length_append] at hs'
  obtain ⟨a', cap', rfl, -, -, -⟩ := hs'.form
  exact ⟨a', cap', w', F', hr, hs', hst'⟩

def RowsR (B : Nat) (w0 : World) (X : List (Nat × Obj)) (ys : List Row) (e : Ending) (w' : World) : Prop :=
  ∃ v' S', e = .returned v' ∧ SlIs 40 2 v' ys.length (rowsV ys) S' ∧ St B w0 w' (X ++ S')

set_option maxHeartbeats 4000000 in
set_option maxRecDepth 100000 in
theorem turned_any (on : Bool) {lo hi : Int} (b0 : 1 ≤ lo) (b1 : lo ≤ hi) (b2 : hi ≤ 1000000) (h : RefAt B w0 w fb v l F S) (hf : Fit l) (hl : l.length ≤ 1000000) :
    Calls Try.prog 25 #[gptr fb, .int .i64 lo, .int .i64 hi, .bool on] w (RowsR B w0 (((fb, .cells #[v] 29) :: F) ++ S) (turnL on lo hi l)) := by
  have hrd0 := h.read
  obtain ⟨a, cap, rfl, -⟩ := hrd0
  have hc0 : ∀ W Y, St B w0 W (Y ++ (((fb, .cells #[.slice a l.length cap] 29) :: F) ++ S)) → W.cell? ⟨fb, 0, none⟩ = some (.slice a l.length cap) ∧ ∀ k r, l[k]? = some r → ∃ b off, a = some ⟨b, off, none⟩ ∧ W.cell? ⟨b, off + k * 2, none⟩ = some (.int .i64 r.1) ∧ W.cell? ⟨b, off + k * 2 + 1, none⟩ = some (.int .i64 r.2) := fun W Y h1 => by
    refine ⟨h1.cell (b := fb) (c := #[.slice a l.length cap]) (T := 29) (fr := (0, 0)) (by simp) rfl, fun k r hr => ?_⟩
    obtain ⟨a', cap', e, h2⟩ := h.sl.readRows (A := Y ++ ((fb, .cells #[.slice a l.length cap] 29) :: F)) (by simpa using h1)
    cases e
    exact h2 k r hr
  have hst := h.st
  generalize hX : (((fb, Obj.cells #[.slice a l.length cap] 29 (0, 0)) :: F) ++ S) = X at *
  replace hc0 := Lib.hid hc0
  replace hf := Lib.hid hf
  have hst1 := Lib.hid (hst.alloc (.cells #[.int .i64 lo, .int .i64 hi] 40))
  clear h hst hX
  go_enter Try.func25, Try.ntmps25
  go_wp2_with fail
  generalize hxb : w.heap.size = xb at *
  generalize w.alloc (Obj.cells #[.int .i64 lo, .int .i64 hi] 40) = w1 at *
  clear hxb
  go_loopg [9, 11, 12] l.length (fun g v9 v11 v12 wr => ∃ (k cap9 : Nat) (a9 : Option Addr) (T : TS) (F9 : List (Nat × Obj)), v12 = .int .i64 k ∧ v9 = .slice a9 T.out.length cap9 ∧ v11 = .bool T.done ∧ k + g = l.length ∧ Hid (T = runT on lo hi (l.take k)) ∧
    SlIs 40 2 (.slice a9 T.out.length cap9) T.out.length (rowsV T.out) F9 ∧ St B w0 wr (((xb, .cells #[.int .i64 T.x.1, .int .i64 T.x.2] 40) :: X) ++ F9))
  case atStart => exact ⟨0, 0, none, startT on lo hi, [], rfl, rfl, rfl, by omega, Lib.hid (by simp [runT]), SlIs.nil, by simpa [startT] using hst1.out⟩
  case round =>
    obtain ⟨k, cap9, a9, T, F9, rfl, rfl, rfl, hk, hT, h1, h2⟩ := hrel
    have hTis := runT_is on b0 b1 b2 (hf.out.take k)
    rw [← hT.out] at hTis
    have hTl : T.out.length ≤ 2000000 := by have := hTis.2; rw [List.length_take] at this; omega
    obtain ⟨⟨x1, x2, x3⟩, -⟩ := hTis
    by_cases hlt : k < l.length
    · have hr : l[k]? = some l[k] := List.getElem?_eq_getElem hlt
      have hfr := hf.out l[k] (List.getElem_mem _)
      have hsu : ∀ T', T' = stepT on lo hi T l[k] → T' = runT on lo hi (l.take (k + 1)) := fun T' e => by rw [runT_succ hr, e, hT.out]
      generalize l[k] = y at hr hfr hsu
      obtain ⟨y1, y2⟩ := y
      have hcc := (hc0.out wr ((xb, .cells #[.int .i64 T.x.1, .int .i64 T.x.2] 40) :: F9) (h2.perm (by simp only [List.cons_append]; exact .cons _ List.perm_append_comm)))
      obtain ⟨c0, hcr⟩ := hcc
      obtain ⟨b, off, rfl, k1, k2⟩ := hcr k _ hr
      simp only at k1 k2 hfr
      obtain ⟨y3, y4, y5⟩ := hfr
      have hi0 : (0 : Int) ≤ k := by omega
      have hi1 : (k : Int) < l.length := by omega
      obtain ⟨out, ⟨q1, q2⟩, done⟩ := T
      simp only at x1 x2 x3 h1 h2 hTl
      have h3 := (h2.alloc (.cells #[.int .i64 y1, .int .i64 y2] 40)).perm (H' := (((wr.heap.size, .cells #[.int .i64 y1, .int .i64 y2] 40) :: (xb, .cells #[.int .i64 q1, .int .i64 q2] 40) :: X) ++ F9)) (by simp)
      have j0 : (wr.alloc (.cells #[.int .i64 y1, .int .i64 y2] 40)).cell? ⟨xb, 0, none⟩ = some (.int .i64 q1) := h3.cell (b := xb) (c := #[.int .i64 q1, .int .i64 q2]) (T := 40) (fr := (0, 0)) (by simp) rfl
      have j1 : (wr.alloc (.cells #[.int .i64 y1, .int .i64 y2] 40)).cell? ⟨xb, 1, none⟩ = some (.int .i64 q2) := h3.cell (b := xb) (c := #[.int .i64 q1, .int .i64 q2]) (T := 40) (fr := (0, 0)) (by simp) rfl
      have jf0 : (wr.alloc (.cells #[.int .i64 y1, .int .i64 y2] 40)).frozen? ⟨xb, 0, none⟩ = false := St.soft h3 (b := xb) (c := #[.int .i64 q1, .int .i64 q2]) (T := 40) (by simp) 0
      have jf1 : (wr.alloc (.cells #[.int .i64 y1, .int .i64 y2] 40)).frozen? ⟨xb, 1, none⟩ = false := St.soft h3 (b := xb) (c := #[.int .i64 q1, .int .i64 q2]) (T := 40) (by simp) 1
      have hne : Hid (wr.heap.size ≠ xb) := Lib.hid (fun e => by have := h2.lt (b := xb) (o := .cells #[.int .i64 q1, .int .i64 q2] 40) (by simp); omega)
      replace hsu := Lib.hid hsu
      replace h1 := Lib.hid h1
      replace h3 := Lib.hid h3
      clear h2 hT hcr hr
      cases on
      · by_cases g1 : y2 < lo
        · as_aux_lemma =>
            obtain ⟨a2, cap2, w2, F2, hr2, hs2, hst2⟩ := rows_push h1.out h3.out [(y1, y2)] (by simp; omega)
            simp only [rowsV_cons, rowsV_nil, List.length_cons, List.length_nil, World.size_alloc, Nat.zero_add] at hr2
            obtain ⟨n2, hn2⟩ : ∃ n2, n2 = (out ++ [(y1, y2)]).length := ⟨_, rfl⟩
            have hst3 := hst2.sub (H' := ((xb, .cells #[.int .i64 q1, .int .i64 q2] 40) :: X) ++ F2) ((List.sublist_cons_self _ _).append (List.Sublist.refl _))
            rw [← hn2] at hr2
            replace hn2 := Lib.hid hn2
            replace hs2 := Lib.hid hs2
            replace hst3 := Lib.hid hst3
            clear hst2 h1 h3
            generalize out.length = n0 at *
            go_wp2_with (at_builtin; refine wpList_append_go rfl (.tmp 120) (.tmp 122) 27 27 rfl _ _ rfl rfl hr2 ?_)
            go_roundg (l.length - (k + 1))
            case measure => omega
            case rel => exact ⟨k + 1, cap2, a2, ⟨out ++ [(y1, y2)], (q1, q2), done⟩, F2, by go_num, by rw [hn2.out], rfl, by omega, Lib.hid (hsu.out _ (by simp [stepT, g1])), hs2.out, hst3.out⟩
        · have g1' : decide (y2 < lo) = false := by simpa using g1
          by_cases g2 : hi < y1
          · as_aux_lemma =>
              obtain ⟨a2, cap2, w2, F2, hr2, hs2, hst2⟩ := rows_push h1.out h3.out [(y1, y2)] (by simp; omega)
              simp only [rowsV_cons, rowsV_nil, List.length_cons, List.length_nil, World.size_alloc, Nat.zero_add] at hr2
              obtain ⟨n2, hn2⟩ : ∃ n2, n2 = (out ++ [(y1, y2)]).length := ⟨_, rfl⟩
              have hst3 := hst2.sub (H' := ((xb, .cells #[.int .i64 q1, .int .i64 q2] 40) :: X) ++ F2) ((List.sublist_cons_self _ _).append (List.Sublist.refl _))
              rw [← hn2] at hr2
              replace hn2 := Lib.hid hn2
              replace hs2 := Lib.hid hs2
              replace hst3 := Lib.hid hst3
              clear hst2 h1 h3
              generalize out.length = n0 at *
              go_wp2_with (at_builtin; refine wpList_append_go rfl (.tmp 120) (.tmp 122) 27 27 rfl _ _ rfl rfl hr2 ?_)
              go_roundg (l.length - (k + 1))
              case measure => omega
              case rel => exact ⟨k + 1, cap2, a2, ⟨out ++ [(y1, y2)], (q1, q2), done⟩, F2, by go_num, by rw [hn2.out], rfl, by omega, Lib.hid (hsu.out _ (by simp [stepT, g2])), hs2.out, hst3.out⟩
          · have g2' : decide (hi < y1) = false := by simpa using g2
            have ha : q1 ≤ q1 := Int.le_refl _
            by_cases g3 : y1 < lo
            · obtain ⟨a2, cap2, w2, F2, hr2, hs2, hst2⟩ := rows_push h1.out h3.out [(y1, lo - 1)] (by simp; omega)
              simp only [rowsV_cons, rowsV_nil, List.length_cons, List.length_nil, World.size_alloc, Nat.zero_add] at hr2
              have v1 : w2.cell? ⟨wr.heap.size, 1, none⟩ = some (.int .i64 y2) := hst2.cell (b := wr.heap.size) (c := #[.int .i64 y1, .int .i64 y2]) (T := 40) (fr := (0, 0)) (by simp) rfl
              by_cases g4 : hi < y2
              · as_aux_lemma =>
                  obtain ⟨a3, cap3, w3, F3, hr3, hs3, hst3⟩ := rows_push hs2 hst2 [(hi + 1, y2)] (by simp; omega)
                  simp only [rowsV_cons, rowsV_nil, List.length_cons, List.length_nil, Nat.zero_add] at hr3
                  obtain ⟨n2, hn2⟩ : ∃ n2, n2 = (out ++ [(y1, lo - 1)]).length := ⟨_, rfl⟩
                  obtain ⟨n3, hn3⟩ : ∃ n3, n3 = ((out ++ [(y1, lo - 1)]) ++ [(hi + 1, y2)]).length := ⟨_, rfl⟩
                  have hst4 := hst3.sub (H' := ((xb, .cells #[.int .i64 q1, .int .i64 q2] 40) :: X) ++ F3) ((List.sublist_cons_self _ _).append (List.Sublist.refl _))
                  rw [← hn2] at hr2 hr3
                  rw [← hn3] at hr3
                  have hstep : (⟨(out ++ [(y1, lo - 1)]) ++ [(hi + 1, y2)], (q1, q2), done⟩ : TS) = stepT false lo hi ⟨out, (q1, q2), done⟩ (y1, y2) := by simp [stepT, g1, g2, pieces, g3, g4]
                  replace hstep := Lib.hid (hsu.out _ hstep)
                  replace hn2 := Lib.hid hn2
                  replace hn3 := Lib.hid hn3
                  replace hs3 := Lib.hid hs3
                  replace hst4 := Lib.hid hst4
                  clear hst3 h1 h3 hs2 hst2
                  generalize out.length = n0 at *
                  go_wp2_with (at_builtin; first | refine wpList_append_go rfl (.tmp 39) (.tmp 45) 27 27 rfl _ _ rfl rfl hr2 ?_ | refine wpList_append_go rfl (.tmp 51) (.tmp 57) 27 27 rfl _ _ rfl rfl hr3 ?_)
                  go_roundg (l.length - (k + 1))
                  case measure => omega
                  case rel => exact ⟨k + 1, cap3, a3, ⟨(out ++ [(y1, lo - 1)]) ++ [(hi + 1, y2)], (q1, q2), done⟩, F3, by go_num, by rw [hn3.out], rfl, by omega, hstep, hs3.out, hst4.out⟩
              · as_aux_lemma =>
                  have g4' : decide (hi < y2) = false := by simpa using g4
                  obtain ⟨n2, hn2⟩ : ∃ n2, n2 = (out ++ [(y1, lo - 1)]).length := ⟨_, rfl⟩
                  have hst4 := hst2.sub (H' := ((xb, .cells #[.int .i64 q1, .int .i64 q2] 40) :: X) ++ F2) ((List.sublist_cons_self _ _).append (List.Sublist.refl _))
                  rw [← hn2] at hr2
                  have hstep : (⟨out ++ [(y1, lo - 1)], (q1, q2), done⟩ : TS) = stepT false lo hi ⟨out, (q1, q2), done⟩ (y1, y2) := by simp [stepT, g1, g2, pieces, g3, g4]
                  replace hstep := Lib.hid (hsu.out _ hstep)
                  replace hn2 := Lib.hid hn2
                  replace hs2 := Lib.hid hs2
                  replace hst4 := Lib.hid hst4
                  clear h1 h3 hst2
                  generalize out.length = n0 at *
                  go_wp2_with (at_builtin; refine wpList_append_go rfl (.tmp 39) (.tmp 45) 27 27 rfl _ _ rfl rfl hr2 ?_)
                  go_roundg (l.length - (k + 1))
                  case measure => omega
                  case rel => exact ⟨k + 1, cap2, a2, ⟨out ++ [(y1, lo - 1)], (q1, q2), done⟩, F2, by go_num, by rw [hn2.out], rfl, by omega, hstep, hs2.out, hst4.out⟩
            · have g3' : decide (y1 < lo) = false := by simpa using g3
              by_cases g4 : hi < y2
              · as_aux_lemma =>
                  obtain ⟨a2, cap2, w2, F2, hr2, hs2, hst2⟩ := rows_push h1.out h3.out [(hi + 1, y2)] (by simp; omega)
                  simp only [rowsV_cons, rowsV_nil, List.length_cons, List.length_nil, World.size_alloc, Nat.zero_add] at hr2
                  obtain ⟨n2, hn2⟩ : ∃ n2, n2 = (out ++ [(hi + 1, y2)]).length := ⟨_, rfl⟩
                  have hst4 := hst2.sub (H' := ((xb, .cells #[.int .i64 q1, .int .i64 q2] 40) :: X) ++ F2) ((List.sublist_cons_self _ _).append (List.Sublist.refl _))
                  rw [← hn2] at hr2
                  have hstep : (⟨out ++ [(hi + 1, y2)], (q1, q2), done⟩ : TS) = stepT false lo hi ⟨out, (q1, q2), done⟩ (y1, y2) := by simp [stepT, g1, g2, pieces, g3, g4]
                  replace hstep := Lib.hid (hsu.out _ hstep)
                  replace hn2 := Lib.hid hn2
                  replace hs2 := Lib.hid hs2
                  replace hst4 := Lib.hid hst4
                  clear h1 h3 hst2
                  generalize out.length = n0 at *
                  go_wp2_with (at_builtin; refine wpList_append_go rfl (.tmp 51) (.tmp 57) 27 27 rfl _ _ rfl rfl hr2 ?_)
                  go_roundg (l.length - (k + 1))
                  case measure => omega
                  case rel => exact ⟨k + 1, cap2, a2, ⟨out ++ [(hi + 1, y2)], (q1, q2), done⟩, F2, by go_num, by rw [hn2.out], rfl, by omega, hstep, hs2.out, hst4.out⟩
              · as_aux_lemma =>
                  have g4' : decide (hi < y2) = false := by simpa using g4
                  have hst4 := h3.out.sub (H' := ((xb, .cells #[.int .i64 q1, .int .i64 q2] 40) :: X) ++ F9) ((List.sublist_cons_self _ _).append (List.Sublist.refl _))
                  have hstep : (⟨out, (q1, q2), done⟩ : TS) = stepT false lo hi ⟨out, (q1, q2), done⟩ (y1, y2) := by simp [stepT, g1, g2, pieces, g3, g4]
                  replace hstep := Lib.hid (hsu.out _ hstep)
                  replace hst4 := Lib.hid hst4
                  clear h3
                  generalize hn0 : out.length = n0 at *
                  replace hn0 := Lib.hid hn0
                  go_wp2_with fail
                  obtain rfl := hn0.out
                  go_roundg (l.length - (k + 1))
                  case measure => omega
                  case rel => exact ⟨k + 1, cap9, a9, ⟨out, (q1, q2), done⟩, F9, by go_num, rfl, rfl, by omega, hstep, h1.out, hst4.out⟩
      · by_cases g1 : q1 ≤ y2 + 1
        · by_cases g2 : y1 ≤ q2 + 1
          · have hn2 := hne.out
            have sets : ∀ m M : Int, St B w0 (((wr.alloc (.cells #[.int .i64 y1, .int .i64 y2] 40)).setCell ⟨xb, 0, none⟩ (.int .i64 m)).setCell ⟨xb, 1, none⟩ (.int .i64 M)) (((xb, .cells #[.int .i64 m, .int .i64 M] 40) :: X) ++ F9) := fun m M =>
              (((h3.out.setMid 0 (.int .i64 m)).setMid 1 (.int .i64 M)).sub (List.sublist_cons_self _ _))
            replace sets := Lib.hid sets
            obtain ⟨h5 | h5, h6 | h6⟩ : (q1 ≤ y1 ∨ ¬ q1 ≤ y1) ∧ (y2 ≤ q2 ∨ ¬ y2 ≤ q2) := ⟨Decidable.em _, Decidable.em _⟩
            · as_aux_lemma =>
                have hs4 := Lib.hid (sets.out q1 q2)
                have hj : joinR (q1, q2) (y1, y2) = (q1, q2) := by simp only [joinR]; rw [Int.min_eq_left h5, Int.max_eq_left h6]
                replace hj := Lib.hid hj
                generalize hn0 : out.length = n0 at *
                replace hn0 := Lib.hid hn0
                go_wp2_with fail
                obtain rfl := hn0.out
                go_roundg (l.length - (k + 1))
                case measure => omega
                case rel => exact ⟨k + 1, cap9, a9, ⟨out, (q1, q2), done⟩, F9, by go_num, rfl, rfl, by omega, Lib.hid (hsu.out _ (by simp [stepT, touch, g1, g2, hj.out])), h1.out, hs4.out⟩
            · as_aux_lemma =>
                have hs4 := Lib.hid (sets.out q1 y2)
                have hj : joinR (q1, q2) (y1, y2) = (q1, y2) := by simp only [joinR]; rw [Int.min_eq_left h5, Int.max_eq_right (Int.le_of_lt (Int.not_le.1 h6))]
                replace hj := Lib.hid hj
                generalize hn0 : out.length = n0 at *
                replace hn0 := Lib.hid hn0
                go_wp2_with fail
                obtain rfl := hn0.out
                go_roundg (l.length - (k + 1))
                case measure => omega
                case rel => exact ⟨k + 1, cap9, a9, ⟨out, (q1, y2), done⟩, F9, by go_num, rfl, rfl, by omega, Lib.hid (hsu.out _ (by simp [stepT, touch, g1, g2, hj.out])), h1.out, hs4.out⟩
            · as_aux_lemma =>
                have hs4 := Lib.hid (sets.out y1 q2)
                have hj : joinR (q1, q2) (y1, y2) = (y1, q2) := by simp only [joinR]; rw [Int.min_eq_right (Int.le_of_lt (Int.not_le.1 h5)), Int.max_eq_left h6]
                replace hj := Lib.hid hj
                generalize hn0 : out.length = n0 at *
                replace hn0 := Lib.hid hn0
                go_wp2_with fail
                obtain rfl := hn0.out
                go_roundg (l.length - (k + 1))
                case measure => omega
                case rel => exact ⟨k + 1, cap9, a9, ⟨out, (y1, q2), done⟩, F9, by go_num, rfl, rfl, by omega, Lib.hid (hsu.out _ (by simp [stepT, touch, g1, g2, hj.out])), h1.out, hs4.out⟩
            · as_aux_lemma =>
                have hs4 := Lib.hid (sets.out y1 y2)
                have hj : joinR (q1, q2) (y1, y2) = (y1, y2) := by simp only [joinR]; rw [Int.min_eq_right (Int.le_of_lt (Int.not_le.1 h5)), Int.max_eq_right (Int.le_of_lt (Int.not_le.1 h6))]
                replace hj := Lib.hid hj
                generalize hn0 : out.length = n0 at *
                replace hn0 := Lib.hid hn0
                go_wp2_with fail
                obtain rfl := hn0.out
                go_roundg (l.length - (k + 1))
                case measure => omega
                case rel => exact ⟨k + 1, cap9, a9, ⟨out, (y1, y2), done⟩, F9, by go_num, rfl, rfl, by omega, Lib.hid (hsu.out _ (by simp [stepT, touch, g1, g2, hj.out])), h1.out, hs4.out⟩
          · have g2' : decide (y1 ≤ q2 + 1) = false := by simpa using g2
            have g3 : q2 < y1 := by omega
            cases done
            · as_aux_lemma =>
                obtain ⟨a2, cap2, w2, F2, hr2, hs2, hst2⟩ := rows_push h1.out h3.out [(q1, q2), (y1, y2)] (by simp; omega)
                simp only [rowsV_cons, rowsV_nil, List.length_cons, List.length_nil, World.size_alloc, Nat.zero_add] at hr2
                obtain ⟨n2, hn2⟩ : ∃ n2, n2 = (out ++ [(q1, q2), (y1, y2)]).length := ⟨_, rfl⟩
                have hst3 := hst2.sub (H' := ((xb, .cells #[.int .i64 q1, .int .i64 q2] 40) :: X) ++ F2) ((List.sublist_cons_self _ _).append (List.Sublist.refl _))
                rw [← hn2] at hr2
                replace hn2 := Lib.hid hn2
                replace hs2 := Lib.hid hs2
                replace hst3 := Lib.hid hst3
                clear hst2 h1 h3
                generalize out.length = n0 at *
                go_wp2_with (at_builtin; refine wpList_append_go rfl (.tmp 101) (.tmp 104) 27 27 rfl _ _ rfl rfl hr2 ?_)
                go_roundg (l.length - (k + 1))
                case measure => omega
                case rel => exact ⟨k + 1, cap2, a2, ⟨out ++ [(q1, q2), (y1, y2)], (q1, q2), true⟩, F2, by go_num, by rw [hn2.out], rfl, by omega, Lib.hid (hsu.out _ (by simp [stepT, touch, g2, g3])), hs2.out, hst3.out⟩
            · as_aux_lemma =>
                obtain ⟨a2, cap2, w2, F2, hr2, hs2, hst2⟩ := rows_push h1.out h3.out [(y1, y2)] (by simp; omega)
                simp only [rowsV_cons, rowsV_nil, List.length_cons, List.length_nil, World.size_alloc, Nat.zero_add] at hr2
                obtain ⟨n2, hn2⟩ : ∃ n2, n2 = (out ++ [(y1, y2)]).length := ⟨_, rfl⟩
                have hst3 := hst2.sub (H' := ((xb, .cells #[.int .i64 q1, .int .i64 q2] 40) :: X) ++ F2) ((List.sublist_cons_self _ _).append (List.Sublist.refl _))
                rw [← hn2] at hr2
                replace hn2 := Lib.hid hn2
                replace hs2 := Lib.hid hs2
                replace hst3 := Lib.hid hst3
                clear hst2 h1 h3
                generalize out.length = n0 at *
                go_wp2_with (at_builtin; refine wpList_append_go rfl (.tmp 120) (.tmp 122) 27 27 rfl _ _ rfl rfl hr2 ?_)
                go_roundg (l.length - (k + 1))
                case measure => omega
                case rel => exact ⟨k + 1, cap2, a2, ⟨out ++ [(y1, y2)], (q1, q2), true⟩, F2, by go_num, by rw [hn2.out], rfl, by omega, Lib.hid (hsu.out _ (by simp [stepT, touch, g2])), hs2.out, hst3.out⟩
        · have g1' : decide (q1 ≤ y2 + 1) = false := by simpa using g1
          have g3 : decide (q2 < y1) = false := by simp; omega
          have g4 : ¬ q2 < y1 := by omega
          have ht1 : touch (q1, q2) (y1, y2) = false := by simp [touch, g1]
          as_aux_lemma =>
            obtain ⟨a2, cap2, w2, F2, hr2, hs2, hst2⟩ := rows_push h1.out h3.out [(y1, y2)] (by simp; omega)
            simp only [rowsV_cons, rowsV_nil, List.length_cons, List.length_nil, World.size_alloc, Nat.zero_add] at hr2
            obtain ⟨n2, hn2⟩ : ∃ n2, n2 = (out ++ [(y1, y2)]).length := ⟨_, rfl⟩
            have hst3 := hst2.sub (H' := ((xb, .cells #[.int .i64 q1, .int .i64 q2] 40) :: X) ++ F2) ((List.sublist_cons_self _ _).append (List.Sublist.refl _))
            rw [← hn2] at hr2
            replace hn2 := Lib.hid hn2
            replace hs2 := Lib.hid hs2
            replace hst3 := Lib.hid hst3
            clear hst2 h1 h3
            generalize out.length = n0 at *
            go_wp2_with (at_builtin; refine wpList_append_go rfl (.tmp 120) (.tmp 122) 27 27 rfl _ _ rfl rfl hr2 ?_)
            go_roundg (l.length - (k + 1))
            case measure => omega
            case rel => exact ⟨k + 1, cap2, a2, ⟨out ++ [(y1, y2)], (q1, q2), done⟩, F2, by go_num, by rw [hn2.out], rfl, by omega, Lib.hid (hsu.out _ (by simp only [stepT, ht1]; simp; intro h; omega)), hs2.out, hst3.out⟩
    · obtain rfl : k = l.length := by omega
      obtain ⟨out, ⟨q1, q2⟩, done⟩ := T
      have hTT : endT ⟨out, (q1, q2), done⟩ = turnL on lo hi l := by
        have h3 := hT.out
        rw [List.take_length] at h3
        rw [turnL, ← h3]
      simp only at h1 h2 hTl x1 x2 x3
      have j0 : wr.cell? ⟨xb, 0, none⟩ = some (.int .i64 q1) := h2.cell (b := xb) (c := #[.int .i64 q1, .int .i64 q2]) (T := 40) (fr := (0, 0)) (by simp) rfl
      have j1 : wr.cell? ⟨xb, 1, none⟩ = some (.int .i64 q2) := h2.cell (b := xb) (c := #[.int .i64 q1, .int .i64 q2]) (T := 40) (fr := (0, 0)) (by simp) rfl
      have c0 := (hc0.out wr ((xb, .cells #[.int .i64 q1, .int .i64 q2] 40) :: F9) (h2.perm (by simp only [List.cons_append]; exact .cons _ List.perm_append_comm))).1
      cases done
      · obtain ⟨a2, cap2, w2, F2, hr2, hs2, hst2⟩ := rows_push h1 h2 [(q1, q2)] (by simp; omega)
        simp only [rowsV_cons, rowsV_nil, List.length_cons, List.length_nil, Nat.zero_add] at hr2
        have fin : RowsR B w0 X (turnL on lo hi l) (.returned (.slice a2 (out ++ [(q1, q2)]).length cap2)) w2 := by
          rw [← hTT]
          exact ⟨_, F2, rfl, hs2, hst2.sub ((List.sublist_cons_self _ _).append (List.Sublist.refl _))⟩
        obtain ⟨n2, hn2⟩ : ∃ n2, n2 = (out ++ [(q1, q2)]).length := ⟨_, rfl⟩
        rw [← hn2] at hr2 fin
        replace fin := Lib.hid fin
        clear h1 h2 hs2 hst2 hn2 hTT
        generalize out.length = n0 at *
        go_wp2_with (at_builtin; refine wpList_append_go rfl (.tmp 126) (.tmp 128) 27 27 rfl _ _ rfl rfl hr2 ?_)
        go_ret
        exact fin.out
      · have fin : RowsR B w0 X (turnL on lo hi l) (.returned (.slice a9 out.length cap9)) wr := by
          rw [← hTT]
          exact ⟨_, F9, rfl, h1, h2.sub ((List.sublist_cons_self _ _).append (List.Sublist.refl _))⟩
        replace fin := Lib.hid fin
        clear h1 h2 hTT
        generalize out.length = n0 at *
        go_wp2_with fail
        go_ret
        exact fin.out
end
end Go.Proofs.Ytkahncfhphdkfaa
