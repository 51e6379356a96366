/- Rows of guests in memory: six cells each; appended, read; a guest in a block of its own. -/
import Derived.Test.YtpnkaamijjeckaaDoorGsA
import Derived.Test.YtpnkaamijjeckaaDoorAp
import Derived.Test.YtpnkaamijjeckaaDoorStrC
namespace Go.Proofs.YtpnkaamijjeckaaDoor
open Go.RowKit
set_option linter.unusedVariables false
set_option linter.unusedSectionVars false
set_option linter.unusedSimpArgs false
set_option maxRecDepth 100000

def gcells (x : Gst) : List Value := [.int .i64 x.conn, .int .i64 x.chan, tx x.tag, .int .i64 x.most, .bool x.noack, .bool x.sole]
def gssV (L : List Gst) : List Value := L.flatMap gcells
theorem gssV_cons (x : Gst) (L : List Gst) : gssV (x :: L) = gcells x ++ gssV L := rfl
theorem gssV_app (L M : List Gst) : gssV (L ++ M) = gssV L ++ gssV M := by simp [gssV]
theorem gcells_len (x : Gst) : (gcells x).length = 6 := rfl
theorem gssV_len : ∀ (L : List Gst), (gssV L).length = L.length * 6
  | [] => rfl
  | e :: L => by rw [gssV_cons, List.length_append, gcells_len, gssV_len L, List.length_cons]; omega
theorem gssV_at : ∀ {L : List Gst} {i : Nat} {e : Gst}, L[i]? = some e → ∀ {k : Nat} {v : Value}, (gcells e)[k]? = some v → (gssV L)[i * 6 + k]? = some v
  | [], _, _, h, _, _, _ => by simp at h
  | f :: L, 0, e, h, k, v, hk => by
    simp at h
    subst h
    have := (List.getElem?_eq_some_iff.1 hk).1
    rw [gssV_cons, Nat.zero_mul, Nat.zero_add, List.getElem?_append_left this]
    exact hk
  | f :: L, i + 1, e, h, k, v, hk => by
    rw [gssV_cons, List.getElem?_append_right (by rw [gcells_len]; omega), gcells_len, show (i + 1) * 6 + k - 6 = i * 6 + k by omega]
    exact gssV_at (by simpa using h) hk
theorem gcells_one (e : Gst) : ∀ u ∈ gcells e, u.oneCell' = true := fun u hu => by
  unfold gcells at hu
  simp only [List.mem_cons, List.not_mem_nil, or_false] at hu
  rcases hu with rfl | rfl | rfl | rfl | rfl | rfl <;> rfl
theorem gssV_one (L : List Gst) : ∀ u ∈ gssV L, u.oneCell' = true := fun u hu => by
  obtain ⟨e, -, h⟩ := List.mem_flatMap.1 hu
  exact gcells_one e u h
theorem gssV_take (N : List Gst) (i : Nat) : (gssV N).take (i * 6) = gssV (N.take i) := by
  rcases Nat.le_total i N.length with hi | hi
  · have h3 := congrArg gssV (List.take_append_drop i N)
    rw [gssV_app] at h3
    rw [← h3, List.take_append_of_le_length (by rw [gssV_len, List.length_take]; omega), List.take_of_length_le (by rw [gssV_len, List.length_take]; omega)]
  · rw [List.take_of_length_le (by rw [gssV_len]; omega), List.take_of_length_le hi]
theorem gssV_drop (N : List Gst) (i : Nat) : (gssV N).drop (i * 6) = gssV (N.drop i) := by
  rcases Nat.le_total i N.length with hi | hi
  · have h3 := congrArg gssV (List.take_append_drop i N)
    rw [gssV_app] at h3
    rw [← h3, List.drop_append_of_le_length (by rw [gssV_len, List.length_take]; omega), List.drop_of_length_le (by rw [gssV_len, List.length_take]; omega), List.nil_append]
  · rw [List.drop_of_length_le (by rw [gssV_len]; omega), List.drop_of_length_le hi]; rfl

/-- A guest's cells in a row. -/
abbrev GsRow (w : World) (b o : Nat) (x : Gst) : Prop := w.cell? ⟨b, o, none⟩ = some (.int .i64 x.conn) ∧ w.cell? ⟨b, o + 1, none⟩ = some (.int .i64 x.chan) ∧ w.cell? ⟨b, o + 2, none⟩ = some (tx x.tag) ∧ w.cell? ⟨b, o + 3, none⟩ = some (.int .i64 x.most) ∧ w.cell? ⟨b, o + 4, none⟩ = some (.bool x.noack) ∧ w.cell? ⟨b, o + 5, none⟩ = some (.bool x.sole)
theorem GsRow.below {w w' : World} {b o : Nat} {e : Gst} (h : GsRow w b o e) (hb : Below w.heap.size w w') : GsRow w' b o e := by
  obtain ⟨h0, h1, h2, h3, h4, h5⟩ := h
  exact ⟨cellUp h0 hb, cellUp h1 hb, cellUp h2 hb, cellUp h3 hb, cellUp h4 hb, cellUp h5 hb⟩
/-- The slice at a reads as these guests, wherever it lies. -/
def ReadGs (w : World) (a : Option Addr) (L : List Gst) : Prop := ∀ i e, L[i]? = some e → ∃ b off, a = some ⟨b, off, none⟩ ∧ GsRow w b (off + i * 6) e
theorem ReadGs.below {w w' : World} {a : Option Addr} {L : List Gst} (h : ReadGs w a L) (hb : Below w.heap.size w w') : ReadGs w' a L := fun i e hi => by
  obtain ⟨b, off, ha, hr⟩ := h i e hi
  exact ⟨b, off, ha, hr.below hb⟩
theorem ReadGs.nil (w : World) (a : Option Addr) : ReadGs w a [] := fun i e hi => by simp at hi

theorem apG : Ap Tryd.prog 27 31 6 48 where
  ty := by kernel_rfl
  info := by
    have h : (Tryd.prog.info? 31).map (fun i => (i.zero.map fun z => z.cells.size, i.size, i.bytes)) = some (some 6, 6, 48) := by kernel_rfl
    rw [Option.map_eq_some_iff] at h
    obtain ⟨i, h1, h2⟩ := h
    simp only [Prod.mk.injEq, Option.map_eq_some_iff] at h2
    obtain ⟨⟨z, h3, h4⟩, h5, h6⟩ := h2
    exact ⟨i, z, h1, h3, h5, h6, h4⟩

/-- A slice of guests that is owned. -/
abbrev GssIs (v : Value) (L : List Gst) (S : List (Nat × Obj)) : Prop := SlIs 31 6 v L.length (gssV L) S
theorem GssIs.nil : GssIs (.slice none 0 0) [] [] := SlIs.nil
section
variable {B : Nat} {w0 w : World} {S X Y F H : List (Nat × Obj)} {a : Option Addr} {b c c' k : Nat} {L M : List Gst} {v : Value} {x y : Gst}
theorem GssIs.form (hs : GssIs v L S) : ∃ a c, v = .slice a L.length c := by
  obtain ⟨a, c, e, -⟩ := SlIs.form hs
  exact ⟨a, c, e⟩
theorem GssIs.read (hs : GssIs (.slice a L.length c) L S) (hst : St B w0 w (X ++ S)) : ReadGs w a L := fun i e hi => by
  obtain ⟨a', c', e1, -, -, h⟩ := SlIs.form hs
  cases e1
  obtain ⟨g, off, rfl⟩ := h i (List.getElem?_eq_some_iff.1 hi).1
  refine ⟨g, off, rfl, SlIs.cellAt hs hst (gssV_at hi (k := 0) rfl), SlIs.cellAt hs hst (gssV_at hi (k := 1) rfl), SlIs.cellAt hs hst (gssV_at hi (k := 2) rfl), SlIs.cellAt hs hst (gssV_at hi (k := 3) rfl), SlIs.cellAt hs hst (gssV_at hi (k := 4) rfl), SlIs.cellAt hs hst (gssV_at hi (k := 5) rfl)⟩
theorem gss_push (hs : GssIs (.slice a L.length c) L S) (hst : St B w0 w (X ++ S)) (e : Gst) (hl : L.length ≤ 2000000) :
    ∃ a' c' W S', (Builtin.append_ #[27, 27] 0 #[.slice a L.length c, .slice (some ⟨w.heap.size, 0, none⟩) 1 1]).run Tryd.prog (w.alloc (gsO e)) = .ok (.slice a' (L ++ [e]).length c') W ∧
      GssIs (.slice a' (L ++ [e]).length c') (L ++ [e]) S' ∧ St B w0 W (X ++ S') := by
  have hst1 := hst.alloc (gsO e)
  have hb := hst1.get (b := w.heap.size) (o := gsO e) List.mem_cons_self
  obtain ⟨a', c', W, S', q1, q2, q3⟩ := apG.append (A := (w.heap.size, gsO e) :: X) hs hst1 (Reads.block (cs := gcells e) (n := 1) (size := 6) hb rfl 1) (gcells_one _) (by unfold maxLen; omega) (by omega)
  have e1 : L.length + 1 = (L ++ [e]).length := by rw [List.length_append]; rfl
  rw [e1] at q1 q2
  rw [show gssV L ++ gcells e = gssV (L ++ [e]) by simp [gssV]] at q2
  exact ⟨a', c', W, S', q1, q2, q3.sub (List.sublist_cons_self _ _)⟩
/-- A row of them put behind. -/
theorem gss_app {a2 : Option Addr} {c2 : Nat} (hs : GssIs (.slice a L.length c) L S) (hst : St B w0 w (X ++ S)) (h2 : GssIs (.slice a2 M.length c2) M Y) (hst2 : St B w0 w (F ++ Y)) (hl : L.length + M.length ≤ 2000000) :
    ∃ a' c' W S', (Builtin.append_ #[27, 27] 0 #[.slice a L.length c, .slice a2 M.length c2]).run Tryd.prog w = .ok (.slice a' (L ++ M).length c') W ∧
      GssIs (.slice a' (L ++ M).length c') (L ++ M) S' ∧ St B w0 W (X ++ S') := by
  obtain ⟨a', c', W, S', q1, q2, q3⟩ := apG.append (A := X) hs hst (SlIs.reads (A := F) h2 hst2) (gssV_one _) (by unfold maxLen; omega) (by omega)
  have e1 : L.length + M.length = (L ++ M).length := by rw [List.length_append]
  rw [e1] at q1 q2
  rw [← gssV_app] at q2
  exact ⟨a', c', W, S', q1, q2, q3⟩

/-! ### a guest in a block of its own -/
abbrev GsAt (w : World) (b : Nat) (x : Gst) : Prop := w.cell? ⟨b, 0, none⟩ = some (.int .i64 x.conn) ∧ w.cell? ⟨b, 1, none⟩ = some (.int .i64 x.chan) ∧ w.cell? ⟨b, 2, none⟩ = some (tx x.tag) ∧ w.cell? ⟨b, 3, none⟩ = some (.int .i64 x.most) ∧ w.cell? ⟨b, 4, none⟩ = some (.bool x.noack) ∧ w.cell? ⟨b, 5, none⟩ = some (.bool x.sole)
theorem GsAt.below {w' : World} (h : GsAt w b x) (hb : Below w.heap.size w w') : GsAt w' b x := by
  obtain ⟨h0, h1, h2, h3, h4, h5⟩ := h
  exact ⟨cellUp h0 hb, cellUp h1 hb, cellUp h2 hb, cellUp h3 hb, cellUp h4 hb, cellUp h5 hb⟩
theorem St.gsAt (h : St B w0 w H) (m : (b, gsO x) ∈ H) : GsAt w b x := ⟨h.cell m rfl, h.cell m rfl, h.cell m rfl, h.cell m rfl, h.cell m rfl, h.cell m rfl⟩
/-- .. with one stored into it. -/
abbrev gsPut (w : World) (b : Nat) (x : Gst) : World := (((((w.setCell ⟨b, 0, none⟩ (.int .i64 x.conn)).setCell ⟨b, 1, none⟩ (.int .i64 x.chan)).setCell ⟨b, 2, none⟩ (tx x.tag)).setCell ⟨b, 3, none⟩ (.int .i64 x.most)).setCell ⟨b, 4, none⟩ (.bool x.noack)).setCell ⟨b, 5, none⟩ (.bool x.sole)
theorem St.gsPut (h : St B w0 w ((b, gsO y) :: X)) : St B w0 (gsPut w b x) ((b, gsO x) :: X) := by
  have h10 := (((((h.set0 0 (.int .i64 x.conn)).set0 1 (.int .i64 x.chan)).set0 2 (tx x.tag)).set0 3 (.int .i64 x.most)).set0 4 (.bool x.noack)).set0 5 (.bool x.sole)
  simp only [List.setIfInBounds_toArray, List.set_cons_zero, List.set_cons_succ] at h10
  exact h10
theorem ret_guest {P : Program} {fn : Func} {d i j : Nat} {ok : Bool} {tmps : Array Value} (hr : fn.results = #[.cell i 31, .tmp j]) (h2 : tmps[i]? = some (.pointer (some ⟨d, 0, none⟩))) (h3 : tmps[j]? = some (.bool ok)) (q : GsAt w d x) (hP : P = Tryd.prog) :
    (results fn tmps).run P w = .ok (.tuple #[gsV x, .bool ok]) w := by
  subst hP
  obtain ⟨q0, q1, q2, q3, q4, q5⟩ := q
  simp [results, hr, go_sem, h2, h3, q0, q1, q2, q3, q4, q5]
end
end Go.Proofs.YtpnkaamijjeckaaDoor
