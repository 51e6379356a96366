/- Frames in rows: as cells; SameFrames; Split, by the program and by the document's own. -/
import Derived.Test.YtjeejflmkdncpaaFmH
import Derived.Laws.StructEq
import Derived.Deep.LoopGhost
namespace Go.Proofs.Ytjeejflmkdncpaa
open Go.RowKit
set_option linter.unusedVariables false

abbrev Frm := Int × Int × List UInt8
def framesV (l : List Frm) : List Value := l.flatMap fun f => [.int .i64 f.1, .int .i64 f.2.1, tx f.2.2]
theorem framesV_cons (f : Frm) (l : List Frm) : framesV (f :: l) = .int .i64 f.1 :: .int .i64 f.2.1 :: tx f.2.2 :: framesV l := rfl
theorem framesV_append (l m : List Frm) : framesV (l ++ m) = framesV l ++ framesV m := by simp [framesV]
theorem framesV_len : ∀ (l : List Frm), (framesV l).length = l.length * 3
  | [] => rfl
  | f :: l => by rw [framesV_cons, List.length_cons, List.length_cons, List.length_cons, framesV_len l, List.length_cons]; omega
theorem framesV_at : ∀ {l : List Frm} {i : Nat} {f : Frm}, l[i]? = some f → (framesV l)[i * 3]? = some (.int .i64 f.1) ∧ (framesV l)[i * 3 + 1]? = some (.int .i64 f.2.1) ∧ (framesV l)[i * 3 + 2]? = some (tx f.2.2)
  | [], _, _, h => by simp at h
  | f :: l, 0, g, h => by simp at h; subst h; simp [framesV_cons]
  | f :: l, i + 1, g, h => by
    have := framesV_at (l := l) (i := i) (f := g) (by simpa using h)
    rw [framesV_cons, show (i + 1) * 3 = i * 3 + 1 + 1 + 1 by omega, show i * 3 + 1 + 1 + 1 + 1 = (i * 3 + 1) + 1 + 1 + 1 by omega, show i * 3 + 1 + 1 + 1 + 2 = (i * 3 + 2) + 1 + 1 + 1 by omega]
    simpa using this
theorem framesV_one (l : List Frm) : ∀ u ∈ framesV l, u.oneCell' = true := by
  intro u hu
  obtain ⟨f, _, hf⟩ := List.mem_flatMap.1 hu
  simp only [List.mem_cons, List.not_mem_nil, or_false] at hf
  rcases hf with rfl | rfl | rfl <;> rfl

section
variable {B : Nat} {w0 w : World} {S F A X : List (Nat × Obj)} {v : Value} {l : List Frm}

theorem uFrames : Try.prog.underlying 27 = some (.slice 23) := by kernel_rfl
theorem infFrame : (Try.prog.info? 23).map (fun i => (i.zero, i.size, i.bytes)) = some (some (.agg #[.int .i64 0, .int .i64 0, tx []]), 3, 32) := by kernel_rfl

/-- The slice value reads as these frames in w, wherever it lies. -/
def ReadFrames (w : World) (v : Value) (l : List Frm) : Prop :=
  ∃ a cap, v = .slice a l.length cap ∧ ∀ i f, l[i]? = some f → ∃ b off, a = some ⟨b, off, none⟩ ∧ w.cell? ⟨b, off + i * 3, none⟩ = some (.int .i64 f.1) ∧ w.cell? ⟨b, off + i * 3 + 1, none⟩ = some (.int .i64 f.2.1) ∧ w.cell? ⟨b, off + i * 3 + 2, none⟩ = some (tx f.2.2)
/-- A slice of frames that the call owns. -/
def FrsIs (v : Value) (l : List Frm) (S : List (Nat × Obj)) : Prop := SlIs 23 3 v l.length (framesV l) S
theorem FrsIs.nil : FrsIs (.slice none 0 0) [] [] := SlIs.nil
theorem FrsIs.read (h : FrsIs v l S) (hst : St B w0 w (A ++ S)) : ReadFrames w v l := by
  have h' : SlIs _ _ _ _ _ _ := h
  obtain ⟨a, cap, rfl, _, _, ha⟩ := h'.form
  refine ⟨a, cap, rfl, fun i f hf => ?_⟩
  obtain ⟨g, off, rfl⟩ := ha i (List.getElem?_eq_some_iff.1 hf).1
  obtain ⟨h1, h2, h3⟩ := framesV_at hf
  exact ⟨g, off, rfl, h'.cellAt hst h1, h'.cellAt hst h2, h'.cellAt hst h3⟩
theorem ReadFrames.below {w w' : World} {v : Value} (h : ReadFrames w v l) (hb : Below w.heap.size w w') : ReadFrames w' v l := by
  obtain ⟨a, cap, e, h⟩ := h
  refine ⟨a, cap, e, fun i f hf => ?_⟩
  obtain ⟨b, off, ha, h1, h2, h3⟩ := h i f hf
  exact ⟨b, off, ha, (hb.cell (p := ⟨b, off + i * 3, none⟩) (World.block_lt_of_cell? w _ h1)).trans h1, (hb.cell (p := ⟨b, off + i * 3 + 1, none⟩) (World.block_lt_of_cell? w _ h2)).trans h2, (hb.cell (p := ⟨b, off + i * 3 + 2, none⟩) (World.block_lt_of_cell? w _ h3)).trans h3⟩

theorem frame_append (hs : FrsIs v l S) (hst : St B w0 w (X ++ S)) (k c : Int) (d : List UInt8) (hl : l.length ≤ 100000) :
    ∃ a cap W2 F2, (Builtin.append_ #[27, 27] 0 #[v, .slice (some ⟨w.heap.size, 0, none⟩) 1 1]).run Try.prog (w.alloc (frO k c d)) = .ok (.slice a (l.length + 1) cap) W2 ∧
      FrsIs (.slice a (l.length + 1) cap) (l ++ [(k, c, d)]) F2 ∧ St B w0 W2 (X ++ F2) := by
  obtain ⟨i0, hi0, hz0, hz1, hz2⟩ := info_parts infFrame
  have hb : (w.alloc (frO k c d)).heap[w.heap.size]? = some (.cells [Value.int .i64 k, .int .i64 c, tx d].toArray 23) := (MapKept.heap_alloc w _).1
  have hrd : Reads (w.alloc (frO k c d)) (.slice (some ⟨w.heap.size, 0, none⟩) 1 1) 1 3 [.int .i64 k, .int .i64 c, tx d] := Reads.block hb rfl 1
  obtain ⟨v2, W2, F2, hr, hs2, hst2⟩ := run_append_sl (P := Try.prog) 27 0 23 i0 _ 3 32 uFrames hi0 hz0 hz1 hz2 rfl hs (A := (w.heap.size, frO k c d) :: X) (hst.alloc _) hrd
    (framesV_one [(k, c, d)]) (by unfold maxLen; omega) (by omega)
  obtain ⟨a, cap, rfl, -⟩ := hs2.form
  refine ⟨a, cap, W2, F2, hr, ?_, hst2.sub (List.sublist_cons_self _ _)⟩
  unfold FrsIs
  rw [List.length_append, List.length_singleton, framesV_append]
  exact hs2

set_option maxHeartbeats 1000000 in
theorem sameFrames_true {v1 v2 : Value} (h1 : ReadFrames w v1 l) (h2 : ReadFrames w v2 l) (hl : l.length ≤ 1073741824) : Calls Try.prog 12 #[v1, v2] w fun e w' => e = .returned (.bool true) ∧ ∃ n, w' = w.drewN n := by
  obtain ⟨a1, c1, rfl, h1⟩ := h1
  obtain ⟨a2, c2, rfl, h2⟩ := h2
  replace h1 := Lib.hid h1
  replace h2 := Lib.hid h2
  go_enter Try.func12, Try.ntmps12
  go_wp2_with fail
  go_loopg [5] l.length (fun g i wt => ∃ p : Nat, i = .int .i64 p ∧ p + g = l.length ∧ ∃ m, wt = w.drewN m)
  case atStart => exact ⟨0, rfl, by omega, 0, rfl⟩
  case round =>
    obtain ⟨p, rfl, hp, m, rfl⟩ := hrel
    by_cases hlt : p < l.length
    · have hx : l[p]? = some l[p] := List.getElem?_eq_getElem hlt
      generalize l[p] = x at hx
      obtain ⟨b1, o1, rfl, k1, k2, k3⟩ := h1.out p x hx
      obtain ⟨b2, o2, rfl, k4, k5, k6⟩ := h2.out p x hx
      obtain ⟨x1, x2, x3⟩ := x
      simp only at k1 k2 k3 k4 k5 k6
      have hp1 : (p : Int) < l.length := by omega
      clear hx
      go_wp2_with fail
      go_quiet (fail)
      go_wp2_with fail
      go_roundg (l.length - (p + 1))
      case measure => omega
      case rel => exact ⟨p + 1, by go_num, by omega, _, rfl⟩
    · go_wp2_with fail
      go_ret
      exact ⟨rfl, _, rfl⟩

/-! ### data in pieces -/
theorem cutsL_nil (r : Nat) : cutsL r [] = [] := by rw [cutsL, dif_pos (.inl rfl)]
theorem cutsL_step {r : Nat} {d : List UInt8} (hr : 0 < r) (hd : d ≠ []) : cutsL r d = d.take r :: cutsL r (d.drop r) := by rw [cutsL, dif_neg (by simp [hd]; omega)]
theorem cutsL_cat {r : Nat} (hr : 0 < r) : ∀ (n : Nat) (d : List UInt8), d.length ≤ n → (cutsL r d).flatten = d := by
  intro n
  induction n with
  | zero =>
    intro d hd
    obtain rfl : d = [] := List.eq_nil_of_length_eq_zero (by omega)
    rw [cutsL_nil]
    rfl
  | succ n ih =>
    intro d hd
    by_cases h : d = []
    · rw [h, cutsL_nil]; rfl
    · have := List.length_pos_iff.2 h
      rw [cutsL_step hr h, List.flatten_cons, ih (d.drop r) (by rw [List.length_drop]; omega), List.take_append_drop]
theorem cutsL_len {r : Nat} (hr : 0 < r) : ∀ (n : Nat) (d : List UInt8), d.length ≤ n → (cutsL r d).length ≤ d.length := by
  intro n
  induction n with
  | zero =>
    intro d hd
    obtain rfl : d = [] := List.eq_nil_of_length_eq_zero (by omega)
    rw [cutsL_nil]
    simp
  | succ n ih =>
    intro d hd
    by_cases h : d = []
    · rw [h, cutsL_nil]; simp
    · have := List.length_pos_iff.2 h
      have h2 := ih (d.drop r) (by rw [List.length_drop]; omega)
      rw [List.length_drop] at h2
      rw [cutsL_step hr h, List.length_cons]
      omega
def splitL (k c : Int) (d : List UInt8) (most : Int) : List Frm := (cutsL (heldM most - 8) d).map fun x => (k, c, x)

/-- Behind Split. -/
def SplitR (B : Nat) (w0 : World) (A : List (Nat × Obj)) (l : List Frm) (e : Ending) (w' : World) : Prop := ∃ v S, e = .returned v ∧ FrsIs v l S ∧ St B w0 w' (A ++ S)
/-- .. on the way. -/
def SplitAt (B : Nat) (w0 : World) (A : List (Nat × Obj)) (k c : Int) (d : List UInt8) (r : Nat) (g : Nat) (a' : Act) (w' : World) : Prop :=
  ∃ (l : List (List UInt8)) (t : List UInt8) (v : Value) (S : List (Nat × Obj)), Fr 35 [(0, .int .i64 k), (1, .int .i64 c), (2, tx t), (9, v), (10, .int .i64 r)] a' ∧ l ++ cutsL r t = cutsL r d ∧ t.length = g ∧ t.length ≤ d.length ∧ l.length + t.length ≤ d.length ∧ FrsIs v (l.map fun x => (k, c, x)) S ∧ St B w0 w' (A ++ S)

set_option maxHeartbeats 2000000 in
theorem fr_split (h : St B w0 w A) (k c : Int) (d : List UInt8) (most : Int) (hd : d.length ≤ 50000) :
    Calls Try.prog 13 #[.int .i64 k, .int .i64 c, tx d, .int .i64 most] w (SplitR B w0 A (splitL k c d most)) := by
  have hm := heldM_bd most
  have c1 := Lib.hid (fheld_any most)
  unfold splitL
  obtain ⟨r, hr⟩ : ∃ r, r = heldM most - 8 := ⟨_, rfl⟩
  have er : (heldM most : Int) - 8 = r := by omega
  have hr0 : 0 < r := by omega
  have hr1 : (r : Int) ≤ 5000 := by omega
  have hr2 : (0 : Int) < r := by omega
  rw [← hr]
  generalize heldM most = q at *
  replace h := Lib.hid h
  clear hm hr
  go_enter Try.func13, Try.ntmps13
  go_wp2_with fail
  refine wp_scope_ghost 0 (SplitAt B w0 A k c d r) rfl ?_ ?_
  · rintro g a' w' ⟨l, t, v, S, hfr, hl, hg, htd, hlt, hs, hst⟩
    obtain ⟨f, rfl, hl'⟩ := hfr.lit
    clear hfr c1
    simp only [List.mem_cons, List.not_mem_nil, or_false, forall_eq_or_imp, forall_eq] at hl'
    obtain ⟨f0, f1, f2, f9, f10⟩ := hl'
    simp only [List.range, List.range.loop, List.map, f0, f1, f2, f9, f10]
    clear f0 f1 f2 f9 f10
    by_cases ht : t = []
    · subst ht
      rw [cutsL_nil, List.append_nil] at hl
      have fin : Hid (SplitR B w0 A ((cutsL r d).map fun x => (k, c, x)) (.returned v) w') := Lib.hid ⟨v, S, rfl, by rw [← hl]; exact hs, hst⟩
      have hs' : SlIs _ _ _ _ _ _ := hs
      obtain ⟨av, cv, rfl, -, -, -⟩ := hs'.form
      clear hs hs' hst hl h hg htd hlt
      go_wp2_with fail
      simp only [Exit.jump]
      go_ret
      exact fin.out
    have hpos := List.length_pos_iff.2 ht
    rw [cutsL_step hr0 ht] at hl
    have hte : t.isEmpty = false := by simpa using ht
    have cc := Lib.hid (fun w => clone_any (t.take r) w (by rw [List.length_take]; omega))
    have hll : (l.map fun x => (k, c, x)).length = l.length := List.length_map _
    have hs' : SlIs _ _ _ _ _ _ := hs
    obtain ⟨av, cv, rfl, -, -, -⟩ := hs'.form
    have ap : Hid (∀ w2, Below w'.heap.size w' w2 → ∃ a cap W2, (Builtin.append_ #[27, 27] 0 #[.slice av l.length cv, .slice (some ⟨w2.heap.size, 0, none⟩) 1 1]).run Try.prog (w2.alloc (frO k c (t.take r))) = .ok (.slice a (l.length + 1) cap) W2 ∧
        ∀ a', Fr 35 [(0, .int .i64 k), (1, .int .i64 c), (2, tx (t.drop r)), (9, .slice a (l.length + 1) cap), (10, .int .i64 r)] a' → ∃ m, m < g ∧ SplitAt B w0 A k c d r m a' W2) := by
      refine Lib.hid fun w2 hb => ?_
      obtain ⟨a, cap, W2, F2, hrun, hs2, hst2⟩ := frame_append hs (hst.grow hb) k c (t.take r) (by omega)
      rw [hll] at hrun hs2
      have hdl : (t.drop r).length = t.length - r := List.length_drop
      refine ⟨a, cap, W2, hrun, fun a' hf => ⟨t.length - r, by omega, l ++ [t.take r], t.drop r, _, F2, hf, ?_, hdl, by omega, ?_, ?_, hst2⟩⟩
      · rw [List.append_assoc]; exact hl
      · rw [List.length_append, List.length_singleton]; omega
      · rw [List.map_append]; exact hs2
    rw [hll]
    by_cases hrt : r < t.length
    · have hrt' : (r : Int) < t.length := by omega
      have ex1 : (⟨t.toArray⟩ : ByteArray).extract 0 r = ⟨(t.take r).toArray⟩ := by rw [ByteArray.extract_mk]; simp
      have ex2 := sub_tx (L := t) (k := r) (by omega)
      generalize t.take r = t1 at *
      generalize t.drop r = t2 at *
      clear hs hs' hst hl h hg htd hlt ht
      go_wp2_with fail
      refine (cc.out _).mono ?_
      rintro e w2 ⟨rfl, hb⟩
      obtain ⟨a2, cap2, W2, hrun, fin⟩ := ap.out _ hb
      replace fin := Lib.hid fin
      clear cc hb ap
      go_wp2_with (at_builtin; refine wpList_append_go rfl (.tmp 22) (.tmp 30) 27 27 rfl _ _ rfl rfl hrun ?_)
      refine wp_goto ?_
      exact ⟨rfl, fin.out _ ⟨rfl, rfl, by simp⟩⟩
    · have hrt' : (t.length : Int) ≤ r := by omega
      have e1 : t.take r = t := List.take_of_length_le (by omega)
      have e2 : t.drop r = [] := List.drop_of_length_le (by omega)
      have ex1 : (⟨t.toArray⟩ : ByteArray).extract 0 t.length = ⟨t.toArray⟩ := by rw [ByteArray.extract_mk]; simp
      have ex2 := sub_tx (L := t) (k := t.length) (by omega)
      rw [List.drop_length] at ex2
      rw [e1] at cc ap
      rw [e2] at ap
      clear hs hs' hst hl h hg htd hlt ht e1 e2
      go_wp2_with fail
      refine (cc.out _).mono ?_
      rintro e w2 ⟨rfl, hb⟩
      obtain ⟨a2, cap2, W2, hrun, fin⟩ := ap.out _ hb
      replace fin := Lib.hid fin
      clear cc hb ap
      go_wp2_with (at_builtin; refine wpList_append_go rfl (.tmp 22) (.tmp 30) 27 27 rfl _ _ rfl rfl hrun ?_)
      refine wp_goto ?_
      exact ⟨rfl, fin.out _ ⟨rfl, rfl, by simp; rfl⟩⟩
  · intro H
    go_wp2_with fail
    refine (c1.out _).mono ?_
    rintro e w1 ⟨rfl, rfl⟩
    go_wp2_with fail
    refine wp_label ?_
    go_step
    go_step
    exact H d.length _ _ ⟨[], d, _, [], ⟨rfl, rfl, by simp⟩, rfl, rfl, Nat.le_refl _, by simp, FrsIs.nil, by simpa using h.out⟩

theorem cutsL_at {r : Nat} (hr : 0 < r) {d : List UInt8} {at_ : Nat} (h : at_ < d.length) : cutsL r (d.drop at_) = (d.drop at_).take r :: cutsL r (d.drop (at_ + r)) := by
  rw [cutsL_step hr (by intro e; have := congrArg List.length e; rw [List.length_drop] at this; simp at this; omega), List.drop_drop]

/-- The document's Split on the way: the places up to at are cut. -/
def RSplitRel (B : Nat) (w0 : World) (A : List (Nat × Obj)) (k c : Int) (d : List UInt8) (r : Nat) (v : Value) (p : Nat) (w' : World) : Prop :=
  ∃ (l : List (List UInt8)) (S : List (Nat × Obj)), l ++ cutsL r (d.drop p) = cutsL r d ∧ l.length ≤ p ∧ FrsIs v (l.map fun x => (k, c, x)) S ∧ St B w0 w' (A ++ S)

set_option maxHeartbeats 2000000 in
set_option maxRecDepth 100000 in
theorem rp_split (h : St B w0 w A) (k c : Int) (d : List UInt8) (most : Int) (hd : d.length ≤ 50000) :
    Calls Try.prog 14 #[.int .i64 k, .int .i64 c, tx d, .int .i64 most] w (SplitR B w0 A (splitL k c d most)) := by
  have hm := heldM_bd most
  unfold splitL
  obtain ⟨r, hr⟩ : ∃ r, r = heldM most - 8 := ⟨_, rfl⟩
  have er : most ≤ 64 ∧ (r : Int) = 56 ∨ (64 < most ∧ most ≤ 4096 ∧ (r : Int) = most - 8) ∨ (4096 < most ∧ (r : Int) = 4088) := by unfold heldM at hr; omega
  have hr0 : 0 < r := by omega
  have hr1 : (r : Int) ≤ 5000 := by omega
  have hr2 : (0 : Int) < r := by omega
  rw [← hr]
  have h0 : RSplitRel B w0 A k c d r (.slice none 0 0) 0 w := ⟨[], [], by simp, Nat.le_refl _, FrsIs.nil, by simpa using h⟩
  replace h0 := Lib.hid h0
  clear hm hr h
  go_enter Try.func14, Try.ntmps14
  go_upto_region 1 with fail
  go_cut [9] (fun v9 wx => v9 = .int .i64 r ∧ wx = w)
  case first =>
    rcases er with ⟨h1, h2⟩ | ⟨h1, h2, h3⟩ | ⟨h1, h2⟩
    · go_wp2_with fail
      all_goals
        go_meet
        case rel => exact ⟨by rw [h2], rfl⟩
    · have h4 : ¬ 4096 < most := by omega
      have h5 : ¬ most ≤ 64 := by omega
      go_wp2_with fail
      all_goals
        go_meet
        case rel => exact ⟨by rw [h3], rfl⟩
    · go_wp2_with fail
      all_goals
        go_meet
        case rel => exact ⟨by rw [h2], rfl⟩
  case rest =>
  obtain ⟨rfl, rfl⟩ := hcut
  clear er
  go_wp2_with fail
  go_loopg [10, 11] d.length (fun g v10 v11 wr => ∃ p : Nat, v11 = .int .i64 p ∧ g = d.length - p ∧ p ≤ d.length + r ∧ Hid (RSplitRel B w0 A k c d r v10 p wr))
  case atStart => exact ⟨0, rfl, by omega, by omega, h0⟩
  case round =>
    clear h0
    obtain ⟨p, rfl, hg, hp, hrel⟩ := hrel
    obtain ⟨l, S, hl, hlp, hs, hst⟩ := hrel.out
    clear hrel
    have hs' : SlIs _ _ _ _ _ _ := hs
    have hll : (l.map fun x => (k, c, x)).length = l.length := List.length_map _
    by_cases hlt : p < d.length
    · have hlt' : (p : Int) < d.length := by omega
      have hp0 : (0 : Int) ≤ p := by omega
      rw [cutsL_at hr0 hlt] at hl
      obtain ⟨s, hsum⟩ : ∃ s, s = p + r := ⟨_, rfl⟩
      have es : (p : Int) + (r : Int) = (s : Int) := by omega
      have ws : wrap64 (s : Int) = (s : Int) := by unfold wrap64; omega
      rw [← hsum] at hl
      obtain ⟨a2, cap2, W2, F2, hrun, hs2, hst2⟩ := frame_append hs hst k c ((d.drop p).take r) (by omega)
      have fin : Hid (RSplitRel B w0 A k c d r (.slice a2 ((l.map fun x => (k, c, x)).length + 1) cap2) s W2) := Lib.hid ⟨l ++ [(d.drop p).take r], F2, by rw [List.append_assoc]; exact hl, by rw [List.length_append, List.length_singleton]; omega, by rw [List.map_append]; exact hs2, hst2⟩
      obtain ⟨av, cv, rfl, -, -, -⟩ := hs'.form
      rw [hll] at hrun fin
      rw [hll]
      by_cases hsl : s ≤ d.length
      · have hsl' : (s : Int) ≤ d.length := by omega
        have hps : (p : Int) ≤ s := by omega
        have hps' : p ≤ s := by omega
        have ex : (⟨d.toArray⟩ : ByteArray).extract p s = ⟨((d.drop p).take r).toArray⟩ := by
          rw [ByteArray.extract_mk, hsum]
          simp
        generalize (d.drop p).take r = t1 at *
        replace hsum := Lib.hid hsum
        clear hs hs' hst hl hs2 hst2 hll
        go_wp2_with (at_builtin; refine wpList_append_go rfl (.tmp 23) (.tmp 36) 27 27 rfl _ _ rfl rfl hrun ?_)
        go_roundg (d.length - s)
        case measure => have := hsum.out; omega
        case rel => exact ⟨s, rfl, rfl, by have := hsum.out; omega, fin⟩
      · have hsl' : ¬ (s : Int) ≤ d.length := by omega
        have e1 : (d.drop p).take r = d.drop p := List.take_of_length_le (by rw [List.length_drop]; omega)
        rw [e1] at hrun
        have ex := sub_tx (L := d) (k := p) (by omega)
        generalize d.drop p = t1 at *
        replace hsum := Lib.hid hsum
        clear hs hs' hst hl hs2 hst2 hll
        go_wp2_with (at_builtin; refine wpList_append_go rfl (.tmp 23) (.tmp 36) 27 27 rfl _ _ rfl rfl hrun ?_)
        go_roundg (d.length - s)
        case measure => have := hsum.out; omega
        case rel => exact ⟨s, rfl, rfl, by have := hsum.out; omega, fin⟩
    · have hlt' : ¬ (p : Int) < d.length := by omega
      rw [List.drop_of_length_le (by omega), cutsL_nil, List.append_nil] at hl
      have fin : Hid (SplitR B w0 A ((cutsL r d).map fun x => (k, c, x)) (.returned _) wr) := Lib.hid ⟨_, S, rfl, by rw [← hl]; exact hs, hst⟩
      obtain ⟨av, cv, rfl, -, -, -⟩ := hs'.form
      rw [hll] at fin
      rw [hll]
      clear hs hs' hst hl
      go_wp2_with fail
      go_ret
      exact fin.out
end
end Go.Proofs.Ytjeejflmkdncpaa
