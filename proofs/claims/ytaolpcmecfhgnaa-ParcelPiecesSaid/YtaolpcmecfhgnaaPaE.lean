/- A parcel: its calls. -/
import Derived.Test.YtaolpcmecfhgnaaPaD
namespace Go.Proofs.Ytaolpcmecfhgnaa
open Go.RowKit
open Go.ChangeMaps (setBlock)
set_option linter.unusedVariables false
set_option linter.unusedSectionVars false
set_option linter.unusedSimpArgs false
set_option maxRecDepth 100000

section
variable {B : Nat} {w0 w w' W : World} {pb xb : Nat} {p : Pcl} {F F' S : List (Nat × Obj)}
theorem pa_new (h : St B w0 w F) : Calls Try.prog 7 #[] w fun r w' => r = .returned (pptr w.heap.size) ∧ PaIs B w0 w' w.heap.size z0P F := by
  have fin := Lib.hid (PaIs.new h)
  clear h
  go_enter Try.func7, Try.ntmps7
  go_wp2_with fail
  go_ret
  exact ⟨rfl, fin.out⟩

set_option maxHeartbeats 1000000 in
theorem pa_open (h : PaIs B w0 w pb p F) : Calls Try.prog 17 #[pptr pb] w fun r w' => r = .returned (.bool (!decide (p.next = 0))) ∧ PaIs B w0 w' pb p F := by
  have fin := Lib.hid fun n => h.grow (drewN_below w n)
  obtain ⟨a, c, S, hs, hst⟩ := h
  have k0 : w.cell? ⟨pb, 0, none⟩ = some (.int .i64 (p.next : Nat)) := hst.cell (b := pb) List.mem_cons_self rfl
  clear hst hs
  have e : (!((p.next : Int) == 0)) = !decide (p.next = 0) := by
    by_cases h : p.next = 0
    · simp [h]
    · have : ((p.next : Int) == 0) = false := beq_eq_false_iff_ne.2 (by omega)
      simp [h, this]
  rw [← e]
  generalize (p.next : Int) = q at *
  have hq : (q != 0) = !(q == 0) := rfl
  clear e
  generalize (q == 0) = bb at *
  replace fin := fin
  go_enter Try.func17, Try.ntmps17
  go_wp2_with fail
  go_ret
  exact ⟨rfl, fin.out 0⟩

/-- A parcel stored. -/
abbrev paPut (w : World) (b : Nat) (p : Pcl) (v : Value) : World := ((((((((((((w.setCell ⟨b, 0, none⟩ (.int .i64 (p.next : Nat))).setCell ⟨b, 1, none⟩ (.int .i64 0)).setCell ⟨b, 2, none⟩ (.int .i64 0)).setCell ⟨b, 3, none⟩ (.int .i64 p.size)).setCell ⟨b, 4, none⟩ (tx p.exch)).setCell ⟨b, 5, none⟩ (tx p.key)).setCell ⟨b, 6, none⟩ (.int .i64 p.prio)).setCell ⟨b, 7, none⟩ (.int .i64 p.ttl)).setCell ⟨b, 8, none⟩ (.int .i64 0)).setCell ⟨b, 9, none⟩ (.bool false)).setCell ⟨b, 10, none⟩ (.int .i64 0)).setCell ⟨b, 11, none⟩ v).setCell ⟨b, 12, none⟩ (.int .i64 p.bits)
theorem St.paPut {v0 v : Value} {b : Nat} {p0 : Pcl} {C : List (Nat × Obj)} (h : St B w0 w ((b, paO p0 v0) :: C)) : St B w0 (paPut w b p v) ((b, paO p v) :: C) := by
  have h13 := (((((((((((((h.set0 0 (.int .i64 (p.next : Nat))).set0 1 (.int .i64 0)).set0 2 (.int .i64 0)).set0 3 (.int .i64 p.size)).set0 4 (tx p.exch)).set0 5 (tx p.key)).set0 6 (.int .i64 p.prio)).set0 7 (.int .i64 p.ttl)).set0 8 (.int .i64 0)).set0 9 (.bool false)).set0 10 (.int .i64 0)).set0 11 v).set0 12 (.int .i64 p.bits))
  simp only [List.setIfInBounds_toArray, List.set_cons_zero, List.set_cons_succ] at h13
  exact h13
/-- A parcel's cells. -/
structure PaC (W : World) (b : Nat) (p : Pcl) (v : Value) : Prop where
  c0 : W.cell? ⟨b, 0, none⟩ = some (.int .i64 (p.next : Nat))
  c1 : W.cell? ⟨b, 1, none⟩ = some (.int .i64 0)
  c2 : W.cell? ⟨b, 2, none⟩ = some (.int .i64 0)
  c3 : W.cell? ⟨b, 3, none⟩ = some (.int .i64 p.size)
  c4 : W.cell? ⟨b, 4, none⟩ = some (tx p.exch)
  c5 : W.cell? ⟨b, 5, none⟩ = some (tx p.key)
  c6 : W.cell? ⟨b, 6, none⟩ = some (.int .i64 p.prio)
  c7 : W.cell? ⟨b, 7, none⟩ = some (.int .i64 p.ttl)
  c8 : W.cell? ⟨b, 8, none⟩ = some (.int .i64 0)
  c9 : W.cell? ⟨b, 9, none⟩ = some (.bool false)
  c10 : W.cell? ⟨b, 10, none⟩ = some (.int .i64 0)
  c11 : W.cell? ⟨b, 11, none⟩ = some v
  c12 : W.cell? ⟨b, 12, none⟩ = some (.int .i64 p.bits)
theorem PaC.of {v : Value} {b : Nat} {H : List (Nat × Obj)} (h : St B w0 W H) (m : (b, paO p v) ∈ H) : PaC W b p v :=
  ⟨h.cell m rfl, h.cell m rfl, h.cell m rfl, h.cell m rfl, h.cell m rfl, h.cell m rfl, h.cell m rfl, h.cell m rfl, h.cell m rfl, h.cell m rfl, h.cell m rfl, h.cell m rfl, h.cell m rfl⟩

set_option maxHeartbeats 1000000 in
theorem pa_clear (h : PaIs B w0 w pb p F) : Calls Try.prog 16 #[pptr pb] w fun r w' => r = .returned (.tuple #[]) ∧ PaIs B w0 w' pb z0P F := by
  obtain ⟨a, c, S, hs, hst⟩ := h
  have fin : Hid (PaIs B w0 (paPut w pb z0P (.slice none 0 0)) pb z0P F) := Lib.hid ⟨none, 0, [], SlIs.nil, hst.paPut.sub ((List.sublist_append_right S F).cons_cons _)⟩
  obtain ⟨c0, c1, c2, c3, c4, c5, c6, c7, c8, c9, c10, c11, c12⟩ := PaC.of hst List.mem_cons_self
  have f := fun i => St.soft hst (b := pb) List.mem_cons_self i
  clear hst hs
  go_enter Try.func16, Try.ntmps16
  go_wp2_with fail
  exact bodyPost_end (results_none rfl _ _ _) rfl ⟨rfl, fin.out⟩

set_option maxHeartbeats 1000000 in
theorem pa_begin (h : PaIs B w0 w pb p F) (e k : List UInt8) (b : Int) (h1 : e.length ≤ 140737488351232) (h2 : k.length ≤ 140737488351232) : Calls Try.prog 8 #[pptr pb, tx e, tx k, .int .i64 b] w fun r w' => r = .returned (.int .i64 (beginP p e k b).1) ∧ PaIs B w0 w' pb (beginP p e k b).2 F := by
  have cc : Hid (Calls Try.prog 18 #[pptr pb, pieV ⟨0, e, k, b, 0, 0, 0, []⟩] w (ComeR B w0 pb ((false, (beginP p e k b).1), (beginP p e k b).2) F)) := by
    unfold beginP
    by_cases h0 : p.next = 0
    · rw [if_pos h0]
      exact Lib.hid (come_begin (x := ⟨0, e, k, b, 0, 0, 0, []⟩) h h0 rfl h1 h2)
    · rw [if_neg h0]
      exact Lib.hid (come_no (x := ⟨0, e, k, b, 0, 0, 0, []⟩) h (by show ¬ (p.next : Int) = 0; omega))
  clear h h1 h2
  generalize beginP p e k b = r at *
  obtain ⟨r1, r2⟩ := r
  go_enter Try.func8, Try.ntmps8
  go_wp2_with fail
  refine cc.out.mono ?_
  rintro v w1 ⟨rfl, h1⟩
  replace h1 := Lib.hid h1
  clear cc
  go_wp2_with fail
  go_ret
  exact ⟨rfl, h1.out⟩

set_option maxHeartbeats 1000000 in
theorem pa_head (h : PaIs B w0 w pb p F) (hb : p.bytes.length ≤ 1000000) (s r t : Int) : Calls Try.prog 10 #[pptr pb, .agg #[.int .i64 s, .int .i64 r, .int .i64 t]] w (ComeR B w0 pb (headP p s r t) F) := by
  have cc : Hid (∀ o, Calls Try.prog 18 #[pptr pb, pieV ⟨1, [], [], 0, s, r, t, []⟩] (w.alloc o) (ComeR B w0 pb (headP p s r t) F)) := Lib.hid fun o => by
    have h := h.grow (new_below w o)
    unfold headP
    by_cases h0 : p.next = 1
    · rw [if_pos h0]
      exact come_head (x := ⟨1, [], [], 0, s, r, t, []⟩) h h0 rfl hb
    · rw [if_neg h0]
      exact come_no (x := ⟨1, [], [], 0, s, r, t, []⟩) h (by show ¬ (p.next : Int) = 1; omega)
  clear h hb
  generalize headP p s r t = q at *
  obtain ⟨⟨q1, q3⟩, q2⟩ := q
  go_enter Try.func10, Try.ntmps10
  go_wp2_with fail
  refine (cc.out _).mono ?_
  rintro v w1 ⟨rfl, h1⟩
  replace h1 := Lib.hid h1
  clear cc
  go_wp2_with fail
  go_ret2
  exact ⟨rfl, h1.out⟩

set_option maxHeartbeats 1000000 in
theorem pa_body (h : PaIs B w0 w pb p F) (b : List UInt8) (hb : p.bytes.length + b.length ≤ 1000000) : Calls Try.prog 12 #[pptr pb, tx b] w (ComeR B w0 pb (bodyP p b) F) := by
  have cc : Hid (Calls Try.prog 18 #[pptr pb, pieV ⟨2, [], [], 0, 0, 0, 0, b⟩] w (ComeR B w0 pb (bodyP p b) F)) := by
    by_cases h0 : p.next = 2
    · exact Lib.hid (come_body (x := ⟨2, [], [], 0, 0, 0, 0, b⟩) h h0 rfl hb)
    · unfold bodyP
      rw [if_neg fun h => h0 h.1]
      exact Lib.hid (come_no (x := ⟨2, [], [], 0, 0, 0, 0, b⟩) h (by show ¬ (p.next : Int) = 2; omega))
  clear h hb
  generalize bodyP p b = q at *
  obtain ⟨⟨q1, q3⟩, q2⟩ := q
  go_enter Try.func12, Try.ntmps12
  go_wp2_with fail
  refine cc.out.mono ?_
  rintro v w1 ⟨rfl, h1⟩
  replace h1 := Lib.hid h1
  clear cc
  go_wp2_with fail
  go_ret2
  exact ⟨rfl, h1.out⟩

theorem ret_take {w : World} {e : Ent} {P : Program} {fn : Func} {d : Nat} {tmps : Array Value} {x y : Value} (hr : fn.results = #[.cell 2 28, .tmp 3, .tmp 4]) (h2 : tmps[2]? = some (.pointer (some ⟨d, 0, none⟩))) (h3 : tmps[3]? = some x) (h4 : tmps[4]? = some y) (q : EnAt w d e) (hP : P = Try.prog) :
    (results fn tmps).run P w = .ok (.tuple #[enV e, x, y]) w := by
  subst hP
  obtain ⟨q0, q1, q2, q3, q4, q5, q6, q7, q8, q9⟩ := q
  simp [results, hr, go_sem, h2, h3, h4, q0, q1, q2, q3, q4, q5, q6, q7, q8, q9]
/-- The bytes as a text. -/
theorem bytes_conv {A S : List (Nat × Obj)} {l : List UInt8} {v : Value} (h : SlIs 5 1 v l.length (Lib.byteCells l) S) (hst : St B w0 w (A ++ S)) : (convert 47 9 v).run Try.prog w = .ok (tx l) w := by
  have h0 := h
  obtain ⟨a, cap, rfl, -, -, ha⟩ := h.form
  cases l with
  | nil =>
    obtain ⟨hl, ⟨h1, _⟩ | ⟨g, off, cap', cur, h1, -⟩⟩ := h
    · cases h1
      simp [convert, go_sem, run_underlying uBytes6, run_underlying uStr6, run_underlying uU86, Conv.bytesToString]
      rfl
    · cases h1
      exact run_conv_bytes rfl fun i c hi => by simp at hi
  | cons b l =>
    obtain ⟨g, off, rfl⟩ := ha 0 (by simp)
    exact run_conv_bytes rfl fun i c hi => h0.cellAt hst (byteCells_at hi)
def TakeR (B : Nat) (w0 : World) (pb : Nat) (r : (Ent × List UInt8 × Int) × Pcl) (F : List (Nat × Obj)) (e : Ending) (w' : World) : Prop :=
  e = .returned (.tuple #[enV r.1.1, tx r.1.2.1, .int .i64 r.1.2.2]) ∧ PaIs B w0 w' pb r.2 F
set_option maxHeartbeats 1000000 in
theorem take_no (h : PaIs B w0 w pb p F) (hn : ¬ p.next = 3) : Calls Try.prog 14 #[pptr pb] w (TakeR B w0 pb ((z0E, [], 0), p) F) := by
  have h1 := h.alloc (enO z0E)
  have hB : ((p.next : Int) == 3) = false := beq_eq_false_iff_ne.2 (by omega)
  have fin : Hid (PaIs B w0 (w.alloc (enO z0E)) pb p F ∧ EnAt (w.alloc (enO z0E)) w.heap.size z0E) := Lib.hid ⟨h1.sub (List.sublist_cons_self _ _), EnAt.start w z0E⟩
  have k0 : (w.alloc (enO z0E)).cell? ⟨pb, 0, none⟩ = some (.int .i64 (p.next : Nat)) := by
    obtain ⟨a, c, S, hs, hst⟩ := h1
    exact hst.cell (b := pb) List.mem_cons_self rfl
  clear h h1 hn
  generalize (p.next : Int) = q at *
  go_enter Try.func14, Try.ntmps14
  go_wp2_with fail
  obtain ⟨f1, f2⟩ := fin.out
  exact bodyPost_ret (ret_take rfl rfl rfl rfl f2 rfl) rfl ⟨rfl, f1⟩
/-- What Take reads. -/
structure PaT (W : World) (b : Nat) (e k : List UInt8) (sz pr tt : Int) (v : Value) (bi : Int) (l : List UInt8) : Prop where
  c1 : W.cell? ⟨b, 1, none⟩ = some (.int .i64 0)
  c2 : W.cell? ⟨b, 2, none⟩ = some (.int .i64 0)
  c3 : W.cell? ⟨b, 3, none⟩ = some (.int .i64 sz)
  c4 : W.cell? ⟨b, 4, none⟩ = some (tx e)
  c5 : W.cell? ⟨b, 5, none⟩ = some (tx k)
  c6 : W.cell? ⟨b, 6, none⟩ = some (.int .i64 pr)
  c7 : W.cell? ⟨b, 7, none⟩ = some (.int .i64 tt)
  c8 : W.cell? ⟨b, 8, none⟩ = some (.int .i64 0)
  c9 : W.cell? ⟨b, 9, none⟩ = some (.bool false)
  c10 : W.cell? ⟨b, 10, none⟩ = some (.int .i64 0)
  c11 : W.cell? ⟨b, 11, none⟩ = some v
  c12 : W.cell? ⟨b, 12, none⟩ = some (.int .i64 bi)
  conv : (convert 47 9 v).run Try.prog W = .ok (tx l) W
theorem PaIs.takes {H : List (Nat × Obj)} {a : Option Addr} {c : Nat} (hs : SlIs 5 1 (.slice a p.bytes.length c) p.bytes.length (Lib.byteCells p.bytes) S) (h : St B w0 W ((pb, paO p (.slice a p.bytes.length c)) :: (S ++ F))) : PaT W pb p.exch p.key p.size p.prio p.ttl (.slice a p.bytes.length c) p.bits p.bytes := by
  obtain ⟨-, c1, c2, c3, c4, c5, c6, c7, c8, c9, c10, c11, c12⟩ := PaC.of h List.mem_cons_self
  exact ⟨c1, c2, c3, c4, c5, c6, c7, c8, c9, c10, c11, c12, bytes_conv hs (A := (pb, paO p (.slice a p.bytes.length c)) :: F) (h.perm (.cons _ List.perm_append_comm))⟩
theorem enMid (Y F : List (Nat × Obj)) (p q : Nat × Obj) : (Y ++ p :: q :: F).Perm (q :: (Y ++ p :: F)) := by
  classical
  exact List.perm_iff_count.2 fun a => by simp only [List.count_append, List.count_cons]; omega
theorem enMid2 (Y F : List (Nat × Obj)) (p q : Nat × Obj) : (Y ++ F).Sublist (q :: (Y ++ p :: F)) := ((List.Sublist.refl Y).append (List.sublist_cons_self p F)).cons q
set_option maxHeartbeats 4000000 in
theorem take_yes (h : PaIs B w0 w pb p F) (hn : p.next = 3) : Calls Try.prog 14 #[pptr pb] w (TakeR B w0 pb ((parE p, p.bytes, p.bits), z0P) F) := by
  have cl := fun W (h : PaIs B w0 W pb p ((w.heap.size, enO z0E) :: F)) => pa_clear h
  have h1 := h.alloc (enO z0E)
  obtain ⟨a, c, S, hs, hst⟩ := h
  obtain ⟨nx, pe, pk, psz, pp, pt, pby, pbi⟩ := p
  simp only at hn
  subst hn
  have k0 : (w.alloc (enO z0E)).cell? ⟨pb, 0, none⟩ = some (.int .i64 3) := (hst.alloc (enO z0E)).cell (b := pb) (List.mem_cons_of_mem _ List.mem_cons_self) rfl
  obtain ⟨V, hV⟩ : ∃ V, V = w.alloc (enO z0E) := ⟨_, rfl⟩
  have hstV := hst.alloc (enO z0E)
  rw [← hV] at hstV h1
  have hs0 : Hid (PaT V.drew pb pe pk psz pp pt (.slice a pby.length c) pbi pby) := Lib.hid (PaIs.takes (p := ⟨3, pe, pk, psz, pp, pt, pby, pbi⟩) (F := F) (H := []) hs (hstV.sub (List.sublist_cons_self _ _)).drew)
  have P1 : Hid (PaT (V.drew.alloc (enO z0E)) pb pe pk psz pp pt (.slice a pby.length c) pbi pby) := Lib.hid (PaIs.takes (p := ⟨3, pe, pk, psz, pp, pt, pby, pbi⟩) (F := F) (H := []) hs ((hstV.drew.alloc (enO z0E)).sub ((List.sublist_cons_self _ _).trans (List.sublist_cons_self _ _))))
  have P2 : Hid (PaT (V.drew.alloc (enO ⟨0, 0, psz, pe, pk, pp, pt, 0, false, 0⟩)) pb pe pk psz pp pt (.slice a pby.length c) pbi pby) := Lib.hid (PaIs.takes (p := ⟨3, pe, pk, psz, pp, pt, pby, pbi⟩) (F := F) (H := []) hs ((hstV.drew.alloc (enO ⟨0, 0, psz, pe, pk, pp, pt, 0, false, 0⟩)).sub ((List.sublist_cons_self _ _).trans (List.sublist_cons_self _ _))))
  have cl2 : Hid (Calls Try.prog 16 #[pptr pb] (V.drew.alloc (enO ⟨0, 0, psz, pe, pk, pp, pt, 0, false, 0⟩)) fun r w' => r = .returned (.tuple #[]) ∧ PaIs B w0 w' pb z0P ((V.drew.heap.size, enO ⟨0, 0, psz, pe, pk, pp, pt, 0, false, 0⟩) :: (w.heap.size, enO z0E) :: F)) := Lib.hid (pa_clear ((h1.grow (drew_b V)).alloc _))
  clear hst hstV cl h1
  replace hs := Lib.hid hs
  go_enter Try.func14, Try.ntmps14
  go_upto_region 3 with fail
  rw [← hV]
  replace hV := Lib.hid hV
  clear k0
  generalize w.heap.size = rb at *
  refine wp_region_held_drew (S := fun wr => PaT wr pb pe pk psz pp pt (.slice a pby.length c) pbi pby) (by kernel_rfl) hs0.out (fun hHeld => ?_)
  generalize V.drew = Z at *
  refine wpAnyH_take (i := 0) (oi := { dst := some 14, op := Op.move (Operand.tmp 0), type := 24, pos := "parcel.go:63", after := #[], guard := none }) (v := ?_) rfl (by kernel_rfl) (by kernel_rfl) (by kernel_rfl) (fun _ _ _ h => h) (Or.inl ⟨by rfl, ?_⟩) hHeld ?_
  rotate_left 1
  · (intro w' hSw; clear hSw; go_simp; (try with_reducible rfl))
  try simp only [Act.put, List.setIfInBounds_toArray, List.set_cons_zero, List.set_cons_succ]
  refine wpAnyH_take (i := 1) (oi := { dst := some 15, op := Op.nilCheck (Operand.tmp 14), type := 0, pos := "parcel.go:63", after := #[{ on := 0, ground := Ground.data }], guard := none }) (v := ?_) rfl (by kernel_rfl) (by kernel_rfl) (by kernel_rfl) (fun _ _ _ h => h) (Or.inl ⟨by rfl, ?_⟩) hHeld ?_
  rotate_left 1
  · (intro w' hSw; clear hSw; go_simp; (try with_reducible rfl))
  try simp only [Act.put, List.setIfInBounds_toArray, List.set_cons_zero, List.set_cons_succ]
  refine wpAnyH_take (i := 2) (oi := { dst := some 16, op := Op.fieldAddr 52 (Operand.tmp 15) 1, type := 0, pos := "parcel.go:63", after := #[{ on := 1, ground := Ground.data }], guard := none }) (v := ?_) rfl (by kernel_rfl) (by kernel_rfl) (by kernel_rfl) (fun _ _ _ h => h) (Or.inl ⟨by rfl, ?_⟩) hHeld ?_
  rotate_left 1
  · (intro w' hSw; clear hSw; go_simp; (try with_reducible rfl))
  try simp only [Act.put, List.setIfInBounds_toArray, List.set_cons_zero, List.set_cons_succ]
  refine wpAnyH_take (i := 3) (oi := { dst := some 17, op := Op.load 28 (Operand.tmp 16), type := 28, pos := "parcel.go:63", after := #[{ on := 2, ground := Ground.data }], guard := none }) (v := ?_) rfl (by kernel_rfl) (by kernel_rfl) (by kernel_rfl) (fun _ _ _ h => h) (Or.inl ⟨by rfl, ?_⟩) hHeld ?_
  rotate_left 1
  · (intro w' hSw; obtain ⟨c1, c2, c3, c4, c5, c6, c7, c8, c9, c10, c11, c12, -⟩ := hSw; go_simp; (try with_reducible rfl))
  try simp only [Act.put, List.setIfInBounds_toArray, List.set_cons_zero, List.set_cons_succ]
  refine wpAnyH_take (i := 4) (oi := { dst := some 18, op := Op.move (Operand.tmp 0), type := 24, pos := "parcel.go:63", after := #[{ on := 14, ground := Ground.gcOnly Departure.lateStores }], guard := none }) (v := ?_) rfl (by kernel_rfl) (by kernel_rfl) (by kernel_rfl) (fun _ _ _ h => h) (Or.inl ⟨by rfl, ?_⟩) hHeld ?_
  rotate_left 1
  · (intro w' hSw; clear hSw; go_simp; (try with_reducible rfl))
  try simp only [Act.put, List.setIfInBounds_toArray, List.set_cons_zero, List.set_cons_succ]
  refine wpAnyH_take (i := 5) (oi := { dst := some 19, op := Op.nilCheck (Operand.tmp 18), type := 0, pos := "parcel.go:63", after := #[{ on := 4, ground := Ground.data }, { on := 14, ground := Ground.gcOnly Departure.lateStores }], guard := none }) (v := ?_) rfl (by kernel_rfl) (by kernel_rfl) (by kernel_rfl) (fun _ _ _ h => h) (Or.inl ⟨by rfl, ?_⟩) hHeld ?_
  rotate_left 1
  · (intro w' hSw; clear hSw; go_simp; (try with_reducible rfl))
  try simp only [Act.put, List.setIfInBounds_toArray, List.set_cons_zero, List.set_cons_succ]
  refine wpAnyH_take (i := 6) (oi := { dst := some 20, op := Op.fieldAddr 52 (Operand.tmp 19) 2, type := 0, pos := "parcel.go:63", after := #[{ on := 5, ground := Ground.data }, { on := 14, ground := Ground.gcOnly Departure.lateStores }], guard := none }) (v := ?_) rfl (by kernel_rfl) (by kernel_rfl) (by kernel_rfl) (fun _ _ _ h => h) (Or.inl ⟨by rfl, ?_⟩) hHeld ?_
  rotate_left 1
  · (intro w' hSw; clear hSw; go_simp; (try with_reducible rfl))
  try simp only [Act.put, List.setIfInBounds_toArray, List.set_cons_zero, List.set_cons_succ]
  refine wpAnyH_take (i := 7) (oi := { dst := some 21, op := Op.load 47 (Operand.tmp 20), type := 47, pos := "parcel.go:63", after := #[{ on := 6, ground := Ground.data }, { on := 14, ground := Ground.gcOnly Departure.lateStores }], guard := none }) (v := ?_) rfl (by kernel_rfl) (by kernel_rfl) (by kernel_rfl) (fun _ _ _ h => h) (Or.inl ⟨by rfl, ?_⟩) hHeld ?_
  rotate_left 1
  · (intro w' hSw; obtain ⟨c1, c2, c3, c4, c5, c6, c7, c8, c9, c10, c11, c12, -⟩ := hSw; go_simp; (try with_reducible rfl))
  try simp only [Act.put, List.setIfInBounds_toArray, List.set_cons_zero, List.set_cons_succ]
  refine wpAnyH_take (i := 8) (oi := { dst := some 22, op := Op.convert 47 9 (Operand.tmp 21), type := 9, pos := "parcel.go:63", after := #[{ on := 7, ground := Ground.data }, { on := 14, ground := Ground.gcOnly Departure.lateStores }], guard := none }) (v := ?_) rfl (by kernel_rfl) (by kernel_rfl) (by kernel_rfl) (fun _ _ _ h => h) (Or.inl ⟨by rfl, ?_⟩) hHeld ?_
  rotate_left 1
  · (intro w' hSw; have hcv := hSw.conv; clear hSw; go_simp; (try with_reducible rfl))
  try simp only [Act.put, List.setIfInBounds_toArray, List.set_cons_zero, List.set_cons_succ]
  refine wpAnyH_take (i := 9) (oi := { dst := some 23, op := Op.move (Operand.tmp 0), type := 24, pos := "parcel.go:63", after := #[{ on := 15, ground := Ground.gcOnly Departure.lateStores }], guard := none }) (v := ?_) rfl (by kernel_rfl) (by kernel_rfl) (by kernel_rfl) (fun _ _ _ h => h) (Or.inl ⟨by rfl, ?_⟩) hHeld ?_
  rotate_left 1
  · (intro w' hSw; clear hSw; go_simp; (try with_reducible rfl))
  try simp only [Act.put, List.setIfInBounds_toArray, List.set_cons_zero, List.set_cons_succ]
  refine wpAnyH_take (i := 10) (oi := { dst := some 24, op := Op.nilCheck (Operand.tmp 23), type := 0, pos := "parcel.go:63", after := #[{ on := 9, ground := Ground.data }, { on := 15, ground := Ground.gcOnly Departure.lateStores }], guard := none }) (v := ?_) rfl (by kernel_rfl) (by kernel_rfl) (by kernel_rfl) (fun _ _ _ h => h) (Or.inl ⟨by rfl, ?_⟩) hHeld ?_
  rotate_left 1
  · (intro w' hSw; clear hSw; go_simp; (try with_reducible rfl))
  try simp only [Act.put, List.setIfInBounds_toArray, List.set_cons_zero, List.set_cons_succ]
  refine wpAnyH_take (i := 11) (oi := { dst := some 25, op := Op.fieldAddr 52 (Operand.tmp 24) 3, type := 0, pos := "parcel.go:63", after := #[{ on := 10, ground := Ground.data }, { on := 15, ground := Ground.gcOnly Departure.lateStores }], guard := none }) (v := ?_) rfl (by kernel_rfl) (by kernel_rfl) (by kernel_rfl) (fun _ _ _ h => h) (Or.inl ⟨by rfl, ?_⟩) hHeld ?_
  rotate_left 1
  · (intro w' hSw; clear hSw; go_simp; (try with_reducible rfl))
  try simp only [Act.put, List.setIfInBounds_toArray, List.set_cons_zero, List.set_cons_succ]
  refine wpAnyH_take (i := 12) (oi := { dst := some 26, op := Op.load 3 (Operand.tmp 25), type := 3, pos := "parcel.go:63", after := #[{ on := 11, ground := Ground.data }, { on := 15, ground := Ground.gcOnly Departure.lateStores }], guard := none }) (v := ?_) rfl (by kernel_rfl) (by kernel_rfl) (by kernel_rfl) (fun _ _ _ h => h) (Or.inl ⟨by rfl, ?_⟩) hHeld ?_
  rotate_left 1
  · (intro w' hSw; obtain ⟨c1, c2, c3, c4, c5, c6, c7, c8, c9, c10, c11, c12, -⟩ := hSw; go_simp; (try with_reducible rfl))
  try simp only [Act.put, List.setIfInBounds_toArray, List.set_cons_zero, List.set_cons_succ]
  refine wpAnyH_ready (rs := [13]) (by kernel_rfl) (by simp) (AllReadyH.cons (o := { dst := some 5, op := Op.alloc 28, type := 0, pos := "parcel.go:63", after := #[], guard := none }) rfl (fun K hK => ?_) AllReadyH.nil)
  clear hHeld
  go_simp
  refine hK.out _ _ P1.out (fun hHeld => ?_)
  clear hK K
  try simp only [Act.put, List.setIfInBounds_toArray, List.set_cons_zero, List.set_cons_succ]
  refine wpAnyH_ready (rs := [14]) (by kernel_rfl) (by simp) (AllReadyH.cons (o := { dst := none, op := Op.store 28 (Operand.tmp 5) (Operand.tmp 17), type := 0, pos := "parcel.go:63", after := #[{ on := 13, ground := Ground.data }, { on := 3, ground := Ground.data }, { on := 0, ground := Ground.phase }, { on := 1, ground := Ground.phase }, { on := 2, ground := Ground.phase }, { on := 3, ground := Ground.phase }, { on := 4, ground := Ground.textOnly Departure.lateStores }, { on := 5, ground := Ground.textOnly Departure.lateStores }, { on := 6, ground := Ground.textOnly Departure.lateStores }, { on := 7, ground := Ground.textOnly Departure.lateStores }, { on := 8, ground := Ground.textOnly Departure.lateStores }, { on := 9, ground := Ground.textOnly Departure.lateStores }, { on := 10, ground := Ground.textOnly Departure.lateStores }, { on := 11, ground := Ground.textOnly Departure.lateStores }, { on := 12, ground := Ground.textOnly Departure.lateStores }, { on := 13, ground := Ground.phase }], guard := none }) rfl (fun K hK => ?_) AllReadyH.nil)
  clear hHeld
  go_simp
  refine hK.out _ _ P2.out (fun hHeld => ?_)
  clear hK K
  try simp only [Act.put, List.setIfInBounds_toArray, List.set_cons_zero, List.set_cons_succ]
  refine wpAnyH_take (i := 15) (oi := { dst := some 6, op := Op.assign (Operand.tmp 22), type := 9, pos := "parcel.go:63", after := #[{ on := 8, ground := Ground.data }, { on := 14, ground := Ground.chain }, { on := 0, ground := Ground.phase }, { on := 1, ground := Ground.phase }, { on := 2, ground := Ground.phase }, { on := 3, ground := Ground.phase }, { on := 4, ground := Ground.phase }, { on := 5, ground := Ground.phase }, { on := 6, ground := Ground.phase }, { on := 7, ground := Ground.phase }, { on := 8, ground := Ground.phase }, { on := 9, ground := Ground.textOnly Departure.lateStores }, { on := 10, ground := Ground.textOnly Departure.lateStores }, { on := 11, ground := Ground.textOnly Departure.lateStores }, { on := 12, ground := Ground.textOnly Departure.lateStores }, { on := 13, ground := Ground.phase }, { on := 14, ground := Ground.phase }], guard := none }) (v := ?_) rfl (by kernel_rfl) (by kernel_rfl) (by kernel_rfl) (fun _ _ _ h => h) (Or.inl ⟨by rfl, ?_⟩) hHeld ?_
  rotate_left 1
  · (intro w' hSw; clear hSw; go_simp; (try with_reducible rfl))
  try simp only [Act.put, List.setIfInBounds_toArray, List.set_cons_zero, List.set_cons_succ]
  refine wpAnyH_take (i := 16) (oi := { dst := some 7, op := Op.assign (Operand.tmp 26), type := 3, pos := "parcel.go:63", after := #[{ on := 12, ground := Ground.data }, { on := 15, ground := Ground.chain }, { on := 0, ground := Ground.phase }, { on := 1, ground := Ground.phase }, { on := 2, ground := Ground.phase }, { on := 3, ground := Ground.phase }, { on := 4, ground := Ground.phase }, { on := 5, ground := Ground.phase }, { on := 6, ground := Ground.phase }, { on := 7, ground := Ground.phase }, { on := 8, ground := Ground.phase }, { on := 9, ground := Ground.phase }, { on := 10, ground := Ground.phase }, { on := 11, ground := Ground.phase }, { on := 12, ground := Ground.phase }, { on := 13, ground := Ground.phase }, { on := 14, ground := Ground.phase }, { on := 15, ground := Ground.phase }], guard := none }) (v := ?_) rfl (by kernel_rfl) (by kernel_rfl) (by kernel_rfl) (fun _ _ _ h => h) (Or.inl ⟨by rfl, ?_⟩) hHeld ?_
  rotate_left 1
  · (intro w' hSw; clear hSw; go_simp; (try with_reducible rfl))
  try simp only [Act.put, List.setIfInBounds_toArray, List.set_cons_zero, List.set_cons_succ]
  refine wpAnyH_done (by kernel_rfl) ?_ _
  clear hHeld
  go_wp2_with fail
  refine cl2.out.mono ?_
  rintro r w5 ⟨rfl, h5⟩
  have h6 := h5.beside
  obtain ⟨Y, y1, y2⟩ := h6
  have e5 := St.enAt y1 (b := Z.heap.size) (e := ⟨0, 0, psz, pe, pk, pp, pt, 0, false, 0⟩) (List.mem_append_right _ List.mem_cons_self)
  have r5 := St.enAt y1 (b := rb) (e := z0E) (List.mem_append_right _ (List.mem_cons_of_mem _ List.mem_cons_self))
  have s5 := fun i => St.soft y1 (b := rb) (List.mem_append_right _ (List.mem_cons_of_mem _ List.mem_cons_self)) i
  have h7 := (St.enPut (e := ⟨0, 0, psz, pe, pk, pp, pt, 0, false, 0⟩) (y1.perm (enMid _ _ _ _)))
  have f7 := Lib.hid (h7.enAt List.mem_cons_self)
  have g7 := Lib.hid (y2 _ F (h7.sub (enMid2 _ _ _ _)))
  obtain ⟨u0, u1, u2, u3, u4, u5, u6, u7, u8, u9⟩ := e5
  obtain ⟨v0, v1, v2, v3, v4, v5, v6, v7, v8, v9⟩ := r5
  clear h5 y1 y2 h7 cl2 hs0 P1 P2
  generalize Z.heap.size = qb at *
  go_wp2_with fail
  exact bodyPost_ret (ret_take rfl rfl rfl rfl f7.out rfl) rfl ⟨rfl, g7.out⟩
theorem pa_take (h : PaIs B w0 w pb p F) : Calls Try.prog 14 #[pptr pb] w (TakeR B w0 pb (takeP p) F) := by
  unfold takeP
  split
  · exact take_yes h (by assumption)
  · exact take_no h (by assumption)
end
end Go.Proofs.Ytaolpcmecfhgnaa
