/- The parser of frames in memory: New, Feed, Left, tell. -/
import Derived.Test.YtjeejflmkdncpaaFmC
import Derived.Test.YtjeejflmkdncpaaSlStr
import Derived.Test.YtjeejflmkdncpaaEdit
import Derived.WalkSpells
import Derived.Deep.RegionWith
import Derived.Deep.RegionLaw
namespace Go.Proofs.Ytjeejflmkdncpaa
open Go.RowKit
set_option linter.unusedVariables false

abbrev fpt (b : Nat) : Value := .pointer (some ⟨b, 0, none⟩)

section
variable {B : Nat} {w0 w : World} {pb M : Nat} {v : Value} {pre L xs : List UInt8} {bad : Bool} {m : Int} {F S A : List (Nat × Obj)} {n : Nat}

def parO (m : Int) (v : Value) (k : Nat) (bad : Bool) : Obj := .cells #[.int .i64 m, v, .int .i64 (k : Int), .bool bad] 58
/-- In w there lies at block pb a parser: its bytes that were told, those that are left; its slice lies in S, all else that is owned in F. -/
structure PsAt (B : Nat) (w0 w : World) (pb : Nat) (m : Int) (v : Value) (pre L : List UInt8) (bad : Bool) (F S : List (Nat × Obj)) : Prop where
  sl : SlIs 5 1 v (pre ++ L).length (Lib.byteCells (pre ++ L)) S
  st : St B w0 w (((pb, parO m v pre.length bad) :: F) ++ S)

theorem PsAt.c0 (h : PsAt B w0 w pb m v pre L bad F S) : w.cell? ⟨pb, 0, none⟩ = some (.int .i64 m) := h.st.cell (List.mem_cons_self) rfl
theorem PsAt.c1 (h : PsAt B w0 w pb m v pre L bad F S) : w.cell? ⟨pb, 1, none⟩ = some v := h.st.cell (List.mem_cons_self) rfl
theorem PsAt.c2 (h : PsAt B w0 w pb m v pre L bad F S) : w.cell? ⟨pb, 2, none⟩ = some (.int .i64 (pre.length : Int)) := h.st.cell (List.mem_cons_self) rfl
theorem PsAt.c3 (h : PsAt B w0 w pb m v pre L bad F S) : w.cell? ⟨pb, 3, none⟩ = some (.bool bad) := h.st.cell (List.mem_cons_self) rfl
theorem PsAt.soft (h : PsAt B w0 w pb m v pre L bad F S) (i : Nat) : w.frozen? ⟨pb, i, none⟩ = false := St.soft h.st List.mem_cons_self i
theorem PsAt.drewN (h : PsAt B w0 w pb m v pre L bad F S) (n : Nat) : PsAt B w0 (w.drewN n) pb m v pre L bad F S := ⟨h.sl, h.st.drewN n⟩

/-- The parser as its callers see it: frames of at most M bytes, the bytes that are left, whether it erred. -/
def PsIs (B : Nat) (w0 w : World) (pb M : Nat) (bad : Bool) (L : List UInt8) (F : List (Nat × Obj)) : Prop :=
  ∃ m v pre S, PsAt B w0 w pb m v pre L bad F S ∧ pre.length ≤ L.length ∧ (bad = false → m = M) ∧ (bad = true → L = []) ∧ 64 ≤ M ∧ M ≤ 4096

theorem PsIs.st (h : PsIs B w0 w pb M bad L F) : ∃ X, St B w0 w (X ++ F) ∧ ∀ w' F', St B w0 w' (X ++ F') → PsIs B w0 w' pb M bad L F' := by
  obtain ⟨m, v, pre, S, h, few, h1, h2, h3⟩ := h
  refine ⟨(pb, parO m v pre.length bad) :: S, h.st.perm (by simp only [List.cons_append]; exact .cons _ List.perm_append_comm), fun w' F' h' => ⟨m, v, pre, S, ⟨h.sl, h'.perm (by simp only [List.cons_append]; exact .cons _ List.perm_append_comm)⟩, few, h1, h2, h3⟩⟩
theorem PsIs.alloc (h : PsIs B w0 w pb M bad L F) (o : Obj) : PsIs B w0 (w.alloc o) pb M bad L ((w.heap.size, o) :: F) := by
  obtain ⟨X, h1, h2⟩ := h.st
  exact h2 _ _ ((h1.alloc o).perm List.perm_middle.symm)
theorem PsIs.sub {F' : List (Nat × Obj)} (h : PsIs B w0 w pb M bad L F) (hs : F'.Sublist F) : PsIs B w0 w pb M bad L F' := by
  obtain ⟨X, h1, h2⟩ := h.st
  exact h2 _ _ (h1.sub ((List.Sublist.refl X).append hs))
theorem PsIs.perm {F' : List (Nat × Obj)} (h : PsIs B w0 w pb M bad L F) (hp : F.Perm F') : PsIs B w0 w pb M bad L F' := by
  obtain ⟨X, h1, h2⟩ := h.st
  exact h2 _ _ (h1.perm (hp.append_left X))
theorem PsIs.drewN (h : PsIs B w0 w pb M bad L F) (n : Nat) : PsIs B w0 (w.drewN n) pb M bad L F := by
  obtain ⟨X, h1, h2⟩ := h.st
  exact h2 _ _ (h1.drewN n)
theorem PsIs.base (h : PsIs B w0 w pb M bad L F) : B ≤ w.heap.size := by
  obtain ⟨X, h1, h2⟩ := h.st
  exact h1.base
theorem PsIs.below (h : PsIs B w0 w pb M bad L F) : Below B w0 w := by
  obtain ⟨X, h1, h2⟩ := h.st
  exact h1.below
theorem PsIs.cell (h : PsIs B w0 w pb M bad L F) {b : Nat} {c : Array Value} {T : TypeId} (hm : (b, .cells c T) ∈ F) {i : Nat} {v : Value} (hi : c[i]? = some v) : w.cell? ⟨b, i, none⟩ = some v := by
  obtain ⟨X, h1, h2⟩ := h.st
  exact h1.cell (b := b) (i := i) (List.mem_append_right X hm) hi
theorem PsIs.nil (h : PsIs B w0 w pb M true L F) : L = [] := by
  obtain ⟨m, v, pre, S, h, few, h1, h2, h3⟩ := h
  exact h2 rfl

/-- Owned blocks stay as they are where only new ones come. -/
theorem St.grow {w' : World} {H : List (Nat × Obj)} (h : St B w0 w H) (hb : Below w.heap.size w w') : St B w0 w' H :=
  ⟨h.below.trans (hb.mono h.base), Nat.le_trans h.base hb.size, h.nodup, fun p hm => ⟨(h.at_ p hm).1, (hb.block _ (St.lt (o := p.2) h hm)).trans (h.at_ p hm).2⟩⟩
theorem PsIs.grow {w' : World} (h : PsIs B w0 w pb M bad L F) (hb : Below w.heap.size w w') : PsIs B w0 w' pb M bad L F := by
  obtain ⟨X, h1, h2⟩ := h.st
  exact h2 _ _ (h1.grow hb)

set_option maxHeartbeats 400000 in
theorem fr_new (h : St B w0 w F) (most : Int) : Calls Try.prog 15 #[.int .i64 most] w fun e w' => e = .returned (fpt w.heap.size) ∧ PsIs B w0 w' w.heap.size (heldM most) false [] F := by
  have hm := heldM_bd most
  have h1 : PsIs B w0 (w.alloc (.cells #[.int .i64 (heldM most), .slice none 0 0, .int .i64 0, .bool false] 58)) w.heap.size (heldM most) false [] F :=
    ⟨_, _, [], [], ⟨SlIs.nil, by rw [List.append_nil]; exact h.alloc _⟩, Nat.le_refl _, fun _ => rfl, fun e => absurd e (by decide), hm⟩
  replace h1 := Lib.hid h1
  have c1 := Lib.hid (fheld_any most)
  clear h hm
  generalize heldM most = q at *
  go_enter Try.func15, Try.ntmps15
  go_wp2_with fail
  refine (c1.out _).mono ?_
  rintro e w1 ⟨rfl, rfl⟩
  go_wp2_with fail
  go_ret
  exact ⟨rfl, h1.out⟩

theorem infU8B : (Try.prog.info? 5).map (fun i => (i.zero, i.size, i.bytes)) = some (some (.int .u8 0), 1, 1) := by kernel_rfl

/-- What is fed to one that erred is gone. -/
def fedL (bad : Bool) (L b : List UInt8) : List UInt8 := if bad then L else L ++ b

set_option maxHeartbeats 1000000 in
theorem fr_feed (h : PsIs B w0 w pb M bad L F) (b : List UInt8) (hL : L.length + b.length ≤ 4000000) :
    Calls Try.prog 17 #[fpt pb, tx b] w fun e w' => e = .returned (.tuple #[]) ∧ PsIs B w0 w' pb M bad (fedL bad L b) F := by
  obtain ⟨m, v, pre, S, h, few, h1, h2, h3⟩ := h
  have c1 := h.c1
  have c3 := h.c3
  have f1 := h.soft 1
  cases bad with
  | true =>
    have fin : Hid (PsIs B w0 w pb M true (fedL true L b) F) := Lib.hid ⟨m, v, pre, S, h, few, h1, h2, h3⟩
    clear h h1 h2 h3 few
    go_enter Try.func17, Try.ntmps17
    go_wp2_with fail
    exact bodyPost_end (results_none rfl _ _ _) rfl ⟨rfl, fin.out⟩
  | false =>
    obtain ⟨i0, hi, hz0, hz1, hz2⟩ := info_parts infU8B
    obtain ⟨v2, w2, S2, hr, hs2, hst2⟩ := run_append_sl_str (P := Try.prog) 45 9 0 5 i0 uBytes6 uStr6 hi hz0 hz1 hz2 h.sl h.st ⟨b.toArray⟩ (by show _ + b.length ≤ _; rw [List.length_append]; unfold maxLen; omega) (by show _ + b.length ≤ _; rw [List.length_append]; omega)
    rw [strCells_tx, ← byteCells_append, List.append_assoc, show (⟨b.toArray⟩ : ByteArray).size = b.length from rfl, ← List.length_append, List.append_assoc] at hs2
    have k1 : w2.cell? ⟨pb, 1, none⟩ = some v := hst2.cell (b := pb) (i := 1) (List.mem_append_left _ List.mem_cons_self) rfl
    have g1 : w2.frozen? ⟨pb, 1, none⟩ = false := St.soft (b := pb) hst2 (List.mem_append_left _ List.mem_cons_self) 1
    have fin : Hid (PsIs B w0 (w2.setCell ⟨pb, 1, none⟩ v2) pb M false (fedL false L b) F) := by
      refine Lib.hid ⟨m, v2, pre, S2, ⟨hs2, ?_⟩, ?_, h1, fun e => absurd e (by decide), h3⟩
      · have := hst2.set0 (C := F ++ S2) 1 v2
        exact this
      · show _ ≤ (L ++ b).length
        rw [List.length_append]
        omega
    obtain ⟨a, cap, rfl, -, -, -⟩ := h.sl.form
    obtain ⟨a2, cap2, rfl, -, -, -⟩ := hs2.form
    clear h h1 h2 h3 hs2 hst2 few hi hz0 hz1 hz2 f1
    generalize (pre ++ L).length = q at *
    generalize (pre ++ (L ++ b)).length = q2 at *
    go_enter Try.func17, Try.ntmps17
    go_wp2_with (at_builtin; refine wpList_append_go rfl (.tmp 13) (.tmp 14) 45 9 rfl _ _ rfl rfl hr ?_)
    exact bodyPost_end (results_none rfl _ _ _) rfl ⟨rfl, fin.out⟩

set_option maxHeartbeats 400000 in
theorem left_at (h : PsAt B w0 w pb m v pre L bad F S) (few : pre.length ≤ 8000000) (hL : L.length ≤ 4000000) : Calls Try.prog 21 #[fpt pb] w fun e w' => e = .returned (.int .i64 (L.length : Int)) ∧ ∃ n, w' = w.drewN n := by
  have c1 := h.c1
  have c2 := h.c2
  obtain ⟨a, cap, rfl, -, -, -⟩ := h.sl.form
  rw [List.length_append] at c1
  clear h
  go_enter Try.func21, Try.ntmps21
  go_wp2_with fail
  go_quiet (fail)
  go_wp2_with fail
  go_ret
  exact ⟨ret_int (by omega), _, rfl⟩

/-- Behind slices.Clone of bytes. -/
def CloneR (B : Nat) (w0 : World) (A : List (Nat × Obj)) (n : Nat) (xs : List UInt8) (e : Ending) (w' : World) : Prop :=
  ∃ v' F', e = .returned v' ∧ SlIs 5 1 v' n (Lib.byteCells xs) F' ∧ St B w0 w' (A ++ F')

set_option maxHeartbeats 1000000 in
theorem cloneB_any {s : Value} (hs : SlIs 5 1 s n (Lib.byteCells xs) S) (hst : St B w0 w (A ++ S)) (hn : n ≤ 4000000) :
    Calls Try.prog 35 #[s] w (CloneR B w0 A n xs) := by
  obtain ⟨i0, hi0, hz0, hz1, hz2⟩ := info_parts infU8B
  have hst1 := hst.alloc (.cells #[] 5)
  have hst2 : St B w0 (w.alloc (.cells #[] 5)) ((A ++ S) ++ [(w.heap.size, .cells #[] 5)]) := hst1.perm (List.perm_append_singleton _ _).symm
  have hrd := hs.reads (A := (w.heap.size, .cells #[] 5) :: A) hst1
  have hemp : SlIs 5 1 (.slice (some ⟨w.heap.size, 0, none⟩) 0 0) 0 [] [(w.heap.size, .cells #[] 5)] := SlIs.made rfl (by unfold maxLen; omega)
  obtain ⟨v2, W2, F2, hr2, hs2, hst3⟩ := run_append_sl (P := Try.prog) 45 0 5 i0 _ 1 1 uBytes6 hi0 hz0 hz1 hz2 rfl hemp hst2 hrd (byteCells_one _) (by unfold maxLen; omega) (by omega)
  rw [Nat.zero_add, List.nil_append] at hs2
  have fin : CloneR B w0 A n xs (.returned v2) W2 := ⟨v2, F2, rfl, hs2, hst3.sub (by rw [List.append_assoc]; exact (List.Sublist.refl A).append (List.sublist_append_right _ _))⟩
  have fin0 : s = .slice none 0 0 → CloneR B w0 A n xs (.returned (.slice none 0 0)) w := fun e => by
    subst e
    obtain ⟨a, cap, e, -, -, -⟩ := hs.form
    cases e
    have hx : Lib.byteCells xs = [] := List.eq_nil_of_length_eq_zero (by have := hs.len; omega)
    exact ⟨_, [], rfl, by rw [hx]; exact SlIs.nil, hst.sub (by simp)⟩
  obtain ⟨a, cap, rfl, hc1, hc2, ha⟩ := hs.form
  replace fin := Lib.hid fin
  replace fin0 := Lib.hid fin0
  have hq := fun w => Lib.run_eql_slice_nil (P := Try.prog) w 45 5 a n cap 0 0 uBytes6
  have hnil : a = none → (Value.slice a n cap) = .slice none 0 0 := fun e => by
    subst e
    obtain ⟨_, ⟨h, _⟩ | ⟨_, _, _, _, h, _⟩⟩ := hs
    · exact h
    · cases h
  replace hnil := Lib.hid hnil
  clear hs hst hst1 hst2 hrd hemp hs2 hst3 hz0 hz1 hz2 hi0 hc1 hc2 ha
  cases a with
  | none =>
    have h := hnil.out rfl
    simp only [Value.slice.injEq, true_and] at h
    obtain ⟨rfl, rfl⟩ := h
    clear hnil fin hr2
    go_enter Try.func35, Try.ntmps35
    go_wp2_with fail
    go_ret
    exact fin0.out trivial
  | some ad =>
    clear hnil fin0
    go_enter Try.func35, Try.ntmps35
    go_wp2_with (at_builtin; refine wpList_append_go rfl (.tmp 5) (.tmp 6) 45 45 rfl _ _ rfl rfl hr2 ?_)
    go_ret
    exact fin.out

theorem PsAt.told {n : Nat} (h : PsAt B w0 w pb m v pre L bad F S) (hn : n ≤ L.length) : PsAt B w0 (w.setCell ⟨pb, 2, none⟩ (.int .i64 ((pre.length : Int) + n))) pb m v (pre ++ L.take n) (L.drop n) bad F S := by
  have e : (pre ++ L.take n) ++ L.drop n = pre ++ L := by rw [List.append_assoc, List.take_append_drop]
  have e2 : (((pre ++ L.take n).length : Nat) : Int) = (pre.length : Int) + n := by rw [List.length_append, List.length_take]; omega
  refine ⟨by rw [e]; exact h.sl, ?_⟩
  have := h.st.set0 (C := F ++ S) 2 (.int .i64 ((pre.length : Int) + n))
  unfold parO
  rw [e2]
  exact this

/-- Behind tell. -/
def TellR (B : Nat) (w0 : World) (pb : Nat) (m : Int) (L : List UInt8) (bad : Bool) (F : List (Nat × Obj)) (e : Ending) (w' : World) : Prop :=
  e = .returned (.tuple #[]) ∧ ∃ v' pre' S', PsAt B w0 w' pb m v' pre' L bad F S' ∧ pre'.length ≤ L.length

set_option maxHeartbeats 1000000 in
theorem tell_any {n : Nat} (h : PsAt B w0 w pb m v pre L bad F S) (hp : pre.length ≤ 4000000) (hn : n ≤ L.length) (hL : L.length ≤ 4000000) :
    Calls Try.prog 30 #[fpt pb, .int .i64 n] w (TellR B w0 pb m (L.drop n) bad F) := by
  have c2 := h.c2
  have f2 := h.soft 2
  have h1 := h.told hn
  have hl2 : (L.drop n).length = L.length - n := List.length_drop
  have hl3 : (pre ++ L.take n).length = pre.length + n := by rw [List.length_append, List.length_take]; omega
  have cl := Lib.hid (fun q => left_at (h1.drewN q) (by omega) (by omega))
  have hsum : IntKind.i64.wrap ((pre.length : Int) + n) = (pre.length : Int) + n := by rw [IntKind.wrap_i64]; omega
  have d1 := h1.c1
  have d2 := h1.c2
  rw [hl3] at d2
  have ce : ((pre.length + n : Nat) : Int) = (pre.length : Int) + n := by omega
  have hq0 : (0 : Int) ≤ (pre.length : Int) + n := by omega
  rw [ce] at d2
  rw [hl2] at cl
  have hpl : (pre ++ L.take n ++ L.drop n).length = pre.length + L.length := by rw [List.append_assoc, List.take_append_drop, List.length_append]
  obtain ⟨a, cap, rfl, -, -, -⟩ := h1.sl.form
  rw [hpl] at d1
  by_cases hle : ((L.length - n : Nat) : Int) ≤ (pre.length : Int) + n
  · obtain ⟨i0, hi0, hz0, hz1, hz2⟩ := info_parts infU8B
    obtain ⟨v', hv', -, hrun, -⟩ := run_piece (P := Try.prog) uBytes6 hi0 hz1 h1.sl (pre.length + n) (pre.length + L.length) (by omega) (by omega)
    have hrun := hrun hpl.symm
    have hx : ((Lib.byteCells (pre ++ L.take n ++ L.drop n)).drop ((pre.length + n) * 1)).take ((pre.length + L.length - (pre.length + n)) * 1) = Lib.byteCells (L.drop n) := by
      rw [byteCells_drop, byteCells_take, Nat.mul_one, Nat.mul_one, ← hl3, List.drop_left, List.take_of_length_le (by omega)]
    rw [hx] at hv'
    rw [hpl, ce] at hrun
    have cc := Lib.hid (fun q => cloneB_any hv' (h1.st.drewN q) (by omega))
    obtain ⟨a', cap', rfl, -, -, -⟩ := hv'.form
    have fin : Hid (∀ w3 e, CloneR B w0 ((pb, parO m (.slice a (pre ++ L.take n ++ L.drop n).length cap) (pre ++ L.take n).length bad) :: F) (pre.length + L.length - (pre.length + n)) (L.drop n) e w3 →
        ∃ a3 c3, e = .returned (.slice a3 (pre.length + L.length - (pre.length + n)) c3) ∧ (w3.cell? ⟨pb, 1, none⟩ = some (.slice a (pre.length + L.length) cap) ∧ w3.frozen? ⟨pb, 1, none⟩ = false ∧ w3.frozen? ⟨pb, 2, none⟩ = false ∧ w3.cell? ⟨pb, 2, none⟩ = some (.int .i64 ((pre.length : Int) + n))) ∧
          TellR B w0 pb m (L.drop n) bad F (.returned (.tuple #[])) (((w3.setCell ⟨pb, 1, none⟩ (.slice a3 (pre.length + L.length - (pre.length + n)) c3)).setCell ⟨pb, 2, none⟩ (.int .i64 0)))) := by
      refine Lib.hid ?_
      rintro w3 e ⟨v3, F3, rfl, hs3, hst3⟩
      obtain ⟨a3, c3, rfl, -, -, -⟩ := hs3.form
      refine ⟨a3, c3, rfl, ⟨?_, ?_, ?_, ?_⟩, rfl, .slice a3 (pre.length + L.length - (pre.length + n)) c3, [], F3, ⟨?_, ?_⟩, Nat.zero_le _⟩
      · have t := hst3.cell (b := pb) (i := 1) (v := .slice a (pre ++ L.take n ++ L.drop n).length cap) (List.mem_append_left _ List.mem_cons_self) rfl
        rw [hpl] at t
        exact t
      · exact St.soft (b := pb) hst3 (List.mem_append_left _ List.mem_cons_self) 1
      · exact St.soft (b := pb) hst3 (List.mem_append_left _ List.mem_cons_self) 2
      · have t := hst3.cell (b := pb) (i := 2) (v := .int .i64 ((pre ++ L.take n).length : Int)) (List.mem_append_left _ List.mem_cons_self) rfl
        rw [hl3, ce] at t
        exact t
      · rw [List.nil_append, show (L.drop n).length = pre.length + L.length - (pre.length + n) by omega]
        exact hs3
      · have := (hst3.set0 (C := F ++ F3) 1 (.slice a3 (pre.length + L.length - (pre.length + n)) c3)).set0 (C := F ++ F3) 2 (.int .i64 0)
        exact this
    have hle' : decide (((L.length - n : Nat) : Int) ≤ (pre.length : Int) + n) = true := by simpa using hle
    clear h h1 hle hi0 hz0 hz1 hz2 hx hv'
    go_enter Try.func30, Try.ntmps30
    go_wp2_with fail
    go_quiet ((go_at_call 21; with_reducible exact Calls.quiet_of (cl.out _)))
    go_wp2_with fail
    go_region_with ((go_at_call 35; refine (cc.out _).mono ?_; intro e w3 hr3; obtain ⟨a3, c3, rfl, ⟨k1, g1, g2, k2⟩, fin2⟩ := fin.out _ _ hr3; replace fin2 := Lib.hid fin2; clear hr3 fin))
    all_goals
      go_wp2_with fail
      exact bodyPost_end (results_none rfl _ _ _) rfl fin2.out
  · have fin : Hid (∀ q, TellR B w0 pb m (L.drop n) bad F (.returned (.tuple #[])) ((w.setCell ⟨pb, 2, none⟩ (.int .i64 ((pre.length : Int) + n))).drewN q)) := Lib.hid fun q => ⟨rfl, _, _, _, h1.drewN q, by omega⟩
    have hle' : decide (((L.length - n : Nat) : Int) ≤ (pre.length : Int) + n) = false := by simpa using hle
    clear h h1 hle
    go_enter Try.func30, Try.ntmps30
    go_wp2_with fail
    go_quiet ((go_at_call 21; with_reducible exact Calls.quiet_of (cl.out _)))
    go_wp2_with fail
    exact bodyPost_end (results_none rfl _ _ _) rfl (fin.out _)
end
end Go.Proofs.Ytjeejflmkdncpaa
