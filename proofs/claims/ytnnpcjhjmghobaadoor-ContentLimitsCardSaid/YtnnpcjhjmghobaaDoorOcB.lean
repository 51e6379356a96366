/- Octets: held, Num, Take. -/
import Derived.Test.YtnnpcjhjmghobaaDoorOcA
import Derived.Test.YtnnpcjhjmghobaaDoorProg
import Derived.Laws.BytesArg
import Derived.Laws.Concat
import Derived.Laws.DeepStrings4
import Derived.Lib.Hide
import Derived.Lib.UnsafeStr
import Derived.Deep.QuietTactic
import Derived.BigQuiet
namespace Go.Proofs.YtnnpcjhjmghobaaDoor
open Go.RowKit
set_option linter.unusedVariables false

theorem uStr6 : Tryd.prog.underlying 9 = some .string := by kernel_rfl
theorem uU86 : Tryd.prog.underlying 5 = some (.int .u8) := by kernel_rfl
theorem uBytes6 : Tryd.prog.underlying 28 = some (.slice 5) := by kernel_rfl

theorem run_conv_bytes {w : World} {b off n cap : Nat} {l : List UInt8} (hl : l.length = n) (hc : ∀ i c, l[i]? = some c → w.cell? ⟨b, off + i, none⟩ = some (.int .u8 c.toNat)) :
    (convert 28 9 (.slice (some ⟨b, off, none⟩) n cap)).run Tryd.prog w = .ok (tx l) w := by
  have h := run_convert_bytes_arg (P := Tryd.prog) w 28 5 uBytes6 uU86 b off n cap (l.map fun c => (c.toNat : Int)) (by rw [List.length_map, hl])
    (fun i hi => by
      have e : l[i]? = some l[i] := List.getElem?_eq_getElem (by omega)
      rw [hc i _ e]
      simp [List.getD_eq_getElem?_getD, e]) 9 uStr6
  rw [h]
  congr 2
  simp only [strOfNums, List.map_map]
  congr 2
  conv => rhs; rw [← List.map_id l]
  apply List.map_congr_left
  intro c _
  simp

theorem held_any (k : Int) (w : World) : Calls Tryd.prog 17 #[.int .i64 k] w fun e w' => e = .returned (.int .i64 (heldN k)) ∧ w = w' := by
  have e : (heldN k : Int) = min (max k 0) 7 := by unfold heldN; omega
  rw [e]
  replace e := Lib.hid e
  go_enter Tryd.func17, Tryd.ntmps17
  go_wp2
  all_goals
    go_ret
    exact ⟨ret_int (by omega), rfl⟩

/-- The array that a number's bytes are laid in. -/
def octObj (L : List UInt8) : Obj := .cells (Lib.byteCells L).toArray 42
theorem octObj_set (L : List UInt8) (i : Nat) (c : UInt8) : (.cells ((Lib.byteCells L).toArray.setIfInBounds i (.int .u8 c.toNat)) 42 : Obj) = octObj (L.set i c) := by
  unfold octObj Lib.byteCells
  rw [List.map_set, List.setIfInBounds_toArray]

/-- What holds at Num's label: so many bytes are still to be laid. -/
def NumAt (B : Nat) (w0 : World) (b : Nat) (n : Int) (k g : Nat) (a' : Act) (w' : World) : Prop :=
  ∃ (j : Nat) (L : List UInt8), g + j = k ∧ L.length = 7 ∧ (L.drop g).take j = low j n ∧ Fr 24 [(0, .int .i64 (n / 256 ^ j)), (5, .pointer (some ⟨b, 0, none⟩)), (6, .int .i64 k), (7, .int .i64 g)] a' ∧ St B w0 w' [(b, octObj L)]

set_option maxHeartbeats 1000000 in
theorem num_any (n k : Int) (w : World) : Calls Tryd.prog 13 #[.int .i64 n, .int .i64 k] w fun e w' => e = .returned (tx (low (heldN k) n)) ∧ Below w.heap.size w w' := by
  have c1 := Lib.hid (held_any k)
  have hk := heldN_le k
  generalize heldN k = q at *
  go_enter Tryd.func13, Tryd.ntmps13
  go_wp2_with fail
  refine wp_scope_ghost 0 (NumAt w.heap.size w w.heap.size n q) rfl ?_ ?_
  · rintro g a' w' ⟨j, L, hj, hL, hlow, hfr, hst⟩
    obtain ⟨f, rfl, hl'⟩ := hfr.lit
    clear hfr c1
    simp only [List.mem_cons, List.not_mem_nil, or_false, forall_eq_or_imp, forall_eq] at hl'
    obtain ⟨f0, f5, f6, f7⟩ := hl'
    simp only [List.range, List.range.loop, List.map, f0, f5, f6, f7]
    clear f0 f5 f6 f7
    have hb := hst.get (b := w.heap.size) (o := octObj L) List.mem_cons_self
    by_cases h0 : g = 0
    · subst h0
      obtain rfl : j = q := by omega
      rw [List.drop_zero] at hlow
      have hcv := run_conv_bytes (w := w') (b := w.heap.size) (off := 0) (n := j) (cap := 7) (l := L.take j) (by rw [List.length_take]; omega)
        (fun i c hi => by
          rw [Nat.zero_add]
          have hlt := (List.getElem?_eq_some_iff.1 hi).1
          rw [List.length_take] at hlt
          rw [List.getElem?_take, if_pos (by omega)] at hi
          simp [World.cell?, hb, octObj, Lib.byteCells, hi])
      rw [hlow] at hcv
      have hbel := Lib.hid hst.below
      have hsh : w'.shape? w.heap.size = some (42, 7) := by simp [World.shape?, hb, octObj, Lib.byteCells, hL]
      have hj0 : (0 : Int) ≤ j := by omega
      have hj7 : (j : Int) ≤ 7 := by omega
      clear hst hb hlow hL
      go_wp2_with fail
      simp only [Exit.jump]
      go_ret
      exact ⟨rfl, hbel.out⟩
    · obtain ⟨m, rfl⟩ : ∃ m, g = m + 1 := ⟨g - 1, by omega⟩
      have hm : m < L.length := by omega
      have hc : w'.cell? ⟨w.heap.size, m, none⟩ = some (.int .u8 L[m].toNat) := hst.cell (b := w.heap.size) (c := (Lib.byteCells L).toArray) (T := 42) (fr := (0, 0)) List.mem_cons_self (by simp [Lib.byteCells, hm])
      have hs := hst.soft (b := w.heap.size) (c := (Lib.byteCells L).toArray) (T := 42) List.mem_cons_self m
      have h5 := hst.set0 m (.int .u8 (oct (n / 256 ^ j)).toNat)
      rw [octObj_set, oct_nat] at h5
      replace hst := Lib.hid h5
      have hlow' : ((L.set m (oct (n / 256 ^ j))).drop m).take (j + 1) = low (j + 1) n := by
        have e : (L.set m (oct (n / 256 ^ j))).drop m = oct (n / 256 ^ j) :: L.drop (m + 1) := by
          rw [List.drop_eq_getElem_cons (by simpa using hm), List.getElem_set_self, List.drop_set_of_lt (by omega)]
        rw [e, List.take_succ_cons, hlow, low]
      replace hlow' := Lib.hid hlow'
      clear h5 hb hlow h0
      go_wp2_with fail
      refine wp_goto ?_
      refine ⟨rfl, m, by omega, j + 1, _, by omega, by simp [hL], hlow'.out, ⟨rfl, rfl, ?_⟩, hst.out⟩
      simp [div_pow]
  · intro H
    have hst := Lib.hid ((St.start w).alloc (octObj (List.replicate 7 0)))
    go_wp2_with fail
    refine (c1.out _).mono ?_
    rintro e w1 ⟨rfl, rfl⟩
    go_wp2_with fail
    refine wp_label ?_
    go_step
    go_step
    exact H q _ _ ⟨0, List.replicate 7 0, rfl, rfl, rfl, ⟨rfl, rfl, by simp⟩, hst.out⟩

/-- What holds at Take's label: so many bytes are read. -/
def TakeAt (w : World) (l : List UInt8) (q g : Nat) (a' : Act) (w' : World) : Prop :=
  ∃ i : Nat, i + g = q ∧ q ≤ l.length ∧ w = w' ∧ Fr 33 [(0, tx l), (7, .int .i64 (num (l.take i))), (8, .int .i64 i), (9, .int .i64 q)] a'

theorem or_byte {x : Int} {c : Nat} (h0 : 0 ≤ x) (h1 : x < 281474976710656) (hc : c < 256) : bits .or .i64 (x * 256) c = x * 256 + c :=
  bits_join .i64 63 (by decide) (fun n h0 h1 => by rw [IntKind.wrap_i64]; omega) 8 (x * 256) c (by omega) (by omega) (by omega) (by omega) (by omega) (by omega)

set_option maxHeartbeats 1000000 in
theorem take_to {l r : List UInt8} {k : Int} {m : Nat} {en : Int} (hx : takeL l k = (m, r, en)) (hl : l.length ≤ maxLen) (w : World) :
    Calls Tryd.prog 16 #[tx l, .int .i64 k] w fun e w' => e = .returned (.tuple #[.int .i64 m, tx r, .int .i64 en]) ∧ ∃ n, w' = w.drewN n := by
  have c1 := Lib.hid (held_any k)
  have hk := heldN_le k
  unfold takeL at hx
  generalize heldN k = q at *
  go_enter Tryd.func16, Tryd.ntmps16
  go_wp2_with fail
  refine wp_scope_ghost 0 (TakeAt w l q) rfl ?_ ?_
  · rintro g a' w' ⟨i, hi, hq, rfl, hfr⟩
    obtain ⟨f, rfl, hl'⟩ := hfr.lit
    clear hfr c1
    rw [if_neg (by omega)] at hx
    simp only [Prod.mk.injEq] at hx
    obtain ⟨rfl, rfl, rfl⟩ := hx
    simp only [List.mem_cons, List.not_mem_nil, or_false, forall_eq_or_imp, forall_eq] at hl'
    obtain ⟨f0, f7, f8, f9⟩ := hl'
    simp only [List.range, List.range.loop, List.map, f0, f7, f8, f9]
    clear f0 f7 f8 f9
    by_cases hlt : i < q
    · have hg : l[i]? = some l[i] := List.getElem?_eq_getElem (by omega)
      have hn := num_take hg
      have hb := num_le (l := l.take i) (by rw [List.length_take]; omega)
      have hb2 : num (l.take i) < 256 ^ 6 := Nat.lt_of_lt_of_le (num_lt _) (Nat.pow_le_pow_right (by decide) (by rw [List.length_take]; omega))
      have hu := u8_lt l[i]
      have hor := or_byte (x := (num (l.take i) : Int)) (c := l[i].toNat) (by omega) (by omega) hu
      have hi0 : (0 : Int) ≤ i := by omega
      have hi1 : (i : Int) < l.length := by omega
      have hi2 : (i : Int) < 7 := by omega
      have hne : (i : Int) ≠ q := by omega
      have hw : wrap64 ((l[i].toNat : Nat) : Int) = l[i].toNat := by
        unfold wrap64
        omega
      replace hn := Lib.hid hn
      replace hw := Lib.hid hw
      replace hor := Lib.hid hor
      go_wp2_with fail
      refine wp_goto ?_
      refine ⟨rfl, g - 1, by omega, i + 1, by omega, hq, rfl, ⟨rfl, rfl, ?_⟩⟩
      have e : bits BinOp.or IntKind.i64 ((num (List.take i l) : Int) * 256) (wrap64 ((⟨l.toArray⟩ : ByteArray)[i]'(by show i < l.length; omega)).toNat) = (num (l.take (i + 1)) : Nat) := by
        show bits BinOp.or IntKind.i64 ((num (List.take i l) : Int) * 256) (wrap64 (l[i].toNat : Nat)) = _
        rw [hw.out, hor.out, hn.out]
        simp
      simp [e]
    · obtain rfl : i = q := by omega
      have hi0 : (0 : Int) ≤ i := by omega
      have hi1 : (i : Int) ≤ l.length := by omega
      have ex : (⟨l.toArray⟩ : ByteArray).extract i l.length = ⟨(l.drop i).toArray⟩ := by
        rw [ByteArray.extract_mk, List.take_of_length_le (by rw [List.length_drop]; omega)]
      go_wp2_with fail
      go_quiet (fail)
      go_wp2_with fail
      simp only [Exit.jump]
      go_ret3
      exact ⟨rfl, _, rfl⟩
  · intro H
    by_cases hs : l.length < q
    · rw [if_pos hs] at hx
      simp only [Prod.mk.injEq] at hx
      obtain ⟨rfl, rfl, rfl⟩ := hx
      clear H
      go_wp2_with fail
      refine (c1.out _).mono ?_
      rintro e w1 ⟨rfl, rfl⟩
      go_wp2_with fail
      simp only [Exit.jump]
      go_ret3
      exact ⟨rfl, 0, rfl⟩
    · go_wp2_with fail
      refine (c1.out _).mono ?_
      rintro e w1 ⟨rfl, rfl⟩
      go_wp2_with fail
      refine wp_label ?_
      go_step
      go_step
      exact H q _ _ ⟨0, by omega, by omega, rfl, ⟨rfl, rfl, by simp [num]⟩⟩
end Go.Proofs.YtnnpcjhjmghobaaDoor
