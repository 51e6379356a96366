/- The known case with which each statement of layer 1 begins answers true, in whatever world, and turns nothing that was there. -/
import Derived.Test.YtpeedcghpdnogaaSlabV
import Derived.Laws.MakeOwn
namespace Go.Proofs.Ytpeedcghpdnogaa
open Go.RowKit

/-! ### string(make([]byte, k)) -/
def zbytes (n : Nat) : Obj := .cells (List.replicate n (Value.int .u8 0)).toArray 5
def zba (n : Nat) : ByteArray := ⟨(List.replicate n (0 : UInt8)).toArray⟩
theorem zba_list (n : Nat) : (zba n).data.toList = List.replicate n 0 := rfl
theorem zba_size (n : Nat) : (zba n).size = n := by
  show (List.replicate n (0 : UInt8)).toArray.size = n
  simp

theorem mk_bytes (w : World) (k : Int) (h0 : 0 ≤ k) (h1 : k ≤ 1000000) :
    (Instr.makeSlice 52 (.int .i64 k) (.int .i64 k)).run Try.prog w = .ok (.slice (some ⟨w.heap.size, 0, none⟩) k.toNat k.toNat) (w.alloc (zbytes k.toNat)) := by
  obtain ⟨i0, hi, hz0, hz1, hz2⟩ := info_parts infU8
  have h := run_make (P := Try.prog) w 52 5 i0 (.int .u8 0) uBytes hi hz0 .i64 .i64 k k h0 (Int.le_refl _) (by rw [hz2]; omega) (by omega)
  rw [h]
  congr 2
  unfold zbytes
  congr 1
  apply Array.toList_inj.1
  rw [hz1, Nat.mul_one, show (Value.int .u8 0).cells = #[Value.int .u8 0] from rfl, toList_madeCells_one]

theorem cv_bytes (w : World) (n : Nat) (hn : n ≤ maxLen) :
    (convert 52 9 (.slice (some ⟨w.heap.size, 0, none⟩) n n)).run Try.prog (w.alloc (zbytes n)) = .ok (.string (zba n)) (w.alloc (zbytes n)) := by
  have ho : (w.alloc (zbytes n)).ownsRow w.heap.size 5 1 (.slice (some ⟨w.heap.size, 0, none⟩) n n) n ((List.replicate n (0 : UInt8)).map u8v) := by
    refine ⟨by simp, .inr ⟨w.heap.size, n, _, rfl, Nat.le_refl _, (MapKept.heap_alloc w _).1, Nat.le_refl _, hn, by simp, ?_⟩⟩
    simp [u8v]
  have h := run_conv_row ho n (Nat.le_refl _)
  rw [h]
  simp [bstr, zba]

theorem class_to {n c : Int} (h : cls n = c) (w : World) : Calls Try.prog 24 #[.int .i64 n] w fun e w' => e = .returned (.int .i64 c) ∧ w = w' := h ▸ class_any n w

theorem SlabIs.below {B : Nat} {w0 w : World} {sb : Nat} {V : SV} {F : List (Nat × Obj)} (h : SlabIs B w0 w sb V F) : Below B w0 w := by
  obtain ⟨g, _, _, _, _, h⟩ := h
  exact h.below

def abc : List UInt8 := [97, 98, 99]
def V0 : SV := ⟨100, 0, []⟩
def V1 : SV := ⟨68, 1, [(1, 1, abc)]⟩
def V2 : SV := ⟨4, 2, [(1, 1, abc), (2, 1, List.replicate 33 0)]⟩
def V3 : SV := ⟨4, 2, [(1, 2, abc), (2, 1, List.replicate 33 0)]⟩
def V4 : SV := ⟨36, 2, [(2, 1, List.replicate 33 0)]⟩

theorem known_put1 : V0.put abc = ((1, 0), V1) := by decide +kernel
theorem known_put2 : V1.put (List.replicate 33 0) = ((2, 0), V2) := by decide +kernel
theorem known_put3 : V2.put [120] = ((0, 12), V2) := by decide +kernel
theorem known_hold : V2.hold 1 = (0, V3) := by decide +kernel
theorem known_drop1 : V3.drop 1 = ((false, 0), V2) := by decide +kernel
theorem known_drop2 : V2.drop 1 = ((true, 0), V4) := by decide +kernel
theorem known_get1 : V4.get 1 = ([], 13) := by decide +kernel
theorem known_get2 : V4.get 2 = (List.replicate 33 0, 0) := by decide +kernel

set_option maxRecDepth 100000 in
set_option maxHeartbeats 4000000 in
theorem known_true (w : World) : Calls Try.prog 8 #[] w fun e w' => e = .returned (.bool true) ∧ Below w.heap.size w w' := by
  have h0 := new_is (St.start w) 100
  have h0 := Lib.hid h0
  go_enter Try.func8, Try.ntmps8
  go_wp2_with fail
  refine h0.out.mono ?_
  rintro e w1 ⟨rfl, h1⟩
  have h1 : SlabIs w.heap.size w w1 w.heap.size V0 [] := h1
  have c1 := Lib.hid (put_to h1 ⟨#[97, 98, 99]⟩ (by decide) (by decide) known_put1)
  go_wp2_with fail
  refine c1.out.mono ?_
  rintro e w2 ⟨rfl, h2⟩
  have mk := mk_bytes w2 33 (by decide) (by decide)
  have cv := cv_bytes w2 33 (by decide)
  have c2 := Lib.hid (put_to (h2.alloc (zbytes 33)) (zba 33) (by decide) (by decide) known_put2)
  go_wp2_with fail
  refine c2.out.mono ?_
  rintro e w3 ⟨rfl, h3⟩
  have c3 := Lib.hid (put_to h3 ⟨#[120]⟩ (by decide) (by decide) known_put3)
  clear mk cv
  go_wp2_with fail
  refine c3.out.mono ?_
  rintro e w4 ⟨rfl, h4⟩
  have c4 := Lib.hid (hold_to h4 1 (by decide) known_hold)
  go_wp2_with fail
  refine c4.out.mono ?_
  rintro e w5 ⟨rfl, h5⟩
  have c5 := Lib.hid (drop_to h5 1 (by decide) known_drop1)
  go_wp2_with fail
  refine c5.out.mono ?_
  rintro e w6 ⟨rfl, h6⟩
  have c6 := Lib.hid (drop_to h6 1 (by decide) known_drop2)
  go_wp2_with fail
  refine c6.out.mono ?_
  rintro e w7 ⟨rfl, h7⟩
  have c7 := Lib.hid (get_to h7 1 known_get1)
  go_wp2_with fail
  refine c7.out.mono ?_
  rintro e w8 ⟨rfl, h8⟩
  have c8 : Hid (Calls Try.prog 20 #[ptr w.heap.size, .int .i64 2] w8 fun e w' => e = .returned (.tuple #[.string (zba 33), .int .i64 0]) ∧ SlabIs w.heap.size w w' w.heap.size V4 []) := get_to h8 2 known_get2
  have hz := zba_size 33
  go_wp2_with fail
  refine c8.out.mono ?_
  rintro e w9 ⟨rfl, h9⟩
  have c9 := Lib.hid (class_to (n := 33) (c := 64) (by decide))
  have c10 := Lib.hid (class_to (n := 0) (c := 0) (by decide))
  have c11 := Lib.hid (class_to (n := 257) (c := 0) (by decide))
  have c12 : Hid (Calls Try.prog 17 #[ptr w.heap.size] w9 fun e w' => e = .returned (.int .i64 36) ∧ w9 = w') := free_is h9
  have c13 : Hid (Calls Try.prog 19 #[ptr w.heap.size] w9 fun e w' => e = .returned (.int .i64 1) ∧ w9 = w') := live_is h9
  have c14 := Lib.hid (count_to h9 2 (c := 1) (by decide +kernel))
  have c15 := Lib.hid (count_to h9 1 (c := 0) (by decide +kernel))
  go_wp2_with fail
  refine (c9.out _).mono ?_
  rintro e w10 ⟨rfl, rfl⟩
  go_wp2_with fail
  refine (c10.out _).mono ?_
  rintro e w10 ⟨rfl, rfl⟩
  go_wp2_with fail
  refine (c11.out _).mono ?_
  rintro e w10 ⟨rfl, rfl⟩
  go_wp2_with fail
  refine c12.out.mono ?_
  rintro e w10 ⟨rfl, rfl⟩
  go_wp2_with fail
  refine c13.out.mono ?_
  rintro e w10 ⟨rfl, rfl⟩
  go_wp2_with fail
  refine c14.out.mono ?_
  rintro e w10 ⟨rfl, rfl⟩
  go_wp2_with fail
  refine c15.out.mono ?_
  rintro e w10 ⟨rfl, rfl⟩
  go_wp2_with fail
  go_ret
  exact ⟨rfl, h9.below⟩
end Go.Proofs.Ytpeedcghpdnogaa
