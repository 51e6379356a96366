/- strings.Cut at a point. -/
import Derived.Test.YtpplpcpdoghifaaPtA
import Derived.Test.YtpplpcpdoghifaaTxP
import Derived.Lib.Strings
import Derived.Lib.Slices
import Derived.Lib.Walk
namespace Go.Proofs.Ytpplpcpdoghifaa
open Go.RowKit
set_option linter.unusedVariables false

set_option maxHeartbeats 1000000 in
theorem indexbyte_to (s : ByteArray) (c : Int) (w : World) :
    Calls Try.prog 22 #[.string s, .int .u8 c] w fun e w' => e = .returned (.int .i64 (Lib.indexByte s.data.toList c.toNat.toUInt8)) ∧ w' = w := by
  go_enter Try.func22, Try.ntmps22
  go_wp2
  rw [run_callFunc_extern Try.func26 (by kernel_rfl) (by kernel_rfl) (by kernel_rfl) (e := Extern.BytealgIndexByte.indexByte) (by kernel_rfl), Lib.run_indexByteString]
  simp only [Result.andThen]
  rw [Oper.upon_value]
  go_wp2
  go_ret
  exact ⟨rfl, rfl⟩

set_option maxHeartbeats 2000000 in
theorem index_to (s : ByteArray) (w : World) :
    Calls Try.prog 21 #[.string s, tx [46]] w fun e w' => e = .returned (.int .i64 (Lib.indexByte s.data.toList 46)) ∧ w' = w := by
  have c1 := Lib.hid (fun W => indexbyte_to s 46 W)
  go_enter Try.func21, Try.ntmps21
  go_wp2_with (go_at_call 22; refine (c1.out _).mono ?_; rintro e w' ⟨rfl, rfl⟩)
  · have h : ([46] == s.toList) = true := by assumption
    go_ret
    refine ⟨?_, rfl⟩
    have e : s.data.toList = [46] := by rw [← Lib.toList_data]; exact (beq_iff_eq.1 h).symm
    rw [e]
    simp [Lib.indexByte]
  · go_ret
    exact ⟨rfl, rfl⟩

set_option maxHeartbeats 1000000 in
theorem slicut_none {l : List UInt8} (h : 46 ∉ l) (w : World) : Calls Try.prog 20 #[tx l, tx [46]] w fun e w' => e = .returned (.tuple #[tx l, tx [], .bool false]) ∧ w' = w := by
  have c1 := index_to ⟨l.toArray⟩ w
  rw [show (⟨l.toArray⟩ : ByteArray).data.toList = l from rfl, index_none h] at c1
  replace c1 := Lib.hid c1
  clear h
  go_enter Try.func20, Try.ntmps20
  go_wp2_with fail
  refine c1.out.mono ?_
  rintro e w1 ⟨rfl, rfl⟩
  go_wp2_with fail
  go_ret3
  exact ⟨rfl, rfl⟩
set_option maxHeartbeats 1000000 in
theorem slicut_some {x r : List UInt8} (h : 46 ∉ x) (hl : (x ++ 46 :: r).length ≤ maxLen) (w : World) : Calls Try.prog 20 #[tx (x ++ 46 :: r), tx [46]] w fun e w' => e = .returned (.tuple #[tx x, tx r, .bool true]) ∧ Below w.heap.size w w' := by
  have c1 := index_to ⟨(x ++ 46 :: r).toArray⟩ w
  rw [show (⟨(x ++ 46 :: r).toArray⟩ : ByteArray).data.toList = x ++ 46 :: r from rfl, index_some h] at c1
  replace c1 := Lib.hid c1
  have hlen : (x ++ 46 :: r).length = x.length + 1 + r.length := by simp; omega
  have e1 : (⟨(x ++ 46 :: r).toArray⟩ : ByteArray).extract 0 x.length = ⟨x.toArray⟩ := by
    rw [ByteArray.extract_mk]
    simp
  have e2 : (⟨(x ++ 46 :: r).toArray⟩ : ByteArray).extract (x.length + 1) (x.length + 1 + r.length) = ⟨r.toArray⟩ := by
    rw [ByteArray.extract_mk]
    simp
  have h0 : (0 : Int) ≤ x.length := by omega
  unfold maxLen at hl
  have h1 : (x.length : Int) ≤ (x ++ 46 :: r).length := by omega
  have h2 : (x.length : Int) + 1 ≤ (x ++ 46 :: r).length := by omega
  generalize hL : x ++ 46 :: r = L at *
  generalize hn : x.length = n at *
  clear h hL
  go_enter Try.func20, Try.ntmps20
  go_wp2_with fail
  refine c1.out.mono ?_
  rintro e w1 ⟨rfl, rfl⟩
  go_wp2_with fail
  go_quiet (fail)
  go_wp2_with fail
  go_ret3
  exact ⟨rfl, drewN_below _ _⟩
theorem cut_none {l : List UInt8} (h : 46 ∉ l) (w : World) : Calls Try.prog 17 #[tx l, tx [46]] w fun e w' => e = .returned (.tuple #[tx l, tx [], .bool false]) ∧ Below w.heap.size w w' := by
  have c1 := Lib.hid (slicut_none h w)
  clear h
  go_enter Try.func17, Try.ntmps17
  go_wp2_with fail
  refine c1.out.mono ?_
  rintro e w1 ⟨rfl, rfl⟩
  go_wp2_with fail
  go_ret3
  exact ⟨rfl, Below.refl _ _⟩
theorem cut_some {x r : List UInt8} (h : 46 ∉ x) (hl : (x ++ 46 :: r).length ≤ maxLen) (w : World) : Calls Try.prog 17 #[tx (x ++ 46 :: r), tx [46]] w fun e w' => e = .returned (.tuple #[tx x, tx r, .bool true]) ∧ Below w.heap.size w w' := by
  have c1 := Lib.hid (slicut_some h hl w)
  clear h hl
  generalize x ++ 46 :: r = L at *
  go_enter Try.func17, Try.ntmps17
  go_wp2_with fail
  refine c1.out.mono ?_
  rintro e w1 ⟨rfl, hb⟩
  replace hb := Lib.hid hb
  go_wp2_with fail
  go_ret3
  exact ⟨rfl, hb.out⟩
end Go.Proofs.Ytpplpcpdoghifaa
