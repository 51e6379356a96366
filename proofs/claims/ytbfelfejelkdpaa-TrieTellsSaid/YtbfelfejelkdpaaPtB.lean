/- strings.Cut at a point. -/
import Derived.Test.YtbfelfejelkdpaaPtA
import Derived.Test.YtbfelfejelkdpaaTxP
import Derived.Lib.Strings
import Derived.Lib.Slices
import Derived.Lib.Walk
namespace Go.Proofs.Ytbfelfejelkdpaa
open Go.RowKit
set_option linter.unusedVariables false
set_option maxRecDepth 100000

/-- Where the first point stands: the model's own entry. -/
theorem point_ext (l : List UInt8) (W : World) : (callFunc 65 #[tx l, .int .u8 46]).run Try.prog W = .ok (.value (.int .i64 (Lib.indexByte l 46))) W := by
  have h := run_callFunc_extern (P := Try.prog) Try.func65 (by kernel_rfl) (by kernel_rfl) (by kernel_rfl) (e := Extern.BytealgIndexByte.indexByte) (by kernel_rfl) #[tx l, .int .u8 46] W
  have k := Lib.run_indexByteString (P := Try.prog) ⟨l.toArray⟩ 46 W
  rw [show (Extern.BytealgIndexByte.indexByte #[tx l, .int .u8 46]).run Try.prog W = .ok (.int .i64 (Lib.indexByte l 46)) W from k] at h
  exact h

theorem point_byte (l : List UInt8) (w : World) : Calls Try.prog 60 #[tx l, .int .u8 46] w fun e w' => e = .returned (.int .i64 (Lib.indexByte l 46)) ∧ w' = w := by
  have h := point_ext l w
  generalize Lib.indexByte l 46 = z at *
  go_enter Try.func60, Try.ntmps60
  go_wp2_with fail
  go_ret
  exact ⟨rfl, rfl⟩

set_option maxRecDepth 100000 in
set_option maxHeartbeats 1000000 in
theorem point_at (l : List UInt8) (w : World) : Calls Try.prog 53 #[tx l, tx [46]] w fun e w' => e = .returned (.int .i64 (Lib.indexByte l 46)) ∧ w' = w := by
  by_cases h : l = [46]
  · subst h
    go_enter Try.func53, Try.ntmps53
    go_wp2_with fail
    go_ret
    exact ⟨rfl, rfl⟩
  · have hn : ([46] == l) = false := by
      rw [beq_eq_false_iff_ne]
      exact fun e => h e.symm
    have c := Lib.hid (point_byte l w)
    clear h
    generalize Lib.indexByte l 46 = z at *
    go_enter Try.func53, Try.ntmps53
    go_wp2_with fail
    refine c.out.mono ?_
    rintro e w1 ⟨rfl, rfl⟩
    go_wp2_with fail
    go_ret
    exact ⟨rfl, rfl⟩

set_option maxHeartbeats 1000000 in
theorem slicut_none {l : List UInt8} (h : 46 ∉ l) (w : World) : Calls Try.prog 40 #[tx l, tx [46]] w fun e w' => e = .returned (.tuple #[tx l, tx [], .bool false]) ∧ w' = w := by
  have c1 := point_at l w
  rw [index_none h] at c1
  replace c1 := Lib.hid c1
  clear h
  go_enter Try.func40, Try.ntmps40
  go_wp2_with fail
  refine c1.out.mono ?_
  rintro e w1 ⟨rfl, rfl⟩
  go_wp2_with fail
  go_ret3
  exact ⟨rfl, rfl⟩
set_option maxHeartbeats 1000000 in
theorem slicut_some {x r : List UInt8} (h : 46 ∉ x) (hl : (x ++ 46 :: r).length ≤ maxLen) (w : World) : Calls Try.prog 40 #[tx (x ++ 46 :: r), tx [46]] w fun e w' => e = .returned (.tuple #[tx x, tx r, .bool true]) ∧ Below w.heap.size w w' := by
  have c1 := point_at (x ++ 46 :: r) w
  rw [index_some h] at c1
  replace c1 := Lib.hid c1
  have hlen : (x ++ 46 :: r).length = x.length + 1 + r.length := by simp; omega
  have e1 : (⟨(x ++ 46 :: r).toArray⟩ : ByteArray).extract 0 x.length = ⟨x.toArray⟩ := by
    rw [ByteArray.extract_mk]
    simp
  have e2 : (⟨(x ++ 46 :: r).toArray⟩ : ByteArray).extract (x.length + 1) (x.length + 1 + r.length) = ⟨r.toArray⟩ := by
    rw [ByteArray.extract_mk]
    simp
  have h0 : (0 : Int) ≤ x.length := by omega
  unfold maxLen at hl
  have h1 : (x.length : Int) ≤ (x ++ 46 :: r).length := by omega
  have h2 : (x.length : Int) + 1 ≤ (x ++ 46 :: r).length := by omega
  generalize hL : x ++ 46 :: r = L at *
  generalize hn : x.length = n at *
  clear h hL
  go_enter Try.func40, Try.ntmps40
  go_wp2_with fail
  refine c1.out.mono ?_
  rintro e w1 ⟨rfl, rfl⟩
  go_wp2_with fail
  go_quiet (fail)
  go_wp2_with fail
  go_ret3
  exact ⟨rfl, drewN_below _ _⟩
theorem cut_none {l : List UInt8} (h : 46 ∉ l) (w : World) : Calls Try.prog 33 #[tx l, tx [46]] w fun e w' => e = .returned (.tuple #[tx l, tx [], .bool false]) ∧ Below w.heap.size w w' := by
  have c1 := Lib.hid (slicut_none h w)
  clear h
  go_enter Try.func33, Try.ntmps33
  go_wp2_with fail
  refine c1.out.mono ?_
  rintro e w1 ⟨rfl, rfl⟩
  go_wp2_with fail
  go_ret3
  exact ⟨rfl, Below.refl _ _⟩
theorem cut_some {x r : List UInt8} (h : 46 ∉ x) (hl : (x ++ 46 :: r).length ≤ maxLen) (w : World) : Calls Try.prog 33 #[tx (x ++ 46 :: r), tx [46]] w fun e w' => e = .returned (.tuple #[tx x, tx r, .bool true]) ∧ Below w.heap.size w w' := by
  have c1 := Lib.hid (slicut_some h hl w)
  clear h hl
  generalize x ++ 46 :: r = L at *
  go_enter Try.func33, Try.ntmps33
  go_wp2_with fail
  refine c1.out.mono ?_
  rintro e w1 ⟨rfl, hb⟩
  replace hb := Lib.hid hb
  go_wp2_with fail
  go_ret3
  exact ⟨rfl, hb.out⟩
end Go.Proofs.Ytbfelfejelkdpaa
