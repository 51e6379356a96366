/- append of a string's bytes to a slice of bytes that the call owns, wherever it begins. -/
import Derived.Test.YtaolpcmecfhgnaaSl
import Derived.Lib.AppendStr
import Derived.Lib.BufferWrite
namespace Go.Proofs.Ytaolpcmecfhgnaa
open Go.RowKit
set_option linter.unusedVariables false

section
variable {P : Program} {B : Nat} {w0 w : World} {A F : List (Nat × Obj)} {n : Nat} {v : Value} {xs : List Value}

theorem run_append_room_str_off (w : World) (t u ty e : TypeId) (i : TypeInfo) (ht : P.underlying t = some (.slice e)) (hu : P.underlying u = some .string) (hi : P.info? e = some i) (hs1 : i.size = 1)
    (g off sLen sCap : Nat) (cur : Array Value) (hg : w.heap[g]? = some (.cells cur e (0, 0))) (s : ByteArray) (hroom : sLen + s.size ≤ sCap) (hfit : off + sLen + s.size ≤ cur.size) :
    (Builtin.append_ #[t, u] ty #[.slice (some ⟨g, off, none⟩) sLen sCap, .string s]).run P w =
      .ok (.slice (some ⟨g, off, none⟩) (sLen + s.size) sCap) (w.setRow g (cur.toList.take (off + sLen) ++ Lib.strCells s ++ cur.toList.drop (off + sLen + s.size)).toArray) := by
  have hf := Lib.run_firstCells_string (P := P) w 1 s
  have hst := run_storeCells_at P g (off + sLen) e (Lib.strCells s) 0 cur w hg (by simpa [Lib.strCells_length] using hfit) (Lib.strCells_oneCell s)
  simp only [Nat.add_zero, Lib.strCells_length] at hst
  simp [Builtin.append_, run_underlying ht, run_underlying hu, sizeOf, typeInfo, hi, hs1, Builtin.lenOf, hroom, hf, Go.WideShapes.add_plain, hst]

theorem run_append_sl_str (t u ty e : TypeId) (i : TypeInfo) (ht : P.underlying t = some (.slice e)) (hu : P.underlying u = some .string) (hi : P.info? e = some i) (hz : i.zero = some (.int .u8 0))
    (hsize : i.size = 1) (hby : i.bytes = 1) (hs : SlIs e 1 v n xs F) (hst : St B w0 w (A ++ F)) (s : ByteArray) (h63 : n + s.size ≤ maxLen) (hbytes : n + s.size ≤ 140737488355328) :
    ∃ v' w' F', (Builtin.append_ #[t, u] ty #[v, .string s]).run P w = .ok v' w' ∧ SlIs e 1 v' (n + s.size) (xs ++ Lib.strCells s) F' ∧ St B w0 w' (A ++ F') := by
  have hsmall : n + s.size ≤ 9223372036854775807 := by simp only [maxLen] at h63; omega
  have hxl : xs.length = n := by simpa using hs.1
  have hlen : (xs ++ Lib.strCells s).length = (n + s.size) * 1 := by rw [List.length_append, hxl, Lib.strCells_length, Nat.mul_one]
  have grown : ∀ (old : Nat) (A' : List (Nat × Obj)), St B w0 w A' → SlIs e 1 (.slice (some ⟨w.heap.size, 0, none⟩) (n + s.size) (grownCap w (n + s.size) old e)) (n + s.size) (xs ++ Lib.strCells s) [(w.heap.size, .cells (xs.toArray ++ (Lib.strCells s).toArray ++ Builtin.zeroCells (Value.int .u8 0).cells (grownCap w (n + s.size) old e - (n + s.size))) e (0, 0))] ∧
      St B w0 (w.drew.alloc (.cells (xs.toArray ++ (Lib.strCells s).toArray ++ Builtin.zeroCells (Value.int .u8 0).cells (grownCap w (n + s.size) old e - (n + s.size))) e)) (A' ++ [(w.heap.size, .cells (xs.toArray ++ (Lib.strCells s).toArray ++ Builtin.zeroCells (Value.int .u8 0).cells (grownCap w (n + s.size) old e - (n + s.size))) e (0, 0))]) := by
    intro old A' hA'
    have hge := grownCap_ge w (n + s.size) old e
    refine ⟨⟨hlen, .inr ⟨_, _, _, _, rfl, rfl, hge, grownCap_le_maxLen w (n + s.size) old e h63, ?_, ?_⟩⟩, hA'.fresh _⟩
    · have hz1 : (Value.int IntKind.u8 0).cells.size = 1 := rfl
      simp only [Array.size_append, List.size_toArray, size_zeroCells, hz1, hxl, Lib.strCells_length]
      omega
    · simp only [Array.toList_append, List.append_assoc, List.drop_zero]
      rw [← List.append_assoc, ← hlen]
      exact List.take_left
  obtain ⟨hl, ⟨rfl, rfl, rfl⟩ | ⟨g, off, cap, cur, rfl, rfl, h3, h4, h5, h6⟩⟩ := hs
  · have hx0 : xs = [] := List.eq_nil_of_length_eq_zero hxl
    subst hx0
    by_cases hm : s.size = 0
    · have hn : Lib.strCells s = [] := List.eq_nil_of_length_eq_zero (by rw [Lib.strCells_length]; exact hm)
      refine ⟨.slice none 0 0, w, [], ?_, by rw [hm, hn]; exact SlIs.nil, by simpa using hst⟩
      have hf := Lib.run_firstCells_string (P := P) w 1 s
      rw [hm] at hf
      simp [Builtin.append_, run_underlying ht, run_underlying hu, sizeOf, typeInfo, hi, hsize, Builtin.lenOf, hm, hf]
    · have hr := run_append_nil_string (P := P) w t u ty e i (.int .u8 0) ht hu hi hz s (by omega) (by omega) (by rw [hby]; omega)
      obtain ⟨e1, e2⟩ := grown 0 A (by simpa using hst)
      have e3 : (s.data.map fun b => Value.int .u8 b.toNat) = (Lib.strCells s).toArray := by
        apply Array.ext'
        simp [Lib.strCells]
      rw [e3] at hr
      simp only [Nat.zero_add, List.nil_append, Array.empty_append] at e1 e2 ⊢
      exact ⟨_, _, _, hr, e1, e2⟩
  · by_cases hroom : n + s.size ≤ cap
    · have hb := hst.get (b := g) (o := .cells cur e (0, 0)) (by simp)
      have hr := run_append_room_str_off (P := P) w t u ty e i ht hu hi hsize g off n cap cur hb s hroom (by omega)
      refine ⟨_, _, _, hr, ⟨hlen, .inr ⟨g, off, cap, _, rfl, rfl, hroom, h4, ?_, ?_⟩⟩, hst.setRow⟩
      · simp only [List.size_toArray, List.length_append, List.length_take, List.length_drop, Array.length_toList, Lib.strCells_length]
        omega
      · show List.take ((n + s.size) * 1) (List.drop off (cur.toList.take (off + n) ++ Lib.strCells s ++ cur.toList.drop (off + n + s.size))) = xs ++ Lib.strCells s
        rw [Nat.mul_one] at h6
        have h7 : cur.toList.take (off + n) = cur.toList.take off ++ xs := by rw [← h6, List.take_add]
        have h8 : (cur.toList.take off).length = off := by rw [List.length_take, Array.length_toList]; omega
        rw [h7, List.append_assoc, List.append_assoc, List.drop_left' h8, ← List.append_assoc, ← hlen]
        exact List.take_left
    · have holds : ∀ j u, xs[j]? = some u → w.cell? ((⟨g, off, none⟩ : Addr).add j) = some u := fun j u hj => by
        rw [Go.WideShapes.add_plain]
        exact SlIs.cellAt ⟨hl, .inr ⟨g, off, cap, cur, rfl, rfl, h3, h4, h5, h6⟩⟩ hst hj
      have hr := Lib.run_append_grow_string (P := P) w t u ty e i (.int .u8 0) ht hu hi hz ⟨g, off, none⟩ n cap xs (by rw [hsize]; simpa using hxl) holds s (by omega) (by omega) (by rw [hby]; exact growslice_fits (by omega) (by omega))
      obtain ⟨e1, e2⟩ := grown cap A (hst.sub (List.sublist_append_left _ _))
      exact ⟨_, _, _, hr, e1, e2⟩

theorem strCells_tx (l : List UInt8) : Lib.strCells ⟨l.toArray⟩ = Lib.byteCells l := by simp [Lib.strCells, Lib.byteCells]
theorem byteCells_append (a b : List UInt8) : Lib.byteCells (a ++ b) = Lib.byteCells a ++ Lib.byteCells b := by simp [Lib.byteCells]
theorem byteCells_length (a : List UInt8) : (Lib.byteCells a).length = a.length := by simp [Lib.byteCells]
theorem byteCells_drop (a : List UInt8) (k : Nat) : (Lib.byteCells a).drop k = Lib.byteCells (a.drop k) := by simp [Lib.byteCells, List.map_drop]
theorem byteCells_take (a : List UInt8) (k : Nat) : (Lib.byteCells a).take k = Lib.byteCells (a.take k) := by simp [Lib.byteCells, List.map_take]
theorem byteCells_one (a : List UInt8) : ∀ u ∈ Lib.byteCells a, u.oneCell' = true := by
  intro u hu
  simp only [Lib.byteCells, List.mem_map] at hu
  obtain ⟨b, _, rfl⟩ := hu
  rfl
theorem byteCells_at {a : List UInt8} {i : Nat} {c : UInt8} (h : a[i]? = some c) : (Lib.byteCells a)[i]? = some (.int .u8 c.toNat) := by simp [Lib.byteCells, h]
end
end Go.Proofs.Ytaolpcmecfhgnaa
