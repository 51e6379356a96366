/- The two slabs beside one another: the rows of the one are the bodies of the other. -/
import Derived.Test.YtpeedcghpdnogaaRefC
import Derived.Test.YtpeedcghpdnogaaSlabO
namespace Go.Proofs.Ytpeedcghpdnogaa
open Go.RowKit

/-- The rows that are still held, with their handles. -/
def alive : Nat → List (ByteArray × Int) → List (Int × Int × List UInt8)
  | _, [] => []
  | n, x :: L => (if x.2 = 0 then [] else [((n : Int) + 1, x.2, x.1.data.toList)]) ++ alive (n + 1) L

theorem alive_append : ∀ (n : Nat) (L M : List (ByteArray × Int)), alive n (L ++ M) = alive n L ++ alive (n + L.length) M
  | n, [], M => by simp [alive]
  | n, x :: L, M => by
    rw [List.cons_append, alive, alive_append (n + 1) L M, alive, List.append_assoc, List.length_cons, show n + 1 + L.length = n + (L.length + 1) by omega]

theorem alive_keys : ∀ {n : Nat} {L : List (ByteArray × Int)} {y : Int × Int × List UInt8}, y ∈ alive n L → (n : Int) + 1 ≤ y.1 ∧ y.1 ≤ (n : Int) + L.length ∧ ∃ x ∈ L, x.2 = y.2.1 ∧ x.2 ≠ 0
  | n, [], y, h => by simp [alive] at h
  | n, x :: L, y, h => by
    rw [alive] at h
    rw [List.length_cons]
    rcases List.mem_append.1 h with h | h
    · split at h
      · simp at h
      · rename_i h0
        obtain rfl := List.mem_singleton.1 h
        refine ⟨Int.le_refl _, ?_, x, List.mem_cons_self, rfl, h0⟩
        show (n : Int) + 1 ≤ _
        omega
    · obtain ⟨h1, h2, z, hz, h3⟩ := alive_keys h
      exact ⟨by omega, by omega, z, List.mem_cons_of_mem _ hz, h3⟩

theorem alive_len : ∀ (n : Nat) (L : List (ByteArray × Int)), (alive n L).length ≤ L.length
  | n, [] => by simp [alive]
  | n, x :: L => by
    have := alive_len (n + 1) L
    rw [alive, List.length_append, List.length_cons]
    split <;> simp <;> omega

theorem rows_split {L : List (ByteArray × Int)} {j : Nat} {x : ByteArray × Int} (h : L[j]? = some x) : ∃ L1 L2, L = L1 ++ x :: L2 ∧ L1.length = j := by
  obtain ⟨hj, rfl⟩ := List.getElem?_eq_some_iff.1 h
  exact ⟨L.take j, L.drop (j + 1), by rw [List.getElem_cons_drop, List.take_append_drop], by rw [List.length_take]; omega⟩

theorem set_split (L1 L2 : List (ByteArray × Int)) (x y : ByteArray × Int) : (L1 ++ x :: L2).set L1.length y = L1 ++ y :: L2 := by
  rw [List.set_append_right _ _ (Nat.le_refl _), Nat.sub_self]
  rfl

theorem alive_split (n : Nat) (L1 L2 : List (ByteArray × Int)) (x : ByteArray × Int) (hx : x.2 ≠ 0) : alive n (L1 ++ x :: L2) = alive n L1 ++ (((n + L1.length : Nat) : Int) + 1, x.2, x.1.data.toList) :: alive (n + L1.length + 1) L2 := by
  rw [alive_append, alive, if_neg hx]
  rfl
theorem alive_split0 (n : Nat) (L1 L2 : List (ByteArray × Int)) (x : ByteArray × Int) (hx : x.2 = 0) : alive n (L1 ++ x :: L2) = alive n L1 ++ alive (n + L1.length + 1) L2 := by
  rw [alive_append, alive, if_pos hx]
  rfl

theorem find_far {k : Int} {l : List (Int × Int × List UInt8)} (h : ∀ y ∈ l, y.1 ≠ k) : l.find? (·.1 == k) = none := by
  rw [List.find?_eq_none]
  intro y hy
  simpa using h y hy
theorem map_far {k c : Int} {l : List (Int × Int × List UInt8)} (h : ∀ y ∈ l, y.1 ≠ k) : (l.map fun x => if x.1 = k then (x.1, x.2.1 + c, x.2.2) else x) = l := by
  conv => rhs; rw [← List.map_id l]
  refine List.map_congr_left fun y hy => ?_
  rw [if_neg (h y hy)]
  rfl

theorem alive_none {L : List (ByteArray × Int)} {k : Int} (h : rcount L k = 0) : (alive 0 L).find? (·.1 == k) = none := by
  by_cases h1 : k < 1
  · exact find_far fun y hy => by have := alive_keys hy; omega
  · by_cases h2 : (L.length : Int) < k
    · exact find_far fun y hy => by have := alive_keys hy; omega
    · obtain ⟨j, rfl⟩ : ∃ j : Nat, k = (j : Int) + 1 := ⟨(k - 1).toNat, by omega⟩
      have hx : L[j]? = some L[j] := List.getElem?_eq_getElem (by omega)
      unfold rcount at h
      rw [if_neg h1, Int.add_sub_cancel, Int.toNat_natCast, hx] at h
      generalize L[j] = x at *
      obtain ⟨L1, L2, rfl, rfl⟩ := rows_split hx
      rw [alive_split0 0 L1 L2 x h]
      refine find_far fun y hy => ?_
      rcases List.mem_append.1 hy with hy | hy
      · have := alive_keys hy; omega
      · have := alive_keys hy; omega

theorem alive_some {L : List (ByteArray × Int)} {j : Nat} {x : ByteArray × Int} (hx : L[j]? = some x) (h : x.2 ≠ 0) : (alive 0 L).find? (·.1 == (j : Int) + 1) = some ((j : Int) + 1, x.2, x.1.data.toList) := by
  obtain ⟨L1, L2, rfl, rfl⟩ := rows_split hx
  rw [alive_split 0 L1 L2 x h, List.find?_append, find_far (fun y hy => by have := alive_keys hy; omega)]
  simp

theorem alive_turn {L : List (ByteArray × Int)} {j : Nat} {x : ByteArray × Int} {c : Int} (hx : L[j]? = some x) (h : x.2 ≠ 0) (hc : x.2 + c ≠ 0) :
    ((alive 0 L).map fun y => if y.1 = (j : Int) + 1 then (y.1, y.2.1 + c, y.2.2) else y) = alive 0 (L.set j (x.1, x.2 + c)) := by
  obtain ⟨L1, L2, rfl, rfl⟩ := rows_split hx
  rw [set_split, alive_split 0 L1 L2 x h, alive_split 0 L1 L2 (x.1, x.2 + c) hc, List.map_append, List.map_cons, map_far (fun y hy => by have := alive_keys hy; omega), map_far (fun y hy => by have := alive_keys hy; omega)]
  simp

theorem alive_gone {L : List (ByteArray × Int)} {j : Nat} {x : ByteArray × Int} (hx : L[j]? = some x) (h : x.2 ≠ 0) :
    ((alive 0 L).eraseP (·.1 == (j : Int) + 1)) = alive 0 (L.set j (x.1, 0)) := by
  obtain ⟨L1, L2, rfl, rfl⟩ := rows_split hx
  rw [set_split, alive_split 0 L1 L2 x h, alive_split0 0 L1 L2 (x.1, 0) rfl, List.eraseP_append_right _ (fun y hy => by have := alive_keys hy; simp; omega)]
  simp

def usedOf (L : List (ByteArray × Int)) : Int := ((alive 0 L).map fun x => cls x.2.2.length).sum
def liveOf (L : List (ByteArray × Int)) : Int := (alive 0 L).length
def viewOf (room : Int) (L : List (ByteArray × Int)) : SV := ⟨room - usedOf L, L.length, alive 0 L⟩

theorem alive_new (L : List (ByteArray × Int)) (s : ByteArray) : alive 0 (L ++ [(s, 1)]) = alive 0 L ++ [((L.length : Int) + 1, 1, s.data.toList)] := by
  rw [alive_append]
  simp [alive]
theorem used_new (L : List (ByteArray × Int)) (s : ByteArray) : usedOf (L ++ [(s, 1)]) = usedOf L + cls s.size := by
  unfold usedOf
  rw [alive_new]
  simp
theorem live_new (L : List (ByteArray × Int)) (s : ByteArray) : liveOf (L ++ [(s, 1)]) = liveOf L + 1 := by
  unfold liveOf
  rw [alive_new]
  simp
theorem used_stay {L : List (ByteArray × Int)} {j : Nat} {x : ByteArray × Int} {c : Int} (hx : L[j]? = some x) (h : x.2 ≠ 0) (hc : x.2 + c ≠ 0) : usedOf (L.set j (x.1, x.2 + c)) = usedOf L := by
  have := used_turn (viewOf 0 L) ((j : Int) + 1) c
  unfold SV.used SV.turn viewOf at this
  unfold usedOf
  rw [← alive_turn hx h hc]
  exact this
theorem live_stay {L : List (ByteArray × Int)} {j : Nat} {x : ByteArray × Int} {c : Int} (hx : L[j]? = some x) (h : x.2 ≠ 0) (hc : x.2 + c ≠ 0) : liveOf (L.set j (x.1, x.2 + c)) = liveOf L := by
  unfold liveOf
  rw [← alive_turn hx h hc, List.length_map]
theorem used_gone {L : List (ByteArray × Int)} {j : Nat} {x : ByteArray × Int} (hx : L[j]? = some x) (h : x.2 ≠ 0) : usedOf (L.set j (x.1, 0)) = usedOf L - cls x.1.size := by
  have := used_erase (alive_some hx h)
  unfold usedOf
  rw [← alive_gone hx h]
  simp only [Array.length_toList] at this
  have e : x.1.data.size = x.1.size := rfl
  rw [e] at this
  omega
theorem live_gone {L : List (ByteArray × Int)} {j : Nat} {x : ByteArray × Int} (hx : L[j]? = some x) (h : x.2 ≠ 0) : liveOf (L.set j (x.1, 0)) = liveOf L - 1 := by
  have hm := List.mem_of_find?_eq_some (alive_some hx h)
  have := List.length_pos_of_mem hm
  unfold liveOf
  rw [← alive_gone hx h, List.length_eraseP_of_mem hm (by simp)]
  omega
theorem used_ge (L : List (ByteArray × Int)) : 0 ≤ usedOf L := sum_cls_ge _
end Go.Proofs.Ytpeedcghpdnogaa
