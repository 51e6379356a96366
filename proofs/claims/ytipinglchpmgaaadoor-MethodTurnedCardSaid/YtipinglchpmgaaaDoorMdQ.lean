/- MethodTurned: a byte of a row turned. -/
import Derived.Test.YtipinglchpmgaaaDoorMdO
import Derived.Laws.IdiomStrings
import Derived.OpenShut
namespace Go.Proofs.YtipinglchpmgaaaDoor
open Go.RowKit
set_option linter.unusedVariables false

/-- One method in memory, beside whatever is new. -/
abbrev MonoS (wb : World) (p : Nat) (v0 v1 v2 v3 : Value) (wr : World) : Prop :=
  (Below wb.heap.size wb wr ∧ p < wr.heap.size) ∧ wr.cell? ⟨p, 0, none⟩ = some v0 ∧ wr.cell? ⟨p, 1, none⟩ = some v1 ∧ wr.cell? ⟨p, 2, none⟩ = some v2 ∧ wr.cell? ⟨p, 3, none⟩ = some v3
theorem MonoS.step {wb : World} {p : Nat} {v0 v1 v2 v3 : Value} {wa wc : World} (h : MonoS wb p v0 v1 v2 v3 wa) (hk : Below wa.heap.size wa wc) : MonoS wb p v0 v1 v2 v3 wc := by
  obtain ⟨⟨hb, l1⟩, h0, h1, h2, h3⟩ := h
  exact ⟨⟨bel hb hk, Nat.lt_of_lt_of_le l1 hk.size⟩, (hk.cell l1).trans h0, (hk.cell l1).trans h1, (hk.cell l1).trans h2, (hk.cell l1).trans h3⟩

/-- The byte that comes of two. -/
theorem turn_byte (x : UInt8) {n : Int} (hn : (Lit.int .u8 n).wf = true) : ∃ y : UInt8, bits .xor .u8 (x.toNat : Int) n = (y.toNat : Int) := by
  obtain ⟨h1, h2⟩ := bounds_u8 (wf_bits .xor .u8 (x.toNat : Int) n)
  refine ⟨UInt8.ofNat (bits .xor .u8 (x.toNat : Int) n).toNat, ?_⟩
  rw [UInt8.toNat_ofNat']
  omega

/-- '[]byte(s)', a byte of it stored, read back as a text. -/
theorem bytes_turned (w : World) (L : List UInt8) : ∃ cap W, (convert 9 41 (tx L)).run Tryd.prog w = .ok (.slice (some ⟨w.heap.size, 0, none⟩) L.length cap) W ∧ Below w.heap.size w W ∧
    ∀ (k : Nat) (x y : UInt8), L[k]? = some x → W.cell? ⟨w.heap.size, k, none⟩ = some (.int .u8 x.toNat) ∧ W.frozen? ⟨w.heap.size, k, none⟩ = false ∧
      Below w.heap.size w (W.setCell ⟨w.heap.size, k, none⟩ (.int .u8 y.toNat)) ∧
      ∀ w', Below (W.setCell ⟨w.heap.size, k, none⟩ (.int .u8 y.toNat)).heap.size (W.setCell ⟨w.heap.size, k, none⟩ (.int .u8 y.toNat)) w' →
        (convert 41 9 (.slice (some ⟨w.heap.size, 0, none⟩) L.length cap)).run Tryd.prog w' = .ok (tx (L.set k y)) w' := by
  have hrun := run_bytes_of_string (P := Tryd.prog) w 9 41 5 ⟨L.toArray⟩ uStr6 uBytes6 uU86
  have hsz : (⟨L.toArray⟩ : ByteArray).size = L.length := rfl
  rw [hsz] at hrun
  have hge : L.length ≤ grownCap w L.length 0 5 := grownCap_ge w L.length 0 5
  generalize grownCap w L.length 0 5 = cap at *
  have hrow : ∀ (i : Nat) (c : UInt8), L[i]? = some c → (bytesRow ⟨L.toArray⟩ cap)[i]? = some (.int .u8 c.toNat) := by
    intro i c hi
    have hlt := (List.getElem?_eq_some_iff.1 hi).1
    unfold bytesRow
    rw [Array.getElem?_append_left (by simpa using hlt), Array.getElem?_map]
    simp [hi]
  generalize hC : bytesRow ⟨L.toArray⟩ cap = C at *
  have hCs : L.length ≤ C.size := by rw [← hC]; simp [bytesRow]
  have hst0 := (St.start w).drew.alloc (.cells C 5 (C.size, C.size + 1))
  have hst : St w.heap.size w (w.drew.alloc (.cells C 5 (C.size, C.size + 1))) [(w.heap.size, .cells C 5 (C.size, C.size + 1))] := hst0
  refine ⟨cap, _, hrun, hst.below, fun k x y hk => ?_⟩
  have hlt := (List.getElem?_eq_some_iff.1 hk).1
  have hset := hst.set0 k (.int .u8 y.toNat)
  refine ⟨hst.cell (b := w.heap.size) List.mem_cons_self (hrow k x hk), ?_, hset.below, fun w' hb => run_conv_bytes (by rw [List.length_set]) fun i c hi => ?_⟩
  · have := hst.get (b := w.heap.size) List.mem_cons_self
    simp only [World.frozen?, this]
    simp
    omega
  · have hl := hset.lt (b := w.heap.size) List.mem_cons_self
    refine (hb.cell (p := ⟨w.heap.size, 0 + i, none⟩) hl).trans ?_
    refine hset.cell (b := w.heap.size) List.mem_cons_self ?_
    rw [Nat.zero_add]
    by_cases hik : i = k
    · subst hik
      rw [List.getElem?_set_self hlt, Option.some.injEq] at hi
      subst hi
      rw [Array.getElem?_setIfInBounds_self_of_lt (by omega)]
    · rw [List.getElem?_set_ne (Ne.symm hik)] at hi
      rw [Array.getElem?_setIfInBounds_ne (Ne.symm hik)]
      exact hrow i c hi
end Go.Proofs.YtipinglchpmgaaaDoor
