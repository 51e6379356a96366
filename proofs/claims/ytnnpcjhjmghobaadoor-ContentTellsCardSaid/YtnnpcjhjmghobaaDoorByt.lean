/- A row of bytes made of a text: read back in whole and in part, one byte of it stored. -/
import Derived.Test.YtnnpcjhjmghobaaDoorOcV
import Derived.Laws.IdiomStrings
import Derived.OpenShut
namespace Go.Proofs.YtnnpcjhjmghobaaDoor
open Go.RowKit
set_option linter.unusedVariables false

theorem byte_xor (x : UInt8) {n : Int} (hn : (Lit.int .u8 n).wf = true) : ∃ y : UInt8, bits .xor .u8 (x.toNat : Int) n = (y.toNat : Int) := by
  obtain ⟨h1, h2⟩ := bounds_u8 (wf_bits .xor .u8 (x.toNat : Int) n)
  refine ⟨UInt8.ofNat (bits .xor .u8 (x.toNat : Int) n).toNat, ?_⟩
  rw [UInt8.toNat_ofNat']
  omega

/-- What is so of a row of bytes at b, whatever is new: it reads as L, whole and cut off. -/
structure BytAt (w0 w : World) (b n cap : Nat) (L : List UInt8) : Prop where
  st : ∃ C, St w0.heap.size w0 w [(b, .cells C 5 (C.size, C.size + 1))] ∧ n ≤ C.size ∧ ∀ (i : Nat) (c : UInt8), L[i]? = some c → C[i]? = some (.int .u8 c.toNat)
  len : L.length = n
  le : n ≤ cap
  top : cap ≤ maxLen
section
variable {w0 w w' : World} {b n cap : Nat} {L : List UInt8}
theorem BytAt.grow (h : BytAt w0 w b n cap L) (hb : Below w.heap.size w w') : BytAt w0 w' b n cap L := by
  obtain ⟨⟨C, hst, h1, h2⟩, h3, h4, h5⟩ := h
  exact ⟨⟨C, ⟨hst.below.trans (hb.mono hst.base), Nat.le_trans hst.base hb.size, hst.nodup, fun p hm => ⟨(hst.at_ p hm).1, (hb.block _ (St.lt (o := p.2) hst hm)).trans (hst.at_ p hm).2⟩⟩, h1, h2⟩, h3, h4, h5⟩
theorem BytAt.below (h : BytAt w0 w b n cap L) : Below w0.heap.size w0 w := by
  obtain ⟨⟨C, hst, _⟩, _⟩ := h
  exact hst.below
theorem BytAt.cell (h : BytAt w0 w b n cap L) {i : Nat} {c : UInt8} (hi : L[i]? = some c) : w.cell? ⟨b, i, none⟩ = some (.int .u8 c.toNat) := by
  obtain ⟨⟨C, hst, h1, h2⟩, _⟩ := h
  exact hst.cell (b := b) List.mem_cons_self (h2 i c hi)
theorem BytAt.soft (h : BytAt w0 w b n cap L) {i : Nat} (hi : i < n) : w.frozen? ⟨b, i, none⟩ = false := by
  obtain ⟨⟨C, hst, h1, h2⟩, _⟩ := h
  have := hst.get (b := b) List.mem_cons_self
  simp only [World.frozen?, this]
  simp
  omega
theorem BytAt.conv (h : BytAt w0 w b n cap L) {k : Nat} (hk : k ≤ n) (c' : Nat) : (convert 28 9 (.slice (some ⟨b, 0, none⟩) k c')).run Tryd.prog w = .ok (tx (L.take k)) w :=
  run_conv_bytes (by rw [List.length_take, h.len]; omega) fun i c hi => by
    have hlt := (List.getElem?_eq_some_iff.1 hi).1
    rw [List.length_take] at hlt
    rw [List.getElem?_take, if_pos (by omega)] at hi
    rw [Nat.zero_add]
    exact h.cell hi
theorem BytAt.whole (h : BytAt w0 w b n cap L) (c' : Nat) : (convert 28 9 (.slice (some ⟨b, 0, none⟩) n c')).run Tryd.prog w = .ok (tx L) w := by
  have := h.conv (Nat.le_refl n) c'
  rwa [List.take_of_length_le (by rw [h.len]; omega)] at this
theorem BytAt.set (h : BytAt w0 w b n cap L) {k : Nat} (hk : k < n) (y : UInt8) : BytAt w0 (w.setCell ⟨b, k, none⟩ (.int .u8 y.toNat)) b n cap (L.set k y) := by
  obtain ⟨⟨C, hst, h1, h2⟩, h3, h4, h5⟩ := h
  refine ⟨⟨C.setIfInBounds k (.int .u8 y.toNat), ?_, by simpa using h1, fun i c hi => ?_⟩, by rw [List.length_set, h3], h4, h5⟩
  · have := hst.set0 k (.int .u8 y.toNat)
    simpa using this
  · by_cases hik : i = k
    · subst hik
      rw [List.getElem?_set_self (by omega), Option.some.injEq] at hi
      subst hi
      rw [Array.getElem?_setIfInBounds_self_of_lt (by omega)]
    · rw [List.getElem?_set_ne (Ne.symm hik)] at hi
      rw [Array.getElem?_setIfInBounds_ne (Ne.symm hik)]
      exact h2 i c hi
end

/-- '[]byte(s)'. -/
theorem bytes_of (w : World) (L : List UInt8) (hl : L.length ≤ maxLen) : ∃ cap W, (convert 9 28 (tx L)).run Tryd.prog w = .ok (.slice (some ⟨w.heap.size, 0, none⟩) L.length cap) W ∧ BytAt w W w.heap.size L.length cap L := by
  have hrun := run_bytes_of_string (P := Tryd.prog) w 9 28 5 ⟨L.toArray⟩ uStr6 uBytes6 uU86
  have hsz : (⟨L.toArray⟩ : ByteArray).size = L.length := rfl
  rw [hsz] at hrun
  have hge : L.length ≤ grownCap w L.length 0 5 := grownCap_ge w L.length 0 5
  have htop : grownCap w L.length 0 5 ≤ maxLen := grownCap_le_maxLen w L.length 0 5 hl
  generalize grownCap w L.length 0 5 = cap at *
  have hrow : ∀ (i : Nat) (c : UInt8), L[i]? = some c → (bytesRow ⟨L.toArray⟩ cap)[i]? = some (.int .u8 c.toNat) := by
    intro i c hi
    have hlt := (List.getElem?_eq_some_iff.1 hi).1
    unfold bytesRow
    rw [Array.getElem?_append_left (by simpa using hlt), Array.getElem?_map]
    simp [hi]
  generalize hC : bytesRow ⟨L.toArray⟩ cap = C at *
  have hCs : L.length ≤ C.size := by rw [← hC]; simp [bytesRow]
  have hst0 := (St.start w).drew.alloc (.cells C 5 (C.size, C.size + 1))
  exact ⟨cap, _, hrun, ⟨C, hst0, hCs, hrow⟩, rfl, hge, htop⟩
end Go.Proofs.YtnnpcjhjmghobaaDoor
