/- Words, the document's. -/
import Derived.Test.YtbfelfejelkdpaaPtC
import Derived.Deep.LoopGhost
namespace Go.Proofs.Ytbfelfejelkdpaa
open Go.RowKit
set_option linter.unusedVariables false
set_option maxRecDepth 100000

/-- On the way through the key: what stood between points so far, and from where on there was none. -/
def RWords (w : World) (l : List UInt8) (v : Value) (f i : Nat) (wr : World) : Prop :=
  ∃ (done : Wds) (S : List (Nat × Obj)), f ≤ i ∧ done ++ wordsL (l.drop f) = wordsL l ∧ 46 ∉ (l.drop f).take (i - f) ∧ TssIs v done S ∧ St w.heap.size w wr S
/-- The next words are told. -/
def RNext (w : World) (l : List UInt8) (v : Value) (t : List UInt8) (wr : World) (R : Value → World → Prop) : Prop :=
  ∃ (n : Nat) (a : Option Addr) (c : Nat), v = .slice a n c ∧ ∃ (a2 : Option Addr) (c2 : Nat) (W2 : World), (Builtin.append_ #[23, 23] 0 #[v, .slice (some ⟨wr.heap.size, 0, none⟩) 1 1]).run Try.prog (wr.alloc (.cells #[tx t] 9)) = .ok (.slice a2 (n + 1) c2) W2 ∧ R (.slice a2 (n + 1) c2) W2

theorem RWords.count {w wr : World} {l : List UInt8} {f : Nat} {done : Wds} (h : done ++ wordsL (l.drop f) = wordsL l) : done.length ≤ l.length := by
  have h1 := congrArg List.length h
  have h2 := words_pos (l.drop f)
  have h3 := words_len l
  rw [List.length_append] at h1
  omega
theorem RWords.dot {w wr : World} {l : List UInt8} {v : Value} {f i : Nat} (h : RWords w l v f i wr) (hl : l.length ≤ 1000000) (hi : l[i]? = some 46) :
    RNext w l v ((l.drop f).take (i - f)) wr fun v2 W2 => RWords w l v2 (i + 1) (i + 1) W2 := by
  obtain ⟨done, S, h1, h2, h3, h4, h5⟩ := h
  obtain ⟨a, c, rfl⟩ := h4.form
  have hd := RWords.count (w := w) (wr := wr) h2
  obtain ⟨a2, c2, W2, F2, r1, r2, r3⟩ := h4.append (X := []) h5 ((l.drop f).take (i - f)) (by omega)
  refine ⟨_, a, c, rfl, a2, c2, W2, r1, _, F2, Nat.le_refl _, ?_, by simp, r2, r3⟩
  rw [List.append_assoc, List.singleton_append, ← words_step rfl h1 h3 hi, h2]
theorem RWords.step {w wr : World} {l : List UInt8} {v : Value} {f i : Nat} (h : RWords w l v f i wr) {c : UInt8} (hi : l[i]? = some c) (hc : c ≠ 46) : RWords w l v f (i + 1) wr := by
  obtain ⟨done, S, h1, h2, h3, h4, h5⟩ := h
  refine ⟨done, S, by omega, h2, ?_, h4, h5⟩
  rw [show i + 1 - f = (i - f) + 1 by omega, List.take_add_one, List.getElem?_drop, show f + (i - f) = i by omega, hi]
  simp only [Option.toList_some, List.mem_append, List.mem_singleton, not_or]
  exact ⟨h3, fun e => hc e.symm⟩
theorem RWords.last {w wr : World} {l : List UInt8} {v : Value} {f : Nat} (h : RWords w l v f l.length wr) (hl : l.length ≤ 1000000) :
    RNext w l v (l.drop f) wr fun v2 W2 => ReadTs W2 v2 (wordsL l) ∧ Below w.heap.size w W2 := by
  obtain ⟨done, S, h1, h2, h3, h4, h5⟩ := h
  obtain ⟨a, c, rfl⟩ := h4.form
  have hd := RWords.count (w := w) (wr := wr) h2
  rw [List.take_of_length_le (by rw [List.length_drop]; omega)] at h3
  obtain ⟨a2, c2, W2, F2, r1, r2, r3⟩ := h4.append (X := []) h5 (l.drop f) (by omega)
  refine ⟨_, a, c, rfl, a2, c2, W2, r1, ?_, r3.below⟩
  rw [words_none h3] at h2
  rw [← h2]
  refine r2.read (X := []) r3 ?_
  rw [h2]
  intro x hx
  have := words_short l x hx
  unfold maxLen
  omega

set_option maxHeartbeats 1000000 in
theorem rwords_to {l : List UInt8} (hl : l.length ≤ 1000000) (w : World) :
    Calls Try.prog 36 #[tx l] w fun e w' => ∃ v, e = .returned v ∧ ReadTs w' v (wordsL l) ∧ Below w.heap.size w w' := by
  have h0 : RWords w l (.slice none 0 0) 0 0 w := ⟨[], [], Nat.le_refl _, rfl, by simp, TssIs.nil, St.start w⟩
  replace h0 := Lib.hid h0
  go_enter Try.func36, Try.ntmps36
  go_wp2_with fail
  go_loopg [3, 4, 5] l.length (fun g v3 v4 v5 wr => ∃ f i : Nat, v4 = .int .i64 f ∧ v5 = .int .i64 i ∧ i + g = l.length ∧ f ≤ i ∧ Hid (RWords w l v3 f i wr))
  case atStart => exact ⟨0, 0, rfl, rfl, by omega, Nat.le_refl _, h0⟩
  case round =>
    clear h0
    obtain ⟨f, i, rfl, rfl, hi, hf, hrel⟩ := hrel
    have hf0 : (0 : Int) ≤ f := by omega
    have hfi : (f : Int) ≤ i := by omega
    have hi0 : (0 : Int) ≤ i := by omega
    by_cases hlt : i < l.length
    · have hi1 : (i : Int) < l.length := by omega
      have hx : l[i]? = some l[i] := List.getElem?_eq_getElem hlt
      by_cases hc : l[i] = 46
      · have hrd := hrel.out.dot hl (by rw [hx, hc])
        obtain ⟨n, a, c, rfl, a2, c2, W2, hrun, hR⟩ := hrd
        replace hR := Lib.hid hR
        have hcN : (((((⟨l.toArray⟩ : ByteArray)[i]'(show i < l.length from hlt)).toNat : Nat) : Int) == 46) = true := by
          show (((l[i].toNat : Nat) : Int) == 46) = true
          rw [hc]
          rfl
        have hil : (i : Int) ≤ l.length := by omega
        have ex : (⟨l.toArray⟩ : ByteArray).extract f i = ⟨((l.drop f).take (i - f)).toArray⟩ := by
          rw [ByteArray.extract_mk]
        clear hrel hx hc
        go_wp2_with (at_builtin; refine wpList_append_go rfl (.tmp 16) (.tmp 21) 23 23 rfl _ _ rfl rfl hrun ?_)
        go_roundg (l.length - (i + 1))
        case measure => omega
        case rel => exact ⟨i + 1, i + 1, by go_num, by go_num, by omega, Nat.le_refl _, hR⟩
      · have hR := Lib.hid (hrel.out.step hx hc)
        have hcN : (((((⟨l.toArray⟩ : ByteArray)[i]'(show i < l.length from hlt)).toNat : Nat) : Int) == 46) = false := by
          show (((l[i].toNat : Nat) : Int) == 46) = false
          rw [beq_eq_false_iff_ne]
          intro e
          exact hc (UInt8.toNat_inj.1 (show l[i].toNat = (46 : UInt8).toNat by have : (46 : UInt8).toNat = 46 := rfl; omega))
        clear hrel hx hc
        go_wp2_with fail
        go_roundg (l.length - (i + 1))
        case measure => omega
        case rel => exact ⟨f, i + 1, rfl, by go_num, by omega, by omega, hR⟩
    · obtain rfl : i = l.length := by omega
      obtain ⟨n, a, c, rfl, a2, c2, W2, hrun, hR⟩ := hrel.out.last hl
      replace hR := Lib.hid hR
      have ex : (⟨l.toArray⟩ : ByteArray).extract f l.length = ⟨(l.drop f).toArray⟩ := by
        rw [ByteArray.extract_mk, List.take_of_length_le (by rw [List.length_drop]; omega)]
      clear hrel
      go_wp2_with (at_builtin; refine wpList_append_go rfl (.tmp 25) (.tmp 29) 23 23 rfl _ _ rfl rfl hrun ?_)
      go_ret
      exact ⟨_, rfl, hR.out.1, hR.out.2⟩
end Go.Proofs.Ytbfelfejelkdpaa
