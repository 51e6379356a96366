/- A slice of texts that the call owns. -/
import Derived.Test.YtbfelfejelkdpaaTxts
import Derived.Test.YtbfelfejelkdpaaSl
namespace Go.Proofs.Ytbfelfejelkdpaa
open Go.RowKit
set_option linter.unusedVariables false
set_option maxRecDepth 100000

theorem uStrs0 : Try.prog.underlying 23 = some (.slice 9) := by kernel_rfl
theorem infStr0 : (Try.prog.info? 9).map (fun i => (i.zero, i.size, i.bytes)) = some (some (tx []), 1, 16) := by kernel_rfl

def TssIs (v : Value) (l : List (List UInt8)) (S : List (Nat × Obj)) : Prop := SlIs 9 1 v l.length (l.map tx) S
theorem TssIs.nil : TssIs (.slice none 0 0) [] [] := SlIs.nil
theorem TssIs.form {v : Value} {l : List (List UInt8)} {S : List (Nat × Obj)} (h : TssIs v l S) : ∃ a cap, v = .slice a l.length cap := by
  obtain ⟨a, cap, e, _⟩ := SlIs.form h
  exact ⟨a, cap, e⟩
section
variable {B : Nat} {w0 w : World} {S X : List (Nat × Obj)} {v : Value} {l : List (List UInt8)}
/-- The slice value reads as these texts in w, wherever it lies. -/
def ReadTs (w : World) (v : Value) (l : List (List UInt8)) : Prop := ∃ a cap, v = .slice a l.length cap ∧ TextsAt w a l.length l
theorem ReadTs.below {w w' : World} (h : ReadTs w v l) (hb : Below w.heap.size w w') : ReadTs w' v l := by
  obtain ⟨a, cap, e, h⟩ := h
  exact ⟨a, cap, e, h.below hb⟩
theorem TssIs.read (h : TssIs v l S) (hst : St B w0 w (X ++ S)) (hl : ∀ x ∈ l, x.length ≤ maxLen) : ReadTs w v l := by
  have h' : SlIs _ _ _ _ _ _ := h
  obtain ⟨a, cap, rfl, _, _, ha⟩ := h'.form
  refine ⟨a, cap, rfl, rfl, fun i x hx => ⟨hl x (List.mem_of_getElem? hx), ?_⟩⟩
  obtain ⟨g, off, rfl⟩ := ha i (List.getElem?_eq_some_iff.1 hx).1
  exact ⟨g, off, rfl, h'.cellAt hst (by rw [List.getElem?_map, hx]; rfl)⟩
theorem TssIs.append (hs : TssIs v l S) (hst : St B w0 w (X ++ S)) (t : List UInt8) (hl : l.length ≤ 1000000) :
    ∃ a cap W2 F2, (Builtin.append_ #[23, 23] 0 #[v, .slice (some ⟨w.heap.size, 0, none⟩) 1 1]).run Try.prog (w.alloc (.cells #[tx t] 9)) = .ok (.slice a (l.length + 1) cap) W2 ∧
      TssIs (.slice a (l.length + 1) cap) (l ++ [t]) F2 ∧ St B w0 W2 (X ++ F2) := by
  obtain ⟨i0, hi0, hz0, hz1, hz2⟩ := info_parts infStr0
  have hrd := Reads.one w (tx t) 9
  obtain ⟨v2, W2, F2, hr, hs2, hst2⟩ := run_append_sl (P := Try.prog) 23 0 9 i0 _ 1 16 uStrs0 hi0 hz0 hz1 hz2 rfl hs (A := (w.heap.size, .cells #[tx t] 9) :: X) (hst.alloc _) hrd
    (by intro u hu; rw [List.mem_singleton] at hu; subst hu; rfl) (by unfold maxLen; omega) (by omega)
  obtain ⟨a, cap, rfl, -⟩ := hs2.form
  refine ⟨a, cap, W2, F2, hr, ?_, hst2.sub (List.sublist_cons_self _ _)⟩
  unfold TssIs
  rw [List.length_append, List.length_singleton, List.map_append]
  exact hs2
end
end Go.Proofs.Ytbfelfejelkdpaa
