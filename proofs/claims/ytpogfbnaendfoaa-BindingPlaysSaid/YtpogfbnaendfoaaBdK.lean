/- What the laws know; BindingFull. -/
import Derived.Test.YtpogfbnaendfoaaBdG
import Derived.Deep.LoopGhost
namespace Go.Proofs.Ytpogfbnaendfoaa
open Go.RowKit
set_option linter.unusedVariables false

section
variable {B : Nat} {w0 w w' : World} {S F A X : List (Nat × Obj)} {T : TypeId} {tb : Nat} {v u : Value} {L M : List Bnd} {b : Bnd}

/-! ### contracts told by tables -/
theorem add_is {b1 b2 b3 : List UInt8} (h : TbIs 55 B w0 w tb L A) (hL : L.length ≤ 40) (hf : FitB (b1, b2, b3)) {ok : Bool} {n : Int} (e : addL L (b1, b2, b3) = (M, ok, n)) :
    Calls Try.prog 8 #[bpt tb, .agg #[tx b1, tx b2, tx b3]] w fun e w' => e = .returned (.tuple #[.bool ok, .int .i64 n]) ∧ TbIs 55 B w0 w' tb M A := by
  have := add_any h hL hf
  unfold AddR at this
  rw [e] at this
  exact this
theorem drop_is {b1 b2 b3 : List UInt8} (h : TbIs 55 B w0 w tb L A) (hL : L.length ≤ 10000) {ok : Bool} (e : L.filter (fun b => !(b == (b1, b2, b3))) = M) (e2 : decide (0 < (L.filter fun b => b == (b1, b2, b3)).length) = ok) :
    Calls Try.prog 10 #[bpt tb, .agg #[tx b1, tx b2, tx b3]] w fun e w' => e = .returned (.bool ok) ∧ TbIs 55 B w0 w' tb M A := by
  have := drop_any h hL (b1, b2, b3)
  rw [e, e2] at this
  exact this
theorem len_is (h : TbIs 55 B w0 w tb L A) : Calls Try.prog 21 #[bpt tb] w fun e w' => e = .returned (.int .i64 L.length) ∧ w' = w := by
  obtain ⟨v, ho, hv⟩ := h.one
  exact len_any ho hv
def OfT (w : World) (n : Nat) (e : Ending) (w' : World) : Prop := ∃ a cap, e = .returned (.slice a n cap) ∧ Below w.heap.size w w'
theorem of_is (h : TbIs 55 B w0 w tb L A) (hL : L.length ≤ 10000) (x : List UInt8) {l : List Bnd} (e : L.filter (fun b => b.1 == x) = l) : Calls Try.prog 19 #[bpt tb, tx x] w (OfT w l.length) := by
  obtain ⟨v, ho, hv⟩ := h.one
  subst e
  refine (of_any ho hv hL x).mono ?_
  rintro e w' ⟨u, rfl, ⟨a, cap, rfl, -⟩, hb⟩
  exact ⟨a, cap, rfl, hb⟩
def KeyT (T : TypeId) (B : Nat) (w0 : World) (tb : Nat) (L : List Bnd) (A : List (Nat × Obj)) (l : List (List UInt8)) (e : Ending) (w' : World) : Prop := ∃ u S, e = .returned u ∧ TssIs u l S ∧ TbIs T B w0 w' tb L (A ++ S)
theorem keyed_is (h : TbIs 55 B w0 w tb L A) (hL : L.length ≤ 10000) (hfit : ∀ b ∈ L, FitB b) (x y : List UInt8) {l : List (List UInt8)} (e : onceL [] ((L.filter fun b => b.1 == x && b.2.2 == y).map (·.2.1)) = l) :
    Calls Try.prog 20 #[bpt tb, tx x, tx y] w (KeyT 55 B w0 tb L A l) := by
  obtain ⟨v, ho, hv⟩ := h.one
  subst e
  refine (keyed_any ho hv hL hfit x y).mono ?_
  rintro e w' ⟨u, S, rfl, hs, hst⟩
  exact ⟨u, S, rfl, hs, h.more hst⟩
theorem dropQ_is (h : TbIs 55 B w0 w tb L A) (hL : L.length ≤ 10000) (hfit : ∀ b ∈ L, FitB b) (x : List UInt8) {l : List (List UInt8)} (e : onceL [] ((L.filter fun b => b.2.1 == x).map (·.1)) = l) (e2 : L.filter (fun b => !(b.2.1 == x)) = M) :
    Calls Try.prog 13 #[bpt tb, tx x] w (KeyT 55 B w0 tb M A l) := by
  subst e e2
  exact dropQ_any h hL hfit x

theorem TssIs.at_ {P Q : List (Nat × Obj)} {a : Option Addr} {n cap : Nat} {l : List (List UInt8)} (hs : TssIs (.slice a n cap) l S) (h : TbIs T B w0 w tb L (P ++ S ++ Q)) {i : Nat} {x : List UInt8} (hx : l[i]? = some x) :
    ∃ g off, a = some ⟨g, off, none⟩ ∧ w.cell? ⟨g, off + i, none⟩ = some (tx x) := by
  obtain ⟨X, hX, -⟩ := h.beside
  have h2 : St B w0 w ((X ++ P ++ Q) ++ S) := hX.perm (by
    simp only [List.append_assoc]
    exact List.Perm.append_left X (List.Perm.append_left P List.perm_append_comm))
  have hs' : SlIs _ _ _ _ _ _ := hs
  obtain ⟨a', cap', e, -, -, ha⟩ := hs'.form
  cases e
  obtain ⟨g, off, rfl⟩ := ha i (List.getElem?_eq_some_iff.1 hx).1
  exact ⟨g, off, rfl, hs'.cellAt h2 (by rw [List.getElem?_map, hx]; rfl)⟩

abbrev kb : Bnd := ([120], [113], [107])
theorem kb_fit : FitB kb := by unfold FitB; decide
set_option maxHeartbeats 4000000 in
set_option maxRecDepth 100000 in
theorem known11_true (w : World) : Calls Try.prog 6 #[] w fun e w' => e = .returned (.bool true) ∧ Below w.heap.size w w' := by
  have c1 := Lib.hid (new_any (St.start w))
  have hfit : ∀ b ∈ [kb], FitB b := fun b hb => by rw [List.mem_singleton] at hb; subst hb; exact kb_fit
  replace hfit := Lib.hid hfit
  go_enter Try.func6, Try.ntmps6
  go_wp2_with fail
  refine c1.out.mono ?_
  rintro e w1 ⟨rfl, h⟩
  have h1 := h.alloc (bO kb)
  obtain ⟨B, hB⟩ : ∃ B, w.heap.size = B := ⟨_, rfl⟩
  rw [hB] at h h1 ⊢
  replace hB := Lib.hid hB
  have b0 := h1.cell (k := w1.heap.size) (i := 0) List.mem_cons_self rfl
  have b1 := h1.cell (k := w1.heap.size) (i := 1) List.mem_cons_self rfl
  have b2 := h1.cell (k := w1.heap.size) (i := 2) List.mem_cons_self rfl
  have c2 := Lib.hid (add_is h1 (by decide) kb_fit (show addL [] kb = ([kb], true, 0) by decide))
  clear h h1 c1
  go_wp2_with fail
  refine c2.out.mono ?_
  rintro e w2 ⟨rfl, h⟩
  have d0 := h.cell (k := w1.heap.size) (i := 0) List.mem_cons_self rfl
  have d1 := h.cell (k := w1.heap.size) (i := 1) List.mem_cons_self rfl
  have d2 := h.cell (k := w1.heap.size) (i := 2) List.mem_cons_self rfl
  have c3 := Lib.hid (add_is h (by decide) kb_fit (show addL [kb] kb = ([kb], false, 0) by decide))
  clear h c2
  go_wp2_with fail
  refine c3.out.mono ?_
  rintro e w3 ⟨rfl, h⟩
  have c4 := Lib.hid (keyed_is h (by decide) hfit.out [120] [107] (l := [[113]]) (by decide))
  clear h c3
  go_wp2_with fail
  refine c4.out.mono ?_
  rintro e w4 ⟨u, S, rfl, hs, h⟩
  obtain ⟨a, cap, rfl⟩ := hs.form
  have c5 := Lib.hid (dropQ_is h (by decide) hfit.out [113] (l := [[120]]) (M := []) (by decide) (by decide))
  clear h c4
  go_wp2_with fail
  refine c5.out.mono ?_
  rintro e w5 ⟨u2, S2, rfl, hs2, h⟩
  obtain ⟨a2, cap2, rfl⟩ := hs2.form
  obtain ⟨g1, o1, rfl, e1⟩ := hs.at_ (i := 0) (x := [113]) h rfl
  obtain ⟨g2, o2, rfl, e2⟩ := TssIs.at_ (P := [(w1.heap.size, bO kb)] ++ S) (Q := []) (i := 0) (x := [120]) hs2 (by rw [List.append_nil]; exact h) rfl
  rw [Nat.add_zero] at e1 e2
  have f0 : w5.cell? ⟨w1.heap.size, 0, none⟩ = some (tx [120]) := h.cell (k := w1.heap.size) (i := 0) (c := #[tx [120], tx [113], tx [107]]) (U := 31) (by simp) rfl
  have f1 : w5.cell? ⟨w1.heap.size, 1, none⟩ = some (tx [113]) := h.cell (k := w1.heap.size) (i := 1) (c := #[tx [120], tx [113], tx [107]]) (U := 31) (by simp) rfl
  have f2 : w5.cell? ⟨w1.heap.size, 2, none⟩ = some (tx [107]) := h.cell (k := w1.heap.size) (i := 2) (c := #[tx [120], tx [113], tx [107]]) (U := 31) (by simp) rfl
  have c6 := Lib.hid (len_is h)
  have c7 := Lib.hid (drop_is (M := []) (ok := false) (b1 := [120]) (b2 := [113]) (b3 := [107]) h (by decide) (by decide) (by decide))
  clear h hs hs2 c5 b0 b1 b2 d0 d1 d2
  go_wp2_with fail
  refine c6.out.mono ?_
  rintro e w6 ⟨rfl, rfl⟩
  go_wp2_with fail
  refine c7.out.mono ?_
  rintro e w7 ⟨rfl, h⟩
  have c8 := Lib.hid (of_is h (by decide) [120] (l := []) (by decide))
  replace h := Lib.hid (⟨h.below, h.base⟩ : _ ∧ _)
  clear c6 c7
  go_wp2_with fail
  refine c8.out.mono ?_
  rintro e w8 ⟨a8, cap8, rfl, hb⟩
  replace hb := Lib.hid (h.out.1.trans (hb.mono h.out.2))
  clear h c8
  go_wp2_with fail
  go_ret
  exact ⟨rfl, by rw [hB.out]; exact hb.out⟩
end
end Go.Proofs.Ytpogfbnaendfoaa
