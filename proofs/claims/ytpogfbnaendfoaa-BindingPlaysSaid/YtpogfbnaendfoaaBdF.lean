/- The table: what it tells, Of, Keyed, Len; the function values. -/
import Derived.Test.YtpogfbnaendfoaaBdE
namespace Go.Proofs.Ytpogfbnaendfoaa
open Go.RowKit
set_option linter.unusedVariables false

section
variable {B : Nat} {w0 w w' : World} {S F A X : List (Nat × Obj)} {T : TypeId} {tb : Nat} {v u : Value} {L : List Bnd} {b : Bnd}

/-- At tb there lies a table (the program's or the document's) with these rows; beside it is owned what A lists. -/
def TbIs (T : TypeId) (B : Nat) (w0 w : World) (tb : Nat) (L : List Bnd) (A : List (Nat × Obj)) : Prop :=
  ∃ v S, BnsIs v L S ∧ St B w0 w (A ++ (tb, .cells #[v] T) :: S)
theorem TbIs.one (h : TbIs T B w0 w tb L A) : ∃ v, OneAt T w tb v ∧ ReadBs w v L := by
  obtain ⟨v, S, hs, hst⟩ := h
  exact ⟨v, hst.get (b := tb) (by simp), hs.read (A := A ++ [(tb, .cells #[v] T)]) (by simpa using hst)⟩
theorem TbIs.grow (h : TbIs T B w0 w tb L A) (hb : Below w.heap.size w w') : TbIs T B w0 w' tb L A := by
  obtain ⟨v, S, hs, hst⟩ := h
  exact ⟨v, S, hs, hst.grow hb⟩
theorem TbIs.below (h : TbIs T B w0 w tb L A) : Below B w0 w := by
  obtain ⟨v, S, hs, hst⟩ := h
  exact hst.below
theorem TbIs.base (h : TbIs T B w0 w tb L A) : B ≤ w.heap.size := by
  obtain ⟨v, S, hs, hst⟩ := h
  exact hst.base
theorem TbIs.alloc (h : TbIs T B w0 w tb L A) (o : Obj) : TbIs T B w0 (w.alloc o) tb L ((w.heap.size, o) :: A) := by
  obtain ⟨v, S, hs, hst⟩ := h
  exact ⟨v, S, hs, hst.alloc o⟩
theorem TbIs.sub {A' : List (Nat × Obj)} (h : TbIs T B w0 w tb L A) (hs' : A'.Sublist A) : TbIs T B w0 w tb L A' := by
  obtain ⟨v, S, hs, hst⟩ := h
  exact ⟨v, S, hs, hst.sub (hs'.append (List.Sublist.refl _))⟩
theorem TbIs.perm {A' : List (Nat × Obj)} (h : TbIs T B w0 w tb L A) (hp : A.Perm A') : TbIs T B w0 w tb L A' := by
  obtain ⟨v, S, hs, hst⟩ := h
  exact ⟨v, S, hs, hst.perm (hp.append_right _)⟩
theorem TbIs.start (h : St B w0 w A) : TbIs T B w0 (w.alloc (.cells #[.slice none 0 0] T)) w.heap.size [] A :=
  ⟨_, [], BnsIs.nil, (h.alloc _).perm (by simpa using (List.perm_append_singleton _ _).symm)⟩
/-- What is new beside it. -/
theorem TbIs.more {Y : List (Nat × Obj)} (h : TbIs T B w0 w tb L A) (k : St w.heap.size w w' Y) : TbIs T B w0 w' tb L (A ++ Y) := by
  obtain ⟨v, S, hs, hst⟩ := h
  refine ⟨v, S, hs, (hst.join k).perm ?_⟩
  rw [List.append_assoc, List.append_assoc]
  exact List.Perm.append_left A List.perm_append_comm
/-- What lies beside, and the way back. -/
theorem TbIs.beside (h : TbIs T B w0 w tb L A) : ∃ X, St B w0 w (X ++ A) ∧ ∀ w' A', St B w0 w' (X ++ A') → TbIs T B w0 w' tb L A' := by
  obtain ⟨v, S, hs, hst⟩ := h
  exact ⟨(tb, .cells #[v] T) :: S, hst.perm List.perm_append_comm, fun w' A' h' => ⟨v, S, hs, h'.perm List.perm_append_comm⟩⟩
theorem TbIs.cell {c : Array Value} {U : TypeId} {k : Nat} (h : TbIs T B w0 w tb L A) (hm : (k, .cells c U) ∈ A) {i : Nat} {u : Value} (hi : c[i]? = some u) : w.cell? ⟨k, i, none⟩ = some u := by
  obtain ⟨v, S, hs, hst⟩ := h
  exact hst.cell (b := k) (List.mem_append_left _ hm) hi
/-- Both tables side by side: seen from the other one. -/
theorem TbIs.swap {U : TypeId} {rb : Nat} {M : List Bnd} {R : List (Nat × Obj)} (h : TbIs T B w0 w tb L (A ++ (rb, .cells #[u] U) :: R)) (hu : BnsIs u M R) :
    ∃ v S, BnsIs v L S ∧ TbIs U B w0 w rb M (A ++ (tb, .cells #[v] T) :: S) := by
  obtain ⟨v, S, hs, hst⟩ := h
  refine ⟨v, S, hs, u, R, hu, hst.perm ?_⟩
  rw [List.append_assoc, List.append_assoc]
  exact List.Perm.append_left A List.perm_append_comm

/-! ### the function values -/
theorem cellOn {c : Nat × Nat} (h : w.cell? ⟨c.1, c.2, none⟩ = some v) (hb : Below w.heap.size w w') : w'.cell? ⟨c.1, c.2, none⟩ = some v := (hb.cell (World.block_lt_of_cell? w _ h)).trans h

theorem ofC_any {q : Nat} {x : List UInt8} (hq : w.cell? ⟨q, 0, none⟩ = some (tx x)) (b : Bnd) : Calls Try.prog 32 #[bV b, bpt q] w fun e w2 => e = .returned (.bool (b.1 == x)) ∧ Below w.heap.size w w2 := by
  obtain ⟨b1, b2, b3⟩ := b
  have hb := Lib.hid (new_below w (bO (b1, b2, b3)))
  have hq2 := cellOn (c := (q, 0)) hq hb.out
  go_enter Try.func32, Try.ntmps32
  go_wp2_with fail
  go_ret
  exact ⟨rfl, hb.out⟩
theorem dropEC_any {q : Nat} {x : List UInt8} (hq : w.cell? ⟨q, 0, none⟩ = some (tx x)) (b : Bnd) : Calls Try.prog 30 #[bV b, bpt q] w fun e w2 => e = .returned (.bool (b.1 == x)) ∧ Below w.heap.size w w2 := by
  obtain ⟨b1, b2, b3⟩ := b
  have hb := Lib.hid (new_below w (bO (b1, b2, b3)))
  have hq2 := cellOn (c := (q, 0)) hq hb.out
  go_enter Try.func30, Try.ntmps30
  go_wp2_with fail
  go_ret
  exact ⟨rfl, hb.out⟩
theorem dropQC_any {q : Nat} {x : List UInt8} (hq : w.cell? ⟨q, 0, none⟩ = some (tx x)) (b : Bnd) : Calls Try.prog 26 #[bV b, bpt q] w fun e w2 => e = .returned (.bool (b.2.1 == x)) ∧ Below w.heap.size w w2 := by
  obtain ⟨b1, b2, b3⟩ := b
  have hb := Lib.hid (new_below w (bO (b1, b2, b3)))
  have hq2 := cellOn (c := (q, 0)) hq hb.out
  go_enter Try.func26, Try.ntmps26
  go_wp2_with fail
  go_ret
  exact ⟨rfl, hb.out⟩
theorem dropC_any {q : Nat} {x : Bnd} (hq : w.cell? ⟨q, 0, none⟩ = some (tx x.1) ∧ w.cell? ⟨q, 1, none⟩ = some (tx x.2.1) ∧ w.cell? ⟨q, 2, none⟩ = some (tx x.2.2)) (b : Bnd) : Calls Try.prog 25 #[bV b, bpt q] w fun e w2 => e = .returned (.bool (b == x)) ∧ Below w.heap.size w w2 := by
  have hb := Lib.hid (new_below w (bO b))
  have q0 := cellOn (c := (q, 0)) hq.1 hb.out
  have q1 := cellOn (c := (q, 1)) hq.2.1 hb.out
  have q2 := cellOn (c := (q, 2)) hq.2.2 hb.out
  obtain ⟨D, hD⟩ : ∃ D, D = (b == x) := ⟨_, rfl⟩
  rw [← hD]
  clear hq
  rcases bnd_cases b x with rfl | hc
  · rw [beq_self_eq_true] at hD
    subst hD
    obtain ⟨b1, b2, b3⟩ := b
    simp only at q0 q1 q2
    go_enter Try.func25, Try.ntmps25
    go_wp2_with fail
    go_ret
    exact ⟨rfl, hb.out⟩
  · rw [beq_eq_false_iff_ne.2 (bnd_ne hc)] at hD
    subst hD
    obtain ⟨b1, b2, b3⟩ := b
    obtain ⟨x1, x2, x3⟩ := x
    simp only at hc q0 q1 q2
    rcases hc with hc | ⟨rfl, hc⟩ | ⟨rfl, rfl, hc⟩
    all_goals
      go_enter Try.func25, Try.ntmps25
      go_wp2_with fail
      go_ret
      exact ⟨rfl, hb.out⟩
theorem keyedC_any {q r : Nat} {x y : List UInt8} (hq : w.cell? ⟨q, 0, none⟩ = some (tx x)) (hr : w.cell? ⟨r, 0, none⟩ = some (tx y)) (b : Bnd) : Calls Try.prog 33 #[bV b, bpt q, bpt r] w fun e w2 => e = .returned (.bool (b.1 == x && b.2.2 == y)) ∧ Below w.heap.size w w2 := by
  have hb := Lib.hid (new_below w (bO b))
  have hq2 := cellOn (c := (q, 0)) hq hb.out
  have hr2 := cellOn (c := (r, 0)) hr hb.out
  obtain ⟨b1, b2, b3⟩ := b
  simp only
  cases h1 : (b1 == x) with
  | false =>
    rw [Bool.false_and]
    go_enter Try.func33, Try.ntmps33
    go_wp2_with fail
    go_ret
    exact ⟨rfl, hb.out⟩
  | true =>
    rw [Bool.true_and]
    rw [beq_iff_eq] at h1
    subst h1
    go_enter Try.func33, Try.ntmps33
    go_wp2_with fail
    go_ret
    exact ⟨rfl, hb.out⟩
theorem dropQN_any (b : Bnd) : Calls Try.prog 28 #[bV b] w fun e w2 => e = .returned (tx b.1) ∧ Below w.heap.size w w2 := by
  have hb := Lib.hid (new_below w (bO b))
  obtain ⟨b1, b2, b3⟩ := b
  go_enter Try.func28, Try.ntmps28
  go_wp2_with fail
  go_ret
  exact ⟨rfl, hb.out⟩
theorem keyedN_any (b : Bnd) : Calls Try.prog 34 #[bV b] w fun e w2 => e = .returned (tx b.2.1) ∧ Below w.heap.size w w2 := by
  have hb := Lib.hid (new_below w (bO b))
  obtain ⟨b1, b2, b3⟩ := b
  go_enter Try.func34, Try.ntmps34
  go_wp2_with fail
  go_ret
  exact ⟨rfl, hb.out⟩

theorem tells_of {q : Nat} {x : List UInt8} (hq : w.cell? ⟨q, 0, none⟩ = some (tx x)) : TellsP w 32 #[bpt q] (fun b => b.1 == x) :=
  ⟨goesIn Try.func32 (by kernel_rfl) rfl, fun w1 hb b => ofC_any (cellOn (c := (q, 0)) hq hb) b⟩
theorem tells_dropE {q : Nat} {x : List UInt8} (hq : w.cell? ⟨q, 0, none⟩ = some (tx x)) : TellsP w 30 #[bpt q] (fun b => b.1 == x) :=
  ⟨goesIn Try.func30 (by kernel_rfl) rfl, fun w1 hb b => dropEC_any (cellOn (c := (q, 0)) hq hb) b⟩
theorem tells_dropQ {q : Nat} {x : List UInt8} (hq : w.cell? ⟨q, 0, none⟩ = some (tx x)) : TellsP w 26 #[bpt q] (fun b => b.2.1 == x) :=
  ⟨goesIn Try.func26 (by kernel_rfl) rfl, fun w1 hb b => dropQC_any (cellOn (c := (q, 0)) hq hb) b⟩
theorem tells_drop {q : Nat} {x : Bnd} (hq : w.cell? ⟨q, 0, none⟩ = some (tx x.1) ∧ w.cell? ⟨q, 1, none⟩ = some (tx x.2.1) ∧ w.cell? ⟨q, 2, none⟩ = some (tx x.2.2)) : TellsP w 25 #[bpt q] (fun b => b == x) :=
  ⟨goesIn Try.func25 (by kernel_rfl) rfl, fun w1 hb b => dropC_any ⟨cellOn (c := (q, 0)) hq.1 hb, cellOn (c := (q, 1)) hq.2.1 hb, cellOn (c := (q, 2)) hq.2.2 hb⟩ b⟩
theorem tells_keyed {q r : Nat} {x y : List UInt8} (hq : w.cell? ⟨q, 0, none⟩ = some (tx x)) (hr : w.cell? ⟨r, 0, none⟩ = some (tx y)) : TellsP w 33 #[bpt q, bpt r] (fun b => b.1 == x && b.2.2 == y) :=
  ⟨goesIn Try.func33 (by kernel_rfl) rfl, fun w1 hb b => keyedC_any (cellOn (c := (q, 0)) hq hb) (cellOn (c := (r, 0)) hr hb) b⟩
theorem names_dropQ (w : World) : TellsN w 28 #[] (fun b => b.1) :=
  ⟨goesIn Try.func28 (by kernel_rfl) rfl, fun w1 hb b => dropQN_any b⟩
theorem names_keyed (w : World) : TellsN w 34 #[] (fun b => b.2.1) :=
  ⟨goesIn Try.func34 (by kernel_rfl) rfl, fun w1 hb b => keyedN_any b⟩

/-! ### what the table tells -/
def OfR (w : World) (l : List Bnd) (e : Ending) (w' : World) : Prop := ∃ u, e = .returned u ∧ ReadBs w' u l ∧ Below w.heap.size w w'
theorem once_len {L : List Bnd} {f : Bnd → List UInt8} (h : ∀ b ∈ L, (f b).length ≤ maxLen) : ∀ y ∈ onceL [] (L.map f), y.length ≤ maxLen := by
  intro y hy
  rcases (onceL_mem _ _ _).1 hy with h' | h'
  · simp at h'
  · obtain ⟨b, hb, rfl⟩ := List.mem_map.1 h'
    exact h b hb
theorem FitB.max {b : Bnd} (h : FitB b) : b.1.length ≤ maxLen ∧ b.2.1.length ≤ maxLen ∧ b.2.2.length ≤ maxLen := by
  obtain ⟨h1, h2, h3⟩ := h
  unfold maxLen
  omega

theorem len_any (h : OneAt T w tb v) (hv : ReadBs w v L) : Calls Try.prog 21 #[bpt tb] w fun e w' => e = .returned (.int .i64 L.length) ∧ w' = w := by
  have ct := h.cell
  obtain ⟨a, cap, rfl, -⟩ := hv
  clear h
  go_enter Try.func21, Try.ntmps21
  go_wp2_with fail
  go_ret
  exact ⟨rfl, rfl⟩

set_option maxHeartbeats 1000000 in
theorem of_any (h : OneAt T w tb v) (hv : ReadBs w v L) (hL : L.length ≤ 10000) (x : List UInt8) : Calls Try.prog 19 #[bpt tb, tx x] w (OfR w (L.filter fun b => b.1 == x)) := by
  have hb := Lib.hid (new_below w (.cells #[tx x] 9))
  have hq : (w.alloc (.cells #[tx x] 9)).cell? ⟨w.heap.size, 0, none⟩ = some (tx x) := by simp
  have c1 := Lib.hid (those_any (h.below hb.out) (hv.below hb.out) hL (tells_of hq))
  have hmf : ∀ (fn : Fn) (first cap : Array Value) (w : World), (Instr.makeFunc fn first cap).run Try.prog w = .ok (.func fn first cap) w := fun _ _ _ _ => rfl
  clear h hv hq
  go_enter Try.func19, Try.ntmps19
  go_wp2_with fail
  refine c1.out.mono ?_
  rintro e w1 ⟨u, S, rfl, hs, hst⟩
  have fin : Hid (OfR w (L.filter fun b => b.1 == x) (.returned u) w1) := Lib.hid ⟨u, rfl, hs.read (A := []) hst, bel hb.out hst.below⟩
  clear hs hst c1
  go_wp2_with fail
  go_ret
  exact fin.out

set_option maxHeartbeats 1000000 in
theorem keyed_any (h : OneAt T w tb v) (hv : ReadBs w v L) (hL : L.length ≤ 10000) (hfit : ∀ b ∈ L, FitB b) (x y : List UInt8) :
    Calls Try.prog 20 #[bpt tb, tx x, tx y] w (OnceR w (onceL [] ((L.filter fun b => b.1 == x && b.2.2 == y).map (·.2.1)))) := by
  have hb := Lib.hid (bel (new_below w (.cells #[tx x] 9)) (new_below (w.alloc (.cells #[tx x] 9)) (.cells #[tx y] 9)))
  have hq : ((w.alloc (.cells #[tx x] 9)).alloc (.cells #[tx y] 9)).cell? ⟨w.heap.size, 0, none⟩ = some (tx x) := by simp
  have hr : ((w.alloc (.cells #[tx x] 9)).alloc (.cells #[tx y] 9)).cell? ⟨w.heap.size + 1, 0, none⟩ = some (tx y) := by
    have h : ((w.alloc (.cells #[tx x] 9)).alloc (.cells #[tx y] 9)).cell? ⟨(w.alloc (.cells #[tx x] 9)).heap.size, 0, none⟩ = some (tx y) := by simp
    rwa [World.size_alloc] at h
  have c1 := Lib.hid (those_any (h.below hb.out) (hv.below hb.out) hL (tells_keyed hq hr))
  have hmf : ∀ (fn : Fn) (first cap : Array Value) (w : World), (Instr.makeFunc fn first cap).run Try.prog w = .ok (.func fn first cap) w := fun _ _ _ _ => rfl
  obtain ⟨K, hK⟩ : ∃ K, K = L.filter fun b => b.1 == x && b.2.2 == y := ⟨_, rfl⟩
  have hKl : K.length ≤ 10000 := by rw [hK]; exact Nat.le_trans (List.length_filter_le _ _) hL
  have hKf : ∀ b ∈ K, b.2.1.length ≤ maxLen := fun b hb => by
    rw [hK] at hb
    have := (hfit b (List.mem_filter.1 hb).1).2.1
    unfold maxLen
    omega
  rw [← hK] at c1 ⊢
  replace hKf := Lib.hid hKf
  clear h hv hq hr hK hfit
  go_enter Try.func20, Try.ntmps20
  go_wp2_with fail
  refine c1.out.mono ?_
  rintro e w1 ⟨u, S, rfl, hs, hst⟩
  have hb1 := Lib.hid (bel hb.out hst.below)
  have c2 := Lib.hid (once_any (hs.read (A := []) hst) hKl hKf.out (names_keyed w1))
  clear hs hst c1 hb
  go_wp2_with fail
  refine c2.out.mono ?_
  rintro e w2 ⟨u2, S2, rfl, hs, hst⟩
  have fin : Hid (OnceR w (onceL [] (K.map (·.2.1))) (.returned u2) w2) := Lib.hid ⟨u2, S2, rfl, hs, St.under hb1.out hst⟩
  clear hs hst c2
  go_wp2_with fail
  go_ret
  exact fin.out
end
end Go.Proofs.Ytpogfbnaendfoaa
