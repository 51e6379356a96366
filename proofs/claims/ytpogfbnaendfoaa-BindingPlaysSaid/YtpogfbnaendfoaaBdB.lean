/- Bindings as cells; a slice of them that the call owns; slices.Contains. -/
import Derived.Test.YtpogfbnaendfoaaBdA
import Derived.Test.YtpogfbnaendfoaaSmT
import Derived.Laws.StructEq
namespace Go.Proofs.Ytpogfbnaendfoaa
open Go.RowKit
set_option linter.unusedVariables false

abbrev bV (b : Bnd) : Value := .agg #[tx b.1, tx b.2.1, tx b.2.2]
abbrev bO (b : Bnd) : Obj := .cells #[tx b.1, tx b.2.1, tx b.2.2] 31
def bndsV (l : List Bnd) : List Value := l.flatMap fun b => [tx b.1, tx b.2.1, tx b.2.2]
theorem bndsV_cons (f : Bnd) (l : List Bnd) : bndsV (f :: l) = tx f.1 :: tx f.2.1 :: tx f.2.2 :: bndsV l := rfl
theorem bndsV_append (l m : List Bnd) : bndsV (l ++ m) = bndsV l ++ bndsV m := by simp [bndsV]
theorem bndsV_len : ∀ (l : List Bnd), (bndsV l).length = l.length * 3
  | [] => rfl
  | f :: l => by rw [bndsV_cons, List.length_cons, List.length_cons, List.length_cons, bndsV_len l, List.length_cons]; omega
theorem bndsV_at : ∀ {l : List Bnd} {i : Nat} {f : Bnd}, l[i]? = some f → (bndsV l)[i * 3]? = some (tx f.1) ∧ (bndsV l)[i * 3 + 1]? = some (tx f.2.1) ∧ (bndsV l)[i * 3 + 2]? = some (tx f.2.2)
  | [], _, _, h => by simp at h
  | f :: l, 0, g, h => by simp at h; subst h; simp [bndsV_cons]
  | f :: l, i + 1, g, h => by
    have := bndsV_at (l := l) (i := i) (f := g) (by simpa using h)
    rw [bndsV_cons, show (i + 1) * 3 = i * 3 + 1 + 1 + 1 by omega, show i * 3 + 1 + 1 + 1 + 1 = (i * 3 + 1) + 1 + 1 + 1 by omega, show i * 3 + 1 + 1 + 1 + 2 = (i * 3 + 2) + 1 + 1 + 1 by omega]
    simpa using this
theorem bndsV_one (l : List Bnd) : ∀ u ∈ bndsV l, u.oneCell' = true := by
  intro u hu
  obtain ⟨f, _, hf⟩ := List.mem_flatMap.1 hu
  simp only [List.mem_cons, List.not_mem_nil, or_false] at hf
  rcases hf with rfl | rfl | rfl <;> rfl

theorem uBnds : Try.prog.underlying 27 = some (.slice 31) := by kernel_rfl
theorem infBnd : (Try.prog.info? 31).map (fun i => (i.zero, i.size, i.bytes)) = some (some (.agg #[tx [], tx [], tx []]), 3, 48) := by kernel_rfl

section
variable {B : Nat} {w0 w w' : World} {S F A X : List (Nat × Obj)} {v : Value} {l L : List Bnd} {b : Bnd}
/-- The slice value reads as these bindings in w, wherever it lies. -/
def ReadBs (w : World) (v : Value) (l : List Bnd) : Prop :=
  ∃ a cap, v = .slice a l.length cap ∧ ∀ i f, l[i]? = some f → ∃ b off, a = some ⟨b, off, none⟩ ∧ w.cell? ⟨b, off + i * 3, none⟩ = some (tx f.1) ∧ w.cell? ⟨b, off + i * 3 + 1, none⟩ = some (tx f.2.1) ∧ w.cell? ⟨b, off + i * 3 + 2, none⟩ = some (tx f.2.2)
/-- A slice of bindings that the call owns. -/
def BnsIs (v : Value) (l : List Bnd) (S : List (Nat × Obj)) : Prop := SlIs 31 3 v l.length (bndsV l) S
theorem BnsIs.nil : BnsIs (.slice none 0 0) [] [] := SlIs.nil
theorem BnsIs.form (h : BnsIs v l S) : ∃ a cap, v = .slice a l.length cap := by
  obtain ⟨a, cap, e, _⟩ := SlIs.form h
  exact ⟨a, cap, e⟩
theorem BnsIs.read (h : BnsIs v l S) (hst : St B w0 w (A ++ S)) : ReadBs w v l := by
  have h' : SlIs _ _ _ _ _ _ := h
  obtain ⟨a, cap, rfl, _, _, ha⟩ := h'.form
  refine ⟨a, cap, rfl, fun i f hf => ?_⟩
  obtain ⟨g, off, rfl⟩ := ha i (List.getElem?_eq_some_iff.1 hf).1
  obtain ⟨h1, h2, h3⟩ := bndsV_at hf
  exact ⟨g, off, rfl, h'.cellAt hst h1, h'.cellAt hst h2, h'.cellAt hst h3⟩
theorem ReadBs.below (h : ReadBs w v l) (hb : Below w.heap.size w w') : ReadBs w' v l := by
  obtain ⟨a, cap, e, h⟩ := h
  refine ⟨a, cap, e, fun i f hf => ?_⟩
  obtain ⟨b, off, ha, h1, h2, h3⟩ := h i f hf
  exact ⟨b, off, ha, (hb.cell (p := ⟨b, off + i * 3, none⟩) (World.block_lt_of_cell? w _ h1)).trans h1, (hb.cell (p := ⟨b, off + i * 3 + 1, none⟩) (World.block_lt_of_cell? w _ h2)).trans h2, (hb.cell (p := ⟨b, off + i * 3 + 2, none⟩) (World.block_lt_of_cell? w _ h3)).trans h3⟩
theorem ReadBs.nil (w : World) : ReadBs w (.slice none 0 0) [] := ⟨none, 0, rfl, fun i f hf => by simp at hf⟩

theorem bnd_append (hs : BnsIs v l S) (hst : St B w0 w (X ++ S)) (b : Bnd) (hl : l.length ≤ 100000) :
    ∃ a cap W2 F2, (Builtin.append_ #[27, 27] 0 #[v, .slice (some ⟨w.heap.size, 0, none⟩) 1 1]).run Try.prog (w.alloc (bO b)) = .ok (.slice a (l.length + 1) cap) W2 ∧
      BnsIs (.slice a (l.length + 1) cap) (l ++ [b]) F2 ∧ St B w0 W2 (X ++ F2) := by
  obtain ⟨i0, hi0, hz0, hz1, hz2⟩ := info_parts infBnd
  have hb : (w.alloc (bO b)).heap[w.heap.size]? = some (.cells [tx b.1, tx b.2.1, tx b.2.2].toArray 31) := (MapKept.heap_alloc w _).1
  have hrd : Reads (w.alloc (bO b)) (.slice (some ⟨w.heap.size, 0, none⟩) 1 1) 1 3 [tx b.1, tx b.2.1, tx b.2.2] := Reads.block hb rfl 1
  obtain ⟨v2, W2, F2, hr, hs2, hst2⟩ := run_append_sl (P := Try.prog) 27 0 31 i0 _ 3 48 uBnds hi0 hz0 hz1 hz2 rfl hs (A := (w.heap.size, bO b) :: X) (hst.alloc _) hrd
    (bndsV_one [b]) (by unfold maxLen; omega) (by omega)
  obtain ⟨a, cap, rfl, -⟩ := hs2.form
  refine ⟨a, cap, W2, F2, hr, ?_, hst2.sub (List.sublist_cons_self _ _)⟩
  unfold BnsIs
  rw [List.length_append, List.length_singleton, bndsV_append]
  exact hs2

/-- Blocks that were there, blocks that are new: all of them. -/
theorem St.join {w1 : World} {Y : List (Nat × Obj)} (h : St B w0 w X) (k : St w.heap.size w w1 Y) : St B w0 w1 (X ++ Y) := by
  refine ⟨h.below.trans (k.below.mono h.base), Nat.le_trans h.base k.base, ?_, ?_⟩
  · rw [List.map_append, List.nodup_append]
    refine ⟨h.nodup, k.nodup, fun x hx y hy => ?_⟩
    obtain ⟨p, hp, rfl⟩ := List.mem_map.1 hx
    obtain ⟨q, hq, rfl⟩ := List.mem_map.1 hy
    have h1 := h.lt (b := p.1) (o := p.2) hp
    have h2 := (k.at_ q hq).1
    omega
  · intro p hp
    rcases List.mem_append.1 hp with hp | hp
    · exact ⟨(h.at_ p hp).1, (k.below.block _ (h.lt (b := p.1) (o := p.2) hp)).trans (h.at_ p hp).2⟩
    · exact ⟨Nat.le_trans h.base (k.at_ p hp).1, (k.at_ p hp).2⟩
theorem St.under {w1 w2 : World} {Y : List (Nat × Obj)} (hb : Below w.heap.size w w1) (k : St w1.heap.size w1 w2 Y) : St w.heap.size w w2 Y :=
  ⟨bel hb k.below, Nat.le_trans hb.size k.base, k.nodup, fun p hp => ⟨Nat.le_trans hb.size (k.at_ p hp).1, (k.at_ p hp).2⟩⟩
theorem St.own {Y : List (Nat × Obj)} {w1 : World} (k : St w.heap.size w w1 Y) : Below w.heap.size w w1 := k.below

/-! ### slices.Contains -/
def IndexR (w : World) (b : Bnd) (L : List Bnd) (e : Ending) (w' : World) : Prop := ∃ k : Int, e = .returned (.int .i64 k) ∧ (0 ≤ k ↔ b ∈ L) ∧ Below w.heap.size w w'

theorem not_in_step {α : Type} {L : List α} {b x : α} {p : Nat} (h : b ∉ L.take p) (hx : L[p]? = some x) (hn : b ≠ x) : b ∉ L.take (p + 1) := by
  rw [List.take_add_one, hx, Option.toList_some, List.mem_append, List.mem_singleton]
  rintro (h' | h')
  · exact h h'
  · exact hn h'

set_option maxHeartbeats 1000000 in
theorem indexB_any (h : ReadBs w v L) (hl : L.length ≤ 1000000) (b : Bnd) : Calls Try.prog 35 #[v, bV b] w (IndexR w b L) := by
  have hb0 := Lib.hid (new_below w (bO b))
  have hnew := Lib.hid (fun n => (hb0.out).trans ((drewN_below (w.alloc (bO b)) n).mono hb0.out.size))
  obtain ⟨a, cap, rfl, hr0⟩ := h.below hb0.out
  have hr := Lib.hid hr0
  clear hr0 h
  obtain ⟨b1, b2, b3⟩ := b
  go_enter Try.func35, Try.ntmps35
  go_wp2_with fail
  go_loopg [8] L.length (fun g i wt => ∃ p : Nat, i = .int .i64 p ∧ p + g = L.length ∧ Hid ((b1, b2, b3) ∉ L.take p) ∧ ∃ m, wt = (w.alloc (bO (b1, b2, b3))).drewN m)
  case atStart => exact ⟨0, rfl, by omega, Lib.hid (by simp), 0, rfl⟩
  case round =>
    obtain ⟨p, rfl, hp, hno, m, rfl⟩ := hrel
    have hp0 : (0 : Int) ≤ p := by omega
    by_cases hlt : p < L.length
    · have hx : L[p]? = some L[p] := List.getElem?_eq_getElem hlt
      generalize L[p] = x at hx
      obtain ⟨a1, o1, rfl, k1, k2, k3⟩ := hr.out p x hx
      have hp1 : (p : Int) < L.length := by omega
      rcases bnd_cases (b1, b2, b3) x with rfl | hc
      · have fin := Lib.hid (fun m n => (⟨p, rfl, ⟨fun _ => List.mem_of_getElem? hx, fun _ => hp0⟩, bel (hnew.out m) (drewN_below _ n)⟩ : IndexR w (b1, b2, b3) L (.returned (.int .i64 p)) (((w.alloc (bO (b1, b2, b3))).drewN m).drewN n)))
        clear hx hno hr
        go_wp2_with fail
        go_quiet (fail)
        go_wp2_with fail
        go_ret
        exact fin.out _ _
      · have hno2 := Lib.hid (not_in_step hno.out hx (bnd_ne hc))
        obtain ⟨x1, x2, x3⟩ := x
        simp only at hc k1 k2 k3
        clear hno hx
        rcases hc with hc | ⟨rfl, hc⟩ | ⟨rfl, rfl, hc⟩
        all_goals
          go_wp2_with fail
          go_quiet (fail)
          go_wp2_with fail
          go_roundg (L.length - (p + 1))
          case measure => omega
          case rel => exact ⟨p + 1, by go_num, by omega, hno2, _, rfl⟩
    · have e : L.take p = L := List.take_of_length_le (by omega)
      have hno2 := hno.out
      rw [e] at hno2
      have fin : Hid (IndexR w (b1, b2, b3) L (.returned (.int .i64 (-1))) ((w.alloc (bO (b1, b2, b3))).drewN m)) := Lib.hid ⟨-1, rfl, ⟨fun h => absurd h (by decide), fun h => absurd h hno2⟩, hnew.out m⟩
      clear hno hno2 e
      go_wp2_with fail
      go_ret
      exact fin.out

theorem containsB_any (h : ReadBs w v L) (hl : L.length ≤ 1000000) (b : Bnd) : Calls Try.prog 22 #[v, bV b] w fun e w' => e = .returned (.bool (decide (b ∈ L))) ∧ Below w.heap.size w w' := by
  have hb0 := Lib.hid (new_below w (bO b))
  have c1 := Lib.hid (indexB_any (h.below hb0.out) hl b)
  obtain ⟨a, cap, rfl, -⟩ := h
  obtain ⟨D, hD⟩ : ∃ D, D = decide (b ∈ L) := ⟨_, rfl⟩
  have hkd : Hid (∀ k : Int, (0 ≤ k ↔ b ∈ L) → decide ((0 : Int) ≤ k) = D) := Lib.hid fun k hk => by rw [hD]; exact decide_eq_decide.2 hk
  rw [← hD]
  clear hD
  obtain ⟨b1, b2, b3⟩ := b
  go_enter Try.func22, Try.ntmps22
  go_wp2_with fail
  refine c1.out.mono ?_
  rintro e w1 ⟨k, rfl, hk, hb⟩
  have hb2 := Lib.hid (bel hb0.out hb)
  replace hkd := Lib.hid (hkd.out k hk)
  clear hb hk c1 hb0
  go_wp2_with fail
  go_ret
  exact ⟨ret_bool hkd.out, hb2.out⟩
end
end Go.Proofs.Ytpogfbnaendfoaa
