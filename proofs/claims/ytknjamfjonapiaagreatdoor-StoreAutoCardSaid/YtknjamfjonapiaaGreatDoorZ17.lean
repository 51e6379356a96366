import Derived.Test.YtknjamfjonapiaaGreatDoorZ02
import Derived.Test.YtknjamfjonapiaaGreatDoorZ16
import Derived.Laws.StructEq
import Derived.Test.YtknjamfjonapiaaGreatDoorZ07
import Derived.Test.YtknjamfjonapiaaGreatDoorZ05
import Derived.Deep.Fields
import Derived.Deep.RegionWith
import Derived.Deep.RegionLaw
import Derived.StillTailTactics
import Derived.Deep.DeepCutAuto
import Derived.Deep.CutBlock
import Derived.Deep.LoopGhost
namespace Go.Proofs.YtknjamfjonapiaaGreatDoor
open Go.RowKit
set_option linter.unusedVariables false
set_option maxRecDepth 100000
abbrev bV (b : Bnd) : Value := .agg #[tx b.1, tx b.2.1, tx b.2.2]
abbrev bO (b : Bnd) : Obj := .cells #[tx b.1, tx b.2.1, tx b.2.2] 67
def bndsV (l : List Bnd) : List Value := l.flatMap fun b => [tx b.1, tx b.2.1, tx b.2.2]
theorem bndsV_cons (f : Bnd) (l : List Bnd) : bndsV (f :: l) = tx f.1 :: tx f.2.1 :: tx f.2.2 :: bndsV l := rfl
theorem bndsV_append (l m : List Bnd) : bndsV (l ++ m) = bndsV l ++ bndsV m := by simp [bndsV]
theorem bndsV_at : ∀ {l : List Bnd} {i : Nat} {f : Bnd}, l[i]? = some f → (bndsV l)[i * 3]? = some (tx f.1) ∧ (bndsV l)[i * 3 + 1]? = some (tx f.2.1) ∧ (bndsV l)[i * 3 + 2]? = some (tx f.2.2)
 | [], _, _, h => by simp at h
 | f :: l, 0, g, h => by simp at h; subst h; simp [bndsV_cons]
 | f :: l, i + 1, g, h => by
  have := bndsV_at (l := l) (i := i) (f := g) (by simpa using h)
  rw [bndsV_cons, show (i + 1) * 3 = i * 3 + 1 + 1 + 1 by omega, show i * 3 + 1 + 1 + 1 + 1 = (i * 3 + 1) + 1 + 1 + 1 by omega, show i * 3 + 1 + 1 + 1 + 2 = (i * 3 + 2) + 1 + 1 + 1 by omega]
  simpa using this
theorem bndsV_one (l : List Bnd) : ∀ u ∈ bndsV l, u.oneCell' = true := by
 intro u hu
 obtain ⟨f, _, hf⟩ := List.mem_flatMap.1 hu
 simp only [List.mem_cons, List.not_mem_nil, or_false] at hf
 rcases hf with rfl | rfl | rfl <;> rfl
theorem uBnds : Tryz.prog.underlying 95 = some (.slice 67) := by kernel_rfl
theorem infBnd : (Tryz.prog.info? 67).map (fun i => (i.zero, i.size, i.bytes)) = some (some (.agg #[tx [], tx [], tx []]), 3, 48) := by kernel_rfl
section
variable {B : Nat} {w0 w w' : World} {S F A X : List (Nat × Obj)} {v : Value} {l L : List Bnd} {b : Bnd}
def ReadBs (w : World) (v : Value) (l : List Bnd) : Prop :=
 ∃ a cap, v = .slice a l.length cap ∧ ∀ i f, l[i]? = some f → ∃ b off, a = some ⟨b, off, none⟩ ∧ w.cell? ⟨b, off + i * 3, none⟩ = some (tx f.1) ∧ w.cell? ⟨b, off + i * 3 + 1, none⟩ = some (tx f.2.1) ∧ w.cell? ⟨b, off + i * 3 + 2, none⟩ = some (tx f.2.2)
def BnsIs (v : Value) (l : List Bnd) (S : List (Nat × Obj)) : Prop := SlIs 67 3 v l.length (bndsV l) S
theorem BnsIs.nil : BnsIs (.slice none 0 0) [] [] := SlIs.nil
theorem BnsIs.form (h : BnsIs v l S) : ∃ a cap, v = .slice a l.length cap := by
 obtain ⟨a, cap, e, _⟩ := SlIs.form h
 exact ⟨a, cap, e⟩
theorem BnsIs.read (h : BnsIs v l S) (hst : St B w0 w (A ++ S)) : ReadBs w v l := by
 have h' : SlIs _ _ _ _ _ _ := h
 obtain ⟨a, cap, rfl, _, _, ha⟩ := h'.form
 refine ⟨a, cap, rfl, fun i f hf => ?_⟩
 obtain ⟨g, off, rfl⟩ := ha i (List.getElem?_eq_some_iff.1 hf).1
 obtain ⟨h1, h2, h3⟩ := bndsV_at hf
 exact ⟨g, off, rfl, h'.cellAt hst h1, h'.cellAt hst h2, h'.cellAt hst h3⟩
theorem ReadBs.below (h : ReadBs w v l) (hb : Below w.heap.size w w') : ReadBs w' v l := by
 obtain ⟨a, cap, e, h⟩ := h
 refine ⟨a, cap, e, fun i f hf => ?_⟩
 obtain ⟨b, off, ha, h1, h2, h3⟩ := h i f hf
 exact ⟨b, off, ha, (hb.cell (p := ⟨b, off + i * 3, none⟩) (World.block_lt_of_cell? w _ h1)).trans h1, (hb.cell (p := ⟨b, off + i * 3 + 1, none⟩) (World.block_lt_of_cell? w _ h2)).trans h2, (hb.cell (p := ⟨b, off + i * 3 + 2, none⟩) (World.block_lt_of_cell? w _ h3)).trans h3⟩
theorem ReadBs.nil (w : World) : ReadBs w (.slice none 0 0) [] := ⟨none, 0, rfl, fun i f hf => by simp at hf⟩
theorem bnd_append (hs : BnsIs v l S) (hst : St B w0 w (X ++ S)) (b : Bnd) (hl : l.length ≤ 100000) :
  ∃ a cap W2 F2, (Builtin.append_ #[95, 95] 0 #[v, .slice (some ⟨w.heap.size, 0, none⟩) 1 1]).run Tryz.prog (w.alloc (bO b)) = .ok (.slice a (l.length + 1) cap) W2 ∧
   BnsIs (.slice a (l.length + 1) cap) (l ++ [b]) F2 ∧ St B w0 W2 (X ++ F2) := by
 obtain ⟨i0, hi0, hz0, hz1, hz2⟩ := info_parts infBnd
 have hb : (w.alloc (bO b)).heap[w.heap.size]? = some (.cells [tx b.1, tx b.2.1, tx b.2.2].toArray 67) := (MapKept.heap_alloc w _).1
 have hrd : Reads (w.alloc (bO b)) (.slice (some ⟨w.heap.size, 0, none⟩) 1 1) 1 3 [tx b.1, tx b.2.1, tx b.2.2] := Reads.block hb rfl 1
 obtain ⟨v2, W2, F2, hr, hs2, hst2⟩ := run_append_sl (P := Tryz.prog) 95 0 67 i0 _ 3 48 uBnds hi0 hz0 hz1 hz2 rfl hs (A := (w.heap.size, bO b) :: X) (hst.alloc _) hrd
  (bndsV_one [b]) (by unfold maxLen; omega) (by omega)
 obtain ⟨a, cap, rfl, -⟩ := hs2.form
 refine ⟨a, cap, W2, F2, hr, ?_, hst2.sub (List.sublist_cons_self _ _)⟩
 unfold BnsIs
 rw [List.length_append, List.length_singleton, bndsV_append]
 exact hs2
theorem St.under {w1 w2 : World} {Y : List (Nat × Obj)} (hb : Below w.heap.size w w1) (k : St w1.heap.size w1 w2 Y) : St w.heap.size w w2 Y :=
 ⟨bel hb k.below, Nat.le_trans hb.size k.base, k.nodup, fun p hp => ⟨Nat.le_trans hb.size (k.at_ p hp).1, (k.at_ p hp).2⟩⟩
theorem St.own {Y : List (Nat × Obj)} {w1 : World} (k : St w.heap.size w w1 Y) : Below w.heap.size w w1 := k.below
def IndexR (w : World) (b : Bnd) (L : List Bnd) (e : Ending) (w' : World) : Prop := ∃ k : Int, e = .returned (.int .i64 k) ∧ (0 ≤ k ↔ b ∈ L) ∧ Below w.heap.size w w'
theorem not_in_step {α : Type} {L : List α} {b x : α} {p : Nat} (h : b ∉ L.take p) (hx : L[p]? = some x) (hn : b ≠ x) : b ∉ L.take (p + 1) := by
 rw [List.take_add_one, hx, Option.toList_some, List.mem_append, List.mem_singleton]
 rintro (h' | h')
 ·exact h h'
 ·exact hn h'
set_option maxHeartbeats 1000000 in
theorem indexB_any (h : ReadBs w v L) (hl : L.length ≤ 1000000) (b : Bnd) : Calls Tryz.prog 242 #[v, bV b] w (IndexR w b L) := by
 have hb0 := Lib.hid (new_below w (bO b))
 have hnew := Lib.hid (fun n => (hb0.out).trans ((drewN_below (w.alloc (bO b)) n).mono hb0.out.size))
 obtain ⟨a, cap, rfl, hr0⟩ := h.below hb0.out
 have hr := Lib.hid hr0
 clear hr0 h
 obtain ⟨b1, b2, b3⟩ := b
 go_enter Tryz.func242, Tryz.ntmps242
 go_wp2_with fail
 go_loopg [8] L.length (fun g i wt => ∃ p : Nat, i = .int .i64 p ∧ p + g = L.length ∧ Hid ((b1, b2, b3) ∉ L.take p) ∧ ∃ m, wt = (w.alloc (bO (b1, b2, b3))).drewN m)
 case atStart => exact ⟨0, rfl, by omega, Lib.hid (by simp), 0, rfl⟩
 case round =>
  obtain ⟨p, rfl, hp, hno, m, rfl⟩ := hrel
  have hp0 : (0 : Int) ≤ p := by omega
  by_cases hlt : p < L.length
  ·have hx : L[p]? = some L[p] := List.getElem?_eq_getElem hlt
   generalize L[p] = x at hx
   obtain ⟨a1, o1, rfl, k1, k2, k3⟩ := hr.out p x hx
   have hp1 : (p : Int) < L.length := by omega
   rcases bnd_cases (b1, b2, b3) x with rfl | hc
   ·have fin := Lib.hid (fun m n => (⟨p, rfl, ⟨fun _ => List.mem_of_getElem? hx, fun _ => hp0⟩, bel (hnew.out m) (drewN_below _ n)⟩ : IndexR w (b1, b2, b3) L (.returned (.int .i64 p)) (((w.alloc (bO (b1, b2, b3))).drewN m).drewN n)))
    clear hx hno hr
    go_wp2_with fail
    go_quiet (fail)
    go_wp2_with fail
    go_ret
    exact fin.out _ _
   ·have hno2 := Lib.hid (not_in_step hno.out hx (bnd_ne hc))
    obtain ⟨x1, x2, x3⟩ := x
    simp only at hc k1 k2 k3
    clear hno hx
    rcases hc with hc | ⟨rfl, hc⟩ | ⟨rfl, rfl, hc⟩
    all_goals
     go_wp2_with fail
     go_quiet (fail)
     go_wp2_with fail
     go_roundg (L.length - (p + 1))
     case measure => omega
     case rel => exact ⟨p + 1, by go_num, by omega, hno2, _, rfl⟩
  ·have e : L.take p = L := List.take_of_length_le (by omega)
   have hno2 := hno.out
   rw [e] at hno2
   have fin : Hid (IndexR w (b1, b2, b3) L (.returned (.int .i64 (-1))) ((w.alloc (bO (b1, b2, b3))).drewN m)) := Lib.hid ⟨-1, rfl, ⟨fun h => absurd h (by decide), fun h => absurd h hno2⟩, hnew.out m⟩
   clear hno hno2 e
   go_wp2_with fail
   go_ret
   exact fin.out
theorem containsB_any (h : ReadBs w v L) (hl : L.length ≤ 1000000) (b : Bnd) : Calls Tryz.prog 204 #[v, bV b] w fun e w' => e = .returned (.bool (decide (b ∈ L))) ∧ Below w.heap.size w w' := by
 have hb0 := Lib.hid (new_below w (bO b))
 have c1 := Lib.hid (indexB_any (h.below hb0.out) hl b)
 obtain ⟨a, cap, rfl, -⟩ := h
 obtain ⟨D, hD⟩ : ∃ D, D = decide (b ∈ L) := ⟨_, rfl⟩
 have hkd : Hid (∀ k : Int, (0 ≤ k ↔ b ∈ L) → decide ((0 : Int) ≤ k) = D) := Lib.hid fun k hk => by rw [hD]; exact decide_eq_decide.2 hk
 rw [← hD]
 clear hD
 obtain ⟨b1, b2, b3⟩ := b
 go_enter Tryz.func204, Tryz.ntmps204
 go_wp2_with fail
 refine c1.out.mono ?_
 rintro e w1 ⟨k, rfl, hk, hb⟩
 have hb2 := Lib.hid (bel hb0.out hb)
 replace hkd := Lib.hid (hkd.out k hk)
 clear hb hk c1 hb0
 go_wp2_with fail
 go_ret
 exact ⟨ret_bool hkd.out, hb2.out⟩
end
section
variable {B : Nat} {w0 w w' : World} {S F A X : List (Nat × Obj)} {v : Value} {l : List (List UInt8)}
def IndexT (w : World) (b : List UInt8) (L : List (List UInt8)) (e : Ending) (w' : World) : Prop := ∃ k : Int, e = .returned (.int .i64 k) ∧ (0 ≤ k ↔ b ∈ L) ∧ w' = w
set_option maxHeartbeats 1000000 in
theorem indexS_any (h : ReadTs w v l) (hl : l.length ≤ 1000000) (b : List UInt8) : Calls Tryz.prog 273 #[v, tx b] w (IndexT w b l) := by
 obtain ⟨a, cap, rfl, hr0⟩ := h
 have hr := Lib.hid hr0
 clear hr0
 go_enter Tryz.func273, Tryz.ntmps273
 go_wp2_with fail
 go_loopg [8] l.length (fun g i wt => ∃ p : Nat, i = .int .i64 p ∧ p + g = l.length ∧ Hid (b ∉ l.take p) ∧ wt = w)
 case atStart => exact ⟨0, rfl, by omega, Lib.hid (by simp), rfl⟩
 case round =>
  obtain ⟨p, rfl, hp, hno, rfl⟩ := hrel
  have hp0 : (0 : Int) ≤ p := by omega
  by_cases hlt : p < l.length
  ·have hx : l[p]? = some l[p] := List.getElem?_eq_getElem hlt
   generalize l[p] = x at hx
   obtain ⟨-, a1, o1, rfl, k1⟩ := hr.out.at_ p x hx
   have hp1 : (p : Int) < l.length := by omega
   by_cases hc : b = x
   ·subst hc
    have fin : Hid (IndexT wr b l (.returned (.int .i64 p)) wr) := Lib.hid ⟨p, rfl, ⟨fun _ => List.mem_of_getElem? hx, fun _ => hp0⟩, rfl⟩
    clear hx hno hr
    go_wp2_with fail
    go_ret
    exact fin.out
   ·have hno2 := Lib.hid (not_in_step hno.out hx hc)
    have hcB : (b == x) = false := by simpa using hc
    clear hno hx hc
    go_wp2_with fail
    go_roundg (l.length - (p + 1))
    case measure => omega
    case rel => exact ⟨p + 1, by go_num, by omega, hno2, rfl⟩
  ·have e : l.take p = l := List.take_of_length_le (by omega)
   have hno2 := hno.out
   rw [e] at hno2
   have fin : Hid (IndexT wr b l (.returned (.int .i64 (-1))) wr) := Lib.hid ⟨-1, rfl, ⟨fun h => absurd h (by decide), fun h => absurd h hno2⟩, rfl⟩
   clear hno hno2 e
   go_wp2_with fail
   go_ret
   exact fin.out
theorem containsS_any (h : ReadTs w v l) (hl : l.length ≤ 1000000) (b : List UInt8) : Calls Tryz.prog 249 #[v, tx b] w fun e w' => e = .returned (.bool (decide (b ∈ l))) ∧ w' = w := by
 have c1 := Lib.hid (indexS_any h hl b)
 obtain ⟨a, cap, rfl, -⟩ := h
 obtain ⟨D, hD⟩ : ∃ D, D = decide (b ∈ l) := ⟨_, rfl⟩
 have hkd : Hid (∀ k : Int, (0 ≤ k ↔ b ∈ l) → decide ((0 : Int) ≤ k) = D) := Lib.hid fun k hk => by rw [hD]; exact decide_eq_decide.2 hk
 rw [← hD]
 clear hD
 go_enter Tryz.func249, Tryz.ntmps249
 go_wp2_with fail
 refine c1.out.mono ?_
 rintro e w1 ⟨k, rfl, hk, rfl⟩
 replace hkd := Lib.hid (hkd.out k hk)
 clear hk c1
 go_wp2_with fail
 go_ret
 exact ⟨ret_bool hkd.out, rfl⟩
def OwnS (w : World) (b : Bnd) (w' : World) : Prop := St w.heap.size w w' [(w.heap.size + 1, bO ([], [], [])), (w.heap.size, bO b)]
theorem OwnS.start (w : World) (b : Bnd) : OwnS w b ((w.alloc (bO b)).alloc (bO ([], [], []))).drew := by
 have h := (((St.start w).alloc (bO b)).alloc (bO ([], [], []))).drew
 rw [World.size_alloc] at h
 exact h
theorem OwnS.from {b1 b2 b3 : List UInt8} (h : OwnS w (b1, b2, b3) w') : w'.cell? ⟨w.heap.size, 0, none⟩ = some (tx b1) ∧ w'.cell? ⟨w.heap.size, 1, none⟩ = some (tx b2) ∧ w'.cell? ⟨w.heap.size, 2, none⟩ = some (tx b3) :=
 ⟨St.cell h (List.mem_cons_of_mem _ List.mem_cons_self) rfl, St.cell h (List.mem_cons_of_mem _ List.mem_cons_self) rfl, St.cell h (List.mem_cons_of_mem _ List.mem_cons_self) rfl⟩
theorem clone_own {b : Bnd} (h : OwnS w b w') {l : List UInt8} (hl : l.length ≤ 140737488351232) : Calls Tryz.prog 154 #[tx l] w' fun e w2 => e = .returned (tx l) ∧ OwnS w b w2 ∧
  (w2.cell? ⟨w.heap.size, 0, none⟩ = some (tx b.1) ∧ w2.cell? ⟨w.heap.size, 1, none⟩ = some (tx b.2.1) ∧ w2.cell? ⟨w.heap.size, 2, none⟩ = some (tx b.2.2)) ∧
  (w2.cell? ⟨w.heap.size + 1, 0, none⟩ = some (tx []) ∧ w2.cell? ⟨w.heap.size + 1, 1, none⟩ = some (tx []) ∧ w2.cell? ⟨w.heap.size + 1, 2, none⟩ = some (tx [])) ∧
  (w2.frozen? ⟨w.heap.size + 1, 0, none⟩ = false ∧ w2.frozen? ⟨w.heap.size + 1, 1, none⟩ = false ∧ w2.frozen? ⟨w.heap.size + 1, 2, none⟩ = false) := by
 refine (clone_any l w' hl).mono ?_
 rintro e w2 ⟨rfl, hb⟩
 have h2 : OwnS w b w2 := St.grow h hb
 obtain ⟨b1, b2, b3⟩ := b
 exact ⟨rfl, h2, h2.from, ⟨St.cell h2 List.mem_cons_self rfl, St.cell h2 List.mem_cons_self rfl, St.cell h2 List.mem_cons_self rfl⟩, St.soft h2 List.mem_cons_self 0, St.soft h2 List.mem_cons_self 1, St.soft h2 List.mem_cons_self 2⟩
theorem ret_own {d : Nat} {tmps : Array Value} {b1 b2 b3 : List UInt8} (h2 : tmps[2]? = some (.pointer (some ⟨d, 0, none⟩))) (q0 : w.cell? ⟨d, 0, none⟩ = some (tx b1)) (q1 : w.cell? ⟨d, 1, none⟩ = some (tx b2)) (q2 : w.cell? ⟨d, 2, none⟩ = some (tx b3)) :
  (results Tryz.f205 tmps).run Tryz.prog w = .ok (bV (b1, b2, b3)) w := by
 simp [results, Tryz.results205, go_sem, h2, q0, q1, q2]
theorem OwnS.stored {b : Bnd} {b1 b2 b3 : List UInt8} (h : OwnS w b w') : ∀ W, W = ((w'.setCell ⟨w.heap.size + 1, 0, none⟩ (tx b1)).setCell ⟨w.heap.size + 1, 1, none⟩ (tx b2)).setCell ⟨w.heap.size + 1, 2, none⟩ (tx b3) →
  (W.cell? ⟨w.heap.size + 1, 0, none⟩ = some (tx b1) ∧ W.cell? ⟨w.heap.size + 1, 1, none⟩ = some (tx b2) ∧ W.cell? ⟨w.heap.size + 1, 2, none⟩ = some (tx b3)) ∧ Below w.heap.size w W := by
 rintro W rfl
 have h3 := ((St.set0 h 0 (tx b1)).set0 1 (tx b2)).set0 2 (tx b3)
 exact ⟨⟨h3.cell List.mem_cons_self rfl, h3.cell List.mem_cons_self rfl, h3.cell List.mem_cons_self rfl⟩, h3.below⟩
def OwnR (w : World) (b : Bnd) (e : Ending) (w' : World) : Prop := e = .returned (bV b) ∧ Below w.heap.size w w'
set_option maxHeartbeats 2000000 in
theorem own_any {b : Bnd} (hf : FitB b) (w : World) : Calls Tryz.prog 205 #[bV b] w (OwnR w b) := by
 have hs0 := OwnS.start w b
 have hs1 := Lib.hid hs0.from
 have cc := Lib.hid (fun (w' : World) (h : OwnS w b w') (l : List UInt8) (hl : l.length ≤ 140737488351232) => clone_own h hl)
 obtain ⟨b1, b2, b3⟩ := b
 obtain ⟨l1, l2, l3⟩ := hf
 simp only at l1 l2 l3
 go_enter Tryz.func205, Tryz.ntmps205
 go_wp2_with fail
 go_region_held3 (fun wr => wr.cell? ⟨w.heap.size, 0, none⟩ = some (tx b1) ∧ wr.cell? ⟨w.heap.size, 1, none⟩ = some (tx b2) ∧ wr.cell? ⟨w.heap.size, 2, none⟩ = some (tx b3)) (first | exact hS | exact hs1.out | go_keep) ((go_at_call 154; refine (cc.out _ (by assumption) _ (by assumption)).mono ?_; rintro e w'' ⟨rfl, hO, hS, ⟨d0, d1, d2⟩, f0, f1, f2⟩))
 have fin := Lib.hid (hO.stored (b1 := b1) (b2 := b2) (b3 := b3) _ rfl)
 go_wp2_with fail
 exact bodyPost_ret (ret_own rfl fin.out.1.1 fin.out.1.2.1 fin.out.1.2.2) rfl ⟨rfl, fin.out.2⟩
end
abbrev bpt (b : Nat) : Value := .pointer (some ⟨b, 0, none⟩)
def OneAt (T : TypeId) (w : World) (tb : Nat) (v : Value) : Prop := w.heap[tb]? = some (.cells #[v] T (0, 0))
section
variable {B : Nat} {w0 w w' : World} {S F A X : List (Nat × Obj)} {T : TypeId} {tb : Nat} {v u : Value} {L : List Bnd} {p : Bnd → Bool} {f : Bnd → List UInt8}
theorem OneAt.cell (h : OneAt T w tb v) : w.cell? ⟨tb, 0, none⟩ = some v := by
 unfold OneAt at h
 simp [World.cell?, h]
theorem OneAt.soft (h : OneAt T w tb v) : w.frozen? ⟨tb, 0, none⟩ = false := by
 unfold OneAt at h
 simp [World.frozen?, h]
theorem OneAt.lt (h : OneAt T w tb v) : tb < w.heap.size := (Array.getElem?_eq_some_iff.1 h).1
theorem OneAt.below (h : OneAt T w tb v) (hb : Below w.heap.size w w') : OneAt T w' tb v := (hb.block _ h.lt).trans h
structure TellsP (w : World) (g : Nat) (cb : Array Value) (p : Bnd → Bool) : Prop where
 go : ∀ args w, (callFunc g args).run Tryz.prog w = .ok (.enter g args) w
 is : ∀ w1, Below w.heap.size w w1 → ∀ b : Bnd, Calls Tryz.prog g (#[bV b] ++ cb) w1 fun e w2 => e = .returned (.bool (p b)) ∧ Below w1.heap.size w1 w2
structure TellsN (w : World) (g : Nat) (cb : Array Value) (f : Bnd → List UInt8) : Prop where
 go : ∀ args w, (callFunc g args).run Tryz.prog w = .ok (.enter g args) w
 is : ∀ w1, Below w.heap.size w w1 → ∀ b : Bnd, Calls Tryz.prog g (#[bV b] ++ cb) w1 fun e w2 => e = .returned (tx (f b)) ∧ Below w1.heap.size w1 w2
def ThoseR (w : World) (l : List Bnd) (e : Ending) (w' : World) : Prop := ∃ u S, e = .returned u ∧ BnsIs u l S ∧ St w.heap.size w w' S
def ThoseAt (w : World) (tb : Nat) (fv : Value) (L : List Bnd) (p : Bnd → Bool) (g : Nat) (a' : Act) (w' : World) : Prop :=
 ∃ (i : Nat) (u : Value) (S : List (Nat × Obj)), Fr 36 [(0, bpt tb), (1, fv), (5, u), (6, .int .i64 i)] a' ∧ i + g = L.length ∧ BnsIs u ((L.take i).filter p) S ∧ St w.heap.size w w' S
set_option maxHeartbeats 2000000 in
theorem those_any {g : Nat} {cb : Array Value} (h : OneAt T w tb v) (hv : ReadBs w v L) (hL : L.length ≤ 10000) (hp : TellsP w g cb p) :
  Calls Tryz.prog 246 #[bpt tb, .func (.func g) #[] cb] w (ThoseR w (L.filter p)) := by
 obtain ⟨eg, his⟩ := hp
 have hg := Lib.hid his
 have ht := Lib.hid (fun w' hb => (h.below (w' := w') hb).cell)
 obtain ⟨a, cap, rfl, -⟩ := id hv
 have hr := Lib.hid (fun w' hb => hv.below (w' := w') hb)
 clear hv his h
 go_enter Tryz.func246, Tryz.ntmps246
 go_wp2_with fail
 refine wp_scope_ghost 0 (ThoseAt w tb (.func (.func g) #[] cb) L p) rfl ?_ ?_
 ·rintro n a' w' ⟨i, u, S, hfr, hi, hs, hst⟩
  obtain ⟨q, rfl, hl'⟩ := hfr.lit
  clear hfr
  simp only [List.mem_cons, List.not_mem_nil, or_false, forall_eq_or_imp, forall_eq] at hl'
  obtain ⟨f0, f1, f5, f6⟩ := hl'
  simp only [List.range, List.range.loop, List.map, f0, f1, f5, f6]
  clear f0 f1 f5 f6
  have hi0 : (0 : Int) ≤ i := by omega
  have ct := ht.out w' hst.below
  have hlen := filter_len_take (L := L) p i
  by_cases hlt : i < L.length
  ·have hi1 : (i : Int) < L.length := by omega
   have hiB : ((i : Int) == L.length) = false := by rw [beq_eq_false_iff_ne]; omega
   have hx : L[i]? = some L[i] := List.getElem?_eq_getElem hlt
   generalize L[i] = x at hx
   have stp := filter_step (p := p) hx
   obtain ⟨a1, c1, e, hcells⟩ := hr.out w' hst.below
   cases e
   obtain ⟨b1, o1, rfl, k1, k2, k3⟩ := hcells i x hx
   have cc := Lib.hid (hg.out w' hst.below x)
   have hx2 : Hid (∀ w2, Below w'.heap.size w' w2 → w2.cell? ⟨tb, 0, none⟩ = some (.slice (some ⟨b1, o1, none⟩) L.length cap) ∧ w2.cell? ⟨b1, o1 + i * 3, none⟩ = some (tx x.1) ∧ w2.cell? ⟨b1, o1 + i * 3 + 1, none⟩ = some (tx x.2.1) ∧ w2.cell? ⟨b1, o1 + i * 3 + 2, none⟩ = some (tx x.2.2)) := Lib.hid fun w2 hb =>
    ⟨(hb.cell (p := ⟨tb, 0, none⟩) (World.block_lt_of_cell? w' _ ct)).trans ct, (hb.cell (World.block_lt_of_cell? w' _ k1)).trans k1, (hb.cell (World.block_lt_of_cell? w' _ k2)).trans k2, (hb.cell (World.block_lt_of_cell? w' _ k3)).trans k3⟩
   cases hpx : p x with
   | true =>
    rw [hpx] at stp cc
    rw [if_pos rfl] at stp
    have ap : Hid (∀ w2, Below w'.heap.size w' w2 → ∃ a cap2 W2, (Builtin.append_ #[95, 95] 0 #[u, .slice (some ⟨w2.heap.size, 0, none⟩) 1 1]).run Tryz.prog (w2.alloc (bO x)) = .ok (.slice a (((L.take i).filter p).length + 1) cap2) W2 ∧
      ∀ a', Fr 36 [(0, bpt tb), (1, .func (.func g) #[] cb), (5, .slice a (((L.take i).filter p).length + 1) cap2), (6, .int .i64 ((i + 1 : Nat) : Int))] a' → ∃ m, m < n ∧ ThoseAt w tb (.func (.func g) #[] cb) L p m a' W2) := by
     refine Lib.hid fun w2 hb => ?_
     obtain ⟨a, cap2, W2, F2, hrun, hs2, hst2⟩ := bnd_append (X := []) hs (hst.grow hb) x (by omega)
     refine ⟨a, cap2, W2, hrun, fun a' hf => ⟨n - 1, by omega, i + 1, _, F2, hf, by omega, ?_, hst2⟩⟩
     rw [stp]
     exact hs2
    obtain ⟨au, cu, rfl⟩ := hs.form
    obtain ⟨x1, x2, x3⟩ := x
    simp only at k1 k2 k3
    generalize ((L.take i).filter p).length = q0 at *
    clear hs hst hx hpx stp hlen hr ht hg
    go_wp2_with fail
    refine cc.out.mono ?_
    rintro e w2 ⟨rfl, hb⟩
    obtain ⟨ct2, m1, m2, m3⟩ := hx2.out w2 hb
    obtain ⟨a2, cap2, W2, hrun, fin⟩ := ap.out _ hb
    replace fin := Lib.hid fin
    clear cc ap hx2 hb k1 k2 k3 ct
    go_wp2_with (at_builtin; refine wpList_append_go rfl (.tmp 24) (.tmp 32) 95 95 rfl _ _ rfl rfl hrun ?_)
    refine wp_goto ?_
    exact ⟨rfl, fin.out _ ⟨rfl, rfl, by simp⟩⟩
   | false =>
    rw [hpx] at stp cc
    rw [if_neg (by decide), List.append_nil] at stp
    have fin : Hid (∀ w2, Below w'.heap.size w' w2 → ∀ a', Fr 36 [(0, bpt tb), (1, .func (.func g) #[] cb), (5, u), (6, .int .i64 ((i + 1 : Nat) : Int))] a' → ∃ m, m < n ∧ ThoseAt w tb (.func (.func g) #[] cb) L p m a' w2) :=
     Lib.hid fun w2 hb a' hf => ⟨n - 1, by omega, i + 1, _, S, hf, by omega, by rw [stp]; exact hs, hst.grow hb⟩
    obtain ⟨au, cu, rfl⟩ := hs.form
    obtain ⟨x1, x2, x3⟩ := x
    simp only at k1 k2 k3
    generalize ((L.take i).filter p).length = q0 at *
    clear hs hst hx hpx stp hlen hr ht hg
    go_wp2_with fail
    refine cc.out.mono ?_
    rintro e w2 ⟨rfl, hb⟩
    replace fin := Lib.hid (fin.out _ hb)
    clear cc hx2 hb k1 k2 k3 ct
    go_wp2_with fail
    refine wp_goto ?_
    exact ⟨rfl, fin.out _ ⟨rfl, rfl, by simp⟩⟩
  ·obtain rfl : i = L.length := by omega
   rw [List.take_of_length_le (Nat.le_refl _)] at hs
   have fin : Hid (ThoseR w (L.filter p) (.returned u) w') := Lib.hid ⟨u, S, rfl, hs, hst⟩
   obtain ⟨au, cu, rfl⟩ := hs.form
   clear hs hst hg hr ht hlen
   go_wp2_with fail
   simp only [Exit.jump]
   go_ret
   exact fin.out
 ·intro H
  go_wp2_with fail
  refine wp_label ?_
  go_step
  go_step
  exact H L.length _ _ ⟨0, _, [], ⟨rfl, rfl, by simp⟩, by omega, BnsIs.nil, St.start w⟩
end
section
variable {B : Nat} {w0 w w' : World} {S F A X : List (Nat × Obj)} {T : TypeId} {tb : Nat} {v u : Value} {L : List Bnd} {p : Bnd → Bool} {f : Bnd → List UInt8}
def CutR (w : World) (tb : Nat) (l m : List Bnd) (e : Ending) (w' : World) : Prop :=
 ∃ u S z R w1, e = .returned u ∧ BnsIs u l S ∧ BnsIs z m R ∧ St w.heap.size w w1 (S ++ R) ∧ w' = w1.setCell ⟨tb, 0, none⟩ z
def CutAt (w : World) (tb : Nat) (fv : Value) (L : List Bnd) (p : Bnd → Bool) (g : Nat) (a' : Act) (w' : World) : Prop :=
 ∃ (i : Nat) (u z : Value) (S R : List (Nat × Obj)), Fr 53 [(0, bpt tb), (1, fv), (5, u), (6, z), (7, .int .i64 i)] a' ∧ i + g = L.length ∧ BnsIs u ((L.take i).filter p) S ∧ BnsIs z ((L.take i).filter fun b => !p b) R ∧ St w.heap.size w w' (S ++ R)
set_option maxHeartbeats 4000000 in
theorem cut_any {g : Nat} {cb : Array Value} (h : OneAt T w tb v) (hv : ReadBs w v L) (hL : L.length ≤ 10000) (hp : TellsP w g cb p) :
  Calls Tryz.prog 217 #[bpt tb, .func (.func g) #[] cb] w (CutR w tb (L.filter p) (L.filter fun b => !p b)) := by
 obtain ⟨eg, his⟩ := hp
 have hg := Lib.hid his
 have ht := Lib.hid (fun w' hb => (⟨(h.below (w' := w') hb).cell, (h.below (w' := w') hb).soft⟩ : _ ∧ _))
 obtain ⟨a, cap, rfl, -⟩ := id hv
 have hr := Lib.hid (fun w' hb => hv.below (w' := w') hb)
 clear hv his h
 go_enter Tryz.func217, Tryz.ntmps217
 go_wp2_with fail
 refine wp_scope_ghost 0 (CutAt w tb (.func (.func g) #[] cb) L p) rfl ?_ ?_
 ·rintro n a' w' ⟨i, u, z, S, R, hfr, hi, hs, hz, hst⟩
  obtain ⟨q, rfl, hl'⟩ := hfr.lit
  clear hfr
  simp only [List.mem_cons, List.not_mem_nil, or_false, forall_eq_or_imp, forall_eq] at hl'
  obtain ⟨f0, f1, f5, f6, f7⟩ := hl'
  simp only [List.range, List.range.loop, List.map, f0, f1, f5, f6, f7]
  clear f0 f1 f5 f6 f7
  have hi0 : (0 : Int) ≤ i := by omega
  obtain ⟨ct, fz⟩ := ht.out w' hst.below
  have hlen := filter_len_take (L := L) p i
  have hlen2 := filter_len_take (L := L) (fun b => !p b) i
  by_cases hlt : i < L.length
  ·have hi1 : (i : Int) < L.length := by omega
   have hiB : ((i : Int) == L.length) = false := by rw [beq_eq_false_iff_ne]; omega
   have hx : L[i]? = some L[i] := List.getElem?_eq_getElem hlt
   generalize L[i] = x at hx
   have stp := filter_step (p := p) hx
   have stp2 := filter_step (p := fun b => !p b) hx
   obtain ⟨a1, c1, e, hcells⟩ := hr.out w' hst.below
   cases e
   obtain ⟨b1, o1, rfl, k1, k2, k3⟩ := hcells i x hx
   have cc := Lib.hid (hg.out w' hst.below x)
   have hx2 : Hid (∀ w2, Below w'.heap.size w' w2 → w2.cell? ⟨tb, 0, none⟩ = some (.slice (some ⟨b1, o1, none⟩) L.length cap) ∧ w2.cell? ⟨b1, o1 + i * 3, none⟩ = some (tx x.1) ∧ w2.cell? ⟨b1, o1 + i * 3 + 1, none⟩ = some (tx x.2.1) ∧ w2.cell? ⟨b1, o1 + i * 3 + 2, none⟩ = some (tx x.2.2)) := Lib.hid fun w2 hb =>
    ⟨(hb.cell (p := ⟨tb, 0, none⟩) (World.block_lt_of_cell? w' _ ct)).trans ct, (hb.cell (World.block_lt_of_cell? w' _ k1)).trans k1, (hb.cell (World.block_lt_of_cell? w' _ k2)).trans k2, (hb.cell (World.block_lt_of_cell? w' _ k3)).trans k3⟩
   cases hpx : p x with
   | true =>
    rw [hpx] at stp stp2 cc
    rw [if_pos rfl] at stp
    rw [if_neg (by decide), List.append_nil] at stp2
    have ap : Hid (∀ w2, Below w'.heap.size w' w2 → ∃ a cap2 W2, (Builtin.append_ #[95, 95] 0 #[u, .slice (some ⟨w2.heap.size, 0, none⟩) 1 1]).run Tryz.prog (w2.alloc (bO x)) = .ok (.slice a (((L.take i).filter p).length + 1) cap2) W2 ∧
      ∀ a', Fr 53 [(0, bpt tb), (1, .func (.func g) #[] cb), (5, .slice a (((L.take i).filter p).length + 1) cap2), (6, z), (7, .int .i64 ((i + 1 : Nat) : Int))] a' → ∃ m, m < n ∧ CutAt w tb (.func (.func g) #[] cb) L p m a' W2) := by
     refine Lib.hid fun w2 hb => ?_
     obtain ⟨a, cap2, W2, F2, hrun, hs2, hst2⟩ := bnd_append (X := R) hs ((hst.grow hb).perm List.perm_append_comm) x (by omega)
     refine ⟨a, cap2, W2, hrun, fun a' hf => ⟨n - 1, by omega, i + 1, _, _, F2, R, hf, by omega, ?_, ?_, hst2.perm List.perm_append_comm⟩⟩
     ·rw [stp]
      exact hs2
     ·rw [stp2]
      exact hz
    obtain ⟨au, cu, rfl⟩ := hs.form
    obtain ⟨az, cz, rfl⟩ := hz.form
    obtain ⟨x1, x2, x3⟩ := x
    simp only at k1 k2 k3
    generalize ((L.take i).filter p).length = q0 at *
    generalize ((L.take i).filter fun b => !p b).length = q1 at *
    clear hs hz hst hx hpx stp stp2 hlen hlen2 hr ht hg fz
    go_wp2_with fail
    refine cc.out.mono ?_
    rintro e w2 ⟨rfl, hb⟩
    obtain ⟨ct2, m1, m2, m3⟩ := hx2.out w2 hb
    obtain ⟨a2, cap2, W2, hrun, fin⟩ := ap.out _ hb
    replace fin := Lib.hid fin
    clear cc ap hx2 hb k1 k2 k3 ct
    go_wp2_with (at_builtin; refine wpList_append_go rfl (.tmp 41) (.tmp 49) 95 95 rfl _ _ rfl rfl hrun ?_)
    refine wp_goto ?_
    exact ⟨rfl, fin.out _ ⟨rfl, rfl, by simp⟩⟩
   | false =>
    rw [hpx] at stp stp2 cc
    rw [if_neg (by decide), List.append_nil] at stp
    rw [if_pos (by decide)] at stp2
    have ap : Hid (∀ w2, Below w'.heap.size w' w2 → ∃ a cap2 W2, (Builtin.append_ #[95, 95] 0 #[z, .slice (some ⟨w2.heap.size, 0, none⟩) 1 1]).run Tryz.prog (w2.alloc (bO x)) = .ok (.slice a (((L.take i).filter fun b => !p b).length + 1) cap2) W2 ∧
      ∀ a', Fr 53 [(0, bpt tb), (1, .func (.func g) #[] cb), (5, u), (6, .slice a (((L.take i).filter fun b => !p b).length + 1) cap2), (7, .int .i64 ((i + 1 : Nat) : Int))] a' → ∃ m, m < n ∧ CutAt w tb (.func (.func g) #[] cb) L p m a' W2) := by
     refine Lib.hid fun w2 hb => ?_
     obtain ⟨a, cap2, W2, F2, hrun, hs2, hst2⟩ := bnd_append (X := S) hz (hst.grow hb) x (by omega)
     refine ⟨a, cap2, W2, hrun, fun a' hf => ⟨n - 1, by omega, i + 1, _, _, S, F2, hf, by omega, ?_, ?_, hst2⟩⟩
     ·rw [stp]
      exact hs
     ·rw [stp2]
      exact hs2
    obtain ⟨au, cu, rfl⟩ := hs.form
    obtain ⟨az, cz, rfl⟩ := hz.form
    obtain ⟨x1, x2, x3⟩ := x
    simp only at k1 k2 k3
    generalize ((L.take i).filter p).length = q0 at *
    generalize ((L.take i).filter fun b => !p b).length = q1 at *
    clear hs hz hst hx hpx stp stp2 hlen hlen2 hr ht hg fz
    go_wp2_with fail
    refine cc.out.mono ?_
    rintro e w2 ⟨rfl, hb⟩
    obtain ⟨ct2, m1, m2, m3⟩ := hx2.out w2 hb
    obtain ⟨a2, cap2, W2, hrun, fin⟩ := ap.out _ hb
    replace fin := Lib.hid fin
    clear cc ap hx2 hb k1 k2 k3 ct
    go_wp2_with (at_builtin; refine wpList_append_go rfl (.tmp 8) (.tmp 16) 95 95 rfl _ _ rfl rfl hrun ?_)
    refine wp_goto ?_
    exact ⟨rfl, fin.out _ ⟨rfl, rfl, by simp⟩⟩
  ·obtain rfl : i = L.length := by omega
   rw [List.take_of_length_le (Nat.le_refl _)] at hs hz
   have fin : Hid (CutR w tb (L.filter p) (L.filter fun b => !p b) (.returned u) (w'.setCell ⟨tb, 0, none⟩ z)) := Lib.hid ⟨u, S, z, R, w', rfl, hs, hz, hst, rfl⟩
   obtain ⟨au, cu, rfl⟩ := hs.form
   obtain ⟨az, cz, rfl⟩ := hz.form
   clear hs hz hst hg hr ht hlen hlen2
   go_wp2_with fail
   simp only [Exit.jump]
   go_ret
   exact fin.out
 ·intro H
  go_wp2_with fail
  refine wp_label ?_
  go_step
  go_step
  exact H L.length _ _ ⟨0, _, _, [], [], ⟨rfl, rfl, by simp⟩, by omega, BnsIs.nil, BnsIs.nil, St.start w⟩
def OnceR (w : World) (l : List (List UInt8)) (e : Ending) (w' : World) : Prop := ∃ u S, e = .returned u ∧ TssIs u l S ∧ St w.heap.size w w' S
def OnceAt (w : World) (rv : Value) (fv : Value) (L : List Bnd) (f : Bnd → List UInt8) (g : Nat) (a' : Act) (w' : World) : Prop :=
 ∃ (i : Nat) (u : Value) (S : List (Nat × Obj)), Fr 29 [(0, rv), (1, fv), (5, u), (6, .int .i64 i)] a' ∧ i + g = L.length ∧ TssIs u (onceL [] ((L.take i).map f)) S ∧ St w.heap.size w w' S
set_option maxHeartbeats 4000000 in
theorem once_any {g : Nat} {cb : Array Value} (hv : ReadBs w v L) (hL : L.length ≤ 10000) (hf : ∀ b ∈ L, (f b).length ≤ maxLen) (hp : TellsN w g cb f) :
  Calls Tryz.prog 238 #[v, .func (.func g) #[] cb] w (OnceR w (onceL [] (L.map f))) := by
 obtain ⟨eg, his⟩ := hp
 have hg := Lib.hid his
 obtain ⟨a, cap, rfl, -⟩ := id hv
 have hr := Lib.hid (fun w' hb => hv.below (w' := w') hb)
 replace hf := Lib.hid hf
 clear hv his
 go_enter Tryz.func238, Tryz.ntmps238
 go_wp2_with fail
 refine wp_scope_ghost 0 (OnceAt w (.slice a L.length cap) (.func (.func g) #[] cb) L f) rfl ?_ ?_
 ·rintro n a' w' ⟨i, u, S, hfr, hi, hs, hst⟩
  obtain ⟨q, rfl, hl'⟩ := hfr.lit
  clear hfr
  simp only [List.mem_cons, List.not_mem_nil, or_false, forall_eq_or_imp, forall_eq] at hl'
  obtain ⟨f0, f1, f5, f6⟩ := hl'
  simp only [List.range, List.range.loop, List.map, f0, f1, f5, f6]
  clear f0 f1 f5 f6
  have hi0 : (0 : Int) ≤ i := by omega
  have hlen : (onceL [] ((L.take i).map f)).length ≤ 10000 := by
   have := onceL_len [] ((L.take i).map f)
   rw [List.length_map, List.length_take, List.length_nil] at this
   omega
  by_cases hlt : i < L.length
  ·have hi1 : (i : Int) < L.length := by omega
   have hiB : ((i : Int) == L.length) = false := by rw [beq_eq_false_iff_ne]; omega
   have hx : L[i]? = some L[i] := List.getElem?_eq_getElem hlt
   generalize L[i] = x at hx
   have stp : onceL [] ((L.take (i + 1)).map f) = onceS (onceL [] ((L.take i).map f)) (f x) := by rw [map_step hx, onceL_snoc]
   obtain ⟨a1, c1, e, hcells⟩ := hr.out w' hst.below
   cases e
   obtain ⟨b1, o1, rfl, k1, k2, k3⟩ := hcells i x hx
   have cc := Lib.hid (hg.out w' hst.below x)
   have hml : ∀ y ∈ onceL [] ((L.take i).map f), y.length ≤ maxLen := by
    intro y hy
    rcases (onceL_mem _ _ _).1 hy with h | h
    ·simp at h
    ·obtain ⟨b, hb, rfl⟩ := List.mem_map.1 h
     exact hf.out b (List.mem_of_mem_take hb)
   generalize onceL [] ((L.take i).map f) = m at *
   have cn := Lib.hid (fun w2 (hb : Below w'.heap.size w' w2) => containsS_any (TssIs.read (X := []) hs (hst.grow hb) hml) (by omega) (f x))
   by_cases hin : f x ∈ m
   ·rw [decide_eq_true hin] at cn
    rw [onceS, if_pos hin] at stp
    have fin : Hid (∀ w2, Below w'.heap.size w' w2 → ∀ a', Fr 29 [(0, .slice (some ⟨b1, o1, none⟩) L.length cap), (1, .func (.func g) #[] cb), (5, u), (6, .int .i64 ((i + 1 : Nat) : Int))] a' → ∃ m, m < n ∧ OnceAt w (.slice (some ⟨b1, o1, none⟩) L.length cap) (.func (.func g) #[] cb) L f m a' w2) :=
     Lib.hid fun w2 hb a' hf => ⟨n - 1, by omega, i + 1, _, S, hf, by omega, by rw [stp]; exact hs, hst.grow hb⟩
    obtain ⟨au, cu, rfl⟩ := hs.form
    obtain ⟨x1, x2, x3⟩ := x
    simp only at k1 k2 k3
    generalize m.length = q0 at *
    clear hs hst hx stp hlen hr hg hml hin
    generalize f (x1, x2, x3) = y at *
    go_wp2_with fail
    refine cc.out.mono ?_
    rintro e w2 ⟨rfl, hb⟩
    replace fin := Lib.hid (fin.out _ hb)
    replace cn := Lib.hid (cn.out _ hb)
    clear cc hb k1 k2 k3
    go_wp2_with fail
    refine cn.out.mono ?_
    rintro e w3 ⟨rfl, rfl⟩
    go_wp2_with fail
    refine wp_goto ?_
    exact ⟨rfl, fin.out _ ⟨rfl, rfl, by simp⟩⟩
   ·rw [decide_eq_false hin] at cn
    rw [onceS, if_neg hin] at stp
    have ap : Hid (∀ w2, Below w'.heap.size w' w2 → ∃ a cap2 W2, (Builtin.append_ #[47, 47] 0 #[u, .slice (some ⟨w2.heap.size, 0, none⟩) 1 1]).run Tryz.prog (w2.alloc (.cells #[tx (f x)] 9)) = .ok (.slice a (m.length + 1) cap2) W2 ∧
      ∀ a', Fr 29 [(0, .slice (some ⟨b1, o1, none⟩) L.length cap), (1, .func (.func g) #[] cb), (5, .slice a (m.length + 1) cap2), (6, .int .i64 ((i + 1 : Nat) : Int))] a' → ∃ m, m < n ∧ OnceAt w (.slice (some ⟨b1, o1, none⟩) L.length cap) (.func (.func g) #[] cb) L f m a' W2) := by
     refine Lib.hid fun w2 hb => ?_
     obtain ⟨a, cap2, W2, F2, hrun, hs2, hst2⟩ := TssIs.append (X := []) hs (hst.grow hb) (f x) (by omega)
     refine ⟨a, cap2, W2, hrun, fun a' hf => ⟨n - 1, by omega, i + 1, _, F2, hf, by omega, ?_, hst2⟩⟩
     rw [stp]
     exact hs2
    obtain ⟨au, cu, rfl⟩ := hs.form
    obtain ⟨x1, x2, x3⟩ := x
    simp only at k1 k2 k3
    generalize m.length = q0 at *
    clear hs hst hx stp hlen hr hg hml hin
    generalize f (x1, x2, x3) = y at *
    go_wp2_with fail
    refine cc.out.mono ?_
    rintro e w2 ⟨rfl, hb⟩
    obtain ⟨a2, cap2, W2, hrun, fin⟩ := ap.out _ hb
    replace fin := Lib.hid fin
    replace cn := Lib.hid (cn.out _ hb)
    clear cc ap hb k1 k2 k3
    go_wp2_with fail
    refine cn.out.mono ?_
    rintro e w3 ⟨rfl, rfl⟩
    go_wp2_with (at_builtin; refine wpList_append_go rfl (.tmp 23) (.tmp 25) 47 47 rfl _ _ rfl rfl hrun ?_)
    refine wp_goto ?_
    exact ⟨rfl, fin.out _ ⟨rfl, rfl, by simp⟩⟩
  ·obtain rfl : i = L.length := by omega
   rw [List.take_of_length_le (Nat.le_refl _)] at hs
   have fin : Hid (OnceR w (onceL [] (L.map f)) (.returned u) w') := Lib.hid ⟨u, S, rfl, hs, hst⟩
   obtain ⟨au, cu, rfl⟩ := hs.form
   clear hs hst hg hr hlen
   go_wp2_with fail
   simp only [Exit.jump]
   go_ret
   exact fin.out
 ·intro H
  go_wp2_with fail
  refine wp_label ?_
  go_step
  go_step
  exact H L.length _ _ ⟨0, _, [], ⟨rfl, rfl, by simp⟩, by omega, TssIs.nil, St.start w⟩
end
section
variable {B : Nat} {w0 w w' : World} {S F A X : List (Nat × Obj)} {T : TypeId} {tb : Nat} {v u : Value} {L : List Bnd} {b : Bnd}
def TbIs (T : TypeId) (B : Nat) (w0 w : World) (tb : Nat) (L : List Bnd) (A : List (Nat × Obj)) : Prop :=
 ∃ v S, BnsIs v L S ∧ St B w0 w (A ++ (tb, .cells #[v] T) :: S)
theorem TbIs.one (h : TbIs T B w0 w tb L A) : ∃ v, OneAt T w tb v ∧ ReadBs w v L := by
 obtain ⟨v, S, hs, hst⟩ := h
 exact ⟨v, hst.get (b := tb) (by simp), hs.read (A := A ++ [(tb, .cells #[v] T)]) (by simpa using hst)⟩
theorem TbIs.grow (h : TbIs T B w0 w tb L A) (hb : Below w.heap.size w w') : TbIs T B w0 w' tb L A := by
 obtain ⟨v, S, hs, hst⟩ := h
 exact ⟨v, S, hs, hst.grow hb⟩
theorem TbIs.below (h : TbIs T B w0 w tb L A) : Below B w0 w := by
 obtain ⟨v, S, hs, hst⟩ := h
 exact hst.below
theorem TbIs.base (h : TbIs T B w0 w tb L A) : B ≤ w.heap.size := by
 obtain ⟨v, S, hs, hst⟩ := h
 exact hst.base
theorem TbIs.alloc (h : TbIs T B w0 w tb L A) (o : Obj) : TbIs T B w0 (w.alloc o) tb L ((w.heap.size, o) :: A) := by
 obtain ⟨v, S, hs, hst⟩ := h
 exact ⟨v, S, hs, hst.alloc o⟩
theorem TbIs.sub {A' : List (Nat × Obj)} (h : TbIs T B w0 w tb L A) (hs' : A'.Sublist A) : TbIs T B w0 w tb L A' := by
 obtain ⟨v, S, hs, hst⟩ := h
 exact ⟨v, S, hs, hst.sub (hs'.append (List.Sublist.refl _))⟩
theorem TbIs.perm {A' : List (Nat × Obj)} (h : TbIs T B w0 w tb L A) (hp : A.Perm A') : TbIs T B w0 w tb L A' := by
 obtain ⟨v, S, hs, hst⟩ := h
 exact ⟨v, S, hs, hst.perm (hp.append_right _)⟩
theorem TbIs.start (h : St B w0 w A) : TbIs T B w0 (w.alloc (.cells #[.slice none 0 0] T)) w.heap.size [] A :=
 ⟨_, [], BnsIs.nil, (h.alloc _).perm (by simpa using (List.perm_append_singleton _ _).symm)⟩
theorem TbIs.more {Y : List (Nat × Obj)} (h : TbIs T B w0 w tb L A) (k : St w.heap.size w w' Y) : TbIs T B w0 w' tb L (A ++ Y) := by
 obtain ⟨v, S, hs, hst⟩ := h
 refine ⟨v, S, hs, (hst.join k).perm ?_⟩
 rw [List.append_assoc, List.append_assoc]
 exact List.Perm.append_left A List.perm_append_comm
theorem TbIs.beside (h : TbIs T B w0 w tb L A) : ∃ X, St B w0 w (X ++ A) ∧ ∀ w' A', St B w0 w' (X ++ A') → TbIs T B w0 w' tb L A' := by
 obtain ⟨v, S, hs, hst⟩ := h
 exact ⟨(tb, .cells #[v] T) :: S, hst.perm List.perm_append_comm, fun w' A' h' => ⟨v, S, hs, h'.perm List.perm_append_comm⟩⟩
theorem TbIs.cell {c : Array Value} {U : TypeId} {k : Nat} (h : TbIs T B w0 w tb L A) (hm : (k, .cells c U) ∈ A) {i : Nat} {u : Value} (hi : c[i]? = some u) : w.cell? ⟨k, i, none⟩ = some u := by
 obtain ⟨v, S, hs, hst⟩ := h
 exact hst.cell (b := k) (List.mem_append_left _ hm) hi
theorem TbIs.swap {U : TypeId} {rb : Nat} {M : List Bnd} {R : List (Nat × Obj)} (h : TbIs T B w0 w tb L (A ++ (rb, .cells #[u] U) :: R)) (hu : BnsIs u M R) :
  ∃ v S, BnsIs v L S ∧ TbIs U B w0 w rb M (A ++ (tb, .cells #[v] T) :: S) := by
 obtain ⟨v, S, hs, hst⟩ := h
 refine ⟨v, S, hs, u, R, hu, hst.perm ?_⟩
 rw [List.append_assoc, List.append_assoc]
 exact List.Perm.append_left A List.perm_append_comm
theorem cellOn {c : Nat × Nat} (h : w.cell? ⟨c.1, c.2, none⟩ = some v) (hb : Below w.heap.size w w') : w'.cell? ⟨c.1, c.2, none⟩ = some v := (hb.cell (World.block_lt_of_cell? w _ h)).trans h
theorem ofC_any {q : Nat} {x : List UInt8} (hq : w.cell? ⟨q, 0, none⟩ = some (tx x)) (b : Bnd) : Calls Tryz.prog 260 #[bV b, bpt q] w fun e w2 => e = .returned (.bool (b.1 == x)) ∧ Below w.heap.size w w2 := by
 obtain ⟨b1, b2, b3⟩ := b
 have hb := Lib.hid (new_below w (bO (b1, b2, b3)))
 have hq2 := cellOn (c := (q, 0)) hq hb.out
 go_enter Tryz.func260, Tryz.ntmps260
 go_wp2_with fail
 go_ret
 exact ⟨rfl, hb.out⟩
theorem dropQC_any {q : Nat} {x : List UInt8} (hq : w.cell? ⟨q, 0, none⟩ = some (tx x)) (b : Bnd) : Calls Tryz.prog 237 #[bV b, bpt q] w fun e w2 => e = .returned (.bool (b.2.1 == x)) ∧ Below w.heap.size w w2 := by
 obtain ⟨b1, b2, b3⟩ := b
 have hb := Lib.hid (new_below w (bO (b1, b2, b3)))
 have hq2 := cellOn (c := (q, 0)) hq hb.out
 go_enter Tryz.func237, Tryz.ntmps237
 go_wp2_with fail
 go_ret
 exact ⟨rfl, hb.out⟩
theorem keyedC_any {q r : Nat} {x y : List UInt8} (hq : w.cell? ⟨q, 0, none⟩ = some (tx x)) (hr : w.cell? ⟨r, 0, none⟩ = some (tx y)) (b : Bnd) : Calls Tryz.prog 247 #[bV b, bpt q, bpt r] w fun e w2 => e = .returned (.bool (b.1 == x && b.2.2 == y)) ∧ Below w.heap.size w w2 := by
 have hb := Lib.hid (new_below w (bO b))
 have hq2 := cellOn (c := (q, 0)) hq hb.out
 have hr2 := cellOn (c := (r, 0)) hr hb.out
 obtain ⟨b1, b2, b3⟩ := b
 simp only
 cases h1 : (b1 == x) with
 | false =>
  rw [Bool.false_and]
  go_enter Tryz.func247, Tryz.ntmps247
  go_wp2_with fail
  go_ret
  exact ⟨rfl, hb.out⟩
 | true =>
  rw [Bool.true_and]
  rw [beq_iff_eq] at h1
  subst h1
  go_enter Tryz.func247, Tryz.ntmps247
  go_wp2_with fail
  go_ret
  exact ⟨rfl, hb.out⟩
theorem dropQN_any (b : Bnd) : Calls Tryz.prog 239 #[bV b] w fun e w2 => e = .returned (tx b.1) ∧ Below w.heap.size w w2 := by
 have hb := Lib.hid (new_below w (bO b))
 obtain ⟨b1, b2, b3⟩ := b
 go_enter Tryz.func239, Tryz.ntmps239
 go_wp2_with fail
 go_ret
 exact ⟨rfl, hb.out⟩
theorem keyedN_any (b : Bnd) : Calls Tryz.prog 248 #[bV b] w fun e w2 => e = .returned (tx b.2.1) ∧ Below w.heap.size w w2 := by
 have hb := Lib.hid (new_below w (bO b))
 obtain ⟨b1, b2, b3⟩ := b
 go_enter Tryz.func248, Tryz.ntmps248
 go_wp2_with fail
 go_ret
 exact ⟨rfl, hb.out⟩
theorem tells_of {q : Nat} {x : List UInt8} (hq : w.cell? ⟨q, 0, none⟩ = some (tx x)) : TellsP w 260 #[bpt q] (fun b => b.1 == x) :=
 ⟨goesIn Tryz.func260 (by kernel_rfl) rfl, fun w1 hb b => ofC_any (cellOn (c := (q, 0)) hq hb) b⟩
theorem tells_dropQ {q : Nat} {x : List UInt8} (hq : w.cell? ⟨q, 0, none⟩ = some (tx x)) : TellsP w 237 #[bpt q] (fun b => b.2.1 == x) :=
 ⟨goesIn Tryz.func237 (by kernel_rfl) rfl, fun w1 hb b => dropQC_any (cellOn (c := (q, 0)) hq hb) b⟩
theorem tells_keyed {q r : Nat} {x y : List UInt8} (hq : w.cell? ⟨q, 0, none⟩ = some (tx x)) (hr : w.cell? ⟨r, 0, none⟩ = some (tx y)) : TellsP w 247 #[bpt q, bpt r] (fun b => b.1 == x && b.2.2 == y) :=
 ⟨goesIn Tryz.func247 (by kernel_rfl) rfl, fun w1 hb b => keyedC_any (cellOn (c := (q, 0)) hq hb) (cellOn (c := (r, 0)) hr hb) b⟩
theorem names_dropQ (w : World) : TellsN w 239 #[] (fun b => b.1) :=
 ⟨goesIn Tryz.func239 (by kernel_rfl) rfl, fun w1 hb b => dropQN_any b⟩
theorem names_keyed (w : World) : TellsN w 248 #[] (fun b => b.2.1) :=
 ⟨goesIn Tryz.func248 (by kernel_rfl) rfl, fun w1 hb b => keyedN_any b⟩
theorem FitB.max {b : Bnd} (h : FitB b) : b.1.length ≤ maxLen ∧ b.2.1.length ≤ maxLen ∧ b.2.2.length ≤ maxLen := by
 obtain ⟨h1, h2, h3⟩ := h
 unfold maxLen
 omega
set_option maxHeartbeats 1000000 in
theorem keyed_any (h : OneAt T w tb v) (hv : ReadBs w v L) (hL : L.length ≤ 10000) (hfit : ∀ b ∈ L, FitB b) (x y : List UInt8) :
  Calls Tryz.prog 207 #[bpt tb, tx x, tx y] w (OnceR w (onceL [] ((L.filter fun b => b.1 == x && b.2.2 == y).map (·.2.1)))) := by
 have hb := Lib.hid (bel (new_below w (.cells #[tx x] 9)) (new_below (w.alloc (.cells #[tx x] 9)) (.cells #[tx y] 9)))
 have hq : ((w.alloc (.cells #[tx x] 9)).alloc (.cells #[tx y] 9)).cell? ⟨w.heap.size, 0, none⟩ = some (tx x) := by simp
 have hr : ((w.alloc (.cells #[tx x] 9)).alloc (.cells #[tx y] 9)).cell? ⟨w.heap.size + 1, 0, none⟩ = some (tx y) := by
  have h : ((w.alloc (.cells #[tx x] 9)).alloc (.cells #[tx y] 9)).cell? ⟨(w.alloc (.cells #[tx x] 9)).heap.size, 0, none⟩ = some (tx y) := by simp
  rwa [World.size_alloc] at h
 have c1 := Lib.hid (those_any (h.below hb.out) (hv.below hb.out) hL (tells_keyed hq hr))
 have hmf : ∀ (fn : Fn) (first cap : Array Value) (w : World), (Instr.makeFunc fn first cap).run Tryz.prog w = .ok (.func fn first cap) w := fun _ _ _ _ => rfl
 obtain ⟨K, hK⟩ : ∃ K, K = L.filter fun b => b.1 == x && b.2.2 == y := ⟨_, rfl⟩
 have hKl : K.length ≤ 10000 := by rw [hK]; exact Nat.le_trans (List.length_filter_le _ _) hL
 have hKf : ∀ b ∈ K, b.2.1.length ≤ maxLen := fun b hb => by
  rw [hK] at hb
  have := (hfit b (List.mem_filter.1 hb).1).2.1
  unfold maxLen
  omega
 rw [← hK] at c1 ⊢
 replace hKf := Lib.hid hKf
 clear h hv hq hr hK hfit
 go_enter Tryz.func207, Tryz.ntmps207
 go_wp2_with fail
 refine c1.out.mono ?_
 rintro e w1 ⟨u, S, rfl, hs, hst⟩
 have hb1 := Lib.hid (bel hb.out hst.below)
 have c2 := Lib.hid (once_any (hs.read (A := []) hst) hKl hKf.out (names_keyed w1))
 clear hs hst c1 hb
 go_wp2_with fail
 refine c2.out.mono ?_
 rintro e w2 ⟨u2, S2, rfl, hs, hst⟩
 have fin : Hid (OnceR w (onceL [] (K.map (·.2.1))) (.returned u2) w2) := Lib.hid ⟨u2, S2, rfl, hs, St.under hb1.out hst⟩
 clear hs hst c2
 go_wp2_with fail
 go_ret
 exact fin.out
end
section
variable {B : Nat} {w0 w w' : World} {S F A X : List (Nat × Obj)} {T : TypeId} {tb : Nat} {v u : Value} {L : List Bnd} {b : Bnd}
theorem new_any (h : St B w0 w A) : Calls Tryz.prog 203 #[] w fun e w' => e = .returned (bpt w.heap.size) ∧ TbIs 273 B w0 w' w.heap.size [] A := by
 have fin := Lib.hid (TbIs.start (T := 273) h)
 clear h
 go_enter Tryz.func203, Tryz.ntmps203
 go_wp2_with fail
 go_ret
 exact ⟨rfl, fin.out⟩
theorem TbIs.turn {w1 : World} {m : List Bnd} {z : Value} {R : List (Nat × Obj)} (h : TbIs T B w0 w tb L A) (hz : BnsIs z m R) (hst : St w.heap.size w w1 (S ++ R)) : TbIs T B w0 (w1.setCell ⟨tb, 0, none⟩ z) tb m (A ++ S) := by
 obtain ⟨v, F, -, hst0⟩ := h
 have h1 := hst0.join hst
 have h2 : St B w0 w1 ((A ++ F ++ S) ++ (tb, .cells #[v] T) :: R) := h1.perm (by
  simp only [List.append_assoc, List.cons_append]
  refine List.Perm.append_left A ?_
  have e : F ++ (S ++ (tb, Obj.cells #[v] T) :: R) = (F ++ S) ++ (tb, .cells #[v] T) :: R := (List.append_assoc _ _ _).symm
  rw [e, ← List.append_assoc]
  exact List.perm_middle.symm)
 have h3 := h2.set 0 z
 refine ⟨z, R, hz, ?_⟩
 have h4 : St B w0 (w1.setCell ⟨tb, 0, none⟩ z) ((A ++ F ++ S) ++ (tb, .cells #[z] T) :: R) := h3
 refine h4.sub ?_
 refine List.Sublist.append ?_ (List.Sublist.refl _)
 exact (List.sublist_append_left A F).append (List.Sublist.refl S)
theorem CutR.table {l m : List Bnd} {e : Ending} (hc : CutR w tb l m e w') (h : TbIs 273 B w0 w tb L A) : ∃ u S, e = .returned u ∧ BnsIs u l S ∧ TbIs 273 B w0 w' tb m (A ++ S) := by
 obtain ⟨u, S, z, R, w1, rfl, hs, hz, hst, rfl⟩ := hc
 exact ⟨u, S, rfl, hs, h.turn hz hst⟩
def CutNR (T : TypeId) (B : Nat) (w0 : World) (tb : Nat) (L : List Bnd) (A : List (Nat × Obj)) (l : List (List UInt8)) (e : Ending) (w' : World) : Prop := ∃ u S, e = .returned u ∧ TssIs u l S ∧ TbIs T B w0 w' tb L (A ++ S)
set_option maxHeartbeats 1000000 in
theorem dropQ_any (h : TbIs 273 B w0 w tb L A) (hL : L.length ≤ 10000) (hfit : ∀ b ∈ L, FitB b) (x : List UInt8) :
  Calls Tryz.prog 195 #[bpt tb, tx x] w (CutNR 273 B w0 tb (L.filter fun b => !(b.2.1 == x)) A (onceL [] ((L.filter fun b => b.2.1 == x).map (·.1)))) := by
 have h1 := h.alloc (.cells #[tx x] 9)
 obtain ⟨v, ho, hv⟩ := h1.one
 have hq : (w.alloc (.cells #[tx x] 9)).cell? ⟨w.heap.size, 0, none⟩ = some (tx x) := by simp
 have c1 := Lib.hid (cut_any ho hv hL (tells_dropQ hq))
 have hmf : ∀ (fn : Fn) (first cap : Array Value) (w : World), (Instr.makeFunc fn first cap).run Tryz.prog w = .ok (.func fn first cap) w := fun _ _ _ _ => rfl
 obtain ⟨K, hK⟩ : ∃ K, K = L.filter fun b => b.2.1 == x := ⟨_, rfl⟩
 have hKl : K.length ≤ 10000 := by rw [hK]; exact Nat.le_trans (List.length_filter_le _ _) hL
 have hKf : ∀ b ∈ K, b.1.length ≤ maxLen := fun b hb => by
  rw [hK] at hb
  have := (hfit b (List.mem_filter.1 hb).1).1
  unfold maxLen
  omega
 rw [← hK] at c1 ⊢
 generalize (L.filter fun b => !(b.2.1 == x)) = M at *
 have tab : Hid (∀ e w', CutR (w.alloc (.cells #[tx x] 9)) tb K M e w' → ∃ a cap, e = .returned (.slice a K.length cap) ∧
   Calls Tryz.prog 238 #[.slice a K.length cap, .func (.func 239) #[] #[]] w' (CutNR 273 B w0 tb M A (onceL [] (K.map (·.1))))) := by
  refine Lib.hid fun e w' hc => ?_
  obtain ⟨u, S, rfl, hs, ht⟩ := hc.table h1
  obtain ⟨a, cap, rfl⟩ := hs.form
  have hrd : ReadBs w' (.slice a K.length cap) K := by
   obtain ⟨X, hX, -⟩ := ht.beside
   exact hs.read (A := X ++ ((w.heap.size, .cells #[tx x] 9) :: A)) (by rw [List.append_assoc]; exact hX)
  refine ⟨a, cap, rfl, (once_any hrd hKl hKf (names_dropQ w')).mono ?_⟩
  rintro e w2 ⟨u2, S2, rfl, hs2, hst2⟩
  exact ⟨u2, S2, rfl, hs2, (ht.sub (by rw [List.cons_append]; exact ((List.sublist_append_left A S)).trans (List.sublist_cons_self _ _))).more hst2⟩
 clear h h1 ho hv hq hK hKf hfit hKl
 go_enter Tryz.func195, Tryz.ntmps195
 go_wp2_with fail
 refine c1.out.mono ?_
 intro e w1 hc
 obtain ⟨a, cap, rfl, c2⟩ := tab.out _ _ hc
 replace c2 := Lib.hid c2
 clear hc c1 tab
 go_wp2_with fail
 refine c2.out.mono ?_
 rintro e w2 ⟨u, S, rfl, hu, ht⟩
 have fin : Hid (CutNR 273 B w0 tb M A (onceL [] (K.map (·.1))) (.returned u) w2) := Lib.hid ⟨u, S, rfl, hu, ht⟩
 clear hu ht c2
 go_wp2_with fail
 go_ret
 exact fin.out
def AddR (T : TypeId) (B : Nat) (w0 : World) (tb : Nat) (L : List Bnd) (b : Bnd) (A : List (Nat × Obj)) (e : Ending) (w' : World) : Prop :=
 e = .returned (.tuple #[.bool (addL L b).2.1, .int .i64 (addL L b).2.2]) ∧ TbIs T B w0 w' tb (addL L b).1 A
set_option maxHeartbeats 4000000 in
theorem add_any (h : TbIs 273 B w0 w tb L A) (hL : L.length ≤ 40) (hb : FitB b) : Calls Tryz.prog 146 #[bpt tb, bV b] w (AddR 273 B w0 tb L b A) := by
 have h1 := h.alloc (bO b)
 have q0 : (w.alloc (bO b)).cell? ⟨w.heap.size, 0, none⟩ = some (tx b.1) := by simp
 have q1 : (w.alloc (bO b)).cell? ⟨w.heap.size, 1, none⟩ = some (tx b.2.1) := by simp
 have q2 : (w.alloc (bO b)).cell? ⟨w.heap.size, 2, none⟩ = some (tx b.2.2) := by simp
 obtain ⟨W1, hW⟩ : ∃ W1, W1 = w.alloc (bO b) := ⟨_, rfl⟩
 rw [← hW] at h1 q0 q1 q2
 obtain ⟨v, ho, hv⟩ := h1.one
 have hdr : Below W1.heap.size W1 W1.drew := (Below.refl _ W1).drew
 have c1 := Lib.hid (containsB_any (hv.below hdr) (by omega) b)
 obtain ⟨a, cap, rfl, -⟩ := id hv
 have ct := ho.cell
 have hx : Hid (∀ w2, Below W1.heap.size W1 w2 → w2.cell? ⟨tb, 0, none⟩ = some (.slice a L.length cap) ∧ w2.cell? ⟨w.heap.size, 0, none⟩ = some (tx b.1) ∧ w2.cell? ⟨w.heap.size, 1, none⟩ = some (tx b.2.1) ∧ w2.cell? ⟨w.heap.size, 2, none⟩ = some (tx b.2.2)) := Lib.hid fun w2 hb2 =>
  ⟨cellOn (c := (tb, 0)) ct hb2, cellOn (c := (_, 0)) q0 hb2, cellOn (c := (_, 1)) q1 hb2, cellOn (c := (_, 2)) q2 hb2⟩
 have toW : Hid (∀ w2, Below W1.drew.heap.size W1.drew w2 → Below W1.heap.size W1 w2) := Lib.hid fun w2 hb2 => bel hdr hb2
 by_cases hin : b ∈ L
 ·rw [decide_eq_true hin] at c1
  have fin : Hid (∀ w2, Below W1.heap.size W1 w2 → AddR 273 B w0 tb L b A (.returned (.tuple #[.bool false, .int .i64 0])) w2) := Lib.hid fun w2 hb2 => by
   refine ⟨?_, ?_⟩
   ·rw [addL, if_pos hin]
   ·rw [addL, if_pos hin]
    exact (h1.grow hb2).sub (List.sublist_cons_self _ _)
  obtain ⟨b1, b2, b3⟩ := b
  simp only at q0 q1 q2
  replace hW : Hid (w.alloc (.cells #[tx b1, tx b2, tx b3] 67) = W1) := Lib.hid hW.symm
  clear h h1 ho hv hin hb hdr
  go_enter Tryz.func146, Tryz.ntmps146
  go_upto_region 1 with fail
  rw [hW.out]
  go_still_tail 5, (by kernel_rfl)
  change wpList _ _ _ _ _ W1.drew
  go_wp2_with fail
  refine c1.out.mono ?_
  rintro e w2 ⟨rfl, hb2⟩
  replace fin := Lib.hid (fin.out _ (toW.out _ hb2))
  clear hb2 hx toW q0 q1 q2 ct
  go_wp2_with fail
  go_ret2
  exact fin.out
 rw [decide_eq_false hin] at c1
 by_cases hfull : 40 ≤ L.length
 ·have hfI : (40 : Int) ≤ L.length := by omega
  have fin : Hid (∀ w2, Below W1.heap.size W1 w2 → AddR 273 B w0 tb L b A (.returned (.tuple #[.bool false, .int .i64 12])) w2) := Lib.hid fun w2 hb2 => by
   refine ⟨?_, ?_⟩
   ·rw [addL, if_neg hin, if_pos hfull]
   ·rw [addL, if_neg hin, if_pos hfull]
    exact (h1.grow hb2).sub (List.sublist_cons_self _ _)
  obtain ⟨b1, b2, b3⟩ := b
  simp only at q0 q1 q2
  replace hW : Hid (w.alloc (.cells #[tx b1, tx b2, tx b3] 67) = W1) := Lib.hid hW.symm
  clear h h1 ho hv hin hb hdr
  go_enter Tryz.func146, Tryz.ntmps146
  go_upto_region 1 with fail
  rw [hW.out]
  go_still_tail 5, (by kernel_rfl)
  change wpList _ _ _ _ _ W1.drew
  go_wp2_with fail
  refine c1.out.mono ?_
  rintro e w2 ⟨rfl, hb2⟩
  replace fin := Lib.hid (fin.out _ (toW.out _ hb2))
  have ct2 := (hx.out _ (toW.out _ hb2)).1
  clear hb2 hx toW q0 q1 q2 ct
  go_wp2_with fail
  go_ret2
  exact fin.out
 ·have hfI : ¬ (40 : Int) ≤ L.length := by omega
  have ap : Hid (∀ w2, Below W1.heap.size W1 w2 → ∃ a2 cap2 W3, (Builtin.append_ #[95, 95] 0 #[.slice a L.length cap, .slice (some ⟨w2.heap.size, 0, none⟩) 1 1]).run Tryz.prog (w2.alloc (bO b)) = .ok (.slice a2 (L.length + 1) cap2) W3 ∧
    (W3.cell? ⟨tb, 0, none⟩ = some (.slice a L.length cap) ∧ W3.frozen? ⟨tb, 0, none⟩ = false) ∧ AddR 273 B w0 tb L b A (.returned (.tuple #[.bool true, .int .i64 0])) (W3.setCell ⟨tb, 0, none⟩ (.slice a2 (L.length + 1) cap2))) := by
   refine Lib.hid fun w2 hb2 => ?_
   obtain ⟨v', S, hs, hst⟩ := h1.grow hb2
   have e : v' = .slice a L.length cap := by
    have e1 := hst.cell (b := tb) (i := 0) (v := v') (List.mem_append_right _ List.mem_cons_self) rfl
    have e2 := cellOn (c := (tb, 0)) ct hb2
    exact Option.some.inj (e1.symm.trans e2)
   subst e
   obtain ⟨a2, cap2, W3, F2, hrun, hs2, hst2⟩ := bnd_append (X := ((w.heap.size, bO b) :: A) ++ [(tb, .cells #[.slice a L.length cap] 273)]) hs (by simpa using hst) b (by omega)
   have hst3 : St B w0 W3 (((w.heap.size, bO b) :: A) ++ (tb, .cells #[.slice a L.length cap] 273) :: F2) := by simpa using hst2
   refine ⟨a2, cap2, W3, hrun, ⟨hst3.cell (b := tb) (i := 0) (List.mem_append_right _ List.mem_cons_self) rfl, St.soft (b := tb) hst3 (List.mem_append_right _ List.mem_cons_self) 0⟩, ?_, ?_⟩
   ·rw [addL, if_neg hin, if_neg hfull]
   ·rw [addL, if_neg hin, if_neg hfull]
    have h5 := hst3.set 0 (.slice a2 (L.length + 1) cap2)
    exact ⟨_, F2, hs2, h5.sub (by rw [List.cons_append]; exact List.sublist_cons_self _ _)⟩
  have co := Lib.hid (fun w2 => own_any hb w2)
  obtain ⟨b1, b2, b3⟩ := b
  simp only at q0 q1 q2
  replace hW : Hid (w.alloc (.cells #[tx b1, tx b2, tx b3] 67) = W1) := Lib.hid hW.symm
  clear h h1 ho hv hin hb hdr
  go_enter Tryz.func146, Tryz.ntmps146
  go_upto_region 1 with fail
  rw [hW.out]
  go_still_tail 5, (by kernel_rfl)
  change wpList _ _ _ _ _ W1.drew
  go_wp2_with fail
  refine c1.out.mono ?_
  rintro e w2 ⟨rfl, hb2⟩
  replace hb2 := toW.out _ hb2
  obtain ⟨ct2, r0, r1, r2⟩ := hx.out _ hb2
  have toX : Hid (∀ w3, Below w2.drew.heap.size w2.drew w3 → Below W1.heap.size W1 w3) := Lib.hid fun w3 hb3 => bel hb2 (bel (Below.refl _ w2).drew hb3)
  clear hb2 q0 q1 q2 ct
  go_wp2_with fail
  go_region_law (first
   | (refine step_append_go rfl (.tmp 24) (.tmp 27) 95 95 rfl _ _ rfl rfl hrun ?_)
   | (go_simp; go_at_call 205; refine (co.out _).mono ?_; rintro e w3 ⟨rfl, hb3⟩; obtain ⟨ct3, s0, s1, s2⟩ := hx.out _ (toX.out _ hb3); have ct4 := cellOn (c := (tb, 0)) ct3 (new_below w3 (.cells #[tx b1, tx b2, tx b3] 67)); obtain ⟨a2, cap2, W3, hrun, ⟨k0, k1⟩, fin⟩ := ap.out _ (toX.out _ hb3); replace fin := Lib.hid fin; clear hb3))
  all_goals
   go_wp2_with fail
   go_ret2
   exact fin.out
end
section
variable {B : Nat} {w0 w w' : World} {S F A X : List (Nat × Obj)} {T : TypeId} {tb : Nat} {v u : Value} {L M : List Bnd} {b : Bnd}
def KeyT (T : TypeId) (B : Nat) (w0 : World) (tb : Nat) (L : List Bnd) (A : List (Nat × Obj)) (l : List (List UInt8)) (e : Ending) (w' : World) : Prop := ∃ u S, e = .returned u ∧ TssIs u l S ∧ TbIs T B w0 w' tb L (A ++ S)
theorem keyed_is (h : TbIs 273 B w0 w tb L A) (hL : L.length ≤ 10000) (hfit : ∀ b ∈ L, FitB b) (x y : List UInt8) {l : List (List UInt8)} (e : onceL [] ((L.filter fun b => b.1 == x && b.2.2 == y).map (·.2.1)) = l) :
  Calls Tryz.prog 207 #[bpt tb, tx x, tx y] w (KeyT 273 B w0 tb L A l) := by
 obtain ⟨v, ho, hv⟩ := h.one
 subst e
 refine (keyed_any ho hv hL hfit x y).mono ?_
 rintro e w' ⟨u, S, rfl, hs, hst⟩
 exact ⟨u, S, rfl, hs, h.more hst⟩
theorem TssIs.at_ {P Q : List (Nat × Obj)} {a : Option Addr} {n cap : Nat} {l : List (List UInt8)} (hs : TssIs (.slice a n cap) l S) (h : TbIs T B w0 w tb L (P ++ S ++ Q)) {i : Nat} {x : List UInt8} (hx : l[i]? = some x) :
  ∃ g off, a = some ⟨g, off, none⟩ ∧ w.cell? ⟨g, off + i, none⟩ = some (tx x) := by
 obtain ⟨X, hX, -⟩ := h.beside
 have h2 : St B w0 w ((X ++ P ++ Q) ++ S) := hX.perm (by
  simp only [List.append_assoc]
  exact List.Perm.append_left X (List.Perm.append_left P List.perm_append_comm))
 have hs' : SlIs _ _ _ _ _ _ := hs
 obtain ⟨a', cap', e, -, -, ha⟩ := hs'.form
 cases e
 obtain ⟨g, off, rfl⟩ := ha i (List.getElem?_eq_some_iff.1 hx).1
 exact ⟨g, off, rfl, hs'.cellAt h2 (by rw [List.getElem?_map, hx]; rfl)⟩
end
end Go.Proofs.YtknjamfjonapiaaGreatDoor
