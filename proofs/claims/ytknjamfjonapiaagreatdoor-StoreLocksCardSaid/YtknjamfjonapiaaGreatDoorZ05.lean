import Derived.Test.YtknjamfjonapiaaGreatDoorZ01
import Derived.Maps.AppendAt
import Derived.Laws.MakeOwn
import Derived.Laws.CopyOwn
import Derived.Lib.AppendZerosOnto
import Derived.Lib.Overlaps
import Derived.Test.YtknjamfjonapiaaGreatDoorZ04
import Derived.Maps.RangeRun
import Derived.Test.YtknjamfjonapiaaGreatDoorProg
namespace Go.Proofs.YtknjamfjonapiaaGreatDoor
open Go.RowKit
set_option linter.unusedVariables false
set_option linter.unusedSectionVars false
set_option linter.unusedSimpArgs false
set_option maxRecDepth 100000
def SlIs (T : TypeId) (size : Nat) (v : Value) (n : Nat) (xs : List Value) (F : List (Nat × Obj)) : Prop :=
 xs.length = n * size ∧ ((v = .slice none 0 0 ∧ n = 0 ∧ F = []) ∨
  ∃ g off cap cur, v = .slice (some ⟨g, off, none⟩) n cap ∧ F = [(g, .cells cur T (0, 0))] ∧ n ≤ cap ∧ cap ≤ maxLen ∧ off + cap * size ≤ cur.size ∧ (cur.toList.drop off).take (n * size) = xs)
def Reads (w : World) (x : Value) (m size : Nat) (news : List Value) : Prop :=
 news.length = m * size ∧ ((x = .slice none 0 0 ∧ m = 0) ∨ ∃ ad c, x = .slice (some ad) m c ∧ ∀ j u, news[j]? = some u → w.cell? (ad.add j) = some u)
section
variable {P : Program} {B : Nat} {w0 w w' : World} {A F : List (Nat × Obj)} {T : TypeId} {size n m : Nat} {v x : Value} {xs news : List Value}
theorem SlIs.nil : SlIs T size (.slice none 0 0) 0 [] [] := ⟨by simp, .inl ⟨rfl, rfl, rfl⟩⟩
theorem SlIs.made {g : Nat} {cs : List Value} (hl : cs.length = n * size) (hm : n ≤ maxLen) : SlIs T size (.slice (some ⟨g, 0, none⟩) n n) n cs [(g, .cells cs.toArray T (0, 0))] :=
 ⟨hl, .inr ⟨g, 0, n, _, rfl, rfl, Nat.le_refl _, hm, by simp [hl], by rw [List.drop_zero, List.take_of_length_le (by simp [hl])]⟩⟩
theorem SlIs.len (h : SlIs T size v n xs F) : xs.length = n * size := h.1
theorem SlIs.form (h : SlIs T size v n xs F) : ∃ a cap, v = .slice a n cap ∧ n ≤ cap ∧ cap ≤ maxLen ∧ ∀ k, k < n → ∃ g off, a = some ⟨g, off, none⟩ := by
 obtain ⟨_, ⟨h1, h2, _⟩ | ⟨g, off, cap, cur, h1, _, h3, h4, _⟩⟩ := h
 ·exact ⟨none, 0, by rw [h1, h2], by omega, Nat.zero_le _, fun k hk => by omega⟩
 ·exact ⟨_, cap, h1, h3, h4, fun _ _ => ⟨g, off, rfl⟩⟩
theorem SlIs.cellAt {g off cap : Nat} (h : SlIs T size (.slice (some ⟨g, off, none⟩) n cap) n xs F) (hst : St B w0 w (A ++ F)) {j : Nat} {u : Value} (hj : xs[j]? = some u) : w.cell? ⟨g, off + j, none⟩ = some u := by
 obtain ⟨hl, ⟨h1, _⟩ | ⟨g', off', cap', cur, h1, hF, h3, h4, h5, h6⟩⟩ := h
 ·cases h1
 ·cases h1
  subst hF
  have hlt : j < xs.length := (List.getElem?_eq_some_iff.1 hj).1
  have hle : n * size ≤ cap * size := Nat.mul_le_mul_right _ h3
  refine hst.cell (b := g) (c := cur) (T := T) (fr := (0, 0)) (by simp) ?_
  rw [← h6, List.getElem?_take, if_pos (by omega), List.getElem?_drop] at hj
  rw [← hj]
  simp
theorem SlIs.soft {g off cap : Nat} (h : SlIs T size (.slice (some ⟨g, off, none⟩) n cap) n xs F) (hst : St B w0 w (A ++ F)) (j : Nat) : w.frozen? ⟨g, j, none⟩ = false := by
 obtain ⟨hl, ⟨h1, _⟩ | ⟨g', off', cap', cur, h1, hF, h3, h4, h5, h6⟩⟩ := h
 ·cases h1
 ·cases h1
  subst hF
  exact hst.soft (b := g) (c := cur) (T := T) (by simp) j
theorem SlIs.set {g off cap : Nat} (h : SlIs T size (.slice (some ⟨g, off, none⟩) n cap) n xs F) (hst : St B w0 w (A ++ F)) (j : Nat) (u : Value) :
  ∃ F', SlIs T size (.slice (some ⟨g, off, none⟩) n cap) n (xs.set j u) F' ∧ St B w0 (w.setCell ⟨g, off + j, none⟩ u) (A ++ F') ∧ F'.map (·.1) = F.map (·.1) := by
 obtain ⟨hl, ⟨h1, _⟩ | ⟨g', off', cap', cur, h1, hF, h3, h4, h5, h6⟩⟩ := h
 ·cases h1
 ·cases h1
  subst hF
  refine ⟨[(g, .cells (cur.setIfInBounds (off + j) u) T (0, 0))], ⟨by simp [hl], .inr ⟨g, off, cap, _, rfl, rfl, h3, h4, by simpa using h5, ?_⟩⟩, hst.set (off + j) u, rfl⟩
  rw [Array.toList_setIfInBounds, ← h6, List.drop_set, if_neg (by omega), Nat.add_sub_cancel_left, List.take_set]
theorem SlIs.reads (h : SlIs T size v n xs F) (hst : St B w0 w (A ++ F)) : Reads w v n size xs := by
 refine ⟨h.1, ?_⟩
 have h' := h
 obtain ⟨hl, ⟨rfl, rfl, _⟩ | ⟨g', off', cap', cur, rfl, hF, h3, h4, h5, h6⟩⟩ := h
 ·exact .inl ⟨rfl, rfl⟩
 ·refine .inr ⟨_, _, rfl, fun j u hj => ?_⟩
  rw [Go.WideShapes.add_plain]
  exact h'.cellAt hst hj
theorem Reads.one (w : World) (u : Value) (T : TypeId) : Reads (w.alloc (.cells #[u] T)) (.slice (some ⟨w.heap.size, 0, none⟩) 1 1) 1 1 [u] := ⟨rfl, .inr ⟨_, _, rfl, cell_one_new w u T⟩⟩
theorem Reads.block {b : Nat} {cs : List Value} {fr : Nat × Nat} (h : w.heap[b]? = some (.cells cs.toArray T fr)) (hl : cs.length = n * size) (c : Nat) : Reads w (.slice (some ⟨b, 0, none⟩) n c) n size cs := by
 refine ⟨hl, .inr ⟨_, _, rfl, fun j u hj => ?_⟩⟩
 rw [Go.WideShapes.add_plain, Nat.zero_add]
 simp [World.cell?, h, hj]
theorem Reads.alloc (h : Reads w x m size news) (o : Obj) : Reads (w.alloc o) x m size news := by
 obtain ⟨hl, h | ⟨ad, c, rfl, h⟩⟩ := h
 ·exact ⟨hl, .inl h⟩
 ·exact ⟨hl, .inr ⟨ad, c, rfl, fun j u hj => (World.cell?_alloc_lt w o _ (World.block_lt_of_cell? w _ (h j u hj))).trans (h j u hj)⟩⟩
theorem Reads.drewN (h : Reads w x m size news) (k : Nat) : Reads (w.drewN k) x m size news := by
 obtain ⟨hl, h | ⟨ad, c, rfl, h⟩⟩ := h
 ·exact ⟨hl, .inl h⟩
 ·exact ⟨hl, .inr ⟨ad, c, rfl, fun j u hj => h j u hj⟩⟩
theorem run_append_room_off (w : World) (t ty e : TypeId) (i : TypeInfo) (ht : P.underlying t = some (.slice e)) (hi : P.info? e = some i)
  (g off sLen sCap : Nat) (cur : Array Value) (hg : w.heap[g]? = some (.cells cur e (0, 0)))
  (a : Addr) (m c : Nat) (news : List Value) (hl : news.length = m * i.size) (hnews : ∀ j u, news[j]? = some u → w.cell? (a.add j) = some u) (h1 : ∀ u ∈ news, u.oneCell' = true)
  (hroom : sLen + m ≤ sCap) (hfit : off + sLen * i.size + news.length ≤ cur.size) :
  (Builtin.append_ #[t, t] ty #[.slice (some ⟨g, off, none⟩) sLen sCap, .slice (some a) m c]).run P w =
   .ok (.slice (some ⟨g, off, none⟩) (sLen + m) sCap) (w.setRow g (cur.toList.take (off + sLen * i.size) ++ news ++ cur.toList.drop (off + sLen * i.size + news.length)).toArray) := by
 have hf := run_firstCells_some (P := P) w i.size m a m c news hl hnews
 have hst := run_storeCells_at P g (off + sLen * i.size) e news 0 cur w hg (by simpa using hfit) h1
 simp only [Nat.add_zero] at hst
 simp [Builtin.append_, run_underlying ht, sizeOf, typeInfo, hi, Builtin.lenOf, hroom, hf, Go.WideShapes.add_plain, hst]
theorem run_append_room_none (w : World) (t ty e : TypeId) (i : TypeInfo) (ht : P.underlying t = some (.slice e)) (hi : P.info? e = some i)
  (b : Option Addr) (sLen sCap : Nat) (hroom : sLen ≤ sCap) :
  (Builtin.append_ #[t, t] ty #[.slice b sLen sCap, .slice none 0 0]).run P w = .ok (.slice b sLen sCap) w := by
 have hf := run_firstCells_none (P := P) w i.size 0 0 0
 cases b with
 | none => simp [Builtin.append_, run_underlying ht, sizeOf, typeInfo, hi, Builtin.lenOf, hroom, hf]
 | some a => simp [Builtin.append_, run_underlying ht, sizeOf, typeInfo, hi, Builtin.lenOf, hroom, hf, storeCells]
theorem St.fresh (h : St B w0 w A) (o : Obj) : St B w0 (w.drew.alloc o) (A ++ [(w.heap.size, o)]) :=
 (h.drew.alloc o).perm (by simpa using (List.perm_middle (a := (w.heap.size, o)) (l₁ := A) (l₂ := [])).symm)
theorem St.setRow {b : Nat} {c c' : Array Value} {fr : Nat × Nat} (h : St B w0 w (A ++ [(b, .cells c T fr)])) : St B w0 (w.setRow b c') (A ++ [(b, .cells c' T fr)]) := by
 have hb := h.get (b := b) (o := .cells c T fr) (by simp)
 exact h.write (C := []) (setRow_heap w b c c' T fr hb) (fun k hk => setRow_other w b k c' hk) (by simp [World.setRow]) rfl rfl rfl
theorem run_append_sl (t ty e : TypeId) (i : TypeInfo) (z : Value) (size bytes : Nat) (ht : P.underlying t = some (.slice e)) (hi : P.info? e = some i) (hz : i.zero = some z)
  (hsize : i.size = size) (hby : i.bytes = bytes) (hzs : z.cells.size = size) (hs : SlIs e size v n xs F) (hst : St B w0 w (A ++ F)) (hx : Reads w x m size news) (h1 : ∀ u ∈ news, u.oneCell' = true)
  (h63 : n + m ≤ maxLen) (hbytes : (n + m) * bytes ≤ 140737488355328) :
  ∃ v' w' F', (Builtin.append_ #[t, t] ty #[v, x]).run P w = .ok v' w' ∧ SlIs e size v' (n + m) (xs ++ news) F' ∧ St B w0 w' (A ++ F') := by
 subst hsize hby
 have hsmall : n + m ≤ 9223372036854775807 := by simp only [maxLen] at h63; omega
 obtain ⟨hxl, ⟨rfl, rfl⟩ | ⟨ad, c, rfl, hnews⟩⟩ := hx
 ·have hn : news = [] := List.eq_nil_of_length_eq_zero (by simpa using hxl)
  subst hn
  rw [List.append_nil, Nat.add_zero]
  obtain ⟨a, cap, rfl, hcap, _, _⟩ := hs.form
  exact ⟨_, _, _, run_append_room_none w t ty e i ht hi a n cap hcap, hs, hst⟩
 ·have hlen : (xs ++ news).length = (n + m) * i.size := by rw [List.length_append, hs.1, hxl, Nat.add_mul]
  have grown : ∀ (old : Nat) (A' : List (Nat × Obj)), St B w0 w A' → SlIs e i.size (.slice (some ⟨w.heap.size, 0, none⟩) (n + m) (grownCap w (n + m) old e)) (n + m) (xs ++ news) [(w.heap.size, .cells (xs.toArray ++ news.toArray ++ Builtin.zeroCells z.cells (grownCap w (n + m) old e - (n + m))) e (0, 0))] ∧
    St B w0 (w.drew.alloc (.cells (xs.toArray ++ news.toArray ++ Builtin.zeroCells z.cells (grownCap w (n + m) old e - (n + m))) e)) (A' ++ [(w.heap.size, .cells (xs.toArray ++ news.toArray ++ Builtin.zeroCells z.cells (grownCap w (n + m) old e - (n + m))) e (0, 0))]) := by
   intro old A' hA'
   have hge := grownCap_ge w (n + m) old e
   refine ⟨⟨hlen, .inr ⟨_, _, _, _, rfl, rfl, hge, grownCap_le_maxLen w (n + m) old e h63, ?_, ?_⟩⟩, hA'.fresh _⟩
   ·simp only [Array.size_append, List.size_toArray, size_zeroCells, hzs, hs.1, hxl, ← Nat.add_mul, Nat.zero_add]
    refine Nat.mul_le_mul_right _ ?_
    omega
   ·simp only [Array.toList_append, List.append_assoc, List.drop_zero]
    rw [← List.append_assoc, ← hlen]
    exact List.take_left
  obtain ⟨hl, ⟨rfl, rfl, rfl⟩ | ⟨g, off, cap, cur, rfl, rfl, h3, h4, h5, h6⟩⟩ := hs
  ·have hx0 : xs = [] := List.eq_nil_of_length_eq_zero (by simpa using hl)
   subst hx0
   by_cases hm : m = 0
   ·subst hm
    have hn : news = [] := List.eq_nil_of_length_eq_zero (by simpa using hxl)
    subst hn
    refine ⟨.slice none 0 0, w, [], ?_, SlIs.nil, by simpa using hst⟩
    simp [Builtin.append_, run_underlying ht, sizeOf, typeInfo, hi, Builtin.lenOf, Builtin.firstCells, loadCells, loadCellsFrom]
   ·have hr := run_append_nil (P := P) w t ty e i z ht hi hz ad m c news hxl hnews (by omega) (by omega) (by have hb := hbytes; simp only [Nat.zero_add] at hb; omega)
    obtain ⟨e1, e2⟩ := grown 0 A (by simpa using hst)
    simp only [Nat.zero_add, List.nil_append, Array.empty_append] at e1 e2 ⊢
    exact ⟨_, _, _, hr, e1, e2⟩
  ·by_cases hroom : n + m ≤ cap
   ·have hb := hst.get (b := g) (o := .cells cur e (0, 0)) (by simp)
    have hfit : off + n * i.size + news.length ≤ cur.size := by
     have : (n + m) * i.size ≤ cap * i.size := Nat.mul_le_mul_right _ hroom
     rw [Nat.add_mul] at this
     omega
    have hr := run_append_room_off (P := P) w t ty e i ht hi g off n cap cur hb ad m c news hxl hnews h1 hroom hfit
    refine ⟨_, _, _, hr, ⟨hlen, .inr ⟨g, off, cap, _, rfl, rfl, hroom, h4, ?_, ?_⟩⟩, hst.setRow⟩
    ·simp only [List.size_toArray, List.length_append, List.length_take, List.length_drop, Array.length_toList]
     omega
    ·show List.take ((n + m) * i.size) (List.drop off (cur.toList.take (off + n * i.size) ++ news ++ cur.toList.drop (off + n * i.size + news.length))) = xs ++ news
     have h7 : cur.toList.take (off + n * i.size) = cur.toList.take off ++ xs := by rw [← h6, List.take_add]
     have h8 : (cur.toList.take off).length = off := by rw [List.length_take, Array.length_toList]; omega
     rw [h7, List.append_assoc, List.append_assoc, List.drop_left' h8, ← List.append_assoc, ← hlen]
     exact List.take_left
   ·have holds : ∀ j u, xs[j]? = some u → w.cell? ((⟨g, off, none⟩ : Addr).add j) = some u := fun j u hj => by
     rw [Go.WideShapes.add_plain]
     exact SlIs.cellAt ⟨hl, .inr ⟨g, off, cap, cur, rfl, rfl, h3, h4, h5, h6⟩⟩ hst hj
    have hr := run_append_grow (P := P) w t ty e i z ht hi hz ⟨g, off, none⟩ n cap xs hl holds ad m c news hxl hnews (by omega) (by omega) (growslice_fits (by omega) hbytes)
    obtain ⟨e1, e2⟩ := grown cap A (hst.sub (List.sublist_append_left _ _))
    exact ⟨_, _, _, hr, e1, e2⟩
theorem SlIs.piece (h : SlIs T size v n xs F) (lo hi : Nat) (h1 : lo ≤ hi) (h2 : hi ≤ n) :
  ∀ {a : Option Addr} {cap : Nat}, v = .slice a n cap → SlIs T size (.slice (if cap = lo then a else a.map (·.add (lo * size))) (hi - lo) (cap - lo)) (hi - lo) ((xs.drop (lo * size)).take ((hi - lo) * size)) F := by
 intro a cap e
 obtain ⟨hl, ⟨rfl, rfl, rfl⟩ | ⟨g, off, cap', cur, rfl, hF, h3, h4, h5, h6⟩⟩ := h
 ·cases e
  obtain rfl : lo = 0 := by omega
  obtain rfl : hi = 0 := by omega
  refine ⟨by simp, .inl ⟨by simp, rfl, rfl⟩⟩
 ·cases e
  have hlen : ((xs.drop (lo * size)).take ((hi - lo) * size)).length = (hi - lo) * size := by
   rw [List.length_take, List.length_drop, hl]
   have : hi * size ≤ n * size := Nat.mul_le_mul_right _ h2
   have e : (hi - lo) * size = hi * size - lo * size := Nat.sub_mul _ _ _
   omega
  refine ⟨hlen, .inr ?_⟩
  by_cases hc : cap = lo
  ·rw [if_pos hc]
   have e0 : hi - lo = 0 := by omega
   refine ⟨g, off, cap - lo, cur, rfl, hF, by omega, by omega, ?_, ?_⟩
   ·have : (cap - lo) * size ≤ cap * size := Nat.mul_le_mul_right _ (by omega)
    omega
   ·rw [e0, Nat.zero_mul, List.take_zero, List.take_zero]
  ·rw [if_neg hc]
   refine ⟨g, off + lo * size, cap - lo, cur, by simp [Go.WideShapes.add_plain], hF, by omega, by omega, ?_, ?_⟩
   ·have : (cap - lo) * size = cap * size - lo * size := Nat.sub_mul _ _ _
    have : lo * size ≤ cap * size := Nat.mul_le_mul_right _ (by omega)
    omega
   ·rw [← h6, List.drop_take, List.drop_drop, List.take_take]
    congr 1
    have e : (hi - lo) * size = hi * size - lo * size := Nat.sub_mul _ _ _
    have : hi * size ≤ n * size := Nat.mul_le_mul_right _ h2
    omega
theorem run_piece {t e : TypeId} {i : TypeInfo} (ht : P.underlying t = some (.slice e)) (hi : P.info? e = some i) (hsz : i.size = size) (h : SlIs e size v n xs F) (lo hi' : Nat) (h1 : lo ≤ hi') (h2 : hi' ≤ n) :
  ∃ v', SlIs e size v' (hi' - lo) ((xs.drop (lo * size)).take ((hi' - lo) * size)) F ∧
   (∀ w, (Instr.slice t v (some (.int .i64 lo)) (some (.int .i64 hi')) none).run P w = .ok v' w) ∧
   (hi' = n → ∀ w, (Instr.slice t v (some (.int .i64 lo)) none none).run P w = .ok v' w) ∧
   (lo = 0 → ∀ w, (Instr.slice t v none (some (.int .i64 hi')) none).run P w = .ok v' w) := by
 obtain ⟨a, cap, rfl, hc, _, _⟩ := h.form
 have e1 : hi' ≤ cap := by omega
 refine ⟨_, h.piece lo hi' h1 h2 rfl, fun w => ?_, fun e w => ?_, fun e w => ?_⟩
 ·simp [Instr.slice, run_underlying ht, Instr.sliceBounds, Instr.sliceBound, asIntOf, e1, h1, sizeOf, typeInfo, hi, hsz]
 ·subst e
  simp [Instr.slice, run_underlying ht, Instr.sliceBounds, Instr.sliceBound, asIntOf, h1, sizeOf, typeInfo, hi, hsz]
 ·subst e
  simp [Instr.slice, run_underlying ht, Instr.sliceBounds, Instr.sliceBound, asIntOf, e1, sizeOf, typeInfo, hi]
end
section
variable {P : Program} {B : Nat} {w0 w w' : World} {A F : List (Nat × Obj)} {T : TypeId} {size n m : Nat} {v x : Value} {xs news : List Value}
theorem take_splice {L : List Value} {p k : Nat} {c : List Value} (h : k ≤ p) (hp : p ≤ L.length) : (splice L p c).take k = L.take k := by
 unfold splice
 rw [List.take_append_of_le_length (by rw [List.length_take]; omega), List.take_take, Nat.min_eq_left h]
theorem drop_splice_ahead {L : List Value} {p k : Nat} {c : List Value} (h : k ≤ p) (hp : p ≤ L.length) : (splice L p c).drop k = splice (L.drop k) (p - k) c := by
 unfold splice
 rw [List.drop_append_of_le_length (by rw [List.length_take]; omega), List.drop_take, List.drop_drop]
 congr 3
 omega
theorem splice1 {L : List Value} {p : Nat} {c : List Value} (hl : p + c.length ≤ L.length) : (splice L p c).take (p + c.length) = L.take p ++ c := by
 unfold splice
 rw [← List.append_assoc]
 exact List.take_left' (by simp only [List.length_append, List.length_take]; omega)
theorem SlIs.block {g off cap : Nat} (h : SlIs T size (.slice (some ⟨g, off, none⟩) n cap) n xs F) : ∃ L : List Value, F = [(g, .cells L.toArray T (0, 0))] ∧ n ≤ cap ∧ cap ≤ maxLen ∧ off + cap * size ≤ L.length ∧ (L.drop off).take (n * size) = xs := by
 obtain ⟨hl, ⟨h1, _⟩ | ⟨g', off', cap', cur, h1, hF, h3, h4, h5, h6⟩⟩ := h
 ·cases h1
 ·cases h1
  exact ⟨cur.toList, by rw [hF], h3, h4, by simpa using h5, h6⟩
theorem SlIs.of {g off cap : Nat} {L : List Value} (h3 : n ≤ cap) (h4 : cap ≤ maxLen) (h5 : off + cap * size ≤ L.length) (h6 : (L.drop off).take (n * size) = xs) : SlIs T size (.slice (some ⟨g, off, none⟩) n cap) n xs [(g, .cells L.toArray T (0, 0))] := by
 refine ⟨?_, .inr ⟨g, off, cap, _, rfl, rfl, h3, h4, by simpa using h5, h6⟩⟩
 rw [← h6, List.length_take, List.length_drop]
 have : n * size ≤ cap * size := Nat.mul_le_mul_right _ h3
 omega
theorem St.setL {g : Nat} {L L' : List Value} (h : St B w0 w (A ++ [(g, .cells L.toArray T (0, 0))])) : St B w0 (w.setRow g L'.toArray) (A ++ [(g, .cells L'.toArray T (0, 0))]) := St.setRow h
theorem run_append_ty {dT sT ty ty' : TypeId} {d s : Value} {r : Result Value} (h : (Builtin.append_ #[dT, sT] ty #[d, s]).run P w = r) : (Builtin.append_ #[dT, sT] ty' #[d, s]).run P w = r := h
theorem wpList_append_go {ops : Array Oper} {rest : List Oper} {o : Oper} {a : Act} {Q : Exit → Act → World → Prop} (hgd : o.guard = none) (d s : Operand) (dT sT : TypeId)
  (ho : o.op = .call { callee := .builtin .append, args := #[d, s], argTypes := #[dT, sT] }) (vd vs : Value) (hed : a.eval d = vd) (hes : a.eval s = vs) {v' : Value} {w' : World}
  (hr : (Builtin.append_ #[dT, sT] 0 #[vd, vs]).run P w = .ok v' w') (h : wpList P ops Q rest (a.put o.dst v') w') : wpList P ops Q (o :: rest) a w := by
 refine wpList_plain hgd fun K hK => ?_
 have hr' := run_append_ty (ty' := o.type) hr
 unfold Oper.wp execOp
 simp only [ho, resolve, invoke, builtin, Sem.run_bind, Sem.run_pure, Result.andThen_ok, List.map_toArray, List.map_cons, List.map_nil, hed, hes, hr']
 exact hK _ _ h
theorem step_append_go {ops : Array Oper} {o : Oper} {a : Act} {K : Act → World → Prop} {Q : Exit → Act → World → Prop} {E : Prop} (hgd : o.guard = none) (d s : Operand) (dT sT : TypeId)
  (ho : o.op = .call { callee := .builtin .append, args := #[d, s], argTypes := #[dT, sT] }) (vd vs : Value) (hed : a.eval d = vd) (hes : a.eval s = vs) {v' : Value} {w' : World}
  (hr : (Builtin.append_ #[dT, sT] 0 #[vd, vs]).run P w = .ok v' w') (h : K (a.put o.dst v') w') : if Region.wanted o (yielded ops a.tmps) = true then Oper.wp P o a w K Q else E := by
 have hw : Region.wanted o (yielded ops a.tmps) = true := by simp [Region.wanted, hgd]
 rw [if_pos hw]
 have hr' := run_append_ty (ty' := o.type) hr
 unfold Oper.wp execOp
 simp only [ho, resolve, invoke, builtin, Sem.run_bind, Sem.run_pure, Result.andThen_ok, List.map_toArray, List.map_cons, List.map_nil, hed, hes, hr']
 exact h
theorem run_append_room_st {g off sLen sCap : Nat} {L : List Value} (t ty e : TypeId) (i : TypeInfo) (ht : P.underlying t = some (.slice e)) (hi : P.info? e = some i) (hsize : i.size = size)
  (hst : St B w0 w (A ++ [(g, .cells L.toArray e (0, 0))])) (hx : Reads w x m size news) (h1 : ∀ u ∈ news, u.oneCell' = true) (hroom : sLen + m ≤ sCap) (hfit : off + sLen * size + news.length ≤ L.length) :
  ∃ w', (Builtin.append_ #[t, t] ty #[.slice (some ⟨g, off, none⟩) sLen sCap, x]).run P w = .ok (.slice (some ⟨g, off, none⟩) (sLen + m) sCap) w' ∧ St B w0 w' (A ++ [(g, .cells (splice L (off + sLen * size) news).toArray e (0, 0))]) := by
 subst hsize
 obtain ⟨hxl, ⟨rfl, rfl⟩ | ⟨ad, c, rfl, hnews⟩⟩ := hx
 ·have hn : news = [] := List.eq_nil_of_length_eq_zero (by simpa using hxl)
  subst hn
  exact ⟨w, run_append_room_none w t ty e i ht hi _ sLen sCap hroom, by simpa [splice] using hst⟩
 ·have hb := hst.get (b := g) (o := .cells L.toArray e (0, 0)) (by simp)
  refine ⟨_, run_append_room_off (P := P) w t ty e i ht hi g off sLen sCap L.toArray hb ad m c news hxl hnews h1 hroom (by simpa using hfit), ?_⟩
  have := hst.setL (L' := splice L (off + sLen * i.size) news)
  simpa [splice] using this
theorem run_clear_ty {t ty ty' : TypeId} {d : Value} {r : Result Value} (h : (Builtin.clear_ #[t] ty #[d]).run P w = r) : (Builtin.clear_ #[t] ty' #[d]).run P w = r := h
theorem wpList_clear_go {ops : Array Oper} {rest : List Oper} {o : Oper} {a : Act} {Q : Exit → Act → World → Prop} (hgd : o.guard = none) (d : Operand) (t : TypeId)
  (ho : o.op = .call { callee := .builtin .clear, args := #[d], argTypes := #[t] }) (vd : Value) (hed : a.eval d = vd) {v' : Value} {w' : World}
  (hr : (Builtin.clear_ #[t] 0 #[vd]).run P w = .ok v' w') (h : wpList P ops Q rest (a.put o.dst v') w') : wpList P ops Q (o :: rest) a w := by
 refine wpList_plain hgd fun K hK => ?_
 have hr' := run_clear_ty (ty' := o.type) hr
 unfold Oper.wp execOp
 simp only [ho, resolve, invoke, builtin, Sem.run_bind, Sem.run_pure, Result.andThen_ok, List.map_toArray, List.map_cons, List.map_nil, hed, hr']
 exact hK _ _ h
theorem run_clear_st {g off k cap : Nat} {dp : Option Addr} {L : List Value} {z : Value} (t ty e : TypeId) (ht : P.underlying t = some (.slice e)) (hv : ∀ w, (zeroValue e).run P w = .ok z w) (hzs : z.cells.size = size) (hz1 : ∀ u ∈ z.cells.toList, u.oneCell' = true)
  (hst : St B w0 w (A ++ [(g, .cells L.toArray T (0, 0))])) (hd : 0 < k → dp = some ⟨g, off, none⟩) (hfit : off + k * size ≤ L.length) :
  ∃ (w' : World) (c : List Value), (Builtin.clear_ #[t] ty #[.slice dp k cap]).run P w = .ok (.tuple #[]) w' ∧ c.length = k * size ∧ St B w0 w' (A ++ [(g, .cells (splice L off c).toArray T (0, 0))]) := by
 have hb := hst.get (b := g) (o := .cells L.toArray T (0, 0)) (by simp)
 cases k with
 | zero =>
  refine ⟨w, [], ?_, by simp, by simpa [splice] using hst⟩
  cases dp <;> simp [Builtin.clear_, run_underlying ht]
 | succ k =>
  obtain rfl := hd (by omega)
  have hc : (Builtin.zeroCells z.cells (k + 1)).toList.length = (k + 1) * size := by simp [size_zeroCells, hzs]
  have hsto := run_storeCells_at P g off T (Builtin.zeroCells z.cells (k + 1)).toList 0 L.toArray w hb (by simpa [size_zeroCells, hzs] using hfit) (by
   intro u hu
   simp only [Builtin.zeroCells, Array.toList_map, List.mem_map] at hu
   obtain ⟨j, hj, rfl⟩ := hu
   have hj2 : j < (k + 1) * z.cells.size := by simpa using hj
   have hpos : 0 < z.cells.size := by
    rcases Nat.eq_zero_or_pos z.cells.size with h | h
    ·rw [h] at hj2; omega
    ·exact h
   have hlt : j % z.cells.size < z.cells.size := Nat.mod_lt _ hpos
   refine hz1 _ ?_
   rw [getElem!_pos z.cells _ hlt]
   simp)
  simp only [Nat.add_zero] at hsto
  refine ⟨_, (Builtin.zeroCells z.cells (k + 1)).toList, ?_, hc, hst.setL⟩
  simp [Builtin.clear_, run_underlying ht, hv, hsto, splice]
end
structure Ap (P : Program) (ts e : TypeId) (size bytes : Nat) : Prop where
 ty : P.underlying ts = some (.slice e)
 info : ∃ i z, P.info? e = some i ∧ i.zero = some z ∧ i.size = size ∧ i.bytes = bytes ∧ z.cells.size = size
structure AppRun (P : Program) (T : TypeId) (x y : Value) (w : World) (v : Value) (w' : World) : Prop where
 run : (Builtin.append_ #[T, T] 0 #[x, y]).run P w = .ok v w'
theorem step_app {P : Program} {w w' : World} {ops : Array Oper} {o : Oper} {a : Act} {K : Act → World → Prop} {Q : Exit → Act → World → Prop} {E : Prop} {x y v' : Value} (d s : Operand) (T : TypeId)
  (hr : AppRun P T x y w v' w') (hgd : o.guard = none) (ho : o.op = .call { callee := .builtin .append, args := #[d, s], argTypes := #[T, T] }) (hed : a.eval d = x) (hes : a.eval s = y)
  (h : K (a.put o.dst v') w') : if Region.wanted o (yielded ops a.tmps) = true then Oper.wp P o a w K Q else E :=
 step_append_go hgd d s T T ho x y hed hes hr.run h
section
variable {P : Program} {B : Nat} {w0 w : World} {A F : List (Nat × Obj)} {ts e : TypeId} {size bytes n m : Nat} {v x : Value} {xs news : List Value}
theorem Ap.append (hA : Ap P ts e size bytes) (hs : SlIs e size v n xs F) (hst : St B w0 w (A ++ F)) (hx : Reads w x m size news) (h1 : ∀ u ∈ news, u.oneCell' = true) (h63 : n + m ≤ maxLen) (hb : (n + m) * bytes ≤ 140737488355328) :
  ∃ a c W F', (Builtin.append_ #[ts, ts] 0 #[v, x]).run P w = .ok (.slice a (n + m) c) W ∧ SlIs e size (.slice a (n + m) c) (n + m) (xs ++ news) F' ∧ St B w0 W (A ++ F') := by
 obtain ⟨i, z, hi, hz, hs1, hs2, hs3⟩ := hA.info
 obtain ⟨v', W, F', h2, h3, h4⟩ := run_append_sl ts 0 e i z size bytes hA.ty hi hz hs1 hs2 hs3 hs hst hx h1 h63 hb
 obtain ⟨a, c, rfl, -⟩ := h3.form
 exact ⟨a, c, W, F', h2, h3, h4⟩
theorem Ap.copy (hA : Ap P ts e size bytes) (hst : St B w0 w A) (hx : Reads w x m size news) (h1 : ∀ u ∈ news, u.oneCell' = true) (h63 : m ≤ maxLen) (hb : m * bytes ≤ 140737488355328) :
  ∃ a c W F', (Builtin.append_ #[ts, ts] 0 #[.slice none 0 0, x]).run P w = .ok (.slice a m c) W ∧ SlIs e size (.slice a m c) m news F' ∧ St B w0 W (A ++ F') := by
 obtain ⟨a, c, W, F', h2, h3, h4⟩ := hA.append (SlIs.nil (T := e) (size := size)) (A := A) (by rw [List.append_nil]; exact hst) hx h1 (by omega) (by rw [Nat.zero_add]; exact hb)
 rw [Nat.zero_add] at h2 h3
 rw [List.nil_append] at h3
 exact ⟨a, c, W, F', h2, h3, h4⟩
theorem Ap.piece (hA : Ap P ts e size bytes) (h : SlIs e size v n xs F) (k : Nat) (hk : k ≤ n) :
  ∃ a1 c1 a2 c2, SlIs e size (.slice a1 k c1) k (xs.take (k * size)) F ∧ SlIs e size (.slice a2 (n - k) c2) (n - k) (xs.drop (k * size)) F ∧
   (∀ w, (Instr.slice ts v none (some (.int .i64 k)) none).run P w = .ok (.slice a1 k c1) w) ∧ (∀ w, (Instr.slice ts v (some (.int .i64 k)) none none).run P w = .ok (.slice a2 (n - k) c2) w) := by
 obtain ⟨i, z, hi, hz, hs1, hs2, hs3⟩ := hA.info
 obtain ⟨v1, h1, -, -, r1⟩ := run_piece hA.ty hi hs1 h 0 k (by omega) hk
 obtain ⟨v2, h2, -, r2, -⟩ := run_piece hA.ty hi hs1 h k n hk (by omega)
 obtain ⟨a1, c1, rfl, -⟩ := h1.form
 obtain ⟨a2, c2, rfl, -⟩ := h2.form
 rw [Nat.zero_mul, List.drop_zero, Nat.sub_zero] at h1
 rw [List.take_of_length_le (by
  rw [List.length_drop, h.len]
  have : (n - k) * size = n * size - k * size := Nat.sub_mul _ _ _
  omega)] at h2
 rw [Nat.sub_zero] at r1
 exact ⟨a1, c1, a2, c2, h1, h2, fun w => r1 rfl w, fun w => r2 rfl w⟩
end
def ecells (e : Ent) : List Value := [.int .i64 e.id, .int .i64 e.body, .int .i64 e.size, tx e.exch, tx e.key, .int .i64 e.prio, .int .i64 e.ttl, .int .i64 e.til, .bool e.again, .int .i64 e.hops]
def entsV (L : List Ent) : List Value := L.flatMap ecells
theorem entsV_cons (e : Ent) (L : List Ent) : entsV (e :: L) = ecells e ++ entsV L := rfl
theorem entsV_app (L M : List Ent) : entsV (L ++ M) = entsV L ++ entsV M := by simp [entsV]
theorem ecells_len (e : Ent) : (ecells e).length = 10 := rfl
theorem entsV_len : ∀ (L : List Ent), (entsV L).length = L.length * 10
 | [] => rfl
 | e :: L => by rw [entsV_cons, List.length_append, ecells_len, entsV_len L, List.length_cons]; omega
theorem entsV_at : ∀ {L : List Ent} {i : Nat} {e : Ent}, L[i]? = some e → ∀ {k : Nat} {v : Value}, (ecells e)[k]? = some v → (entsV L)[i * 10 + k]? = some v
 | [], _, _, h, _, _, _ => by simp at h
 | f :: L, 0, e, h, k, v, hk => by
  simp at h
  subst h
  have := (List.getElem?_eq_some_iff.1 hk).1
  rw [entsV_cons, Nat.zero_mul, Nat.zero_add, List.getElem?_append_left this]
  exact hk
 | f :: L, i + 1, e, h, k, v, hk => by
  rw [entsV_cons, List.getElem?_append_right (by rw [ecells_len]; omega), ecells_len, show (i + 1) * 10 + k - 10 = i * 10 + k by omega]
  exact entsV_at (by simpa using h) hk
theorem ecells_one (e : Ent) : ∀ u ∈ ecells e, u.oneCell' = true := fun u hu => by
 unfold ecells at hu
 simp only [List.mem_cons, List.not_mem_nil, or_false] at hu
 rcases hu with rfl | rfl | rfl | rfl | rfl | rfl | rfl | rfl | rfl | rfl <;> rfl
theorem entsV_one (L : List Ent) : ∀ u ∈ entsV L, u.oneCell' = true := fun u hu => by
 obtain ⟨e, -, h⟩ := List.mem_flatMap.1 hu
 exact ecells_one e u h
theorem entsV_drop (L : List Ent) (k : Nat) (h : k ≤ L.length) : entsV (L.drop k) = (entsV L).drop (k * 10) := by
 have h1 := congrArg entsV (List.take_append_drop k L)
 rw [entsV_app] at h1
 have l := entsV_len (L.take k)
 rw [List.length_take] at l
 exact (show entsV (L.drop k) = (entsV (L.take k) ++ entsV (L.drop k)).drop (k * 10) by
  rw [List.drop_append_of_le_length (by omega), List.drop_of_length_le (l := entsV (L.take k)) (by omega), List.nil_append]).trans (by rw [h1])
abbrev EnRow (w : World) (b o : Nat) (e : Ent) : Prop := w.cell? ⟨b, o, none⟩ = some (.int .i64 e.id) ∧ w.cell? ⟨b, o + 1, none⟩ = some (.int .i64 e.body) ∧ w.cell? ⟨b, o + 2, none⟩ = some (.int .i64 e.size) ∧ w.cell? ⟨b, o + 3, none⟩ = some (tx e.exch) ∧ w.cell? ⟨b, o + 4, none⟩ = some (tx e.key) ∧
 w.cell? ⟨b, o + 5, none⟩ = some (.int .i64 e.prio) ∧ w.cell? ⟨b, o + 6, none⟩ = some (.int .i64 e.ttl) ∧ w.cell? ⟨b, o + 7, none⟩ = some (.int .i64 e.til) ∧ w.cell? ⟨b, o + 8, none⟩ = some (.bool e.again) ∧ w.cell? ⟨b, o + 9, none⟩ = some (.int .i64 e.hops)
theorem EnRow.below {w w' : World} {b o : Nat} {e : Ent} (h : EnRow w b o e) (hb : Below w.heap.size w w') : EnRow w' b o e := by
 obtain ⟨h0, h1, h2, h3, h4, h5, h6, h7, h8, h9⟩ := h
 exact ⟨cellUp h0 hb, cellUp h1 hb, cellUp h2 hb, cellUp h3 hb, cellUp h4 hb, cellUp h5 hb, cellUp h6 hb, cellUp h7 hb, cellUp h8 hb, cellUp h9 hb⟩
def ReadEs (w : World) (a : Option Addr) (L : List Ent) : Prop := ∀ i e, L[i]? = some e → ∃ b off, a = some ⟨b, off, none⟩ ∧ EnRow w b (off + i * 10) e
theorem ReadEs.below {w w' : World} {a : Option Addr} {L : List Ent} (h : ReadEs w a L) (hb : Below w.heap.size w w') : ReadEs w' a L := fun i e hi => by
 obtain ⟨b, off, ha, hr⟩ := h i e hi
 exact ⟨b, off, ha, hr.below hb⟩
theorem ReadEs.nil (w : World) (a : Option Addr) : ReadEs w a [] := fun i e hi => by simp at hi
theorem apE : Ap Tryz.prog 46 51 10 96 where
 ty := by kernel_rfl
 info := by
  have h : (Tryz.prog.info? 51).map (fun i => (i.zero.map fun z => z.cells.size, i.size, i.bytes)) = some (some 10, 10, 96) := by kernel_rfl
  rw [Option.map_eq_some_iff] at h
  obtain ⟨i, h1, h2⟩ := h
  simp only [Prod.mk.injEq, Option.map_eq_some_iff] at h2
  obtain ⟨⟨z, h3, h4⟩, h5, h6⟩ := h2
  exact ⟨i, z, h1, h3, h5, h6, h4⟩
abbrev EnsIs (v : Value) (L : List Ent) (S : List (Nat × Obj)) : Prop := SlIs 51 10 v L.length (entsV L) S
theorem EnsIs.nil : EnsIs (.slice none 0 0) [] [] := SlIs.nil
section
variable {B : Nat} {w0 w : World} {S X Y F : List (Nat × Obj)} {a : Option Addr} {c c' k : Nat} {L M : List Ent} {v : Value}
theorem EnsIs.form (hs : EnsIs v L S) : ∃ a c, v = .slice a L.length c := by
 obtain ⟨a, c, e, -⟩ := SlIs.form hs
 exact ⟨a, c, e⟩
theorem EnsIs.read (hs : EnsIs (.slice a L.length c) L S) (hst : St B w0 w (X ++ S)) : ReadEs w a L := fun i e hi => by
 obtain ⟨a', c', e1, -, -, h⟩ := SlIs.form hs
 cases e1
 obtain ⟨g, off, rfl⟩ := h i (List.getElem?_eq_some_iff.1 hi).1
 refine ⟨g, off, rfl, SlIs.cellAt hs hst (entsV_at hi (k := 0) rfl), SlIs.cellAt hs hst (entsV_at hi (k := 1) rfl), SlIs.cellAt hs hst (entsV_at hi (k := 2) rfl), SlIs.cellAt hs hst (entsV_at hi (k := 3) rfl), SlIs.cellAt hs hst (entsV_at hi (k := 4) rfl),
  SlIs.cellAt hs hst (entsV_at hi (k := 5) rfl), SlIs.cellAt hs hst (entsV_at hi (k := 6) rfl), SlIs.cellAt hs hst (entsV_at hi (k := 7) rfl), SlIs.cellAt hs hst (entsV_at hi (k := 8) rfl), SlIs.cellAt hs hst (entsV_at hi (k := 9) rfl)⟩
theorem ens_push (hs : EnsIs (.slice a L.length c) L S) (hst : St B w0 w (X ++ S)) (e : Ent) (hl : L.length ≤ 100000) :
  ∃ a' c' W S', (Builtin.append_ #[46, 46] 0 #[.slice a L.length c, .slice (some ⟨w.heap.size, 0, none⟩) 1 1]).run Tryz.prog (w.alloc (enO e)) = .ok (.slice a' (L ++ [e]).length c') W ∧
   EnsIs (.slice a' (L ++ [e]).length c') (L ++ [e]) S' ∧ St B w0 W (X ++ S') := by
 have hst1 := hst.alloc (enO e)
 have hb := hst1.get (b := w.heap.size) (o := enO e) List.mem_cons_self
 obtain ⟨a', c', W, S', q1, q2, q3⟩ := apE.append (A := (w.heap.size, enO e) :: X) hs hst1 (Reads.block (cs := ecells e) (n := 1) (size := 10) hb rfl 1) (ecells_one _) (by unfold maxLen; omega) (by omega)
 have e1 : L.length + 1 = (L ++ [e]).length := by rw [List.length_append]; rfl
 rw [e1] at q1 q2
 rw [show entsV L ++ ecells e = entsV (L ++ [e]) by simp [entsV]] at q2
 exact ⟨a', c', W, S', q1, q2, q3.sub (List.sublist_cons_self _ _)⟩
theorem ens_app {a2 : Option Addr} {c2 : Nat} (hs : EnsIs (.slice a L.length c) L S) (hst : St B w0 w (X ++ S)) (h2 : EnsIs (.slice a2 M.length c2) M Y) (hst2 : St B w0 w (F ++ Y)) (hl : L.length + M.length ≤ 100000) :
  ∃ a' c' W S', (Builtin.append_ #[46, 46] 0 #[.slice a L.length c, .slice a2 M.length c2]).run Tryz.prog w = .ok (.slice a' (L ++ M).length c') W ∧
   EnsIs (.slice a' (L ++ M).length c') (L ++ M) S' ∧ St B w0 W (X ++ S') := by
 obtain ⟨a', c', W, S', q1, q2, q3⟩ := apE.append (A := X) hs hst (SlIs.reads (A := F) h2 hst2) (entsV_one _) (by unfold maxLen; omega) (by omega)
 have e1 : L.length + M.length = (L ++ M).length := by rw [List.length_append]
 rw [e1] at q1 q2
 rw [← entsV_app] at q2
 exact ⟨a', c', W, S', q1, q2, q3⟩
end
section
open Go.ChangeMaps (setBlock)
abbrev MapRow (α : Type) := α × Value × Nat
theorem nodup_len {α : Type} {l m : List α} (hn : l.Nodup) (hs : ∀ x ∈ l, x ∈ m) : l.length ≤ m.length := by
 classical
 induction l generalizing m with
 | nil => exact Nat.zero_le _
 | cons x r ih =>
  have hx := hs x List.mem_cons_self
  obtain ⟨h1, h2⟩ := List.nodup_cons.1 hn
  have h3 := ih (m := m.erase x) h2 fun y hy => (List.mem_erase_of_ne fun e : y = x => h1 (by rw [← e]; exact hy)).2 (hs y (List.mem_cons_of_mem _ hy))
  have h4 := List.length_erase_of_mem hx
  have h5 := List.length_pos_of_mem hx
  rw [List.length_cons]
  omega
section
variable {α : Type}
def entE (enc : α → Value) (x : MapRow α) : MapEntry := { key := enc x.1, val := x.2.1, born := x.2.2 }
def entsE (enc : α → Value) (l : List (MapRow α)) : Array MapEntry := (l.map (entE enc)).toArray
variable [DecidableEq α]
def seek (l : List (MapRow α)) (k : α) : Option (MapRow α) := l.find? (fun x => decide (x.1 = k))
def spot (l : List (MapRow α)) (k : α) (i : Nat) : Option (Nat × Value) := (l.findIdx? (fun x => decide (x.1 = k))).bind fun j => (l[j]?).map fun x => (i + j, x.2.1)
theorem spot_nil (k : α) (i : Nat) : spot ([] : List (MapRow α)) k i = none := rfl
theorem spot_hit (l : List (MapRow α)) (x : MapRow α) (i : Nat) : spot (x :: l) x.1 i = some (i, x.2.1) := by simp [spot, List.findIdx?_cons]
theorem spot_miss {l : List (MapRow α)} {x : MapRow α} {k : α} (h : x.1 ≠ k) (i : Nat) : spot (x :: l) k i = spot l k (i + 1) := by
 have h2 : decide (x.1 = k) = false := by simpa using h
 simp only [spot, List.findIdx?_cons, h2]
 cases hf : l.findIdx? (fun x => decide (x.1 = k)) with
 | none => simp
 | some j => simp [Nat.add_assoc, Nat.add_comm 1 j]
theorem spot_seek (l : List (MapRow α)) (k : α) (i : Nat) : (spot l k i).map (·.2) = (seek l k).map (·.2.1) := by
 induction l generalizing i with
 | nil => rfl
 | cons x l ih =>
  by_cases h : x.1 = k
  ·subst h
   rw [spot_hit]
   simp [seek]
  ·rw [spot_miss h, ih]
   have h2 : decide (x.1 = k) = false := by simpa using h
   simp [seek, List.find?_cons, h2]
structure KeyBy (P : Program) (K : TypeId) (enc : α → Value) (ok : World → α → Prop) : Prop where
 check : ∀ em n k w, (Instr.checkKey em (n + 1) K (enc k)).run P w = .ok () w
 find : ∀ (l : List (MapRow α)) k w, ok w k → (∀ x ∈ l, ok w x.1) → (Instr.findKey K (enc k) (l.map (entE enc))).run P w = .ok (spot l k 0) w
 same : ∀ k, Instr.sameBits 10000 (enc k) (enc k) = true
theorem findNow_by {d : TypeDesc} {enc : α → Value} (h : ∀ a b, Instr.sameNow d (enc a) (enc b) = some (decide (b = a))) (k : α) : ∀ (l : List (MapRow α)) (i : Nat),
  Instr.findNow d (enc k) (l.map (entE enc)) i = some (spot l k i)
 | [], i => rfl
 | x :: l, i => by
  simp only [List.map_cons, Instr.findNow, entE, h]
  by_cases hx : x.1 = k
  ·subst hx
   rw [spot_hit]
   simp
  ·have h2 : decide (x.1 = k) = false := by simpa using hx
   rw [h2]
   simp only
   rw [spot_miss hx]
   exact findNow_by h k l (i + 1)
theorem keyBy_now {P : Program} {K : TypeId} {d : TypeDesc} {enc : α → Value} (hK : P.underlying K = some d) (hc : ∀ em n k w, (Instr.checkKey em (n + 1) K (enc k)).run P w = .ok () w)
  (h : ∀ a b, Instr.sameNow d (enc a) (enc b) = some (decide (b = a))) (hs : ∀ k, Instr.sameBits 10000 (enc k) (enc k) = true) : KeyBy P K enc (fun _ _ => True) :=
 ⟨hc, fun l k w _ _ => by
  simp only [Instr.findKey]
  simp [run_underlying hK, findNow_by h k l 0], hs⟩
section
variable {P : Program} {T K E : TypeId} {w : World} {b : Nat} {l : List (MapRow α)} {clk : Nat} {enc : α → Value} {ok : World → α → Prop}
theorem run_lookE {z : Value} {c : Bool} (kb : KeyBy P K enc ok) (hT : P.underlying T = some (.map K E)) (hz : (zeroValue E).run P w = .ok z w) (hb : w.heap[b]? = some (.map (entsE enc l) clk)) {k : α} (h1 : ok w k) (h2 : ∀ x ∈ l, ok w x.1) :
  (Instr.lookup T (.map (some b)) (enc k) c).run P w = .ok (if c then .tuple #[((seek l k).map (·.2.1)).getD z, .bool (seek l k).isSome] else ((seek l k).map (·.2.1)).getD z) w := by
 have hf := spot_seek l k 0
 simp only [Instr.lookup]
 simp only [Sem.run_bind, run_underlying hT, MapKept.run_getObj_map hb, Result.andThen, kb.check, entsE, kb.find l k w h1 h2, Sem.run_pure]
 cases h1 : spot l k 0 with
 | none =>
  rw [h1] at hf
  cases h2 : seek l k with
  | none => cases c <;> simp [hz, Result.andThen]
  | some x => rw [h2] at hf; simp at hf
 | some y =>
  rw [h1] at hf
  cases h2 : seek l k with
  | none => rw [h2] at hf; simp at hf
  | some x =>
   rw [h2] at hf
   simp at hf
   cases c <;> simp [hf]
theorem run_lookE_nil {z : Value} {c : Bool} (kb : KeyBy P K enc ok) (hT : P.underlying T = some (.map K E)) (hz : (zeroValue E).run P w = .ok z w) {k : α} (h1 : ok w k) :
  (Instr.lookup T (.map none) (enc k) c).run P w = .ok (if c then .tuple #[z, .bool false] else z) w := by
 have hf := kb.find [] k w h1 (by simp)
 simp at hf
 simp only [Instr.lookup]
 cases c <;> simp [run_underlying hT, Result.andThen, kb.check, hf, hz, spot_nil]
theorem run_mapE_new (kb : KeyBy P K enc ok) (hT : P.underlying T = some (.map K E)) (hb : w.heap[b]? = some (.map (entsE enc l) clk)) {k : α} (h1 : ok w k) (h2 : ∀ x ∈ l, ok w x.1) (v : Value) (hn : seek l k = none) :
  (Instr.mapUpdate T (.map (some b)) (enc k) v).run P w = .ok () (setBlock w b (.map (entsE enc (l ++ [(k, v, clk)])) (clk + 1))) := by
 have hf := spot_seek l k 0
 rw [hn] at hf
 simp only [Instr.mapUpdate]
 simp only [Sem.run_bind, run_underlying hT, MapKept.run_getObj_map hb, Result.andThen, kb.check, entsE, kb.find l k w h1 h2]
 cases h1 : spot l k 0 with
 | some y => rw [h1] at hf; simp at hf
 | none =>
  simp [Sem.run, setObj, hb, setBlock, entE, entsE]
def putE (l : List (MapRow α)) (k : α) (v : Value) : List (MapRow α) := match l.findIdx? (fun x => decide (x.1 = k)) with
 | some j => l.modify j fun x => (k, v, x.2.2)
 | none => l
theorem run_mapE_old (kb : KeyBy P K enc ok) (hT : P.underlying T = some (.map K E)) (hb : w.heap[b]? = some (.map (entsE enc l) clk)) {k : α} (h1 : ok w k) (h2 : ∀ x ∈ l, ok w x.1) (v : Value) {y : MapRow α} (hn : seek l k = some y) :
  (Instr.mapUpdate T (.map (some b)) (enc k) v).run P w = .ok () (setBlock w b (.map (entsE enc (putE l k v)) clk)) := by
 simp only [Instr.mapUpdate]
 simp only [Sem.run_bind, run_underlying hT, MapKept.run_getObj_map hb, Result.andThen, kb.check, entsE, kb.find l k w h1 h2]
 unfold seek at hn
 have hj : ∃ j, l.findIdx? (fun x => decide (x.1 = k)) = some j := by
  cases hf : l.findIdx? (fun x => decide (x.1 = k)) with
  | some j => exact ⟨j, rfl⟩
  | none =>
   rw [List.findIdx?_eq_none_iff] at hf
   have := hf y (List.mem_of_find?_eq_some hn)
   have h3 := List.find?_some hn
   simp_all
 obtain ⟨j, hj⟩ := hj
 obtain ⟨hlt, hp, -⟩ := List.findIdx?_eq_some_iff_getElem.1 hj
 have hk : l[j].1 = k := by simpa using hp
 have hs : spot l k 0 = some (j, l[j].2.1) := by simp [spot, hj, hlt]
 rw [hs]
 have hkk : (((List.map (entE enc) l).toArray[j]?).map (·.key)).getD (enc k) = enc k := by simp [hlt, entE, hk]
 have hmod : (List.map (entE enc) l).toArray.modify j (fun e => { e with key := enc k, val := v }) = (List.map (entE enc) (l.modify j fun x => (k, v, x.2.2))).toArray := by
  apply Array.ext'
  simp only [Array.toList_modify]
  apply List.ext_getElem?
  intro i
  simp only [List.getElem?_modify, List.getElem?_map]
  cases l[i]? with
  | none => simp
  | some x => by_cases hi : j = i <;> simp [hi, entE]
 simp only [Sem.run_bind, hkk, Instr.keyThatStays, kb.same, if_true, Sem.run_pure, Result.andThen]
 simp only [putE, hj]
 rw [← hmod]
 simp [Sem.run, setObj, hb, setBlock]
theorem run_delE {ty : TypeId} (kb : KeyBy P K enc ok) (hT : P.underlying T = some (.map K E)) (hb : w.heap[b]? = some (.map (entsE enc l) clk)) {k : α} (h1 : ok w k) (h2 : ∀ x ∈ l, ok w x.1) :
  (Builtin.delete_ #[T, K] ty #[.map (some b), enc k]).run P w = .ok (.tuple #[]) (setBlock w b (.map (entsE enc (l.eraseP (fun x => decide (x.1 = k)))) clk)) := by
 have h0 : (Builtin.delete_ #[T, K] ty #[.map (some b), enc k]) = (do
  let .map keyType _ ← underlying T | stuck "delete: map type expected"
  let .map es clock ← getObj b | stuck "delete: map expected"
  Instr.checkKey es.isEmpty 10000 keyType (enc k)
  match ← Instr.findKey keyType (enc k) es.toList with
  | some (i, _) => setObj b (.map (es.eraseIdxIfInBounds i) clock)
  | none => setObj b (.map es clock)
  pure (.tuple #[])) := rfl
 rw [h0]
 simp only [Sem.run_bind, run_underlying hT, MapKept.run_getObj_map hb, Result.andThen, kb.check, entsE, kb.find l k w h1 h2]
 cases hj : l.findIdx? (fun x => decide (x.1 = k)) with
 | none =>
  have h2 : l.eraseP (fun x => decide (x.1 = k)) = l := List.eraseP_of_forall_not (by simpa [List.findIdx?_eq_none_iff] using hj)
  simp [spot, hj, Sem.run, setObj, hb, setBlock, h2, Result.andThen, entsE]
 | some j =>
  have hlt : j < l.length := (List.findIdx?_eq_some_iff_getElem.1 hj).1
  have h2 : l.eraseP (fun x => decide (x.1 = k)) = l.eraseIdx j := by rw [List.eraseP_eq_eraseIdx, hj]
  simp [spot, hj, hlt, Sem.run, setObj, hb, setBlock, h2, Result.andThen, Array.eraseIdxIfInBounds, ChangeMaps.map_eraseIdx, entsE]
theorem wpList_delE {ops : Array Oper} {rest : List Oper} {o : Oper} {a : Act} {Q : Exit → Act → World → Prop} (hg : o.guard = none) (x y : Operand)
  (hop : o.op = Op.call { callee := Callee.builtin Builtin.delete, args := #[x, y], argTypes := #[T, K] })
  (kb : KeyBy P K enc ok) (hT : P.underlying T = some (.map K E)) (hx : a.eval x = .map (some b)) (hb : w.heap[b]? = some (.map (entsE enc l) clk)) {k : α} (h1 : ok w k) (h2 : ∀ x ∈ l, ok w x.1) (hy : a.eval y = enc k)
  (h : ∀ w', Hid (w' = setBlock w b (.map (entsE enc (l.eraseP (fun x => decide (x.1 = k)))) clk)) → wpList P ops Q rest (a.put o.dst (.tuple #[])) w') :
  wpList P ops Q (o :: rest) a w := by
 refine wpList_plain hg fun K' hK' => ?_
 have hrun := run_delE (ty := o.type) kb hT hb h1 h2
 unfold Oper.wp
 simp [execOp, hop, resolve, invoke, builtin, hx, hy, hrun, Result.andThen]
 exact hK' _ _ (h _ rfl)
theorem run_lenE {ty : TypeId} (hT : P.underlying T = some (.map K E)) (hb : w.heap[b]? = some (.map (entsE enc l) clk)) :
  (Builtin.len_ #[T] ty #[.map (some b)]).run P w = .ok (.int .i64 l.length) w := by
 simp [Builtin.len_, run_underlying hT, MapKept.run_getObj_map hb, goInt, Result.andThen, entsE]
theorem run_lenE_nil {ty : TypeId} (hT : P.underlying T = some (.map K E)) :
  (Builtin.len_ #[T] ty #[.map none]).run P w = .ok (.int .i64 0) w := by
 simp [Builtin.len_, run_underlying hT, goInt, Result.andThen]
end
section
variable {P : Program} {w : World} {b r : Nat} {l : List (MapRow α)} {clk : Nat} {enc : α → Value}
def IterAt (w : World) (b r : Nat) (enc : α → Value) (l : List (MapRow α)) (clk : Nat) (done : List (MapRow α)) : Prop :=
 w.heap[b]? = some (.map (entsE enc l) clk) ∧ ∃ seen : Array Nat, w.heap[r]? = some (.mapIter (some b) clk seen clk) ∧ done.Nodup ∧ (∀ e ∈ done, e ∈ l) ∧ ∀ e ∈ l, (e ∈ done ↔ e.2.2 ∈ seen)
def Born (l : List (MapRow α)) (clk : Nat) : Prop := (l.map (·.2.2)).Nodup ∧ ∀ e ∈ l, e.2.2 < clk
theorem Born.inj (h : Born l clk) {x y : MapRow α} (hx : x ∈ l) (hy : y ∈ l) (e : x.2.2 = y.2.2) : x = y := by
 obtain ⟨i, hi⟩ := List.getElem?_of_mem hx
 obtain ⟨j, hj⟩ := List.getElem?_of_mem hy
 have hil := (List.getElem?_eq_some_iff.1 hi).1
 have : i = j := (List.getElem?_inj (by simpa using hil) h.1).1 (by simp [hi, hj, e])
 subst this
 rw [hi] at hj; cases hj; rfl
theorem IterAt.ne {done : List (MapRow α)} (h : IterAt w b r enc l clk done) : r ≠ b := by
 obtain ⟨h1, seen, h2, -⟩ := h
 rintro rfl
 rw [h1] at h2
 cases h2
theorem IterAt.kept {done : List (MapRow α)} {w' : World} (h : IterAt w b r enc l clk done) (h1 : w'.heap[b]? = w.heap[b]?) (h2 : w'.heap[r]? = w.heap[r]?) : IterAt w' b r enc l clk done := by
 obtain ⟨g1, seen, g2, g3⟩ := h
 exact ⟨h1.trans g1, seen, h2.trans g2, g3⟩
theorem IterAt.next {done : List (MapRow α)} (h : IterAt w b r enc l clk done) (hB : Born l clk) (hn : l.Nodup) (ty : TypeId) :
  (done.Perm l ∧ (Instr.next (.pointer (some ⟨r, 0, none⟩)) false ty).run P w = .ok (.tuple #[.bool false]) w) ∨
  ∃ e, e ∈ l ∧ e ∉ done ∧ ∃ w', (Instr.next (.pointer (some ⟨r, 0, none⟩)) false ty).run P w = .ok (.tuple #[.bool true, enc e.1, e.2.1]) w' ∧
   IterAt w' b r enc l clk (done ++ [e]) ∧ (∀ k, k ≠ r → w'.heap[k]? = w.heap[k]?) ∧ w'.heap.size = w.heap.size ∧ w'.os = w.os ∧ w'.tape = w.tape ∧ w'.output = w.output ∧
   (Instr.entry (.pointer (some ⟨r, 0, none⟩))).run P w' = .ok (.tuple #[enc e.1, e.2.1]) w' := by
 have hne := h.ne
 obtain ⟨h1, seen, h2, h3, h4, h5⟩ := h
 have hold : ∀ x ∈ (entsE enc l).toList, x.born < clk := by
  intro x hx
  simp only [entsE, List.mem_map] at hx
  obtain ⟨e, he, rfl⟩ := hx
  exact hB.2 e he
 rcases run_next_at (P := P) w ty r b clk clk seen (entsE enc l) clk h2 h1 hold (Nat.le_refl _) with ⟨h0, hrun⟩ | ⟨x, hx, w1, hal, hrun⟩
 ·refine .inl ⟨(List.perm_ext_iff_of_nodup h3 hn).2 fun e => ⟨h4 e, fun he => (h5 e he).2 ?_⟩, hrun⟩
  unfold leftOf at h0
  rw [Array.size_eq_zero_iff, Array.filter_eq_empty_iff] at h0
  have := h0 (entE enc e) (by simp only [entsE, List.mem_toArray, List.mem_map]; exact ⟨e, he, rfl⟩)
  simpa [entE] using this
 ·unfold leftOf at hx
  simp only [Array.toList_filter, List.mem_filter] at hx
  obtain ⟨hx1, hx2⟩ := hx
  simp only [entsE, List.mem_map] at hx1
  obtain ⟨e, he, rfl⟩ := hx1
  have hd : e ∉ done := fun hd => by
   have := (h5 e he).1 hd
   simp [entE] at hx2
   exact hx2 this
  have hr1 : w1.heap[r]? = some (.mapIter (some b) clk seen clk) := by rcases hal with rfl | rfl <;> exact h2
  have hlt := (Array.getElem?_eq_some_iff.1 hr1).1
  have hset1 : (setBlock w1 r (.mapIter (some b) clk (seen.push (entE enc e).born) clk)).heap[r]? = some (.mapIter (some b) clk (seen.push (entE enc e).born) clk) := by simp [setBlock, hlt]
  have hset2 : ∀ k, k ≠ r → (setBlock w1 r (.mapIter (some b) clk (seen.push (entE enc e).born) clk)).heap[k]? = w.heap[k]? := fun k hk => by
   simp only [setBlock]
   rw [Array.getElem?_setIfInBounds_ne (Ne.symm hk)]
   rcases hal with rfl | rfl <;> rfl
  have hb1 : (setBlock w1 r (.mapIter (some b) clk (seen.push (entE enc e).born) clk)).heap[b]? = some (.map (entsE enc l) clk) := (hset2 b (Ne.symm hne)).trans h1
  refine .inr ⟨e, he, hd, _, hrun, ⟨hb1, _, hset1, ?_, ?_, ?_⟩, hset2, ?_, ?_, ?_, ?_, ?_⟩
  ·rw [List.nodup_append]
   exact ⟨h3, by simp, by rintro a ha b hb rfl; rw [List.mem_singleton] at hb; subst hb; exact hd ha⟩
  ·intro y hy
   rcases List.mem_append.1 hy with hy | hy
   ·exact h4 y hy
   ·rw [List.mem_singleton] at hy; subst hy; exact he
  ·intro y hy
   rw [List.mem_append, List.mem_singleton, h5 y hy, Array.mem_push]
   exact or_congr Iff.rfl ⟨fun e => by rw [e]; rfl, fun e1 => hB.inj hy he e1⟩
  ·rcases hal with rfl | rfl <;> simp [setBlock]
  ·rcases hal with rfl | rfl <;> rfl
  ·rcases hal with rfl | rfl <;> rfl
  ·rcases hal with rfl | rfl <;> rfl
  ·refine run_entry_at (e := entE enc e) _ r b clk seen (entsE enc l) clk hset1 hb1 ?_ ?_
   ·simp only [entsE, List.mem_map]
    exact ⟨e, he, rfl⟩
   ·have : (entsE enc l).toList.map (·.born) = l.map (·.2.2) := by simp [entsE, entE, Function.comp_def]
    rw [this]
    exact hB.1
end
end
end
section
open Go.ChangeMaps (setBlock)
section
variable {α : Type} [DecidableEq α]
theorem seek_none {l : List (MapRow α)} {k : α} : seek l k = none ↔ k ∉ l.map (·.1) := by
 unfold seek
 rw [List.find?_eq_none]
 simp only [decide_eq_true_eq, List.mem_map, not_exists, not_and]
theorem seek_mem {l : List (MapRow α)} {k : α} {e : MapRow α} (h : seek l k = some e) : e ∈ l ∧ e.1 = k := by
 unfold seek at h
 exact ⟨List.mem_of_find?_eq_some h, by simpa using List.find?_some h⟩
theorem seek_some {l : List (MapRow α)} {e : MapRow α} (hn : (l.map (·.1)).Nodup) (h : e ∈ l) : seek l e.1 = some e := by
 cases hs : seek l e.1 with
 | none => exact absurd (List.mem_map_of_mem h) (seek_none.1 hs)
 | some x =>
  obtain ⟨h1, h2⟩ := seek_mem hs
  obtain ⟨i, hi⟩ := List.getElem?_of_mem h
  obtain ⟨j, hj⟩ := List.getElem?_of_mem h1
  have hil := (List.getElem?_eq_some_iff.1 hi).1
  have : i = j := (List.getElem?_inj (by simpa using hil) hn).1 (by simp [hi, hj, h2])
  subst this
  rw [hi] at hj; cases hj; rfl
theorem seek_isSome {l : List (MapRow α)} {k : α} : (seek l k).isSome = decide (k ∈ l.map (·.1)) := by
 cases hs : seek l k with
 | none => simpa using seek_none.1 hs
 | some e =>
  obtain ⟨h1, h2⟩ := seek_mem hs
  have : k ∈ l.map (·.1) := h2 ▸ List.mem_map_of_mem h1
  simp only [Option.isSome_some, true_eq_decide_iff]
  exact this
def restE (es : List (MapRow α)) (k : α) : List (MapRow α) := es.eraseP (fun x => decide (x.1 = k))
theorem rest_sub (es : List (MapRow α)) (k : α) : (restE es k).Sublist es := List.eraseP_sublist
theorem rest_eq {es : List (MapRow α)} (hn : (es.map (·.1)).Nodup) (k : α) : restE es k = es.filter fun x => decide (x.1 ≠ k) := by
 unfold restE
 induction es with
 | nil => rfl
 | cons x es ih =>
  rw [List.map_cons, List.nodup_cons] at hn
  by_cases hx : x.1 = k
  ·rw [List.eraseP_cons_of_pos (by simpa using hx), List.filter_cons_of_neg (by simpa using hx)]
   refine (List.filter_eq_self.2 fun y hy => ?_).symm
   have : y.1 ≠ k := fun e => hn.1 (hx ▸ e ▸ List.mem_map_of_mem hy)
   simpa using this
  ·rw [List.eraseP_cons_of_neg (by simpa using hx), List.filter_cons_of_pos (by simpa using hx), ih hn.2]
end
abbrev encI : Int → Value := fun k => .int .i64 k
theorem uInt12 : Tryz.prog.underlying 3 = some (.int .i64) := by kernel_rfl
theorem keyI : KeyBy Tryz.prog 3 encI (fun _ _ => True) := keyBy_now uInt12 (fun em n k w => by simp [Instr.checkKey, run_underlying uInt12])
 (fun a b => by
  have h : Instr.sameNow (.int .i64) (encI a) (encI b) = some (a == b) := rfl
  rw [h, Option.some.injEq, Bool.eq_iff_iff, beq_iff_eq, decide_eq_true_iff]
  exact eq_comm) (fun k => by
  have h : Instr.sameBits 10000 (encI k) (encI k) = (IntKind.i64 == IntKind.i64 && k == k) := rfl
  rw [h, beq_self_eq_true k]
  rfl)
end
end Go.Proofs.YtknjamfjonapiaaGreatDoor
