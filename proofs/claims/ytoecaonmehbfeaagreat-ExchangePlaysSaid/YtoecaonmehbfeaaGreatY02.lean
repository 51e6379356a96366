/- A slice that the call owns, wherever in its block it begins: SlIs T size v n xs F says that the value v is a slice of n elements with the cells xs, and that F lists the block that it lies in (or nothing). Appended to and cut, it is one again, A slice of texts that the call owns, SameTexts of equal ones, Bindings as cells; a slice of them that the call owns; slices.Contains, strings.Clone, Names among names: slices.Contains, the document's has; a binding in memory of its own. -/
import Derived.Test.YtoecaonmehbfeaaGreatY01
import Derived.Maps.AppendAt
import Derived.Laws.MakeOwn
import Derived.Deep.LoopGhost
import Derived.Deep.QuietTactic
import Derived.BigQuiet
import Derived.Lib.Hide
import Derived.Laws.StructEq
import Derived.Lib.BufferWrite
import Derived.Deep.RegionHeld3
/- A slice that the call owns, wherever in its block it begins: SlIs T size v n xs F says that the value v is a slice of n elements with the cells xs, and that F lists the block that it lies in (or nothing). Appended to and cut, it is one again. -/
namespace Go.Proofs.YtoecaonmehbfeaaGreat
open Go.RowKit
set_option maxRecDepth 100000

def SlIs (T : TypeId) (size : Nat) (v : Value) (n : Nat) (xs : List Value) (F : List (Nat × Obj)) : Prop :=
  xs.length = n * size ∧ ((v = .slice none 0 0 ∧ n = 0 ∧ F = []) ∨
    ∃ g off cap cur, v = .slice (some ⟨g, off, none⟩) n cap ∧ F = [(g, .cells cur T (0, 0))] ∧ n ≤ cap ∧ cap ≤ maxLen ∧ off + cap * size ≤ cur.size ∧ (cur.toList.drop off).take (n * size) = xs)

/-- In w the value x reads as m elements with the cells news. -/
def Reads (w : World) (x : Value) (m size : Nat) (news : List Value) : Prop :=
  news.length = m * size ∧ ((x = .slice none 0 0 ∧ m = 0) ∨ ∃ ad c, x = .slice (some ad) m c ∧ ∀ j u, news[j]? = some u → w.cell? (ad.add j) = some u)

section
variable {P : Program} {B : Nat} {w0 w w' : World} {A F : List (Nat × Obj)} {T : TypeId} {size n m : Nat} {v x : Value} {xs news : List Value}

theorem SlIs.nil : SlIs T size (.slice none 0 0) 0 [] [] := ⟨by simp, .inl ⟨rfl, rfl, rfl⟩⟩
theorem SlIs.made {g : Nat} {cs : List Value} (hl : cs.length = n * size) (hm : n ≤ maxLen) : SlIs T size (.slice (some ⟨g, 0, none⟩) n n) n cs [(g, .cells cs.toArray T (0, 0))] :=
  ⟨hl, .inr ⟨g, 0, n, _, rfl, rfl, Nat.le_refl _, hm, by simp [hl], by rw [List.drop_zero, List.take_of_length_le (by simp [hl])]⟩⟩

theorem SlIs.len (h : SlIs T size v n xs F) : xs.length = n * size := h.1
theorem SlIs.form (h : SlIs T size v n xs F) : ∃ a cap, v = .slice a n cap ∧ n ≤ cap ∧ cap ≤ maxLen ∧ ∀ k, k < n → ∃ g off, a = some ⟨g, off, none⟩ := by
  obtain ⟨_, ⟨h1, h2, _⟩ | ⟨g, off, cap, cur, h1, _, h3, h4, _⟩⟩ := h
  · exact ⟨none, 0, by rw [h1, h2], by omega, Nat.zero_le _, fun k hk => by omega⟩
  · exact ⟨_, cap, h1, h3, h4, fun _ _ => ⟨g, off, rfl⟩⟩

/-- The cells where the value says. -/
theorem SlIs.cellAt {g off cap : Nat} (h : SlIs T size (.slice (some ⟨g, off, none⟩) n cap) n xs F) (hst : St B w0 w (A ++ F)) {j : Nat} {u : Value} (hj : xs[j]? = some u) : w.cell? ⟨g, off + j, none⟩ = some u := by
  obtain ⟨hl, ⟨h1, _⟩ | ⟨g', off', cap', cur, h1, hF, h3, h4, h5, h6⟩⟩ := h
  · cases h1
  · cases h1
    subst hF
    have hlt : j < xs.length := (List.getElem?_eq_some_iff.1 hj).1
    have hle : n * size ≤ cap * size := Nat.mul_le_mul_right _ h3
    refine hst.cell (b := g) (c := cur) (T := T) (fr := (0, 0)) (by simp) ?_
    rw [← h6, List.getElem?_take, if_pos (by omega), List.getElem?_drop] at hj
    rw [← hj]
    simp
theorem SlIs.soft {g off cap : Nat} (h : SlIs T size (.slice (some ⟨g, off, none⟩) n cap) n xs F) (hst : St B w0 w (A ++ F)) (j : Nat) : w.frozen? ⟨g, j, none⟩ = false := by
  obtain ⟨hl, ⟨h1, _⟩ | ⟨g', off', cap', cur, h1, hF, h3, h4, h5, h6⟩⟩ := h
  · cases h1
  · cases h1
    subst hF
    exact hst.soft (b := g) (c := cur) (T := T) (by simp) j

/-- A cell of the slice turned. -/
theorem SlIs.set {g off cap : Nat} (h : SlIs T size (.slice (some ⟨g, off, none⟩) n cap) n xs F) (hst : St B w0 w (A ++ F)) (j : Nat) (u : Value) :
    ∃ F', SlIs T size (.slice (some ⟨g, off, none⟩) n cap) n (xs.set j u) F' ∧ St B w0 (w.setCell ⟨g, off + j, none⟩ u) (A ++ F') ∧ F'.map (·.1) = F.map (·.1) := by
  obtain ⟨hl, ⟨h1, _⟩ | ⟨g', off', cap', cur, h1, hF, h3, h4, h5, h6⟩⟩ := h
  · cases h1
  · cases h1
    subst hF
    refine ⟨[(g, .cells (cur.setIfInBounds (off + j) u) T (0, 0))], ⟨by simp [hl], .inr ⟨g, off, cap, _, rfl, rfl, h3, h4, by simpa using h5, ?_⟩⟩, hst.set (off + j) u, rfl⟩
    rw [Array.toList_setIfInBounds, ← h6, List.drop_set, if_neg (by omega), Nat.add_sub_cancel_left, List.take_set]

theorem SlIs.reads (h : SlIs T size v n xs F) (hst : St B w0 w (A ++ F)) : Reads w v n size xs := by
  refine ⟨h.1, ?_⟩
  have h' := h
  obtain ⟨hl, ⟨rfl, rfl, _⟩ | ⟨g', off', cap', cur, rfl, hF, h3, h4, h5, h6⟩⟩ := h
  · exact .inl ⟨rfl, rfl⟩
  · refine .inr ⟨_, _, rfl, fun j u hj => ?_⟩
    rw [Go.WideShapes.add_plain]
    exact h'.cellAt hst hj
theorem Reads.one (w : World) (u : Value) (T : TypeId) : Reads (w.alloc (.cells #[u] T)) (.slice (some ⟨w.heap.size, 0, none⟩) 1 1) 1 1 [u] := ⟨rfl, .inr ⟨_, _, rfl, cell_one_new w u T⟩⟩
theorem Reads.block {b : Nat} {cs : List Value} {fr : Nat × Nat} (h : w.heap[b]? = some (.cells cs.toArray T fr)) (hl : cs.length = n * size) (c : Nat) : Reads w (.slice (some ⟨b, 0, none⟩) n c) n size cs := by
  refine ⟨hl, .inr ⟨_, _, rfl, fun j u hj => ?_⟩⟩
  rw [Go.WideShapes.add_plain, Nat.zero_add]
  simp [World.cell?, h, hj]
theorem Reads.alloc (h : Reads w x m size news) (o : Obj) : Reads (w.alloc o) x m size news := by
  obtain ⟨hl, h | ⟨ad, c, rfl, h⟩⟩ := h
  · exact ⟨hl, .inl h⟩
  · exact ⟨hl, .inr ⟨ad, c, rfl, fun j u hj => (World.cell?_alloc_lt w o _ (World.block_lt_of_cell? w _ (h j u hj))).trans (h j u hj)⟩⟩

theorem Reads.drewN (h : Reads w x m size news) (k : Nat) : Reads (w.drewN k) x m size news := by
  obtain ⟨hl, h | ⟨ad, c, rfl, h⟩⟩ := h
  · exact ⟨hl, .inl h⟩
  · exact ⟨hl, .inr ⟨ad, c, rfl, fun j u hj => h j u hj⟩⟩

/-- 'append', into the room that there is, wherever the slice begins. -/
theorem run_append_room_off (w : World) (t ty e : TypeId) (i : TypeInfo) (ht : P.underlying t = some (.slice e)) (hi : P.info? e = some i)
    (g off sLen sCap : Nat) (cur : Array Value) (hg : w.heap[g]? = some (.cells cur e (0, 0)))
    (a : Addr) (m c : Nat) (news : List Value) (hl : news.length = m * i.size) (hnews : ∀ j u, news[j]? = some u → w.cell? (a.add j) = some u) (h1 : ∀ u ∈ news, u.oneCell' = true)
    (hroom : sLen + m ≤ sCap) (hfit : off + sLen * i.size + news.length ≤ cur.size) :
    (Builtin.append_ #[t, t] ty #[.slice (some ⟨g, off, none⟩) sLen sCap, .slice (some a) m c]).run P w =
      .ok (.slice (some ⟨g, off, none⟩) (sLen + m) sCap) (w.setRow g (cur.toList.take (off + sLen * i.size) ++ news ++ cur.toList.drop (off + sLen * i.size + news.length)).toArray) := by
  have hf := run_firstCells_some (P := P) w i.size m a m c news hl hnews
  have hst := run_storeCells_at P g (off + sLen * i.size) e news 0 cur w hg (by simpa using hfit) h1
  simp only [Nat.add_zero] at hst
  simp [Builtin.append_, run_underlying ht, sizeOf, typeInfo, hi, Builtin.lenOf, hroom, hf, Go.WideShapes.add_plain, hst]

theorem run_append_room_none (w : World) (t ty e : TypeId) (i : TypeInfo) (ht : P.underlying t = some (.slice e)) (hi : P.info? e = some i)
    (b : Option Addr) (sLen sCap : Nat) (hroom : sLen ≤ sCap) :
    (Builtin.append_ #[t, t] ty #[.slice b sLen sCap, .slice none 0 0]).run P w = .ok (.slice b sLen sCap) w := by
  have hf := run_firstCells_none (P := P) w i.size 0 0 0
  cases b with
  | none => simp [Builtin.append_, run_underlying ht, sizeOf, typeInfo, hi, Builtin.lenOf, hroom, hf]
  | some a => simp [Builtin.append_, run_underlying ht, sizeOf, typeInfo, hi, Builtin.lenOf, hroom, hf, storeCells]

theorem St.fresh (h : St B w0 w A) (o : Obj) : St B w0 (w.drew.alloc o) (A ++ [(w.heap.size, o)]) :=
  (h.drew.alloc o).perm (by simpa using (List.perm_middle (a := (w.heap.size, o)) (l₁ := A) (l₂ := [])).symm)

theorem St.setRow {b : Nat} {c c' : Array Value} {fr : Nat × Nat} (h : St B w0 w (A ++ [(b, .cells c T fr)])) : St B w0 (w.setRow b c') (A ++ [(b, .cells c' T fr)]) := by
  have hb := h.get (b := b) (o := .cells c T fr) (by simp)
  exact h.write (C := []) (setRow_heap w b c c' T fr hb) (fun k hk => setRow_other w b k c' hk) (by simp [World.setRow]) rfl rfl rfl

/-- 'append' onto a slice that the call owns, of whatever reads as cells: it is owned again, beside all else. -/
theorem run_append_sl (t ty e : TypeId) (i : TypeInfo) (z : Value) (size bytes : Nat) (ht : P.underlying t = some (.slice e)) (hi : P.info? e = some i) (hz : i.zero = some z)
    (hsize : i.size = size) (hby : i.bytes = bytes) (hzs : z.cells.size = size) (hs : SlIs e size v n xs F) (hst : St B w0 w (A ++ F)) (hx : Reads w x m size news) (h1 : ∀ u ∈ news, u.oneCell' = true)
    (h63 : n + m ≤ maxLen) (hbytes : (n + m) * bytes ≤ 140737488355328) :
    ∃ v' w' F', (Builtin.append_ #[t, t] ty #[v, x]).run P w = .ok v' w' ∧ SlIs e size v' (n + m) (xs ++ news) F' ∧ St B w0 w' (A ++ F') := by
  subst hsize hby
  have hsmall : n + m ≤ 9223372036854775807 := by simp only [maxLen] at h63; omega
  obtain ⟨hxl, ⟨rfl, rfl⟩ | ⟨ad, c, rfl, hnews⟩⟩ := hx
  · have hn : news = [] := List.eq_nil_of_length_eq_zero (by simpa using hxl)
    subst hn
    rw [List.append_nil, Nat.add_zero]
    obtain ⟨a, cap, rfl, hcap, _, _⟩ := hs.form
    exact ⟨_, _, _, run_append_room_none w t ty e i ht hi a n cap hcap, hs, hst⟩
  · have hlen : (xs ++ news).length = (n + m) * i.size := by rw [List.length_append, hs.1, hxl, Nat.add_mul]
    have grown : ∀ (old : Nat) (A' : List (Nat × Obj)), St B w0 w A' → SlIs e i.size (.slice (some ⟨w.heap.size, 0, none⟩) (n + m) (grownCap w (n + m) old e)) (n + m) (xs ++ news) [(w.heap.size, .cells (xs.toArray ++ news.toArray ++ Builtin.zeroCells z.cells (grownCap w (n + m) old e - (n + m))) e (0, 0))] ∧
        St B w0 (w.drew.alloc (.cells (xs.toArray ++ news.toArray ++ Builtin.zeroCells z.cells (grownCap w (n + m) old e - (n + m))) e)) (A' ++ [(w.heap.size, .cells (xs.toArray ++ news.toArray ++ Builtin.zeroCells z.cells (grownCap w (n + m) old e - (n + m))) e (0, 0))]) := by
      intro old A' hA'
      have hge := grownCap_ge w (n + m) old e
      refine ⟨⟨hlen, .inr ⟨_, _, _, _, rfl, rfl, hge, grownCap_le_maxLen w (n + m) old e h63, ?_, ?_⟩⟩, hA'.fresh _⟩
      · simp only [Array.size_append, List.size_toArray, size_zeroCells, hzs, hs.1, hxl, ← Nat.add_mul, Nat.zero_add]
        refine Nat.mul_le_mul_right _ ?_
        omega
      · simp only [Array.toList_append, List.append_assoc, List.drop_zero]
        rw [← List.append_assoc, ← hlen]
        exact List.take_left
    obtain ⟨hl, ⟨rfl, rfl, rfl⟩ | ⟨g, off, cap, cur, rfl, rfl, h3, h4, h5, h6⟩⟩ := hs
    · have hx0 : xs = [] := List.eq_nil_of_length_eq_zero (by simpa using hl)
      subst hx0
      by_cases hm : m = 0
      · subst hm
        have hn : news = [] := List.eq_nil_of_length_eq_zero (by simpa using hxl)
        subst hn
        refine ⟨.slice none 0 0, w, [], ?_, SlIs.nil, by simpa using hst⟩
        simp [Builtin.append_, run_underlying ht, sizeOf, typeInfo, hi, Builtin.lenOf, Builtin.firstCells, loadCells, loadCellsFrom]
      · have hr := run_append_nil (P := P) w t ty e i z ht hi hz ad m c news hxl hnews (by omega) (by omega) (by have hb := hbytes; simp only [Nat.zero_add] at hb; omega)
        obtain ⟨e1, e2⟩ := grown 0 A (by simpa using hst)
        simp only [Nat.zero_add, List.nil_append, Array.empty_append] at e1 e2 ⊢
        exact ⟨_, _, _, hr, e1, e2⟩
    · by_cases hroom : n + m ≤ cap
      · have hb := hst.get (b := g) (o := .cells cur e (0, 0)) (by simp)
        have hfit : off + n * i.size + news.length ≤ cur.size := by
          have : (n + m) * i.size ≤ cap * i.size := Nat.mul_le_mul_right _ hroom
          rw [Nat.add_mul] at this
          omega
        have hr := run_append_room_off (P := P) w t ty e i ht hi g off n cap cur hb ad m c news hxl hnews h1 hroom hfit
        refine ⟨_, _, _, hr, ⟨hlen, .inr ⟨g, off, cap, _, rfl, rfl, hroom, h4, ?_, ?_⟩⟩, hst.setRow⟩
        · simp only [List.size_toArray, List.length_append, List.length_take, List.length_drop, Array.length_toList]
          omega
        · show List.take ((n + m) * i.size) (List.drop off (cur.toList.take (off + n * i.size) ++ news ++ cur.toList.drop (off + n * i.size + news.length))) = xs ++ news
          have h7 : cur.toList.take (off + n * i.size) = cur.toList.take off ++ xs := by rw [← h6, List.take_add]
          have h8 : (cur.toList.take off).length = off := by rw [List.length_take, Array.length_toList]; omega
          rw [h7, List.append_assoc, List.append_assoc, List.drop_left' h8, ← List.append_assoc, ← hlen]
          exact List.take_left
      · have holds : ∀ j u, xs[j]? = some u → w.cell? ((⟨g, off, none⟩ : Addr).add j) = some u := fun j u hj => by
          rw [Go.WideShapes.add_plain]
          exact SlIs.cellAt ⟨hl, .inr ⟨g, off, cap, cur, rfl, rfl, h3, h4, h5, h6⟩⟩ hst hj
        have hr := run_append_grow (P := P) w t ty e i z ht hi hz ⟨g, off, none⟩ n cap xs hl holds ad m c news hxl hnews (by omega) (by omega) (growslice_fits (by omega) hbytes)
        obtain ⟨e1, e2⟩ := grown cap A (hst.sub (List.sublist_append_left _ _))
        exact ⟨_, _, _, hr, e1, e2⟩

/-- .. at the operation, for the walk. -/
theorem wpList_append_sl {ops : Array Oper} {rest : List Oper} {o : Oper} {a : Act} {Q : Exit → Act → World → Prop} (hgd : o.guard = none) (s y : Operand) (t : TypeId)
    (ho : o.op = .call { callee := .builtin .append, args := #[s, y], argTypes := #[t, t] })
    (e : TypeId) (i : TypeInfo) (z : Value) (size bytes : Nat) (ht : P.underlying t = some (.slice e)) (hi : P.info? e = some i) (hz : i.zero = some z)
    (hsize : i.size = size) (hby : i.bytes = bytes) (hzs : z.cells.size = size) (hs : SlIs e size v n xs F) (hst : St B w0 w (A ++ F)) (hx : Reads w x m size news) (h1 : ∀ u ∈ news, u.oneCell' = true)
    (h63 : n + m ≤ maxLen) (hbytes : (n + m) * bytes ≤ 140737488355328) (hes : a.eval s = v) (hey : a.eval y = x)
    (h : ∀ v' w' F', SlIs e size v' (n + m) (xs ++ news) F' → St B w0 w' (A ++ F') → wpList P ops Q rest (a.put o.dst v') w') :
    wpList P ops Q (o :: rest) a w := by
  refine wpList_plain hgd fun K hK => ?_
  obtain ⟨v', w', F', hr, h2, h3⟩ := run_append_sl (P := P) t o.type e i z size bytes ht hi hz hsize hby hzs hs hst hx h1 h63 hbytes
  unfold Oper.wp execOp
  simp only [ho, resolve, invoke, builtin, Sem.run_bind, Sem.run_pure, Result.andThen_ok, List.map_toArray, List.map_cons, List.map_nil, hes, hey, hr]
  exact hK _ _ (h v' w' F' h2 h3)

/-! ### a piece of it -/
theorem SlIs.piece (h : SlIs T size v n xs F) (lo hi : Nat) (h1 : lo ≤ hi) (h2 : hi ≤ n) :
    ∀ {a : Option Addr} {cap : Nat}, v = .slice a n cap → SlIs T size (.slice (if cap = lo then a else a.map (·.add (lo * size))) (hi - lo) (cap - lo)) (hi - lo) ((xs.drop (lo * size)).take ((hi - lo) * size)) F := by
  intro a cap e
  obtain ⟨hl, ⟨rfl, rfl, rfl⟩ | ⟨g, off, cap', cur, rfl, hF, h3, h4, h5, h6⟩⟩ := h
  · cases e
    obtain rfl : lo = 0 := by omega
    obtain rfl : hi = 0 := by omega
    refine ⟨by simp, .inl ⟨by simp, rfl, rfl⟩⟩
  · cases e
    have hlen : ((xs.drop (lo * size)).take ((hi - lo) * size)).length = (hi - lo) * size := by
      rw [List.length_take, List.length_drop, hl]
      have : hi * size ≤ n * size := Nat.mul_le_mul_right _ h2
      have e : (hi - lo) * size = hi * size - lo * size := Nat.sub_mul _ _ _
      omega
    refine ⟨hlen, .inr ?_⟩
    by_cases hc : cap = lo
    · rw [if_pos hc]
      have e0 : hi - lo = 0 := by omega
      refine ⟨g, off, cap - lo, cur, rfl, hF, by omega, by omega, ?_, ?_⟩
      · have : (cap - lo) * size ≤ cap * size := Nat.mul_le_mul_right _ (by omega)
        omega
      · rw [e0, Nat.zero_mul, List.take_zero, List.take_zero]
    · rw [if_neg hc]
      refine ⟨g, off + lo * size, cap - lo, cur, by simp [Go.WideShapes.add_plain], hF, by omega, by omega, ?_, ?_⟩
      · have : (cap - lo) * size = cap * size - lo * size := Nat.sub_mul _ _ _
        have : lo * size ≤ cap * size := Nat.mul_le_mul_right _ (by omega)
        omega
      · rw [← h6, List.drop_take, List.drop_drop, List.take_take]
        congr 1
        have e : (hi - lo) * size = hi * size - lo * size := Nat.sub_mul _ _ _
        have : hi * size ≤ n * size := Nat.mul_le_mul_right _ h2
        omega

/-- 's[lo:hi]' of a slice of that type, where the bounds serve: its run, and what it is. -/
theorem run_piece {t e : TypeId} {i : TypeInfo} (ht : P.underlying t = some (.slice e)) (hi : P.info? e = some i) (hsz : i.size = size) (h : SlIs e size v n xs F) (lo hi' : Nat) (h1 : lo ≤ hi') (h2 : hi' ≤ n) :
    ∃ v', SlIs e size v' (hi' - lo) ((xs.drop (lo * size)).take ((hi' - lo) * size)) F ∧
      (∀ w, (Instr.slice t v (some (.int .i64 lo)) (some (.int .i64 hi')) none).run P w = .ok v' w) ∧
      (hi' = n → ∀ w, (Instr.slice t v (some (.int .i64 lo)) none none).run P w = .ok v' w) ∧
      (lo = 0 → ∀ w, (Instr.slice t v none (some (.int .i64 hi')) none).run P w = .ok v' w) := by
  obtain ⟨a, cap, rfl, hc, _, _⟩ := h.form
  have e1 : hi' ≤ cap := by omega
  refine ⟨_, h.piece lo hi' h1 h2 rfl, fun w => ?_, fun e w => ?_, fun e w => ?_⟩
  · simp [Instr.slice, run_underlying ht, Instr.sliceBounds, Instr.sliceBound, asIntOf, e1, h1, sizeOf, typeInfo, hi, hsz]
  · subst e
    simp [Instr.slice, run_underlying ht, Instr.sliceBounds, Instr.sliceBound, asIntOf, h1, sizeOf, typeInfo, hi, hsz]
  · subst e
    simp [Instr.slice, run_underlying ht, Instr.sliceBounds, Instr.sliceBound, asIntOf, e1, sizeOf, typeInfo, hi]
end
end Go.Proofs.YtoecaonmehbfeaaGreat

/- A slice of texts that the call owns. -/
namespace Go.Proofs.YtoecaonmehbfeaaGreat
open Go.RowKit
set_option linter.unusedVariables false
set_option maxRecDepth 100000

theorem uStrs0 : Tryz.prog.underlying 45 = some (.slice 9) := by kernel_rfl
theorem infStr0 : (Tryz.prog.info? 9).map (fun i => (i.zero, i.size, i.bytes)) = some (some (tx []), 1, 16) := by kernel_rfl

def TssIs (v : Value) (l : List (List UInt8)) (S : List (Nat × Obj)) : Prop := SlIs 9 1 v l.length (l.map tx) S
theorem TssIs.nil : TssIs (.slice none 0 0) [] [] := SlIs.nil
theorem TssIs.form {v : Value} {l : List (List UInt8)} {S : List (Nat × Obj)} (h : TssIs v l S) : ∃ a cap, v = .slice a l.length cap := by
  obtain ⟨a, cap, e, _⟩ := SlIs.form h
  exact ⟨a, cap, e⟩
section
variable {B : Nat} {w0 w : World} {S X : List (Nat × Obj)} {v : Value} {l : List (List UInt8)}
/-- The slice value reads as these texts in w, wherever it lies. -/
def ReadTs (w : World) (v : Value) (l : List (List UInt8)) : Prop := ∃ a cap, v = .slice a l.length cap ∧ TextsAt w a l.length l
theorem ReadTs.below {w w' : World} (h : ReadTs w v l) (hb : Below w.heap.size w w') : ReadTs w' v l := by
  obtain ⟨a, cap, e, h⟩ := h
  exact ⟨a, cap, e, h.below hb⟩
theorem TssIs.read (h : TssIs v l S) (hst : St B w0 w (X ++ S)) (hl : ∀ x ∈ l, x.length ≤ maxLen) : ReadTs w v l := by
  have h' : SlIs _ _ _ _ _ _ := h
  obtain ⟨a, cap, rfl, _, _, ha⟩ := h'.form
  refine ⟨a, cap, rfl, rfl, fun i x hx => ⟨hl x (List.mem_of_getElem? hx), ?_⟩⟩
  obtain ⟨g, off, rfl⟩ := ha i (List.getElem?_eq_some_iff.1 hx).1
  exact ⟨g, off, rfl, h'.cellAt hst (by rw [List.getElem?_map, hx]; rfl)⟩
theorem TssIs.append (hs : TssIs v l S) (hst : St B w0 w (X ++ S)) (t : List UInt8) (hl : l.length ≤ 1000000) :
    ∃ a cap W2 F2, (Builtin.append_ #[45, 45] 0 #[v, .slice (some ⟨w.heap.size, 0, none⟩) 1 1]).run Tryz.prog (w.alloc (.cells #[tx t] 9)) = .ok (.slice a (l.length + 1) cap) W2 ∧
      TssIs (.slice a (l.length + 1) cap) (l ++ [t]) F2 ∧ St B w0 W2 (X ++ F2) := by
  obtain ⟨i0, hi0, hz0, hz1, hz2⟩ := info_parts infStr0
  have hrd := Reads.one w (tx t) 9
  obtain ⟨v2, W2, F2, hr, hs2, hst2⟩ := run_append_sl (P := Tryz.prog) 45 0 9 i0 _ 1 16 uStrs0 hi0 hz0 hz1 hz2 rfl hs (A := (w.heap.size, .cells #[tx t] 9) :: X) (hst.alloc _) hrd
    (by intro u hu; rw [List.mem_singleton] at hu; subst hu; rfl) (by unfold maxLen; omega) (by omega)
  obtain ⟨a, cap, rfl, -⟩ := hs2.form
  refine ⟨a, cap, W2, F2, hr, ?_, hst2.sub (List.sublist_cons_self _ _)⟩
  unfold TssIs
  rw [List.length_append, List.length_singleton, List.map_append]
  exact hs2
end
end Go.Proofs.YtoecaonmehbfeaaGreat

/- SameTexts of equal ones. -/
namespace Go.Proofs.YtoecaonmehbfeaaGreat
open Go.RowKit
set_option linter.unusedVariables false

set_option maxHeartbeats 1000000 in
theorem sameTexts_true {w : World} {v1 v2 : Value} {l : List (List UInt8)} (h1 : ReadTs w v1 l) (h2 : ReadTs w v2 l) (hl : l.length ≤ 1073741824) : Calls Tryz.prog 20 #[v1, v2] w fun e w' => e = .returned (.bool true) ∧ Below w.heap.size w w' := by
  obtain ⟨a1, c1, rfl, h1⟩ := h1
  obtain ⟨a2, c2, rfl, h2⟩ := h2
  replace h1 := Lib.hid h1
  replace h2 := Lib.hid h2
  go_enter Tryz.func20, Tryz.ntmps20
  go_wp2_with fail
  go_loopg [5] l.length (fun g i wt => ∃ p : Nat, i = .int .i64 p ∧ p + g = l.length ∧ ∃ m, wt = w.drewN m)
  case atStart => exact ⟨0, rfl, by omega, 0, rfl⟩
  case round =>
    obtain ⟨p, rfl, hp, m, rfl⟩ := hrel
    have hp0 : (0 : Int) ≤ p := by omega
    by_cases hlt : p < l.length
    · have hx : l[p]? = some l[p] := List.getElem?_eq_getElem hlt
      generalize l[p] = x at hx
      obtain ⟨-, b1, o1, rfl, k1⟩ := h1.out.at_ p x hx
      obtain ⟨-, b2, o2, rfl, k2⟩ := h2.out.at_ p x hx
      have hp1 : (p : Int) < l.length := by omega
      clear hx
      go_wp2_with fail
      go_quiet (fail)
      go_wp2_with fail
      go_roundg (l.length - (p + 1))
      case measure => omega
      case rel => exact ⟨p + 1, by go_num, by omega, _, rfl⟩
    · go_wp2_with fail
      go_ret
      exact ⟨rfl, drewN_below _ _⟩
end Go.Proofs.YtoecaonmehbfeaaGreat

/- Bindings as cells; a slice of them that the call owns; slices.Contains. -/
namespace Go.Proofs.YtoecaonmehbfeaaGreat
open Go.RowKit
set_option linter.unusedVariables false

abbrev bV (b : Bnd) : Value := .agg #[tx b.1, tx b.2.1, tx b.2.2]
abbrev bO (b : Bnd) : Obj := .cells #[tx b.1, tx b.2.1, tx b.2.2] 34
def bndsV (l : List Bnd) : List Value := l.flatMap fun b => [tx b.1, tx b.2.1, tx b.2.2]
theorem bndsV_cons (f : Bnd) (l : List Bnd) : bndsV (f :: l) = tx f.1 :: tx f.2.1 :: tx f.2.2 :: bndsV l := rfl
theorem bndsV_append (l m : List Bnd) : bndsV (l ++ m) = bndsV l ++ bndsV m := by simp [bndsV]
theorem bndsV_len : ∀ (l : List Bnd), (bndsV l).length = l.length * 3
  | [] => rfl
  | f :: l => by rw [bndsV_cons, List.length_cons, List.length_cons, List.length_cons, bndsV_len l, List.length_cons]; omega
theorem bndsV_at : ∀ {l : List Bnd} {i : Nat} {f : Bnd}, l[i]? = some f → (bndsV l)[i * 3]? = some (tx f.1) ∧ (bndsV l)[i * 3 + 1]? = some (tx f.2.1) ∧ (bndsV l)[i * 3 + 2]? = some (tx f.2.2)
  | [], _, _, h => by simp at h
  | f :: l, 0, g, h => by simp at h; subst h; simp [bndsV_cons]
  | f :: l, i + 1, g, h => by
    have := bndsV_at (l := l) (i := i) (f := g) (by simpa using h)
    rw [bndsV_cons, show (i + 1) * 3 = i * 3 + 1 + 1 + 1 by omega, show i * 3 + 1 + 1 + 1 + 1 = (i * 3 + 1) + 1 + 1 + 1 by omega, show i * 3 + 1 + 1 + 1 + 2 = (i * 3 + 2) + 1 + 1 + 1 by omega]
    simpa using this
theorem bndsV_one (l : List Bnd) : ∀ u ∈ bndsV l, u.oneCell' = true := by
  intro u hu
  obtain ⟨f, _, hf⟩ := List.mem_flatMap.1 hu
  simp only [List.mem_cons, List.not_mem_nil, or_false] at hf
  rcases hf with rfl | rfl | rfl <;> rfl

theorem uBnds : Tryz.prog.underlying 28 = some (.slice 34) := by kernel_rfl
theorem infBnd : (Tryz.prog.info? 34).map (fun i => (i.zero, i.size, i.bytes)) = some (some (.agg #[tx [], tx [], tx []]), 3, 48) := by kernel_rfl

section
variable {B : Nat} {w0 w w' : World} {S F A X : List (Nat × Obj)} {v : Value} {l L : List Bnd} {b : Bnd}
/-- The slice value reads as these bindings in w, wherever it lies. -/
def ReadBs (w : World) (v : Value) (l : List Bnd) : Prop :=
  ∃ a cap, v = .slice a l.length cap ∧ ∀ i f, l[i]? = some f → ∃ b off, a = some ⟨b, off, none⟩ ∧ w.cell? ⟨b, off + i * 3, none⟩ = some (tx f.1) ∧ w.cell? ⟨b, off + i * 3 + 1, none⟩ = some (tx f.2.1) ∧ w.cell? ⟨b, off + i * 3 + 2, none⟩ = some (tx f.2.2)
/-- A slice of bindings that the call owns. -/
def BnsIs (v : Value) (l : List Bnd) (S : List (Nat × Obj)) : Prop := SlIs 34 3 v l.length (bndsV l) S
theorem BnsIs.nil : BnsIs (.slice none 0 0) [] [] := SlIs.nil
theorem BnsIs.form (h : BnsIs v l S) : ∃ a cap, v = .slice a l.length cap := by
  obtain ⟨a, cap, e, _⟩ := SlIs.form h
  exact ⟨a, cap, e⟩
theorem BnsIs.read (h : BnsIs v l S) (hst : St B w0 w (A ++ S)) : ReadBs w v l := by
  have h' : SlIs _ _ _ _ _ _ := h
  obtain ⟨a, cap, rfl, _, _, ha⟩ := h'.form
  refine ⟨a, cap, rfl, fun i f hf => ?_⟩
  obtain ⟨g, off, rfl⟩ := ha i (List.getElem?_eq_some_iff.1 hf).1
  obtain ⟨h1, h2, h3⟩ := bndsV_at hf
  exact ⟨g, off, rfl, h'.cellAt hst h1, h'.cellAt hst h2, h'.cellAt hst h3⟩
theorem ReadBs.below (h : ReadBs w v l) (hb : Below w.heap.size w w') : ReadBs w' v l := by
  obtain ⟨a, cap, e, h⟩ := h
  refine ⟨a, cap, e, fun i f hf => ?_⟩
  obtain ⟨b, off, ha, h1, h2, h3⟩ := h i f hf
  exact ⟨b, off, ha, (hb.cell (p := ⟨b, off + i * 3, none⟩) (World.block_lt_of_cell? w _ h1)).trans h1, (hb.cell (p := ⟨b, off + i * 3 + 1, none⟩) (World.block_lt_of_cell? w _ h2)).trans h2, (hb.cell (p := ⟨b, off + i * 3 + 2, none⟩) (World.block_lt_of_cell? w _ h3)).trans h3⟩
theorem ReadBs.nil (w : World) : ReadBs w (.slice none 0 0) [] := ⟨none, 0, rfl, fun i f hf => by simp at hf⟩

theorem bnd_append (hs : BnsIs v l S) (hst : St B w0 w (X ++ S)) (b : Bnd) (hl : l.length ≤ 100000) :
    ∃ a cap W2 F2, (Builtin.append_ #[28, 28] 0 #[v, .slice (some ⟨w.heap.size, 0, none⟩) 1 1]).run Tryz.prog (w.alloc (bO b)) = .ok (.slice a (l.length + 1) cap) W2 ∧
      BnsIs (.slice a (l.length + 1) cap) (l ++ [b]) F2 ∧ St B w0 W2 (X ++ F2) := by
  obtain ⟨i0, hi0, hz0, hz1, hz2⟩ := info_parts infBnd
  have hb : (w.alloc (bO b)).heap[w.heap.size]? = some (.cells [tx b.1, tx b.2.1, tx b.2.2].toArray 34) := (MapKept.heap_alloc w _).1
  have hrd : Reads (w.alloc (bO b)) (.slice (some ⟨w.heap.size, 0, none⟩) 1 1) 1 3 [tx b.1, tx b.2.1, tx b.2.2] := Reads.block hb rfl 1
  obtain ⟨v2, W2, F2, hr, hs2, hst2⟩ := run_append_sl (P := Tryz.prog) 28 0 34 i0 _ 3 48 uBnds hi0 hz0 hz1 hz2 rfl hs (A := (w.heap.size, bO b) :: X) (hst.alloc _) hrd
    (bndsV_one [b]) (by unfold maxLen; omega) (by omega)
  obtain ⟨a, cap, rfl, -⟩ := hs2.form
  refine ⟨a, cap, W2, F2, hr, ?_, hst2.sub (List.sublist_cons_self _ _)⟩
  unfold BnsIs
  rw [List.length_append, List.length_singleton, bndsV_append]
  exact hs2

/-- Blocks that were there, blocks that are new: all of them. -/
theorem St.under {w1 w2 : World} {Y : List (Nat × Obj)} (hb : Below w.heap.size w w1) (k : St w1.heap.size w1 w2 Y) : St w.heap.size w w2 Y :=
  ⟨bel hb k.below, Nat.le_trans hb.size k.base, k.nodup, fun p hp => ⟨Nat.le_trans hb.size (k.at_ p hp).1, (k.at_ p hp).2⟩⟩
theorem St.own {Y : List (Nat × Obj)} {w1 : World} (k : St w.heap.size w w1 Y) : Below w.heap.size w w1 := k.below

/-! ### slices.Contains -/
def IndexR (w : World) (b : Bnd) (L : List Bnd) (e : Ending) (w' : World) : Prop := ∃ k : Int, e = .returned (.int .i64 k) ∧ (0 ≤ k ↔ b ∈ L) ∧ Below w.heap.size w w'

theorem not_in_step {α : Type} {L : List α} {b x : α} {p : Nat} (h : b ∉ L.take p) (hx : L[p]? = some x) (hn : b ≠ x) : b ∉ L.take (p + 1) := by
  rw [List.take_add_one, hx, Option.toList_some, List.mem_append, List.mem_singleton]
  rintro (h' | h')
  · exact h h'
  · exact hn h'

set_option maxHeartbeats 1000000 in
theorem indexB_any (h : ReadBs w v L) (hl : L.length ≤ 1000000) (b : Bnd) : Calls Tryz.prog 89 #[v, bV b] w (IndexR w b L) := by
  have hb0 := Lib.hid (new_below w (bO b))
  have hnew := Lib.hid (fun n => (hb0.out).trans ((drewN_below (w.alloc (bO b)) n).mono hb0.out.size))
  obtain ⟨a, cap, rfl, hr0⟩ := h.below hb0.out
  have hr := Lib.hid hr0
  clear hr0 h
  obtain ⟨b1, b2, b3⟩ := b
  go_enter Tryz.func89, Tryz.ntmps89
  go_wp2_with fail
  go_loopg [8] L.length (fun g i wt => ∃ p : Nat, i = .int .i64 p ∧ p + g = L.length ∧ Hid ((b1, b2, b3) ∉ L.take p) ∧ ∃ m, wt = (w.alloc (bO (b1, b2, b3))).drewN m)
  case atStart => exact ⟨0, rfl, by omega, Lib.hid (by simp), 0, rfl⟩
  case round =>
    obtain ⟨p, rfl, hp, hno, m, rfl⟩ := hrel
    have hp0 : (0 : Int) ≤ p := by omega
    by_cases hlt : p < L.length
    · have hx : L[p]? = some L[p] := List.getElem?_eq_getElem hlt
      generalize L[p] = x at hx
      obtain ⟨a1, o1, rfl, k1, k2, k3⟩ := hr.out p x hx
      have hp1 : (p : Int) < L.length := by omega
      rcases bnd_cases (b1, b2, b3) x with rfl | hc
      · have fin := Lib.hid (fun m n => (⟨p, rfl, ⟨fun _ => List.mem_of_getElem? hx, fun _ => hp0⟩, bel (hnew.out m) (drewN_below _ n)⟩ : IndexR w (b1, b2, b3) L (.returned (.int .i64 p)) (((w.alloc (bO (b1, b2, b3))).drewN m).drewN n)))
        clear hx hno hr
        go_wp2_with fail
        go_quiet (fail)
        go_wp2_with fail
        go_ret
        exact fin.out _ _
      · have hno2 := Lib.hid (not_in_step hno.out hx (bnd_ne hc))
        obtain ⟨x1, x2, x3⟩ := x
        simp only at hc k1 k2 k3
        clear hno hx
        rcases hc with hc | ⟨rfl, hc⟩ | ⟨rfl, rfl, hc⟩
        all_goals
          go_wp2_with fail
          go_quiet (fail)
          go_wp2_with fail
          go_roundg (L.length - (p + 1))
          case measure => omega
          case rel => exact ⟨p + 1, by go_num, by omega, hno2, _, rfl⟩
    · have e : L.take p = L := List.take_of_length_le (by omega)
      have hno2 := hno.out
      rw [e] at hno2
      have fin : Hid (IndexR w (b1, b2, b3) L (.returned (.int .i64 (-1))) ((w.alloc (bO (b1, b2, b3))).drewN m)) := Lib.hid ⟨-1, rfl, ⟨fun h => absurd h (by decide), fun h => absurd h hno2⟩, hnew.out m⟩
      clear hno hno2 e
      go_wp2_with fail
      go_ret
      exact fin.out

theorem containsB_any (h : ReadBs w v L) (hl : L.length ≤ 1000000) (b : Bnd) : Calls Tryz.prog 73 #[v, bV b] w fun e w' => e = .returned (.bool (decide (b ∈ L))) ∧ Below w.heap.size w w' := by
  have hb0 := Lib.hid (new_below w (bO b))
  have c1 := Lib.hid (indexB_any (h.below hb0.out) hl b)
  obtain ⟨a, cap, rfl, -⟩ := h
  obtain ⟨D, hD⟩ : ∃ D, D = decide (b ∈ L) := ⟨_, rfl⟩
  have hkd : Hid (∀ k : Int, (0 ≤ k ↔ b ∈ L) → decide ((0 : Int) ≤ k) = D) := Lib.hid fun k hk => by rw [hD]; exact decide_eq_decide.2 hk
  rw [← hD]
  clear hD
  obtain ⟨b1, b2, b3⟩ := b
  go_enter Tryz.func73, Tryz.ntmps73
  go_wp2_with fail
  refine c1.out.mono ?_
  rintro e w1 ⟨k, rfl, hk, hb⟩
  have hb2 := Lib.hid (bel hb0.out hb)
  replace hkd := Lib.hid (hkd.out k hk)
  clear hb hk c1 hb0
  go_wp2_with fail
  go_ret
  exact ⟨ret_bool hkd.out, hb2.out⟩
end
end Go.Proofs.YtoecaonmehbfeaaGreat

/- strings.Clone. -/
namespace Go.Proofs.YtoecaonmehbfeaaGreat
open Go.RowKit
set_option linter.unusedVariables false
set_option maxRecDepth 100000

/-! ### strings.Clone -/
theorem uPu8 : Tryz.prog.underlying 127 = some (.pointer 5) := by kernel_rfl

/-- The row with the text in it. -/
abbrev laidW (w : World) (l : List UInt8) : World := (w.alloc (rowOf (List.replicate l.length 0))).setRow w.heap.size (Lib.byteCells l).toArray
theorem laid_at (w : World) (l : List UInt8) : (laidW w l).heap[w.heap.size]? = some (.cells (Lib.byteCells l).toArray 5 (0, 0)) :=
  setRow_heap _ _ _ _ _ (0, 0) (heap_alloc_new w _)
theorem laid_below (w : World) (l : List UInt8) : Below w.heap.size w (laidW w l) :=
  ((Below.refl _ w).alloc (Nat.le_refl _) _).trans ⟨rfl, rfl, rfl, by simp, fun k hk => setRow_other _ _ _ _ (by omega)⟩
theorem run_lay (w : World) (l : List UInt8) (ty : TypeId) :
    (Builtin.copy_ #[55, 9] ty #[.slice (some ⟨w.heap.size, 0, none⟩) l.length l.length, tx l]).run Tryz.prog (w.alloc (rowOf (List.replicate l.length 0))) = .ok (goInt l.length) (laidW w l) := by
  have h := Lib.run_copy_row_string (P := Tryz.prog) (w.alloc (rowOf (List.replicate l.length 0))) 55 9 ty 5 w.heap.size 0 l.length l.length ⟨l.toArray⟩ (Lib.byteCells (List.replicate l.length 0)).toArray 5 uBytes6
    (by obtain ⟨i0, hi, hz0, hz1, hz2⟩ := info_parts infU86; rw [hi]; simp [hz1]) (heap_alloc_new w _) (Nat.le_refl _) (by simp [Lib.byteCells, ByteArray.size])
  rw [h]
  simp [Lib.byteCells, ByteArray.size, laidW]
theorem run_told (w : World) (l : List UInt8) (ty : TypeId) (h0 : l ≠ []) (hl : l.length ≤ 140737488351232) :
    (Builtin.unsafeString_ #[127, 3] ty #[.pointer (some ⟨w.heap.size, 0, none⟩), .int .i64 l.length]).run Tryz.prog (laidW w l) = .ok (tx l) ((laidW w l).freeze ⟨w.heap.size, 0, none⟩ l.length) := by
  obtain ⟨i0, hi, hz0, hz1, hz2⟩ := info_parts infU86
  refine Lib.run_unsafeString_row (P := Tryz.prog) (laidW w l) 127 3 ty 5 uPu8 (by simp [Program.cellsOf, hi, hz1]) w.heap.size l.length ?_ l h0 (Nat.le_refl _) (by omega) fun j x hx => ?_
  · unfold World.shape?
    rw [laid_at]
    simp [Lib.byteCells]
  · rw [Go.WideShapes.add_plain]
    have e : (laidW w l).cell? ⟨w.heap.size, 0 + j, none⟩ = (Lib.byteCells l).toArray[0 + j]? := by
      unfold World.cell?
      simp only [laid_at]
      rfl
    rw [e]
    simp [Lib.byteCells, hx]

set_option maxRecDepth 100000 in
theorem sclone_any (l : List UInt8) (w : World) (hl : l.length ≤ 140737488351232) : Calls Tryz.prog 81 #[tx l] w fun e w' => e = .returned (tx l) ∧ Below w.heap.size w w' := by
  by_cases h0 : l = []
  · subst h0
    go_enter Tryz.func81, Tryz.ntmps81
    go_wp2_with fail
    go_ret
    exact ⟨rfl, Below.refl _ _⟩
  · have hpos : (0 : Int) < l.length := by
      have := List.length_pos_iff.2 h0
      omega
    have h1 := mk_row w l.length hl
    have h2 := run_lay w l 3
    have h3 := run_told w l 9 h0 hl
    have hb := Lib.hid (Lib.below_freeze (laid_below w l) (p := ⟨w.heap.size, 0, none⟩) (Nat.le_refl _) l.length)
    clear hl
    generalize laidW w l = w2 at *
    generalize w2.freeze ⟨w.heap.size, 0, none⟩ l.length = w3 at *
    go_enter Tryz.func81, Tryz.ntmps81
    go_wp2_with fail
    go_ret
    exact ⟨rfl, hb.out⟩

set_option maxRecDepth 100000 in
theorem clone_any (l : List UInt8) (w : World) (hl : l.length ≤ 140737488351232) : Calls Tryz.prog 57 #[tx l] w fun e w' => e = .returned (tx l) ∧ Below w.heap.size w w' := by
  have c1 := Lib.hid (fun w => sclone_any l w hl)
  clear hl
  go_enter Tryz.func57, Tryz.ntmps57
  go_wp2_with fail
  refine (c1.out _).mono ?_
  rintro e w1 ⟨rfl, hb⟩
  replace hb := Lib.hid hb
  go_wp2_with fail
  go_ret
  exact ⟨rfl, hb.out⟩

end Go.Proofs.YtoecaonmehbfeaaGreat

/- Names among names: slices.Contains, the document's has; a binding in memory of its own. -/
namespace Go.Proofs.YtoecaonmehbfeaaGreat
open Go.RowKit
set_option linter.unusedVariables false

section
variable {B : Nat} {w0 w w' : World} {S F A X : List (Nat × Obj)} {v : Value} {l : List (List UInt8)}

def IndexT (w : World) (b : List UInt8) (L : List (List UInt8)) (e : Ending) (w' : World) : Prop := ∃ k : Int, e = .returned (.int .i64 k) ∧ (0 ≤ k ↔ b ∈ L) ∧ w' = w

set_option maxHeartbeats 1000000 in
theorem indexS_any (h : ReadTs w v l) (hl : l.length ≤ 1000000) (b : List UInt8) : Calls Tryz.prog 94 #[v, tx b] w (IndexT w b l) := by
  obtain ⟨a, cap, rfl, hr0⟩ := h
  have hr := Lib.hid hr0
  clear hr0
  go_enter Tryz.func94, Tryz.ntmps94
  go_wp2_with fail
  go_loopg [8] l.length (fun g i wt => ∃ p : Nat, i = .int .i64 p ∧ p + g = l.length ∧ Hid (b ∉ l.take p) ∧ wt = w)
  case atStart => exact ⟨0, rfl, by omega, Lib.hid (by simp), rfl⟩
  case round =>
    obtain ⟨p, rfl, hp, hno, rfl⟩ := hrel
    have hp0 : (0 : Int) ≤ p := by omega
    by_cases hlt : p < l.length
    · have hx : l[p]? = some l[p] := List.getElem?_eq_getElem hlt
      generalize l[p] = x at hx
      obtain ⟨-, a1, o1, rfl, k1⟩ := hr.out.at_ p x hx
      have hp1 : (p : Int) < l.length := by omega
      by_cases hc : b = x
      · subst hc
        have fin : Hid (IndexT wr b l (.returned (.int .i64 p)) wr) := Lib.hid ⟨p, rfl, ⟨fun _ => List.mem_of_getElem? hx, fun _ => hp0⟩, rfl⟩
        clear hx hno hr
        go_wp2_with fail
        go_ret
        exact fin.out
      · have hno2 := Lib.hid (not_in_step hno.out hx hc)
        have hcB : (b == x) = false := by simpa using hc
        clear hno hx hc
        go_wp2_with fail
        go_roundg (l.length - (p + 1))
        case measure => omega
        case rel => exact ⟨p + 1, by go_num, by omega, hno2, rfl⟩
    · have e : l.take p = l := List.take_of_length_le (by omega)
      have hno2 := hno.out
      rw [e] at hno2
      have fin : Hid (IndexT wr b l (.returned (.int .i64 (-1))) wr) := Lib.hid ⟨-1, rfl, ⟨fun h => absurd h (by decide), fun h => absurd h hno2⟩, rfl⟩
      clear hno hno2 e
      go_wp2_with fail
      go_ret
      exact fin.out

theorem containsS_any (h : ReadTs w v l) (hl : l.length ≤ 1000000) (b : List UInt8) : Calls Tryz.prog 85 #[v, tx b] w fun e w' => e = .returned (.bool (decide (b ∈ l))) ∧ w' = w := by
  have c1 := Lib.hid (indexS_any h hl b)
  obtain ⟨a, cap, rfl, -⟩ := h
  obtain ⟨D, hD⟩ : ∃ D, D = decide (b ∈ l) := ⟨_, rfl⟩
  have hkd : Hid (∀ k : Int, (0 ≤ k ↔ b ∈ l) → decide ((0 : Int) ≤ k) = D) := Lib.hid fun k hk => by rw [hD]; exact decide_eq_decide.2 hk
  rw [← hD]
  clear hD
  go_enter Tryz.func85, Tryz.ntmps85
  go_wp2_with fail
  refine c1.out.mono ?_
  rintro e w1 ⟨k, rfl, hk, rfl⟩
  replace hkd := Lib.hid (hkd.out k hk)
  clear hk c1
  go_wp2_with fail
  go_ret
  exact ⟨ret_bool hkd.out, rfl⟩

set_option maxHeartbeats 1000000 in
theorem has_any (h : ReadTs w v l) (hl : l.length ≤ 1000000) (b : List UInt8) : Calls Tryz.prog 61 #[v, tx b] w fun e w' => e = .returned (.bool (decide (b ∈ l))) ∧ w' = w := by
  obtain ⟨a, cap, rfl, hr0⟩ := h
  have hr := Lib.hid hr0
  clear hr0
  obtain ⟨D, hD⟩ : ∃ D, D = decide (b ∈ l) := ⟨_, rfl⟩
  have hyes : Hid (b ∈ l → D = true) := Lib.hid fun h => by rw [hD]; exact decide_eq_true h
  have hnot : Hid (b ∉ l → D = false) := Lib.hid fun h => by rw [hD]; exact decide_eq_false h
  rw [← hD]
  clear hD
  go_enter Tryz.func61, Tryz.ntmps61
  go_wp2_with fail
  go_loopg [5] l.length (fun g i wt => ∃ p : Nat, i = .int .i64 p ∧ p + g = l.length ∧ Hid (b ∉ l.take p) ∧ wt = w)
  case atStart => exact ⟨0, rfl, by omega, Lib.hid (by simp), rfl⟩
  case round =>
    obtain ⟨p, rfl, hp, hno, rfl⟩ := hrel
    have hp0 : (0 : Int) ≤ p := by omega
    by_cases hlt : p < l.length
    · have hx : l[p]? = some l[p] := List.getElem?_eq_getElem hlt
      generalize l[p] = x at hx
      obtain ⟨-, a1, o1, rfl, k1⟩ := hr.out.at_ p x hx
      have hp1 : (p : Int) < l.length := by omega
      by_cases hc : b = x
      · subst hc
        have fin := Lib.hid (hyes.out (List.mem_of_getElem? hx))
        clear hx hno hr hyes hnot
        go_wp2_with fail
        go_ret
        exact ⟨ret_bool fin.out.symm, rfl⟩
      · have hno2 := Lib.hid (not_in_step hno.out hx hc)
        have hcB : (x == b) = false := by simpa using fun e => hc e.symm
        clear hno hx hc
        go_wp2_with fail
        go_roundg (l.length - (p + 1))
        case measure => omega
        case rel => exact ⟨p + 1, by go_num, by omega, hno2, rfl⟩
    · have e : l.take p = l := List.take_of_length_le (by omega)
      have hno2 := hno.out
      rw [e] at hno2
      have fin := Lib.hid (hnot.out hno2)
      clear hno hno2 e hyes hnot
      go_wp2_with fail
      go_ret
      exact ⟨ret_bool fin.out.symm, rfl⟩

/-! ### own -/
/-- What is held on the way: the binding that came in, the one that is made. -/
def OwnS (w : World) (b : Bnd) (w' : World) : Prop := St w.heap.size w w' [(w.heap.size + 1, bO ([], [], [])), (w.heap.size, bO b)]
theorem OwnS.start (w : World) (b : Bnd) : OwnS w b ((w.alloc (bO b)).alloc (bO ([], [], []))).drew := by
  have h := (((St.start w).alloc (bO b)).alloc (bO ([], [], []))).drew
  rw [World.size_alloc] at h
  exact h
theorem OwnS.from {b1 b2 b3 : List UInt8} (h : OwnS w (b1, b2, b3) w') : w'.cell? ⟨w.heap.size, 0, none⟩ = some (tx b1) ∧ w'.cell? ⟨w.heap.size, 1, none⟩ = some (tx b2) ∧ w'.cell? ⟨w.heap.size, 2, none⟩ = some (tx b3) :=
  ⟨St.cell h (List.mem_cons_of_mem _ List.mem_cons_self) rfl, St.cell h (List.mem_cons_of_mem _ List.mem_cons_self) rfl, St.cell h (List.mem_cons_of_mem _ List.mem_cons_self) rfl⟩
theorem clone_own {b : Bnd} (h : OwnS w b w') {l : List UInt8} (hl : l.length ≤ 140737488351232) : Calls Tryz.prog 57 #[tx l] w' fun e w2 => e = .returned (tx l) ∧ OwnS w b w2 ∧
    (w2.cell? ⟨w.heap.size, 0, none⟩ = some (tx b.1) ∧ w2.cell? ⟨w.heap.size, 1, none⟩ = some (tx b.2.1) ∧ w2.cell? ⟨w.heap.size, 2, none⟩ = some (tx b.2.2)) ∧
    (w2.cell? ⟨w.heap.size + 1, 0, none⟩ = some (tx []) ∧ w2.cell? ⟨w.heap.size + 1, 1, none⟩ = some (tx []) ∧ w2.cell? ⟨w.heap.size + 1, 2, none⟩ = some (tx [])) ∧
    (w2.frozen? ⟨w.heap.size + 1, 0, none⟩ = false ∧ w2.frozen? ⟨w.heap.size + 1, 1, none⟩ = false ∧ w2.frozen? ⟨w.heap.size + 1, 2, none⟩ = false) := by
  refine (clone_any l w' hl).mono ?_
  rintro e w2 ⟨rfl, hb⟩
  have h2 : OwnS w b w2 := St.grow h hb
  obtain ⟨b1, b2, b3⟩ := b
  exact ⟨rfl, h2, h2.from, ⟨St.cell h2 List.mem_cons_self rfl, St.cell h2 List.mem_cons_self rfl, St.cell h2 List.mem_cons_self rfl⟩, St.soft h2 List.mem_cons_self 0, St.soft h2 List.mem_cons_self 1, St.soft h2 List.mem_cons_self 2⟩

theorem ret_own {d : Nat} {tmps : Array Value} {b1 b2 b3 : List UInt8} (h2 : tmps[2]? = some (.pointer (some ⟨d, 0, none⟩))) (q0 : w.cell? ⟨d, 0, none⟩ = some (tx b1)) (q1 : w.cell? ⟨d, 1, none⟩ = some (tx b2)) (q2 : w.cell? ⟨d, 2, none⟩ = some (tx b3)) :
    (results Tryz.f74 tmps).run Tryz.prog w = .ok (bV (b1, b2, b3)) w := by
  simp [results, Tryz.results74, go_sem, h2, q0, q1, q2]
/-- .. and behind the last store. -/
theorem OwnS.stored {b : Bnd} {b1 b2 b3 : List UInt8} (h : OwnS w b w') : ∀ W, W = ((w'.setCell ⟨w.heap.size + 1, 0, none⟩ (tx b1)).setCell ⟨w.heap.size + 1, 1, none⟩ (tx b2)).setCell ⟨w.heap.size + 1, 2, none⟩ (tx b3) →
    (W.cell? ⟨w.heap.size + 1, 0, none⟩ = some (tx b1) ∧ W.cell? ⟨w.heap.size + 1, 1, none⟩ = some (tx b2) ∧ W.cell? ⟨w.heap.size + 1, 2, none⟩ = some (tx b3)) ∧ Below w.heap.size w W := by
  rintro W rfl
  have h3 := ((St.set0 h 0 (tx b1)).set0 1 (tx b2)).set0 2 (tx b3)
  exact ⟨⟨h3.cell List.mem_cons_self rfl, h3.cell List.mem_cons_self rfl, h3.cell List.mem_cons_self rfl⟩, h3.below⟩

def OwnR (w : World) (b : Bnd) (e : Ending) (w' : World) : Prop := e = .returned (bV b) ∧ Below w.heap.size w w'
set_option maxHeartbeats 2000000 in
theorem own_any {b : Bnd} (hf : FitB b) (w : World) : Calls Tryz.prog 74 #[bV b] w (OwnR w b) := by
  have hs0 := OwnS.start w b
  have hs1 := Lib.hid hs0.from
  have cc := Lib.hid (fun (w' : World) (h : OwnS w b w') (l : List UInt8) (hl : l.length ≤ 140737488351232) => clone_own h hl)
  obtain ⟨b1, b2, b3⟩ := b
  obtain ⟨l1, l2, l3⟩ := hf
  simp only at l1 l2 l3
  go_enter Tryz.func74, Tryz.ntmps74
  go_wp2_with fail
  go_region_held3 (fun wr => wr.cell? ⟨w.heap.size, 0, none⟩ = some (tx b1) ∧ wr.cell? ⟨w.heap.size, 1, none⟩ = some (tx b2) ∧ wr.cell? ⟨w.heap.size, 2, none⟩ = some (tx b3)) (first | exact hS | exact hs1.out | go_keep) ((go_at_call 57; refine (cc.out _ (by assumption) _ (by assumption)).mono ?_; rintro e w'' ⟨rfl, hO, hS, ⟨d0, d1, d2⟩, f0, f1, f2⟩))
  have fin := Lib.hid (hO.stored (b1 := b1) (b2 := b2) (b3 := b3) _ rfl)
  go_wp2_with fail
  exact bodyPost_ret (ret_own rfl fin.out.1.1 fin.out.1.2.1 fin.out.1.2.2) rfl ⟨rfl, fin.out.2⟩
end
end Go.Proofs.YtoecaonmehbfeaaGreat
