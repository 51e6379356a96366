/- A slice that the call owns, wherever in its block it begins: SlIs T size v n xs F says that the value v is a slice of n elements with the cells xs, and that F lists the block that it lies in (or nothing). Appended to and cut, it is one again. -/
import Derived.Test.YtaolpcmecfhgnaaOwn
import Derived.Maps.AppendAt
import Derived.Laws.MakeOwn
namespace Go.Proofs.Ytaolpcmecfhgnaa
open Go.RowKit
set_option maxRecDepth 100000

def SlIs (T : TypeId) (size : Nat) (v : Value) (n : Nat) (xs : List Value) (F : List (Nat × Obj)) : Prop :=
  xs.length = n * size ∧ ((v = .slice none 0 0 ∧ n = 0 ∧ F = []) ∨
    ∃ g off cap cur, v = .slice (some ⟨g, off, none⟩) n cap ∧ F = [(g, .cells cur T (0, 0))] ∧ n ≤ cap ∧ cap ≤ maxLen ∧ off + cap * size ≤ cur.size ∧ (cur.toList.drop off).take (n * size) = xs)

/-- In w the value x reads as m elements with the cells news. -/
def Reads (w : World) (x : Value) (m size : Nat) (news : List Value) : Prop :=
  news.length = m * size ∧ ((x = .slice none 0 0 ∧ m = 0) ∨ ∃ ad c, x = .slice (some ad) m c ∧ ∀ j u, news[j]? = some u → w.cell? (ad.add j) = some u)

section
variable {P : Program} {B : Nat} {w0 w w' : World} {A F : List (Nat × Obj)} {T : TypeId} {size n m : Nat} {v x : Value} {xs news : List Value}

theorem SlIs.nil : SlIs T size (.slice none 0 0) 0 [] [] := ⟨by simp, .inl ⟨rfl, rfl, rfl⟩⟩
theorem SlIs.made {g : Nat} {cs : List Value} (hl : cs.length = n * size) (hm : n ≤ maxLen) : SlIs T size (.slice (some ⟨g, 0, none⟩) n n) n cs [(g, .cells cs.toArray T (0, 0))] :=
  ⟨hl, .inr ⟨g, 0, n, _, rfl, rfl, Nat.le_refl _, hm, by simp [hl], by rw [List.drop_zero, List.take_of_length_le (by simp [hl])]⟩⟩

theorem SlIs.len (h : SlIs T size v n xs F) : xs.length = n * size := h.1
theorem SlIs.form (h : SlIs T size v n xs F) : ∃ a cap, v = .slice a n cap ∧ n ≤ cap ∧ cap ≤ maxLen ∧ ∀ k, k < n → ∃ g off, a = some ⟨g, off, none⟩ := by
  obtain ⟨_, ⟨h1, h2, _⟩ | ⟨g, off, cap, cur, h1, _, h3, h4, _⟩⟩ := h
  · exact ⟨none, 0, by rw [h1, h2], by omega, Nat.zero_le _, fun k hk => by omega⟩
  · exact ⟨_, cap, h1, h3, h4, fun _ _ => ⟨g, off, rfl⟩⟩

/-- The cells where the value says. -/
theorem SlIs.cellAt {g off cap : Nat} (h : SlIs T size (.slice (some ⟨g, off, none⟩) n cap) n xs F) (hst : St B w0 w (A ++ F)) {j : Nat} {u : Value} (hj : xs[j]? = some u) : w.cell? ⟨g, off + j, none⟩ = some u := by
  obtain ⟨hl, ⟨h1, _⟩ | ⟨g', off', cap', cur, h1, hF, h3, h4, h5, h6⟩⟩ := h
  · cases h1
  · cases h1
    subst hF
    have hlt : j < xs.length := (List.getElem?_eq_some_iff.1 hj).1
    have hle : n * size ≤ cap * size := Nat.mul_le_mul_right _ h3
    refine hst.cell (b := g) (c := cur) (T := T) (fr := (0, 0)) (by simp) ?_
    rw [← h6, List.getElem?_take, if_pos (by omega), List.getElem?_drop] at hj
    rw [← hj]
    simp
theorem SlIs.soft {g off cap : Nat} (h : SlIs T size (.slice (some ⟨g, off, none⟩) n cap) n xs F) (hst : St B w0 w (A ++ F)) (j : Nat) : w.frozen? ⟨g, j, none⟩ = false := by
  obtain ⟨hl, ⟨h1, _⟩ | ⟨g', off', cap', cur, h1, hF, h3, h4, h5, h6⟩⟩ := h
  · cases h1
  · cases h1
    subst hF
    exact hst.soft (b := g) (c := cur) (T := T) (by simp) j

/-- A cell of the slice turned. -/
theorem SlIs.set {g off cap : Nat} (h : SlIs T size (.slice (some ⟨g, off, none⟩) n cap) n xs F) (hst : St B w0 w (A ++ F)) (j : Nat) (u : Value) :
    ∃ F', SlIs T size (.slice (some ⟨g, off, none⟩) n cap) n (xs.set j u) F' ∧ St B w0 (w.setCell ⟨g, off + j, none⟩ u) (A ++ F') ∧ F'.map (·.1) = F.map (·.1) := by
  obtain ⟨hl, ⟨h1, _⟩ | ⟨g', off', cap', cur, h1, hF, h3, h4, h5, h6⟩⟩ := h
  · cases h1
  · cases h1
    subst hF
    refine ⟨[(g, .cells (cur.setIfInBounds (off + j) u) T (0, 0))], ⟨by simp [hl], .inr ⟨g, off, cap, _, rfl, rfl, h3, h4, by simpa using h5, ?_⟩⟩, hst.set (off + j) u, rfl⟩
    rw [Array.toList_setIfInBounds, ← h6, List.drop_set, if_neg (by omega), Nat.add_sub_cancel_left, List.take_set]

theorem SlIs.reads (h : SlIs T size v n xs F) (hst : St B w0 w (A ++ F)) : Reads w v n size xs := by
  refine ⟨h.1, ?_⟩
  have h' := h
  obtain ⟨hl, ⟨rfl, rfl, _⟩ | ⟨g', off', cap', cur, rfl, hF, h3, h4, h5, h6⟩⟩ := h
  · exact .inl ⟨rfl, rfl⟩
  · refine .inr ⟨_, _, rfl, fun j u hj => ?_⟩
    rw [Go.WideShapes.add_plain]
    exact h'.cellAt hst hj
theorem Reads.one (w : World) (u : Value) (T : TypeId) : Reads (w.alloc (.cells #[u] T)) (.slice (some ⟨w.heap.size, 0, none⟩) 1 1) 1 1 [u] := ⟨rfl, .inr ⟨_, _, rfl, cell_one_new w u T⟩⟩
theorem Reads.block {b : Nat} {cs : List Value} {fr : Nat × Nat} (h : w.heap[b]? = some (.cells cs.toArray T fr)) (hl : cs.length = n * size) (c : Nat) : Reads w (.slice (some ⟨b, 0, none⟩) n c) n size cs := by
  refine ⟨hl, .inr ⟨_, _, rfl, fun j u hj => ?_⟩⟩
  rw [Go.WideShapes.add_plain, Nat.zero_add]
  simp [World.cell?, h, hj]
theorem Reads.alloc (h : Reads w x m size news) (o : Obj) : Reads (w.alloc o) x m size news := by
  obtain ⟨hl, h | ⟨ad, c, rfl, h⟩⟩ := h
  · exact ⟨hl, .inl h⟩
  · exact ⟨hl, .inr ⟨ad, c, rfl, fun j u hj => (World.cell?_alloc_lt w o _ (World.block_lt_of_cell? w _ (h j u hj))).trans (h j u hj)⟩⟩

theorem Reads.drewN (h : Reads w x m size news) (k : Nat) : Reads (w.drewN k) x m size news := by
  obtain ⟨hl, h | ⟨ad, c, rfl, h⟩⟩ := h
  · exact ⟨hl, .inl h⟩
  · exact ⟨hl, .inr ⟨ad, c, rfl, fun j u hj => h j u hj⟩⟩

/-- 'append', into the room that there is, wherever the slice begins. -/
theorem run_append_room_off (w : World) (t ty e : TypeId) (i : TypeInfo) (ht : P.underlying t = some (.slice e)) (hi : P.info? e = some i)
    (g off sLen sCap : Nat) (cur : Array Value) (hg : w.heap[g]? = some (.cells cur e (0, 0)))
    (a : Addr) (m c : Nat) (news : List Value) (hl : news.length = m * i.size) (hnews : ∀ j u, news[j]? = some u → w.cell? (a.add j) = some u) (h1 : ∀ u ∈ news, u.oneCell' = true)
    (hroom : sLen + m ≤ sCap) (hfit : off + sLen * i.size + news.length ≤ cur.size) :
    (Builtin.append_ #[t, t] ty #[.slice (some ⟨g, off, none⟩) sLen sCap, .slice (some a) m c]).run P w =
      .ok (.slice (some ⟨g, off, none⟩) (sLen + m) sCap) (w.setRow g (cur.toList.take (off + sLen * i.size) ++ news ++ cur.toList.drop (off + sLen * i.size + news.length)).toArray) := by
  have hf := run_firstCells_some (P := P) w i.size m a m c news hl hnews
  have hst := run_storeCells_at P g (off + sLen * i.size) e news 0 cur w hg (by simpa using hfit) h1
  simp only [Nat.add_zero] at hst
  simp [Builtin.append_, run_underlying ht, sizeOf, typeInfo, hi, Builtin.lenOf, hroom, hf, Go.WideShapes.add_plain, hst]

theorem run_append_room_none (w : World) (t ty e : TypeId) (i : TypeInfo) (ht : P.underlying t = some (.slice e)) (hi : P.info? e = some i)
    (b : Option Addr) (sLen sCap : Nat) (hroom : sLen ≤ sCap) :
    (Builtin.append_ #[t, t] ty #[.slice b sLen sCap, .slice none 0 0]).run P w = .ok (.slice b sLen sCap) w := by
  have hf := run_firstCells_none (P := P) w i.size 0 0 0
  cases b with
  | none => simp [Builtin.append_, run_underlying ht, sizeOf, typeInfo, hi, Builtin.lenOf, hroom, hf]
  | some a => simp [Builtin.append_, run_underlying ht, sizeOf, typeInfo, hi, Builtin.lenOf, hroom, hf, storeCells]

theorem St.fresh (h : St B w0 w A) (o : Obj) : St B w0 (w.drew.alloc o) (A ++ [(w.heap.size, o)]) :=
  (h.drew.alloc o).perm (by simpa using (List.perm_middle (a := (w.heap.size, o)) (l₁ := A) (l₂ := [])).symm)

theorem St.setRow {b : Nat} {c c' : Array Value} {fr : Nat × Nat} (h : St B w0 w (A ++ [(b, .cells c T fr)])) : St B w0 (w.setRow b c') (A ++ [(b, .cells c' T fr)]) := by
  have hb := h.get (b := b) (o := .cells c T fr) (by simp)
  exact h.write (C := []) (setRow_heap w b c c' T fr hb) (fun k hk => setRow_other w b k c' hk) (by simp [World.setRow]) rfl rfl rfl

/-- 'append' onto a slice that the call owns, of whatever reads as cells: it is owned again, beside all else. -/
theorem run_append_sl (t ty e : TypeId) (i : TypeInfo) (z : Value) (size bytes : Nat) (ht : P.underlying t = some (.slice e)) (hi : P.info? e = some i) (hz : i.zero = some z)
    (hsize : i.size = size) (hby : i.bytes = bytes) (hzs : z.cells.size = size) (hs : SlIs e size v n xs F) (hst : St B w0 w (A ++ F)) (hx : Reads w x m size news) (h1 : ∀ u ∈ news, u.oneCell' = true)
    (h63 : n + m ≤ maxLen) (hbytes : (n + m) * bytes ≤ 140737488355328) :
    ∃ v' w' F', (Builtin.append_ #[t, t] ty #[v, x]).run P w = .ok v' w' ∧ SlIs e size v' (n + m) (xs ++ news) F' ∧ St B w0 w' (A ++ F') := by
  subst hsize hby
  have hsmall : n + m ≤ 9223372036854775807 := by simp only [maxLen] at h63; omega
  obtain ⟨hxl, ⟨rfl, rfl⟩ | ⟨ad, c, rfl, hnews⟩⟩ := hx
  · have hn : news = [] := List.eq_nil_of_length_eq_zero (by simpa using hxl)
    subst hn
    rw [List.append_nil, Nat.add_zero]
    obtain ⟨a, cap, rfl, hcap, _, _⟩ := hs.form
    exact ⟨_, _, _, run_append_room_none w t ty e i ht hi a n cap hcap, hs, hst⟩
  · have hlen : (xs ++ news).length = (n + m) * i.size := by rw [List.length_append, hs.1, hxl, Nat.add_mul]
    have grown : ∀ (old : Nat) (A' : List (Nat × Obj)), St B w0 w A' → SlIs e i.size (.slice (some ⟨w.heap.size, 0, none⟩) (n + m) (grownCap w (n + m) old e)) (n + m) (xs ++ news) [(w.heap.size, .cells (xs.toArray ++ news.toArray ++ Builtin.zeroCells z.cells (grownCap w (n + m) old e - (n + m))) e (0, 0))] ∧
        St B w0 (w.drew.alloc (.cells (xs.toArray ++ news.toArray ++ Builtin.zeroCells z.cells (grownCap w (n + m) old e - (n + m))) e)) (A' ++ [(w.heap.size, .cells (xs.toArray ++ news.toArray ++ Builtin.zeroCells z.cells (grownCap w (n + m) old e - (n + m))) e (0, 0))]) := by
      intro old A' hA'
      have hge := grownCap_ge w (n + m) old e
      refine ⟨⟨hlen, .inr ⟨_, _, _, _, rfl, rfl, hge, grownCap_le_maxLen w (n + m) old e h63, ?_, ?_⟩⟩, hA'.fresh _⟩
      · simp only [Array.size_append, List.size_toArray, size_zeroCells, hzs, hs.1, hxl, ← Nat.add_mul, Nat.zero_add]
        refine Nat.mul_le_mul_right _ ?_
        omega
      · simp only [Array.toList_append, List.append_assoc, List.drop_zero]
        rw [← List.append_assoc, ← hlen]
        exact List.take_left
    obtain ⟨hl, ⟨rfl, rfl, rfl⟩ | ⟨g, off, cap, cur, rfl, rfl, h3, h4, h5, h6⟩⟩ := hs
    · have hx0 : xs = [] := List.eq_nil_of_length_eq_zero (by simpa using hl)
      subst hx0
      by_cases hm : m = 0
      · subst hm
        have hn : news = [] := List.eq_nil_of_length_eq_zero (by simpa using hxl)
        subst hn
        refine ⟨.slice none 0 0, w, [], ?_, SlIs.nil, by simpa using hst⟩
        simp [Builtin.append_, run_underlying ht, sizeOf, typeInfo, hi, Builtin.lenOf, Builtin.firstCells, loadCells, loadCellsFrom]
      · have hr := run_append_nil (P := P) w t ty e i z ht hi hz ad m c news hxl hnews (by omega) (by omega) (by have hb := hbytes; simp only [Nat.zero_add] at hb; omega)
        obtain ⟨e1, e2⟩ := grown 0 A (by simpa using hst)
        simp only [Nat.zero_add, List.nil_append, Array.empty_append] at e1 e2 ⊢
        exact ⟨_, _, _, hr, e1, e2⟩
    · by_cases hroom : n + m ≤ cap
      · have hb := hst.get (b := g) (o := .cells cur e (0, 0)) (by simp)
        have hfit : off + n * i.size + news.length ≤ cur.size := by
          have : (n + m) * i.size ≤ cap * i.size := Nat.mul_le_mul_right _ hroom
          rw [Nat.add_mul] at this
          omega
        have hr := run_append_room_off (P := P) w t ty e i ht hi g off n cap cur hb ad m c news hxl hnews h1 hroom hfit
        refine ⟨_, _, _, hr, ⟨hlen, .inr ⟨g, off, cap, _, rfl, rfl, hroom, h4, ?_, ?_⟩⟩, hst.setRow⟩
        · simp only [List.size_toArray, List.length_append, List.length_take, List.length_drop, Array.length_toList]
          omega
        · show List.take ((n + m) * i.size) (List.drop off (cur.toList.take (off + n * i.size) ++ news ++ cur.toList.drop (off + n * i.size + news.length))) = xs ++ news
          have h7 : cur.toList.take (off + n * i.size) = cur.toList.take off ++ xs := by rw [← h6, List.take_add]
          have h8 : (cur.toList.take off).length = off := by rw [List.length_take, Array.length_toList]; omega
          rw [h7, List.append_assoc, List.append_assoc, List.drop_left' h8, ← List.append_assoc, ← hlen]
          exact List.take_left
      · have holds : ∀ j u, xs[j]? = some u → w.cell? ((⟨g, off, none⟩ : Addr).add j) = some u := fun j u hj => by
          rw [Go.WideShapes.add_plain]
          exact SlIs.cellAt ⟨hl, .inr ⟨g, off, cap, cur, rfl, rfl, h3, h4, h5, h6⟩⟩ hst hj
        have hr := run_append_grow (P := P) w t ty e i z ht hi hz ⟨g, off, none⟩ n cap xs hl holds ad m c news hxl hnews (by omega) (by omega) (growslice_fits (by omega) hbytes)
        obtain ⟨e1, e2⟩ := grown cap A (hst.sub (List.sublist_append_left _ _))
        exact ⟨_, _, _, hr, e1, e2⟩

/-- .. at the operation, for the walk. -/
theorem wpList_append_sl {ops : Array Oper} {rest : List Oper} {o : Oper} {a : Act} {Q : Exit → Act → World → Prop} (hgd : o.guard = none) (s y : Operand) (t : TypeId)
    (ho : o.op = .call { callee := .builtin .append, args := #[s, y], argTypes := #[t, t] })
    (e : TypeId) (i : TypeInfo) (z : Value) (size bytes : Nat) (ht : P.underlying t = some (.slice e)) (hi : P.info? e = some i) (hz : i.zero = some z)
    (hsize : i.size = size) (hby : i.bytes = bytes) (hzs : z.cells.size = size) (hs : SlIs e size v n xs F) (hst : St B w0 w (A ++ F)) (hx : Reads w x m size news) (h1 : ∀ u ∈ news, u.oneCell' = true)
    (h63 : n + m ≤ maxLen) (hbytes : (n + m) * bytes ≤ 140737488355328) (hes : a.eval s = v) (hey : a.eval y = x)
    (h : ∀ v' w' F', SlIs e size v' (n + m) (xs ++ news) F' → St B w0 w' (A ++ F') → wpList P ops Q rest (a.put o.dst v') w') :
    wpList P ops Q (o :: rest) a w := by
  refine wpList_plain hgd fun K hK => ?_
  obtain ⟨v', w', F', hr, h2, h3⟩ := run_append_sl (P := P) t o.type e i z size bytes ht hi hz hsize hby hzs hs hst hx h1 h63 hbytes
  unfold Oper.wp execOp
  simp only [ho, resolve, invoke, builtin, Sem.run_bind, Sem.run_pure, Result.andThen_ok, List.map_toArray, List.map_cons, List.map_nil, hes, hey, hr]
  exact hK _ _ (h v' w' F' h2 h3)

/-! ### a piece of it -/
theorem SlIs.piece (h : SlIs T size v n xs F) (lo hi : Nat) (h1 : lo ≤ hi) (h2 : hi ≤ n) :
    ∀ {a : Option Addr} {cap : Nat}, v = .slice a n cap → SlIs T size (.slice (if cap = lo then a else a.map (·.add (lo * size))) (hi - lo) (cap - lo)) (hi - lo) ((xs.drop (lo * size)).take ((hi - lo) * size)) F := by
  intro a cap e
  obtain ⟨hl, ⟨rfl, rfl, rfl⟩ | ⟨g, off, cap', cur, rfl, hF, h3, h4, h5, h6⟩⟩ := h
  · cases e
    obtain rfl : lo = 0 := by omega
    obtain rfl : hi = 0 := by omega
    refine ⟨by simp, .inl ⟨by simp, rfl, rfl⟩⟩
  · cases e
    have hlen : ((xs.drop (lo * size)).take ((hi - lo) * size)).length = (hi - lo) * size := by
      rw [List.length_take, List.length_drop, hl]
      have : hi * size ≤ n * size := Nat.mul_le_mul_right _ h2
      have e : (hi - lo) * size = hi * size - lo * size := Nat.sub_mul _ _ _
      omega
    refine ⟨hlen, .inr ?_⟩
    by_cases hc : cap = lo
    · rw [if_pos hc]
      have e0 : hi - lo = 0 := by omega
      refine ⟨g, off, cap - lo, cur, rfl, hF, by omega, by omega, ?_, ?_⟩
      · have : (cap - lo) * size ≤ cap * size := Nat.mul_le_mul_right _ (by omega)
        omega
      · rw [e0, Nat.zero_mul, List.take_zero, List.take_zero]
    · rw [if_neg hc]
      refine ⟨g, off + lo * size, cap - lo, cur, by simp [Go.WideShapes.add_plain], hF, by omega, by omega, ?_, ?_⟩
      · have : (cap - lo) * size = cap * size - lo * size := Nat.sub_mul _ _ _
        have : lo * size ≤ cap * size := Nat.mul_le_mul_right _ (by omega)
        omega
      · rw [← h6, List.drop_take, List.drop_drop, List.take_take]
        congr 1
        have e : (hi - lo) * size = hi * size - lo * size := Nat.sub_mul _ _ _
        have : hi * size ≤ n * size := Nat.mul_le_mul_right _ h2
        omega

/-- 's[lo:hi]' of a slice of that type, where the bounds serve: its run, and what it is. -/
theorem run_piece {t e : TypeId} {i : TypeInfo} (ht : P.underlying t = some (.slice e)) (hi : P.info? e = some i) (hsz : i.size = size) (h : SlIs e size v n xs F) (lo hi' : Nat) (h1 : lo ≤ hi') (h2 : hi' ≤ n) :
    ∃ v', SlIs e size v' (hi' - lo) ((xs.drop (lo * size)).take ((hi' - lo) * size)) F ∧
      (∀ w, (Instr.slice t v (some (.int .i64 lo)) (some (.int .i64 hi')) none).run P w = .ok v' w) ∧
      (hi' = n → ∀ w, (Instr.slice t v (some (.int .i64 lo)) none none).run P w = .ok v' w) ∧
      (lo = 0 → ∀ w, (Instr.slice t v none (some (.int .i64 hi')) none).run P w = .ok v' w) := by
  obtain ⟨a, cap, rfl, hc, _, _⟩ := h.form
  have e1 : hi' ≤ cap := by omega
  refine ⟨_, h.piece lo hi' h1 h2 rfl, fun w => ?_, fun e w => ?_, fun e w => ?_⟩
  · simp [Instr.slice, run_underlying ht, Instr.sliceBounds, Instr.sliceBound, asIntOf, e1, h1, sizeOf, typeInfo, hi, hsz]
  · subst e
    simp [Instr.slice, run_underlying ht, Instr.sliceBounds, Instr.sliceBound, asIntOf, h1, sizeOf, typeInfo, hi, hsz]
  · subst e
    simp [Instr.slice, run_underlying ht, Instr.sliceBounds, Instr.sliceBound, asIntOf, e1, sizeOf, typeInfo, hi]
end
end Go.Proofs.Ytaolpcmecfhgnaa
