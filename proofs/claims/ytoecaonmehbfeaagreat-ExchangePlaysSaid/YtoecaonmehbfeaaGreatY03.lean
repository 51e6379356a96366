/- Editing a row that the call owns in place: copy, clear, append of zero values, cuts up to the capacity, and whether two rows overlap. The block's content is a plain list, Rows that are so, rows cut out, names each once: loops by goto over a function value, Rows cut out; names each once, The table: what it tells, Of, Keyed, Len; the function values. -/
import Derived.Test.YtoecaonmehbfeaaGreatY02
import Derived.Laws.CopyOwn
import Derived.Lib.AppendZerosOnto
import Derived.Lib.Overlaps
import Derived.Deep.Fields
/- Editing a row that the call owns in place: copy, clear, append of zero values, cuts up to the capacity, and whether two rows overlap. The block's content is a plain list. -/
namespace Go.Proofs.YtoecaonmehbfeaaGreat
open Go.RowKit
set_option maxRecDepth 100000

section
variable {P : Program} {B : Nat} {w0 w w' : World} {A F : List (Nat × Obj)} {T : TypeId} {size n m : Nat} {v x : Value} {xs news : List Value}

/-! ### lists -/
theorem take_splice {L : List Value} {p k : Nat} {c : List Value} (h : k ≤ p) (hp : p ≤ L.length) : (splice L p c).take k = L.take k := by
  unfold splice
  rw [List.take_append_of_le_length (by rw [List.length_take]; omega), List.take_take, Nat.min_eq_left h]
theorem drop_splice {L : List Value} {p : Nat} {c : List Value} (hp : p ≤ L.length) : (splice L p c).drop p = c ++ L.drop (p + c.length) := by
  unfold splice
  exact List.drop_left' (by rw [List.length_take]; omega)
theorem drop_splice_behind {L : List Value} {p k : Nat} {c : List Value} (hp : p ≤ L.length) (hk : k = p + c.length) : (splice L p c).drop k = L.drop k := by
  subst hk
  rw [← List.drop_drop, drop_splice hp, List.drop_left]
theorem drop_splice_ahead {L : List Value} {p k : Nat} {c : List Value} (h : k ≤ p) (hp : p ≤ L.length) : (splice L p c).drop k = splice (L.drop k) (p - k) c := by
  unfold splice
  rw [List.drop_append_of_le_length (by rw [List.length_take]; omega), List.drop_take, List.drop_drop]
  congr 3
  omega
theorem getElem_splice_out {L : List Value} {p j : Nat} {c : List Value} (hp : p ≤ L.length) (h : p + c.length ≤ j) : (splice L p c)[j]? = L[j]? := by
  obtain ⟨d, rfl⟩ : ∃ d, j = (p + c.length) + d := ⟨j - (p + c.length), by omega⟩
  rw [← List.getElem?_drop, ← List.getElem?_drop, drop_splice_behind hp rfl]

/-- What lies ahead of p, then c, then d: however the two were laid. -/
theorem splice2_low {L : List Value} {p q : Nat} {c d : List Value} (hq : q = p + c.length) (hl : q + d.length ≤ L.length) : (splice (splice L p c) q d).take (q + d.length) = L.take p ++ c ++ d := by
  have h1 : (splice L p c).take q = L.take p ++ c := by
    subst hq
    unfold splice
    rw [← List.append_assoc]
    exact List.take_left' (by rw [List.length_append, List.length_take]; omega)
  unfold splice at h1 ⊢
  rw [h1, ← List.append_assoc]
  exact List.take_left' (by simp only [List.length_append, List.length_take]; omega)
theorem splice2_high {L : List Value} {p q : Nat} {c d : List Value} (hq : q = p + c.length) (hl : q + d.length ≤ L.length) : (splice (splice L q d) p c).take (q + d.length) = L.take p ++ c ++ d := by
  have hl1 : (splice L q d).length = L.length := length_splice _ _ _ hl
  have h1 : (splice L q d).take p = L.take p := take_splice (by omega) (by omega)
  have h2 : (splice L q d).drop q = d ++ L.drop (q + d.length) := drop_splice (by omega)
  rw [show splice (splice L q d) p c = (splice L q d).take p ++ (c ++ (splice L q d).drop (p + c.length)) from rfl, h1, ← hq, h2, ← List.append_assoc, ← List.append_assoc]
  exact List.take_left' (by simp only [List.length_append, List.length_take]; omega)
theorem splice1 {L : List Value} {p : Nat} {c : List Value} (hl : p + c.length ≤ L.length) : (splice L p c).take (p + c.length) = L.take p ++ c := by
  unfold splice
  rw [← List.append_assoc]
  exact List.take_left' (by simp only [List.length_append, List.length_take]; omega)

/-! ### the block -/
/-- v is a slice of n elements and capacity cap, of the cells of block g from off on; the block holds L. -/
theorem SlIs.block {g off cap : Nat} (h : SlIs T size (.slice (some ⟨g, off, none⟩) n cap) n xs F) : ∃ L : List Value, F = [(g, .cells L.toArray T (0, 0))] ∧ n ≤ cap ∧ cap ≤ maxLen ∧ off + cap * size ≤ L.length ∧ (L.drop off).take (n * size) = xs := by
  obtain ⟨hl, ⟨h1, _⟩ | ⟨g', off', cap', cur, h1, hF, h3, h4, h5, h6⟩⟩ := h
  · cases h1
  · cases h1
    exact ⟨cur.toList, by rw [hF], h3, h4, by simpa using h5, h6⟩
theorem SlIs.of {g off cap : Nat} {L : List Value} (h3 : n ≤ cap) (h4 : cap ≤ maxLen) (h5 : off + cap * size ≤ L.length) (h6 : (L.drop off).take (n * size) = xs) : SlIs T size (.slice (some ⟨g, off, none⟩) n cap) n xs [(g, .cells L.toArray T (0, 0))] := by
  refine ⟨?_, .inr ⟨g, off, cap, _, rfl, rfl, h3, h4, by simpa using h5, h6⟩⟩
  rw [← h6, List.length_take, List.length_drop]
  have : n * size ≤ cap * size := Nat.mul_le_mul_right _ h3
  omega
theorem St.cellL {g : Nat} {L : List Value} (h : St B w0 w (A ++ [(g, .cells L.toArray T (0, 0))])) {j : Nat} {u : Value} (hj : L[j]? = some u) : w.cell? ⟨g, j, none⟩ = some u :=
  h.cell (b := g) (c := L.toArray) (T := T) (fr := (0, 0)) (by simp) (by simpa using hj)
theorem St.setL {g : Nat} {L L' : List Value} (h : St B w0 w (A ++ [(g, .cells L.toArray T (0, 0))])) : St B w0 (w.setRow g L'.toArray) (A ++ [(g, .cells L'.toArray T (0, 0))]) := St.setRow h

theorem run_copy_st {g o dLen dCap sLen sCap : Nat} {dp sp : Option Addr} {L cs : List Value} (dT sT ty e : TypeId) (hu : P.underlying dT = some (.slice e)) (hsz : (P.info? e).map (·.size) = some size)
    (hst : St B w0 w (A ++ [(g, .cells L.toArray T (0, 0))])) (hn : cs.length = Nat.min sLen dLen * size) (hd : cs ≠ [] → dp = some ⟨g, o, none⟩) (hs : cs ≠ [] → ∃ ad, sp = some ad)
    (hsrc : ∀ ad j u, sp = some ad → cs[j]? = some u → w.cell? (ad.add j) = some u) (hfit : o + cs.length ≤ L.length) (h1 : ∀ u ∈ cs, u.oneCell' = true) :
    ∃ w', (Builtin.copy_ #[dT, sT] ty #[.slice dp dLen dCap, .slice sp sLen sCap]).run P w = .ok (goInt (Nat.min sLen dLen)) w' ∧ St B w0 w' (A ++ [(g, .cells (splice L o cs).toArray T (0, 0))]) := by
  have hb := hst.get (b := g) (o := .cells L.toArray T (0, 0)) (by simp)
  cases hq : P.info? e with
  | none => simp [hq] at hsz
  | some i =>
    have hi : i.size = size := by simpa [hq] using hsz
    by_cases h0 : cs = []
    · subst h0
      have hl : Nat.min sLen dLen * size = 0 := by rw [← hn]; rfl
      refine ⟨w, ?_, by simpa [splice] using hst⟩
      have hf : (Builtin.firstCells size (Nat.min sLen dLen) (.slice sp sLen sCap)).run P w = .ok #[] w := by
        cases sp with
        | none => simp [Builtin.firstCells]
        | some a => exact run_firstCells_some (P := P) w size _ a sLen sCap [] (by rw [hl]; rfl) (by simp)
      cases dp <;> simp [Builtin.copy_, run_underlying hu, Builtin.lenOf, sizeOf, typeInfo, hq, hi, hf, storeCells]
    · obtain rfl := hd h0
      obtain ⟨ad, rfl⟩ := hs h0
      have hf := run_firstCells_some (P := P) w size (Nat.min sLen dLen) ad sLen sCap cs hn (fun j u hj => hsrc ad j u rfl hj)
      have hsto := run_storeCells_at P g o T cs 0 L.toArray w hb (by simpa using hfit) h1
      simp only [Nat.add_zero] at hsto
      refine ⟨_, ?_, hst.setL⟩
      simp [Builtin.copy_, run_underlying hu, Builtin.lenOf, sizeOf, typeInfo, hq, hi, hf, hsto, splice]

theorem run_copy_ty {dT sT ty ty' : TypeId} {d s : Value} {r : Result Value} (h : (Builtin.copy_ #[dT, sT] ty #[d, s]).run P w = r) : (Builtin.copy_ #[dT, sT] ty' #[d, s]).run P w = r := h

/-- A copy whose run is known: for the walk. -/
theorem wpList_copy_go {ops : Array Oper} {rest : List Oper} {o : Oper} {a : Act} {Q : Exit → Act → World → Prop} (hgd : o.guard = none) (d s : Operand) (dT sT : TypeId)
    (ho : o.op = .call { callee := .builtin .copy, args := #[d, s], argTypes := #[dT, sT] }) (vd vs : Value) (hed : a.eval d = vd) (hes : a.eval s = vs) {v' : Value} {w' : World}
    (hr : (Builtin.copy_ #[dT, sT] 0 #[vd, vs]).run P w = .ok v' w') (h : wpList P ops Q rest (a.put o.dst v') w') : wpList P ops Q (o :: rest) a w := by
  refine wpList_plain hgd fun K hK => ?_
  have hr' := run_copy_ty (ty' := o.type) hr
  unfold Oper.wp execOp
  simp only [ho, resolve, invoke, builtin, Sem.run_bind, Sem.run_pure, Result.andThen_ok, List.map_toArray, List.map_cons, List.map_nil, hed, hes, hr']
  exact hK _ _ h

/-- .. and as one step of a region that draws its order. -/
theorem step_copy_go {ops : Array Oper} {o : Oper} {a : Act} {K : Act → World → Prop} {Q : Exit → Act → World → Prop} {E : Prop} (hgd : o.guard = none) (d s : Operand) (dT sT : TypeId)
    (ho : o.op = .call { callee := .builtin .copy, args := #[d, s], argTypes := #[dT, sT] }) (vd vs : Value) (hed : a.eval d = vd) (hes : a.eval s = vs) {v' : Value} {w' : World}
    (hr : (Builtin.copy_ #[dT, sT] 0 #[vd, vs]).run P w = .ok v' w') (h : K (a.put o.dst v') w') :
    if Region.wanted o (yielded ops a.tmps) = true then Oper.wp P o a w K Q else E := by
  have hw : Region.wanted o (yielded ops a.tmps) = true := by simp [Region.wanted, hgd]
  rw [if_pos hw]
  have hr' := run_copy_ty (ty' := o.type) hr
  unfold Oper.wp execOp
  simp only [ho, resolve, invoke, builtin, Sem.run_bind, Sem.run_pure, Result.andThen_ok, List.map_toArray, List.map_cons, List.map_nil, hed, hes, hr']
  exact h

theorem run_append_ty {dT sT ty ty' : TypeId} {d s : Value} {r : Result Value} (h : (Builtin.append_ #[dT, sT] ty #[d, s]).run P w = r) : (Builtin.append_ #[dT, sT] ty' #[d, s]).run P w = r := h

/-- An append whose run is known: for the walk. -/
theorem wpList_append_go {ops : Array Oper} {rest : List Oper} {o : Oper} {a : Act} {Q : Exit → Act → World → Prop} (hgd : o.guard = none) (d s : Operand) (dT sT : TypeId)
    (ho : o.op = .call { callee := .builtin .append, args := #[d, s], argTypes := #[dT, sT] }) (vd vs : Value) (hed : a.eval d = vd) (hes : a.eval s = vs) {v' : Value} {w' : World}
    (hr : (Builtin.append_ #[dT, sT] 0 #[vd, vs]).run P w = .ok v' w') (h : wpList P ops Q rest (a.put o.dst v') w') : wpList P ops Q (o :: rest) a w := by
  refine wpList_plain hgd fun K hK => ?_
  have hr' := run_append_ty (ty' := o.type) hr
  unfold Oper.wp execOp
  simp only [ho, resolve, invoke, builtin, Sem.run_bind, Sem.run_pure, Result.andThen_ok, List.map_toArray, List.map_cons, List.map_nil, hed, hes, hr']
  exact hK _ _ h

/-- .. and inside a region that draws its order. -/
theorem step_append_go {ops : Array Oper} {o : Oper} {a : Act} {K : Act → World → Prop} {Q : Exit → Act → World → Prop} {E : Prop} (hgd : o.guard = none) (d s : Operand) (dT sT : TypeId)
    (ho : o.op = .call { callee := .builtin .append, args := #[d, s], argTypes := #[dT, sT] }) (vd vs : Value) (hed : a.eval d = vd) (hes : a.eval s = vs) {v' : Value} {w' : World}
    (hr : (Builtin.append_ #[dT, sT] 0 #[vd, vs]).run P w = .ok v' w') (h : K (a.put o.dst v') w') : if Region.wanted o (yielded ops a.tmps) = true then Oper.wp P o a w K Q else E := by
  have hw : Region.wanted o (yielded ops a.tmps) = true := by simp [Region.wanted, hgd]
  rw [if_pos hw]
  have hr' := run_append_ty (ty' := o.type) hr
  unfold Oper.wp execOp
  simp only [ho, resolve, invoke, builtin, Sem.run_bind, Sem.run_pure, Result.andThen_ok, List.map_toArray, List.map_cons, List.map_nil, hed, hes, hr']
  exact h

theorem run_append_room_st {g off sLen sCap : Nat} {L : List Value} (t ty e : TypeId) (i : TypeInfo) (ht : P.underlying t = some (.slice e)) (hi : P.info? e = some i) (hsize : i.size = size)
    (hst : St B w0 w (A ++ [(g, .cells L.toArray e (0, 0))])) (hx : Reads w x m size news) (h1 : ∀ u ∈ news, u.oneCell' = true) (hroom : sLen + m ≤ sCap) (hfit : off + sLen * size + news.length ≤ L.length) :
    ∃ w', (Builtin.append_ #[t, t] ty #[.slice (some ⟨g, off, none⟩) sLen sCap, x]).run P w = .ok (.slice (some ⟨g, off, none⟩) (sLen + m) sCap) w' ∧ St B w0 w' (A ++ [(g, .cells (splice L (off + sLen * size) news).toArray e (0, 0))]) := by
  subst hsize
  obtain ⟨hxl, ⟨rfl, rfl⟩ | ⟨ad, c, rfl, hnews⟩⟩ := hx
  · have hn : news = [] := List.eq_nil_of_length_eq_zero (by simpa using hxl)
    subst hn
    exact ⟨w, run_append_room_none w t ty e i ht hi _ sLen sCap hroom, by simpa [splice] using hst⟩
  · have hb := hst.get (b := g) (o := .cells L.toArray e (0, 0)) (by simp)
    refine ⟨_, run_append_room_off (P := P) w t ty e i ht hi g off sLen sCap L.toArray hb ad m c news hxl hnews h1 hroom (by simpa using hfit), ?_⟩
    have := hst.setL (L' := splice L (off + sLen * i.size) news)
    simpa [splice] using this

/-- A clear whose run is known: for the walk. -/
theorem run_clear_ty {t ty ty' : TypeId} {d : Value} {r : Result Value} (h : (Builtin.clear_ #[t] ty #[d]).run P w = r) : (Builtin.clear_ #[t] ty' #[d]).run P w = r := h
theorem wpList_clear_go {ops : Array Oper} {rest : List Oper} {o : Oper} {a : Act} {Q : Exit → Act → World → Prop} (hgd : o.guard = none) (d : Operand) (t : TypeId)
    (ho : o.op = .call { callee := .builtin .clear, args := #[d], argTypes := #[t] }) (vd : Value) (hed : a.eval d = vd) {v' : Value} {w' : World}
    (hr : (Builtin.clear_ #[t] 0 #[vd]).run P w = .ok v' w') (h : wpList P ops Q rest (a.put o.dst v') w') : wpList P ops Q (o :: rest) a w := by
  refine wpList_plain hgd fun K hK => ?_
  have hr' := run_clear_ty (ty' := o.type) hr
  unfold Oper.wp execOp
  simp only [ho, resolve, invoke, builtin, Sem.run_bind, Sem.run_pure, Result.andThen_ok, List.map_toArray, List.map_cons, List.map_nil, hed, hr']
  exact hK _ _ h

theorem run_clear_st {g off k cap : Nat} {dp : Option Addr} {L : List Value} {z : Value} (t ty e : TypeId) (ht : P.underlying t = some (.slice e)) (hv : ∀ w, (zeroValue e).run P w = .ok z w) (hzs : z.cells.size = size) (hz1 : ∀ u ∈ z.cells.toList, u.oneCell' = true)
    (hst : St B w0 w (A ++ [(g, .cells L.toArray T (0, 0))])) (hd : 0 < k → dp = some ⟨g, off, none⟩) (hfit : off + k * size ≤ L.length) :
    ∃ (w' : World) (c : List Value), (Builtin.clear_ #[t] ty #[.slice dp k cap]).run P w = .ok (.tuple #[]) w' ∧ c.length = k * size ∧ St B w0 w' (A ++ [(g, .cells (splice L off c).toArray T (0, 0))]) := by
  have hb := hst.get (b := g) (o := .cells L.toArray T (0, 0)) (by simp)
  cases k with
  | zero =>
    refine ⟨w, [], ?_, by simp, by simpa [splice] using hst⟩
    cases dp <;> simp [Builtin.clear_, run_underlying ht]
  | succ k =>
    obtain rfl := hd (by omega)
    have hc : (Builtin.zeroCells z.cells (k + 1)).toList.length = (k + 1) * size := by simp [size_zeroCells, hzs]
    have hsto := run_storeCells_at P g off T (Builtin.zeroCells z.cells (k + 1)).toList 0 L.toArray w hb (by simpa [size_zeroCells, hzs] using hfit) (by
      intro u hu
      simp only [Builtin.zeroCells, Array.toList_map, List.mem_map] at hu
      obtain ⟨j, hj, rfl⟩ := hu
      have hj2 : j < (k + 1) * z.cells.size := by simpa using hj
      have hpos : 0 < z.cells.size := by
        rcases Nat.eq_zero_or_pos z.cells.size with h | h
        · rw [h] at hj2; omega
        · exact h
      have hlt : j % z.cells.size < z.cells.size := Nat.mod_lt _ hpos
      refine hz1 _ ?_
      rw [getElem!_pos z.cells _ hlt]
      simp)
    simp only [Nat.add_zero] at hsto
    refine ⟨_, (Builtin.zeroCells z.cells (k + 1)).toList, ?_, hc, hst.setL⟩
    simp [Builtin.clear_, run_underlying ht, hv, hsto, splice]

/-- 'append(s[:i], make([]T, k)...)' where there is no room: a new row that holds what s[:i] held, then zero values. -/
theorem run_append_zeros_st {sCap k : Nat} (t tn ty e : TypeId) (i : TypeInfo) (z : Value) (kn : IntKind) (ht : P.underlying t = some (.slice e)) (htn : P.underlying tn = some (.int kn)) (hi : P.info? e = some i) (hz : i.zero = some z) (hsize : i.size = size) (hs0 : 0 < size) (hzs : z.cells.size = size)
    {bytes : Nat} (hby : i.bytes = bytes) {base : Option Addr} (hs : SlIs T size (.slice base n sCap) n xs F) (hst : St B w0 w (A ++ F)) (hk : 0 < k) (hg : sCap < n + k) (hb : (n + k) * bytes ≤ 140737488355328) (hm : n + k ≤ 1073741824) :
    ∃ (w' : World) (L : List Value) (cap : Nat), (Builtin.append_ #[t, tn] ty #[.slice base n sCap, .int .i64 k]).run P w = .ok (.slice (some ⟨w.heap.size, 0, none⟩) (n + k) cap) w' ∧ n + k ≤ cap ∧ cap ≤ maxLen ∧ cap * size ≤ L.length ∧ L.take (n * size) = xs ∧
      St B w0 w' ((A ++ F) ++ [(w.heap.size, .cells L.toArray e (0, 0))]) := by
  subst hsize hby
  have hr := hs.reads hst
  have hold : (Builtin.firstCells i.size n (.slice base n sCap)).run P w.drew = .ok xs.toArray w.drew := by
    obtain ⟨hl, ⟨h1, h2⟩ | ⟨ad, c, h1, h2⟩⟩ := hr
    · cases h1
      have : xs = [] := List.eq_nil_of_length_eq_zero (by simpa using hl)
      subst this
      simp [Builtin.firstCells]
    · cases h1
      exact run_firstCells_some (P := P) w.drew i.size n ad n sCap xs hl (by simpa using h2)
  have hkb : k * i.bytes ≤ (n + k) * i.bytes := Nat.mul_le_mul_right _ (by omega)
  have h := Lib.run_append_grow_zeros (P := P) w t tn ty e i z .i64 kn ht htn hi hz base n sCap xs.toArray.toList (by simpa using hold) k hk hs0 hg (by omega) (by omega) (growslice_fits hg hb)
  have hge := grownCap_ge w (n + k) sCap e
  refine ⟨_, (xs.toArray ++ Builtin.zeroCells z.cells k ++ Builtin.zeroCells z.cells (grownCap w (n + k) sCap e - (n + k))).toList, _, h, hge, grownCap_le_maxLen w _ sCap e (by unfold maxLen; omega), ?_, ?_, ?_⟩
  · simp only [Array.toList_append, List.length_append, Array.length_toList, size_zeroCells, hzs, hs.1, ← Nat.add_mul]
    exact Nat.mul_le_mul_right _ (by omega)
  · simp only [Array.toList_append, List.append_assoc]
    rw [← hs.1]
    exact List.take_left
  · rw [Array.toArray_toList]
    exact hst.fresh _

/-- Two rows in two blocks do not overlap. -/
theorem run_overlaps_st {tS tR e : TypeId} (ht : P.underlying tS = some (.slice e)) (hz : ∀ w, (Go.sizeOf e).run P w = .ok size w) {g1 g2 o1 o2 la ca lb cb : Nat} {c1 c2 : Array Value} {T1 T2 : TypeId} {H : List (Nat × Obj)}
    (hst : St B w0 w H) (h1 : (g1, .cells c1 T1) ∈ H) (h2 : (g2, .cells c2 T2) ∈ H) (hne : g1 ≠ g2) (hc : 0 < c2.size) :
    (Extern.SlicesOverlaps.overlaps #[tS, tS] #[tR] #[.slice (some ⟨g1, o1, none⟩) la ca, .slice (some ⟨g2, o2, none⟩) lb cb]).run P w = .ok (.bool false) w := by
  have e1 := hst.get h1
  have e2 := hst.get h2
  refine Lib.run_overlaps_apart w tS tR e ht size hz ⟨g1, o1, none⟩ ⟨g2, o2, none⟩ la ca lb cb hne T1 T2 c1.size c2.size ?_ ?_ (by omega) (hst.soft h1 o1) (hst.soft h1 c1.size)
  · simp [World.shape?, e1]
  · simp [World.shape?, e2]
end
end Go.Proofs.YtoecaonmehbfeaaGreat

/- Rows that are so, rows cut out, names each once: loops by goto over a function value. -/
namespace Go.Proofs.YtoecaonmehbfeaaGreat
open Go.RowKit
set_option linter.unusedVariables false

abbrev bpt (b : Nat) : Value := .pointer (some ⟨b, 0, none⟩)
/-- A block of one cell, never frozen: a table. -/
def OneAt (T : TypeId) (w : World) (tb : Nat) (v : Value) : Prop := w.heap[tb]? = some (.cells #[v] T (0, 0))
section
variable {B : Nat} {w0 w w' : World} {S F A X : List (Nat × Obj)} {T : TypeId} {tb : Nat} {v u : Value} {L : List Bnd} {p : Bnd → Bool} {f : Bnd → List UInt8}
theorem OneAt.cell (h : OneAt T w tb v) : w.cell? ⟨tb, 0, none⟩ = some v := by
  unfold OneAt at h
  simp [World.cell?, h]
theorem OneAt.soft (h : OneAt T w tb v) : w.frozen? ⟨tb, 0, none⟩ = false := by
  unfold OneAt at h
  simp [World.frozen?, h]
theorem OneAt.lt (h : OneAt T w tb v) : tb < w.heap.size := (Array.getElem?_eq_some_iff.1 h).1
theorem OneAt.below (h : OneAt T w tb v) (hb : Below w.heap.size w w') : OneAt T w' tb v := (hb.block _ h.lt).trans h

/-- A function value that tells of each binding whether it is so. -/
structure TellsP (w : World) (g : Nat) (cb : Array Value) (p : Bnd → Bool) : Prop where
  go : ∀ args w, (callFunc g args).run Tryz.prog w = .ok (.enter g args) w
  is : ∀ w1, Below w.heap.size w w1 → ∀ b : Bnd, Calls Tryz.prog g (#[bV b] ++ cb) w1 fun e w2 => e = .returned (.bool (p b)) ∧ Below w1.heap.size w1 w2
/-- .. its name. -/
structure TellsN (w : World) (g : Nat) (cb : Array Value) (f : Bnd → List UInt8) : Prop where
  go : ∀ args w, (callFunc g args).run Tryz.prog w = .ok (.enter g args) w
  is : ∀ w1, Below w.heap.size w w1 → ∀ b : Bnd, Calls Tryz.prog g (#[bV b] ++ cb) w1 fun e w2 => e = .returned (tx (f b)) ∧ Below w1.heap.size w1 w2

/-! ### those -/
def ThoseR (w : World) (l : List Bnd) (e : Ending) (w' : World) : Prop := ∃ u S, e = .returned u ∧ BnsIs u l S ∧ St w.heap.size w w' S
def ThoseAt (w : World) (tb : Nat) (fv : Value) (L : List Bnd) (p : Bnd → Bool) (g : Nat) (a' : Act) (w' : World) : Prop :=
  ∃ (i : Nat) (u : Value) (S : List (Nat × Obj)), Fr 36 [(0, bpt tb), (1, fv), (5, u), (6, .int .i64 i)] a' ∧ i + g = L.length ∧ BnsIs u ((L.take i).filter p) S ∧ St w.heap.size w w' S

set_option maxHeartbeats 2000000 in
theorem those_any {g : Nat} {cb : Array Value} (h : OneAt T w tb v) (hv : ReadBs w v L) (hL : L.length ≤ 10000) (hp : TellsP w g cb p) :
    Calls Tryz.prog 82 #[bpt tb, .func (.func g) #[] cb] w (ThoseR w (L.filter p)) := by
  obtain ⟨eg, his⟩ := hp
  have hg := Lib.hid his
  have ht := Lib.hid (fun w' hb => (h.below (w' := w') hb).cell)
  obtain ⟨a, cap, rfl, -⟩ := id hv
  have hr := Lib.hid (fun w' hb => hv.below (w' := w') hb)
  clear hv his h
  go_enter Tryz.func82, Tryz.ntmps82
  go_wp2_with fail
  refine wp_scope_ghost 0 (ThoseAt w tb (.func (.func g) #[] cb) L p) rfl ?_ ?_
  · rintro n a' w' ⟨i, u, S, hfr, hi, hs, hst⟩
    obtain ⟨q, rfl, hl'⟩ := hfr.lit
    clear hfr
    simp only [List.mem_cons, List.not_mem_nil, or_false, forall_eq_or_imp, forall_eq] at hl'
    obtain ⟨f0, f1, f5, f6⟩ := hl'
    simp only [List.range, List.range.loop, List.map, f0, f1, f5, f6]
    clear f0 f1 f5 f6
    have hi0 : (0 : Int) ≤ i := by omega
    have ct := ht.out w' hst.below
    have hlen := filter_len_take (L := L) p i
    by_cases hlt : i < L.length
    · have hi1 : (i : Int) < L.length := by omega
      have hiB : ((i : Int) == L.length) = false := by rw [beq_eq_false_iff_ne]; omega
      have hx : L[i]? = some L[i] := List.getElem?_eq_getElem hlt
      generalize L[i] = x at hx
      have stp := filter_step (p := p) hx
      obtain ⟨a1, c1, e, hcells⟩ := hr.out w' hst.below
      cases e
      obtain ⟨b1, o1, rfl, k1, k2, k3⟩ := hcells i x hx
      have cc := Lib.hid (hg.out w' hst.below x)
      have hx2 : Hid (∀ w2, Below w'.heap.size w' w2 → w2.cell? ⟨tb, 0, none⟩ = some (.slice (some ⟨b1, o1, none⟩) L.length cap) ∧ w2.cell? ⟨b1, o1 + i * 3, none⟩ = some (tx x.1) ∧ w2.cell? ⟨b1, o1 + i * 3 + 1, none⟩ = some (tx x.2.1) ∧ w2.cell? ⟨b1, o1 + i * 3 + 2, none⟩ = some (tx x.2.2)) := Lib.hid fun w2 hb =>
        ⟨(hb.cell (p := ⟨tb, 0, none⟩) (World.block_lt_of_cell? w' _ ct)).trans ct, (hb.cell (World.block_lt_of_cell? w' _ k1)).trans k1, (hb.cell (World.block_lt_of_cell? w' _ k2)).trans k2, (hb.cell (World.block_lt_of_cell? w' _ k3)).trans k3⟩
      cases hpx : p x with
      | true =>
        rw [hpx] at stp cc
        rw [if_pos rfl] at stp
        have ap : Hid (∀ w2, Below w'.heap.size w' w2 → ∃ a cap2 W2, (Builtin.append_ #[28, 28] 0 #[u, .slice (some ⟨w2.heap.size, 0, none⟩) 1 1]).run Tryz.prog (w2.alloc (bO x)) = .ok (.slice a (((L.take i).filter p).length + 1) cap2) W2 ∧
            ∀ a', Fr 36 [(0, bpt tb), (1, .func (.func g) #[] cb), (5, .slice a (((L.take i).filter p).length + 1) cap2), (6, .int .i64 ((i + 1 : Nat) : Int))] a' → ∃ m, m < n ∧ ThoseAt w tb (.func (.func g) #[] cb) L p m a' W2) := by
          refine Lib.hid fun w2 hb => ?_
          obtain ⟨a, cap2, W2, F2, hrun, hs2, hst2⟩ := bnd_append (X := []) hs (hst.grow hb) x (by omega)
          refine ⟨a, cap2, W2, hrun, fun a' hf => ⟨n - 1, by omega, i + 1, _, F2, hf, by omega, ?_, hst2⟩⟩
          rw [stp]
          exact hs2
        obtain ⟨au, cu, rfl⟩ := hs.form
        obtain ⟨x1, x2, x3⟩ := x
        simp only at k1 k2 k3
        generalize ((L.take i).filter p).length = q0 at *
        clear hs hst hx hpx stp hlen hr ht hg
        go_wp2_with fail
        refine cc.out.mono ?_
        rintro e w2 ⟨rfl, hb⟩
        obtain ⟨ct2, m1, m2, m3⟩ := hx2.out w2 hb
        obtain ⟨a2, cap2, W2, hrun, fin⟩ := ap.out _ hb
        replace fin := Lib.hid fin
        clear cc ap hx2 hb k1 k2 k3 ct
        go_wp2_with (at_builtin; refine wpList_append_go rfl (.tmp 24) (.tmp 32) 28 28 rfl _ _ rfl rfl hrun ?_)
        refine wp_goto ?_
        exact ⟨rfl, fin.out _ ⟨rfl, rfl, by simp⟩⟩
      | false =>
        rw [hpx] at stp cc
        rw [if_neg (by decide), List.append_nil] at stp
        have fin : Hid (∀ w2, Below w'.heap.size w' w2 → ∀ a', Fr 36 [(0, bpt tb), (1, .func (.func g) #[] cb), (5, u), (6, .int .i64 ((i + 1 : Nat) : Int))] a' → ∃ m, m < n ∧ ThoseAt w tb (.func (.func g) #[] cb) L p m a' w2) :=
          Lib.hid fun w2 hb a' hf => ⟨n - 1, by omega, i + 1, _, S, hf, by omega, by rw [stp]; exact hs, hst.grow hb⟩
        obtain ⟨au, cu, rfl⟩ := hs.form
        obtain ⟨x1, x2, x3⟩ := x
        simp only at k1 k2 k3
        generalize ((L.take i).filter p).length = q0 at *
        clear hs hst hx hpx stp hlen hr ht hg
        go_wp2_with fail
        refine cc.out.mono ?_
        rintro e w2 ⟨rfl, hb⟩
        replace fin := Lib.hid (fin.out _ hb)
        clear cc hx2 hb k1 k2 k3 ct
        go_wp2_with fail
        refine wp_goto ?_
        exact ⟨rfl, fin.out _ ⟨rfl, rfl, by simp⟩⟩
    · obtain rfl : i = L.length := by omega
      rw [List.take_of_length_le (Nat.le_refl _)] at hs
      have fin : Hid (ThoseR w (L.filter p) (.returned u) w') := Lib.hid ⟨u, S, rfl, hs, hst⟩
      obtain ⟨au, cu, rfl⟩ := hs.form
      clear hs hst hg hr ht hlen
      go_wp2_with fail
      simp only [Exit.jump]
      go_ret
      exact fin.out
  · intro H
    go_wp2_with fail
    refine wp_label ?_
    go_step
    go_step
    exact H L.length _ _ ⟨0, _, [], ⟨rfl, rfl, by simp⟩, by omega, BnsIs.nil, St.start w⟩
end
end Go.Proofs.YtoecaonmehbfeaaGreat

/- Rows cut out; names each once. -/
namespace Go.Proofs.YtoecaonmehbfeaaGreat
open Go.RowKit
set_option linter.unusedVariables false

section
variable {B : Nat} {w0 w w' : World} {S F A X : List (Nat × Obj)} {T : TypeId} {tb : Nat} {v u : Value} {L : List Bnd} {p : Bnd → Bool} {f : Bnd → List UInt8}

/-- Behind cut: what went, what is left, the table's cell turned. -/
def CutR (w : World) (tb : Nat) (l m : List Bnd) (e : Ending) (w' : World) : Prop :=
  ∃ u S z R w1, e = .returned u ∧ BnsIs u l S ∧ BnsIs z m R ∧ St w.heap.size w w1 (S ++ R) ∧ w' = w1.setCell ⟨tb, 0, none⟩ z
def CutAt (w : World) (tb : Nat) (fv : Value) (L : List Bnd) (p : Bnd → Bool) (g : Nat) (a' : Act) (w' : World) : Prop :=
  ∃ (i : Nat) (u z : Value) (S R : List (Nat × Obj)), Fr 53 [(0, bpt tb), (1, fv), (5, u), (6, z), (7, .int .i64 i)] a' ∧ i + g = L.length ∧ BnsIs u ((L.take i).filter p) S ∧ BnsIs z ((L.take i).filter fun b => !p b) R ∧ St w.heap.size w w' (S ++ R)

set_option maxHeartbeats 4000000 in
theorem cut_any {g : Nat} {cb : Array Value} (h : OneAt T w tb v) (hv : ReadBs w v L) (hL : L.length ≤ 10000) (hp : TellsP w g cb p) :
    Calls Tryz.prog 68 #[bpt tb, .func (.func g) #[] cb] w (CutR w tb (L.filter p) (L.filter fun b => !p b)) := by
  obtain ⟨eg, his⟩ := hp
  have hg := Lib.hid his
  have ht := Lib.hid (fun w' hb => (⟨(h.below (w' := w') hb).cell, (h.below (w' := w') hb).soft⟩ : _ ∧ _))
  obtain ⟨a, cap, rfl, -⟩ := id hv
  have hr := Lib.hid (fun w' hb => hv.below (w' := w') hb)
  clear hv his h
  go_enter Tryz.func68, Tryz.ntmps68
  go_wp2_with fail
  refine wp_scope_ghost 0 (CutAt w tb (.func (.func g) #[] cb) L p) rfl ?_ ?_
  · rintro n a' w' ⟨i, u, z, S, R, hfr, hi, hs, hz, hst⟩
    obtain ⟨q, rfl, hl'⟩ := hfr.lit
    clear hfr
    simp only [List.mem_cons, List.not_mem_nil, or_false, forall_eq_or_imp, forall_eq] at hl'
    obtain ⟨f0, f1, f5, f6, f7⟩ := hl'
    simp only [List.range, List.range.loop, List.map, f0, f1, f5, f6, f7]
    clear f0 f1 f5 f6 f7
    have hi0 : (0 : Int) ≤ i := by omega
    obtain ⟨ct, fz⟩ := ht.out w' hst.below
    have hlen := filter_len_take (L := L) p i
    have hlen2 := filter_len_take (L := L) (fun b => !p b) i
    by_cases hlt : i < L.length
    · have hi1 : (i : Int) < L.length := by omega
      have hiB : ((i : Int) == L.length) = false := by rw [beq_eq_false_iff_ne]; omega
      have hx : L[i]? = some L[i] := List.getElem?_eq_getElem hlt
      generalize L[i] = x at hx
      have stp := filter_step (p := p) hx
      have stp2 := filter_step (p := fun b => !p b) hx
      obtain ⟨a1, c1, e, hcells⟩ := hr.out w' hst.below
      cases e
      obtain ⟨b1, o1, rfl, k1, k2, k3⟩ := hcells i x hx
      have cc := Lib.hid (hg.out w' hst.below x)
      have hx2 : Hid (∀ w2, Below w'.heap.size w' w2 → w2.cell? ⟨tb, 0, none⟩ = some (.slice (some ⟨b1, o1, none⟩) L.length cap) ∧ w2.cell? ⟨b1, o1 + i * 3, none⟩ = some (tx x.1) ∧ w2.cell? ⟨b1, o1 + i * 3 + 1, none⟩ = some (tx x.2.1) ∧ w2.cell? ⟨b1, o1 + i * 3 + 2, none⟩ = some (tx x.2.2)) := Lib.hid fun w2 hb =>
        ⟨(hb.cell (p := ⟨tb, 0, none⟩) (World.block_lt_of_cell? w' _ ct)).trans ct, (hb.cell (World.block_lt_of_cell? w' _ k1)).trans k1, (hb.cell (World.block_lt_of_cell? w' _ k2)).trans k2, (hb.cell (World.block_lt_of_cell? w' _ k3)).trans k3⟩
      cases hpx : p x with
      | true =>
        rw [hpx] at stp stp2 cc
        rw [if_pos rfl] at stp
        rw [if_neg (by decide), List.append_nil] at stp2
        have ap : Hid (∀ w2, Below w'.heap.size w' w2 → ∃ a cap2 W2, (Builtin.append_ #[28, 28] 0 #[u, .slice (some ⟨w2.heap.size, 0, none⟩) 1 1]).run Tryz.prog (w2.alloc (bO x)) = .ok (.slice a (((L.take i).filter p).length + 1) cap2) W2 ∧
            ∀ a', Fr 53 [(0, bpt tb), (1, .func (.func g) #[] cb), (5, .slice a (((L.take i).filter p).length + 1) cap2), (6, z), (7, .int .i64 ((i + 1 : Nat) : Int))] a' → ∃ m, m < n ∧ CutAt w tb (.func (.func g) #[] cb) L p m a' W2) := by
          refine Lib.hid fun w2 hb => ?_
          obtain ⟨a, cap2, W2, F2, hrun, hs2, hst2⟩ := bnd_append (X := R) hs ((hst.grow hb).perm List.perm_append_comm) x (by omega)
          refine ⟨a, cap2, W2, hrun, fun a' hf => ⟨n - 1, by omega, i + 1, _, _, F2, R, hf, by omega, ?_, ?_, hst2.perm List.perm_append_comm⟩⟩
          · rw [stp]
            exact hs2
          · rw [stp2]
            exact hz
        obtain ⟨au, cu, rfl⟩ := hs.form
        obtain ⟨az, cz, rfl⟩ := hz.form
        obtain ⟨x1, x2, x3⟩ := x
        simp only at k1 k2 k3
        generalize ((L.take i).filter p).length = q0 at *
        generalize ((L.take i).filter fun b => !p b).length = q1 at *
        clear hs hz hst hx hpx stp stp2 hlen hlen2 hr ht hg fz
        go_wp2_with fail
        refine cc.out.mono ?_
        rintro e w2 ⟨rfl, hb⟩
        obtain ⟨ct2, m1, m2, m3⟩ := hx2.out w2 hb
        obtain ⟨a2, cap2, W2, hrun, fin⟩ := ap.out _ hb
        replace fin := Lib.hid fin
        clear cc ap hx2 hb k1 k2 k3 ct
        go_wp2_with (at_builtin; refine wpList_append_go rfl (.tmp 41) (.tmp 49) 28 28 rfl _ _ rfl rfl hrun ?_)
        refine wp_goto ?_
        exact ⟨rfl, fin.out _ ⟨rfl, rfl, by simp⟩⟩
      | false =>
        rw [hpx] at stp stp2 cc
        rw [if_neg (by decide), List.append_nil] at stp
        rw [if_pos (by decide)] at stp2
        have ap : Hid (∀ w2, Below w'.heap.size w' w2 → ∃ a cap2 W2, (Builtin.append_ #[28, 28] 0 #[z, .slice (some ⟨w2.heap.size, 0, none⟩) 1 1]).run Tryz.prog (w2.alloc (bO x)) = .ok (.slice a (((L.take i).filter fun b => !p b).length + 1) cap2) W2 ∧
            ∀ a', Fr 53 [(0, bpt tb), (1, .func (.func g) #[] cb), (5, u), (6, .slice a (((L.take i).filter fun b => !p b).length + 1) cap2), (7, .int .i64 ((i + 1 : Nat) : Int))] a' → ∃ m, m < n ∧ CutAt w tb (.func (.func g) #[] cb) L p m a' W2) := by
          refine Lib.hid fun w2 hb => ?_
          obtain ⟨a, cap2, W2, F2, hrun, hs2, hst2⟩ := bnd_append (X := S) hz (hst.grow hb) x (by omega)
          refine ⟨a, cap2, W2, hrun, fun a' hf => ⟨n - 1, by omega, i + 1, _, _, S, F2, hf, by omega, ?_, ?_, hst2⟩⟩
          · rw [stp]
            exact hs
          · rw [stp2]
            exact hs2
        obtain ⟨au, cu, rfl⟩ := hs.form
        obtain ⟨az, cz, rfl⟩ := hz.form
        obtain ⟨x1, x2, x3⟩ := x
        simp only at k1 k2 k3
        generalize ((L.take i).filter p).length = q0 at *
        generalize ((L.take i).filter fun b => !p b).length = q1 at *
        clear hs hz hst hx hpx stp stp2 hlen hlen2 hr ht hg fz
        go_wp2_with fail
        refine cc.out.mono ?_
        rintro e w2 ⟨rfl, hb⟩
        obtain ⟨ct2, m1, m2, m3⟩ := hx2.out w2 hb
        obtain ⟨a2, cap2, W2, hrun, fin⟩ := ap.out _ hb
        replace fin := Lib.hid fin
        clear cc ap hx2 hb k1 k2 k3 ct
        go_wp2_with (at_builtin; refine wpList_append_go rfl (.tmp 8) (.tmp 16) 28 28 rfl _ _ rfl rfl hrun ?_)
        refine wp_goto ?_
        exact ⟨rfl, fin.out _ ⟨rfl, rfl, by simp⟩⟩
    · obtain rfl : i = L.length := by omega
      rw [List.take_of_length_le (Nat.le_refl _)] at hs hz
      have fin : Hid (CutR w tb (L.filter p) (L.filter fun b => !p b) (.returned u) (w'.setCell ⟨tb, 0, none⟩ z)) := Lib.hid ⟨u, S, z, R, w', rfl, hs, hz, hst, rfl⟩
      obtain ⟨au, cu, rfl⟩ := hs.form
      obtain ⟨az, cz, rfl⟩ := hz.form
      clear hs hz hst hg hr ht hlen hlen2
      go_wp2_with fail
      simp only [Exit.jump]
      go_ret
      exact fin.out
  · intro H
    go_wp2_with fail
    refine wp_label ?_
    go_step
    go_step
    exact H L.length _ _ ⟨0, _, _, [], [], ⟨rfl, rfl, by simp⟩, by omega, BnsIs.nil, BnsIs.nil, St.start w⟩

/-! ### eachOnce -/
def OnceR (w : World) (l : List (List UInt8)) (e : Ending) (w' : World) : Prop := ∃ u S, e = .returned u ∧ TssIs u l S ∧ St w.heap.size w w' S
def OnceAt (w : World) (rv : Value) (fv : Value) (L : List Bnd) (f : Bnd → List UInt8) (g : Nat) (a' : Act) (w' : World) : Prop :=
  ∃ (i : Nat) (u : Value) (S : List (Nat × Obj)), Fr 29 [(0, rv), (1, fv), (5, u), (6, .int .i64 i)] a' ∧ i + g = L.length ∧ TssIs u (onceL [] ((L.take i).map f)) S ∧ St w.heap.size w w' S

set_option maxHeartbeats 4000000 in
theorem once_any {g : Nat} {cb : Array Value} (hv : ReadBs w v L) (hL : L.length ≤ 10000) (hf : ∀ b ∈ L, (f b).length ≤ maxLen) (hp : TellsN w g cb f) :
    Calls Tryz.prog 79 #[v, .func (.func g) #[] cb] w (OnceR w (onceL [] (L.map f))) := by
  obtain ⟨eg, his⟩ := hp
  have hg := Lib.hid his
  obtain ⟨a, cap, rfl, -⟩ := id hv
  have hr := Lib.hid (fun w' hb => hv.below (w' := w') hb)
  replace hf := Lib.hid hf
  clear hv his
  go_enter Tryz.func79, Tryz.ntmps79
  go_wp2_with fail
  refine wp_scope_ghost 0 (OnceAt w (.slice a L.length cap) (.func (.func g) #[] cb) L f) rfl ?_ ?_
  · rintro n a' w' ⟨i, u, S, hfr, hi, hs, hst⟩
    obtain ⟨q, rfl, hl'⟩ := hfr.lit
    clear hfr
    simp only [List.mem_cons, List.not_mem_nil, or_false, forall_eq_or_imp, forall_eq] at hl'
    obtain ⟨f0, f1, f5, f6⟩ := hl'
    simp only [List.range, List.range.loop, List.map, f0, f1, f5, f6]
    clear f0 f1 f5 f6
    have hi0 : (0 : Int) ≤ i := by omega
    have hlen : (onceL [] ((L.take i).map f)).length ≤ 10000 := by
      have := onceL_len [] ((L.take i).map f)
      rw [List.length_map, List.length_take, List.length_nil] at this
      omega
    by_cases hlt : i < L.length
    · have hi1 : (i : Int) < L.length := by omega
      have hiB : ((i : Int) == L.length) = false := by rw [beq_eq_false_iff_ne]; omega
      have hx : L[i]? = some L[i] := List.getElem?_eq_getElem hlt
      generalize L[i] = x at hx
      have stp : onceL [] ((L.take (i + 1)).map f) = onceS (onceL [] ((L.take i).map f)) (f x) := by rw [map_step hx, onceL_snoc]
      obtain ⟨a1, c1, e, hcells⟩ := hr.out w' hst.below
      cases e
      obtain ⟨b1, o1, rfl, k1, k2, k3⟩ := hcells i x hx
      have cc := Lib.hid (hg.out w' hst.below x)
      have hml : ∀ y ∈ onceL [] ((L.take i).map f), y.length ≤ maxLen := by
        intro y hy
        rcases (onceL_mem _ _ _).1 hy with h | h
        · simp at h
        · obtain ⟨b, hb, rfl⟩ := List.mem_map.1 h
          exact hf.out b (List.mem_of_mem_take hb)
      generalize onceL [] ((L.take i).map f) = m at *
      have cn := Lib.hid (fun w2 (hb : Below w'.heap.size w' w2) => containsS_any (TssIs.read (X := []) hs (hst.grow hb) hml) (by omega) (f x))
      by_cases hin : f x ∈ m
      · rw [decide_eq_true hin] at cn
        rw [onceS, if_pos hin] at stp
        have fin : Hid (∀ w2, Below w'.heap.size w' w2 → ∀ a', Fr 29 [(0, .slice (some ⟨b1, o1, none⟩) L.length cap), (1, .func (.func g) #[] cb), (5, u), (6, .int .i64 ((i + 1 : Nat) : Int))] a' → ∃ m, m < n ∧ OnceAt w (.slice (some ⟨b1, o1, none⟩) L.length cap) (.func (.func g) #[] cb) L f m a' w2) :=
          Lib.hid fun w2 hb a' hf => ⟨n - 1, by omega, i + 1, _, S, hf, by omega, by rw [stp]; exact hs, hst.grow hb⟩
        obtain ⟨au, cu, rfl⟩ := hs.form
        obtain ⟨x1, x2, x3⟩ := x
        simp only at k1 k2 k3
        generalize m.length = q0 at *
        clear hs hst hx stp hlen hr hg hml hin
        generalize f (x1, x2, x3) = y at *
        go_wp2_with fail
        refine cc.out.mono ?_
        rintro e w2 ⟨rfl, hb⟩
        replace fin := Lib.hid (fin.out _ hb)
        replace cn := Lib.hid (cn.out _ hb)
        clear cc hb k1 k2 k3
        go_wp2_with fail
        refine cn.out.mono ?_
        rintro e w3 ⟨rfl, rfl⟩
        go_wp2_with fail
        refine wp_goto ?_
        exact ⟨rfl, fin.out _ ⟨rfl, rfl, by simp⟩⟩
      · rw [decide_eq_false hin] at cn
        rw [onceS, if_neg hin] at stp
        have ap : Hid (∀ w2, Below w'.heap.size w' w2 → ∃ a cap2 W2, (Builtin.append_ #[45, 45] 0 #[u, .slice (some ⟨w2.heap.size, 0, none⟩) 1 1]).run Tryz.prog (w2.alloc (.cells #[tx (f x)] 9)) = .ok (.slice a (m.length + 1) cap2) W2 ∧
            ∀ a', Fr 29 [(0, .slice (some ⟨b1, o1, none⟩) L.length cap), (1, .func (.func g) #[] cb), (5, .slice a (m.length + 1) cap2), (6, .int .i64 ((i + 1 : Nat) : Int))] a' → ∃ m, m < n ∧ OnceAt w (.slice (some ⟨b1, o1, none⟩) L.length cap) (.func (.func g) #[] cb) L f m a' W2) := by
          refine Lib.hid fun w2 hb => ?_
          obtain ⟨a, cap2, W2, F2, hrun, hs2, hst2⟩ := TssIs.append (X := []) hs (hst.grow hb) (f x) (by omega)
          refine ⟨a, cap2, W2, hrun, fun a' hf => ⟨n - 1, by omega, i + 1, _, F2, hf, by omega, ?_, hst2⟩⟩
          rw [stp]
          exact hs2
        obtain ⟨au, cu, rfl⟩ := hs.form
        obtain ⟨x1, x2, x3⟩ := x
        simp only at k1 k2 k3
        generalize m.length = q0 at *
        clear hs hst hx stp hlen hr hg hml hin
        generalize f (x1, x2, x3) = y at *
        go_wp2_with fail
        refine cc.out.mono ?_
        rintro e w2 ⟨rfl, hb⟩
        obtain ⟨a2, cap2, W2, hrun, fin⟩ := ap.out _ hb
        replace fin := Lib.hid fin
        replace cn := Lib.hid (cn.out _ hb)
        clear cc ap hb k1 k2 k3
        go_wp2_with fail
        refine cn.out.mono ?_
        rintro e w3 ⟨rfl, rfl⟩
        go_wp2_with (at_builtin; refine wpList_append_go rfl (.tmp 23) (.tmp 25) 45 45 rfl _ _ rfl rfl hrun ?_)
        refine wp_goto ?_
        exact ⟨rfl, fin.out _ ⟨rfl, rfl, by simp⟩⟩
    · obtain rfl : i = L.length := by omega
      rw [List.take_of_length_le (Nat.le_refl _)] at hs
      have fin : Hid (OnceR w (onceL [] (L.map f)) (.returned u) w') := Lib.hid ⟨u, S, rfl, hs, hst⟩
      obtain ⟨au, cu, rfl⟩ := hs.form
      clear hs hst hg hr hlen
      go_wp2_with fail
      simp only [Exit.jump]
      go_ret
      exact fin.out
  · intro H
    go_wp2_with fail
    refine wp_label ?_
    go_step
    go_step
    exact H L.length _ _ ⟨0, _, [], ⟨rfl, rfl, by simp⟩, by omega, TssIs.nil, St.start w⟩
end
end Go.Proofs.YtoecaonmehbfeaaGreat

/- The table: what it tells, Of, Keyed, Len; the function values. -/
namespace Go.Proofs.YtoecaonmehbfeaaGreat
open Go.RowKit
set_option linter.unusedVariables false

section
variable {B : Nat} {w0 w w' : World} {S F A X : List (Nat × Obj)} {T : TypeId} {tb : Nat} {v u : Value} {L : List Bnd} {b : Bnd}

/-- At tb there lies a table (the program's or the document's) with these rows; beside it is owned what A lists. -/
def TbIs (T : TypeId) (B : Nat) (w0 w : World) (tb : Nat) (L : List Bnd) (A : List (Nat × Obj)) : Prop :=
  ∃ v S, BnsIs v L S ∧ St B w0 w (A ++ (tb, .cells #[v] T) :: S)
theorem TbIs.one (h : TbIs T B w0 w tb L A) : ∃ v, OneAt T w tb v ∧ ReadBs w v L := by
  obtain ⟨v, S, hs, hst⟩ := h
  exact ⟨v, hst.get (b := tb) (by simp), hs.read (A := A ++ [(tb, .cells #[v] T)]) (by simpa using hst)⟩
theorem TbIs.grow (h : TbIs T B w0 w tb L A) (hb : Below w.heap.size w w') : TbIs T B w0 w' tb L A := by
  obtain ⟨v, S, hs, hst⟩ := h
  exact ⟨v, S, hs, hst.grow hb⟩
theorem TbIs.below (h : TbIs T B w0 w tb L A) : Below B w0 w := by
  obtain ⟨v, S, hs, hst⟩ := h
  exact hst.below
theorem TbIs.base (h : TbIs T B w0 w tb L A) : B ≤ w.heap.size := by
  obtain ⟨v, S, hs, hst⟩ := h
  exact hst.base
theorem TbIs.alloc (h : TbIs T B w0 w tb L A) (o : Obj) : TbIs T B w0 (w.alloc o) tb L ((w.heap.size, o) :: A) := by
  obtain ⟨v, S, hs, hst⟩ := h
  exact ⟨v, S, hs, hst.alloc o⟩
theorem TbIs.sub {A' : List (Nat × Obj)} (h : TbIs T B w0 w tb L A) (hs' : A'.Sublist A) : TbIs T B w0 w tb L A' := by
  obtain ⟨v, S, hs, hst⟩ := h
  exact ⟨v, S, hs, hst.sub (hs'.append (List.Sublist.refl _))⟩
theorem TbIs.perm {A' : List (Nat × Obj)} (h : TbIs T B w0 w tb L A) (hp : A.Perm A') : TbIs T B w0 w tb L A' := by
  obtain ⟨v, S, hs, hst⟩ := h
  exact ⟨v, S, hs, hst.perm (hp.append_right _)⟩
theorem TbIs.start (h : St B w0 w A) : TbIs T B w0 (w.alloc (.cells #[.slice none 0 0] T)) w.heap.size [] A :=
  ⟨_, [], BnsIs.nil, (h.alloc _).perm (by simpa using (List.perm_append_singleton _ _).symm)⟩
/-- What is new beside it. -/
theorem TbIs.more {Y : List (Nat × Obj)} (h : TbIs T B w0 w tb L A) (k : St w.heap.size w w' Y) : TbIs T B w0 w' tb L (A ++ Y) := by
  obtain ⟨v, S, hs, hst⟩ := h
  refine ⟨v, S, hs, (hst.join k).perm ?_⟩
  rw [List.append_assoc, List.append_assoc]
  exact List.Perm.append_left A List.perm_append_comm
/-- What lies beside, and the way back. -/
theorem TbIs.beside (h : TbIs T B w0 w tb L A) : ∃ X, St B w0 w (X ++ A) ∧ ∀ w' A', St B w0 w' (X ++ A') → TbIs T B w0 w' tb L A' := by
  obtain ⟨v, S, hs, hst⟩ := h
  exact ⟨(tb, .cells #[v] T) :: S, hst.perm List.perm_append_comm, fun w' A' h' => ⟨v, S, hs, h'.perm List.perm_append_comm⟩⟩
theorem TbIs.cell {c : Array Value} {U : TypeId} {k : Nat} (h : TbIs T B w0 w tb L A) (hm : (k, .cells c U) ∈ A) {i : Nat} {u : Value} (hi : c[i]? = some u) : w.cell? ⟨k, i, none⟩ = some u := by
  obtain ⟨v, S, hs, hst⟩ := h
  exact hst.cell (b := k) (List.mem_append_left _ hm) hi
/-- Both tables side by side: seen from the other one. -/
theorem TbIs.swap {U : TypeId} {rb : Nat} {M : List Bnd} {R : List (Nat × Obj)} (h : TbIs T B w0 w tb L (A ++ (rb, .cells #[u] U) :: R)) (hu : BnsIs u M R) :
    ∃ v S, BnsIs v L S ∧ TbIs U B w0 w rb M (A ++ (tb, .cells #[v] T) :: S) := by
  obtain ⟨v, S, hs, hst⟩ := h
  refine ⟨v, S, hs, u, R, hu, hst.perm ?_⟩
  rw [List.append_assoc, List.append_assoc]
  exact List.Perm.append_left A List.perm_append_comm

/-! ### the function values -/
theorem cellOn {c : Nat × Nat} (h : w.cell? ⟨c.1, c.2, none⟩ = some v) (hb : Below w.heap.size w w') : w'.cell? ⟨c.1, c.2, none⟩ = some v := (hb.cell (World.block_lt_of_cell? w _ h)).trans h

theorem ofC_any {q : Nat} {x : List UInt8} (hq : w.cell? ⟨q, 0, none⟩ = some (tx x)) (b : Bnd) : Calls Tryz.prog 87 #[bV b, bpt q] w fun e w2 => e = .returned (.bool (b.1 == x)) ∧ Below w.heap.size w w2 := by
  obtain ⟨b1, b2, b3⟩ := b
  have hb := Lib.hid (new_below w (bO (b1, b2, b3)))
  have hq2 := cellOn (c := (q, 0)) hq hb.out
  go_enter Tryz.func87, Tryz.ntmps87
  go_wp2_with fail
  go_ret
  exact ⟨rfl, hb.out⟩
theorem dropEC_any {q : Nat} {x : List UInt8} (hq : w.cell? ⟨q, 0, none⟩ = some (tx x)) (b : Bnd) : Calls Tryz.prog 69 #[bV b, bpt q] w fun e w2 => e = .returned (.bool (b.1 == x)) ∧ Below w.heap.size w w2 := by
  obtain ⟨b1, b2, b3⟩ := b
  have hb := Lib.hid (new_below w (bO (b1, b2, b3)))
  have hq2 := cellOn (c := (q, 0)) hq hb.out
  go_enter Tryz.func69, Tryz.ntmps69
  go_wp2_with fail
  go_ret
  exact ⟨rfl, hb.out⟩
theorem dropQC_any {q : Nat} {x : List UInt8} (hq : w.cell? ⟨q, 0, none⟩ = some (tx x)) (b : Bnd) : Calls Tryz.prog 78 #[bV b, bpt q] w fun e w2 => e = .returned (.bool (b.2.1 == x)) ∧ Below w.heap.size w w2 := by
  obtain ⟨b1, b2, b3⟩ := b
  have hb := Lib.hid (new_below w (bO (b1, b2, b3)))
  have hq2 := cellOn (c := (q, 0)) hq hb.out
  go_enter Tryz.func78, Tryz.ntmps78
  go_wp2_with fail
  go_ret
  exact ⟨rfl, hb.out⟩
theorem dropC_any {q : Nat} {x : Bnd} (hq : w.cell? ⟨q, 0, none⟩ = some (tx x.1) ∧ w.cell? ⟨q, 1, none⟩ = some (tx x.2.1) ∧ w.cell? ⟨q, 2, none⟩ = some (tx x.2.2)) (b : Bnd) : Calls Tryz.prog 77 #[bV b, bpt q] w fun e w2 => e = .returned (.bool (b == x)) ∧ Below w.heap.size w w2 := by
  have hb := Lib.hid (new_below w (bO b))
  have q0 := cellOn (c := (q, 0)) hq.1 hb.out
  have q1 := cellOn (c := (q, 1)) hq.2.1 hb.out
  have q2 := cellOn (c := (q, 2)) hq.2.2 hb.out
  obtain ⟨D, hD⟩ : ∃ D, D = (b == x) := ⟨_, rfl⟩
  rw [← hD]
  clear hq
  rcases bnd_cases b x with rfl | hc
  · rw [beq_self_eq_true] at hD
    subst hD
    obtain ⟨b1, b2, b3⟩ := b
    simp only at q0 q1 q2
    go_enter Tryz.func77, Tryz.ntmps77
    go_wp2_with fail
    go_ret
    exact ⟨rfl, hb.out⟩
  · rw [beq_eq_false_iff_ne.2 (bnd_ne hc)] at hD
    subst hD
    obtain ⟨b1, b2, b3⟩ := b
    obtain ⟨x1, x2, x3⟩ := x
    simp only at hc q0 q1 q2
    rcases hc with hc | ⟨rfl, hc⟩ | ⟨rfl, rfl, hc⟩
    all_goals
      go_enter Tryz.func77, Tryz.ntmps77
      go_wp2_with fail
      go_ret
      exact ⟨rfl, hb.out⟩
theorem keyedC_any {q r : Nat} {x y : List UInt8} (hq : w.cell? ⟨q, 0, none⟩ = some (tx x)) (hr : w.cell? ⟨r, 0, none⟩ = some (tx y)) (b : Bnd) : Calls Tryz.prog 83 #[bV b, bpt q, bpt r] w fun e w2 => e = .returned (.bool (b.1 == x && b.2.2 == y)) ∧ Below w.heap.size w w2 := by
  have hb := Lib.hid (new_below w (bO b))
  have hq2 := cellOn (c := (q, 0)) hq hb.out
  have hr2 := cellOn (c := (r, 0)) hr hb.out
  obtain ⟨b1, b2, b3⟩ := b
  simp only
  cases h1 : (b1 == x) with
  | false =>
    rw [Bool.false_and]
    go_enter Tryz.func83, Tryz.ntmps83
    go_wp2_with fail
    go_ret
    exact ⟨rfl, hb.out⟩
  | true =>
    rw [Bool.true_and]
    rw [beq_iff_eq] at h1
    subst h1
    go_enter Tryz.func83, Tryz.ntmps83
    go_wp2_with fail
    go_ret
    exact ⟨rfl, hb.out⟩
theorem dropQN_any (b : Bnd) : Calls Tryz.prog 80 #[bV b] w fun e w2 => e = .returned (tx b.1) ∧ Below w.heap.size w w2 := by
  have hb := Lib.hid (new_below w (bO b))
  obtain ⟨b1, b2, b3⟩ := b
  go_enter Tryz.func80, Tryz.ntmps80
  go_wp2_with fail
  go_ret
  exact ⟨rfl, hb.out⟩
theorem keyedN_any (b : Bnd) : Calls Tryz.prog 84 #[bV b] w fun e w2 => e = .returned (tx b.2.1) ∧ Below w.heap.size w w2 := by
  have hb := Lib.hid (new_below w (bO b))
  obtain ⟨b1, b2, b3⟩ := b
  go_enter Tryz.func84, Tryz.ntmps84
  go_wp2_with fail
  go_ret
  exact ⟨rfl, hb.out⟩

theorem tells_of {q : Nat} {x : List UInt8} (hq : w.cell? ⟨q, 0, none⟩ = some (tx x)) : TellsP w 87 #[bpt q] (fun b => b.1 == x) :=
  ⟨goesIn Tryz.func87 (by kernel_rfl) rfl, fun w1 hb b => ofC_any (cellOn (c := (q, 0)) hq hb) b⟩
theorem tells_dropE {q : Nat} {x : List UInt8} (hq : w.cell? ⟨q, 0, none⟩ = some (tx x)) : TellsP w 69 #[bpt q] (fun b => b.1 == x) :=
  ⟨goesIn Tryz.func69 (by kernel_rfl) rfl, fun w1 hb b => dropEC_any (cellOn (c := (q, 0)) hq hb) b⟩
theorem tells_dropQ {q : Nat} {x : List UInt8} (hq : w.cell? ⟨q, 0, none⟩ = some (tx x)) : TellsP w 78 #[bpt q] (fun b => b.2.1 == x) :=
  ⟨goesIn Tryz.func78 (by kernel_rfl) rfl, fun w1 hb b => dropQC_any (cellOn (c := (q, 0)) hq hb) b⟩
theorem tells_drop {q : Nat} {x : Bnd} (hq : w.cell? ⟨q, 0, none⟩ = some (tx x.1) ∧ w.cell? ⟨q, 1, none⟩ = some (tx x.2.1) ∧ w.cell? ⟨q, 2, none⟩ = some (tx x.2.2)) : TellsP w 77 #[bpt q] (fun b => b == x) :=
  ⟨goesIn Tryz.func77 (by kernel_rfl) rfl, fun w1 hb b => dropC_any ⟨cellOn (c := (q, 0)) hq.1 hb, cellOn (c := (q, 1)) hq.2.1 hb, cellOn (c := (q, 2)) hq.2.2 hb⟩ b⟩
theorem tells_keyed {q r : Nat} {x y : List UInt8} (hq : w.cell? ⟨q, 0, none⟩ = some (tx x)) (hr : w.cell? ⟨r, 0, none⟩ = some (tx y)) : TellsP w 83 #[bpt q, bpt r] (fun b => b.1 == x && b.2.2 == y) :=
  ⟨goesIn Tryz.func83 (by kernel_rfl) rfl, fun w1 hb b => keyedC_any (cellOn (c := (q, 0)) hq hb) (cellOn (c := (r, 0)) hr hb) b⟩
theorem names_dropQ (w : World) : TellsN w 80 #[] (fun b => b.1) :=
  ⟨goesIn Tryz.func80 (by kernel_rfl) rfl, fun w1 hb b => dropQN_any b⟩
theorem names_keyed (w : World) : TellsN w 84 #[] (fun b => b.2.1) :=
  ⟨goesIn Tryz.func84 (by kernel_rfl) rfl, fun w1 hb b => keyedN_any b⟩

/-! ### what the table tells -/
def OfR (w : World) (l : List Bnd) (e : Ending) (w' : World) : Prop := ∃ u, e = .returned u ∧ ReadBs w' u l ∧ Below w.heap.size w w'
theorem once_len {L : List Bnd} {f : Bnd → List UInt8} (h : ∀ b ∈ L, (f b).length ≤ maxLen) : ∀ y ∈ onceL [] (L.map f), y.length ≤ maxLen := by
  intro y hy
  rcases (onceL_mem _ _ _).1 hy with h' | h'
  · simp at h'
  · obtain ⟨b, hb, rfl⟩ := List.mem_map.1 h'
    exact h b hb
theorem FitB.max {b : Bnd} (h : FitB b) : b.1.length ≤ maxLen ∧ b.2.1.length ≤ maxLen ∧ b.2.2.length ≤ maxLen := by
  obtain ⟨h1, h2, h3⟩ := h
  unfold maxLen
  omega

set_option maxHeartbeats 1000000 in
theorem of_any (h : OneAt T w tb v) (hv : ReadBs w v L) (hL : L.length ≤ 10000) (x : List UInt8) : Calls Tryz.prog 62 #[bpt tb, tx x] w (OfR w (L.filter fun b => b.1 == x)) := by
  have hb := Lib.hid (new_below w (.cells #[tx x] 9))
  have hq : (w.alloc (.cells #[tx x] 9)).cell? ⟨w.heap.size, 0, none⟩ = some (tx x) := by simp
  have c1 := Lib.hid (those_any (h.below hb.out) (hv.below hb.out) hL (tells_of hq))
  have hmf : ∀ (fn : Fn) (first cap : Array Value) (w : World), (Instr.makeFunc fn first cap).run Tryz.prog w = .ok (.func fn first cap) w := fun _ _ _ _ => rfl
  clear h hv hq
  go_enter Tryz.func62, Tryz.ntmps62
  go_wp2_with fail
  refine c1.out.mono ?_
  rintro e w1 ⟨u, S, rfl, hs, hst⟩
  have fin : Hid (OfR w (L.filter fun b => b.1 == x) (.returned u) w1) := Lib.hid ⟨u, rfl, hs.read (A := []) hst, bel hb.out hst.below⟩
  clear hs hst c1
  go_wp2_with fail
  go_ret
  exact fin.out

set_option maxHeartbeats 1000000 in
theorem keyed_any (h : OneAt T w tb v) (hv : ReadBs w v L) (hL : L.length ≤ 10000) (hfit : ∀ b ∈ L, FitB b) (x y : List UInt8) :
    Calls Tryz.prog 58 #[bpt tb, tx x, tx y] w (OnceR w (onceL [] ((L.filter fun b => b.1 == x && b.2.2 == y).map (·.2.1)))) := by
  have hb := Lib.hid (bel (new_below w (.cells #[tx x] 9)) (new_below (w.alloc (.cells #[tx x] 9)) (.cells #[tx y] 9)))
  have hq : ((w.alloc (.cells #[tx x] 9)).alloc (.cells #[tx y] 9)).cell? ⟨w.heap.size, 0, none⟩ = some (tx x) := by simp
  have hr : ((w.alloc (.cells #[tx x] 9)).alloc (.cells #[tx y] 9)).cell? ⟨w.heap.size + 1, 0, none⟩ = some (tx y) := by
    have h : ((w.alloc (.cells #[tx x] 9)).alloc (.cells #[tx y] 9)).cell? ⟨(w.alloc (.cells #[tx x] 9)).heap.size, 0, none⟩ = some (tx y) := by simp
    rwa [World.size_alloc] at h
  have c1 := Lib.hid (those_any (h.below hb.out) (hv.below hb.out) hL (tells_keyed hq hr))
  have hmf : ∀ (fn : Fn) (first cap : Array Value) (w : World), (Instr.makeFunc fn first cap).run Tryz.prog w = .ok (.func fn first cap) w := fun _ _ _ _ => rfl
  obtain ⟨K, hK⟩ : ∃ K, K = L.filter fun b => b.1 == x && b.2.2 == y := ⟨_, rfl⟩
  have hKl : K.length ≤ 10000 := by rw [hK]; exact Nat.le_trans (List.length_filter_le _ _) hL
  have hKf : ∀ b ∈ K, b.2.1.length ≤ maxLen := fun b hb => by
    rw [hK] at hb
    have := (hfit b (List.mem_filter.1 hb).1).2.1
    unfold maxLen
    omega
  rw [← hK] at c1 ⊢
  replace hKf := Lib.hid hKf
  clear h hv hq hr hK hfit
  go_enter Tryz.func58, Tryz.ntmps58
  go_wp2_with fail
  refine c1.out.mono ?_
  rintro e w1 ⟨u, S, rfl, hs, hst⟩
  have hb1 := Lib.hid (bel hb.out hst.below)
  have c2 := Lib.hid (once_any (hs.read (A := []) hst) hKl hKf.out (names_keyed w1))
  clear hs hst c1 hb
  go_wp2_with fail
  refine c2.out.mono ?_
  rintro e w2 ⟨u2, S2, rfl, hs, hst⟩
  have fin : Hid (OnceR w (onceL [] (K.map (·.2.1))) (.returned u2) w2) := Lib.hid ⟨u2, S2, rfl, hs, St.under hb1.out hst⟩
  clear hs hst c2
  go_wp2_with fail
  go_ret
  exact fin.out
end
end Go.Proofs.YtoecaonmehbfeaaGreat
