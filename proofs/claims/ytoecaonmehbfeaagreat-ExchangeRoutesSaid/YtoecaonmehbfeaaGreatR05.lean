/- Editing a row that the call owns in place: copy, clear, append of zero values, cuts up to the capacity, and whether two rows overlap. The block's content is a plain list, Words, the program's, A tree of nodes: words laid, A tree of nodes: words found; what leads nowhere taken out. -/
import Derived.Test.YtoecaonmehbfeaaGreatR04
import Derived.Laws.CopyOwn
import Derived.Lib.AppendZerosOnto
import Derived.Lib.Overlaps
import Derived.Test.YtoecaonmehbfeaaGreatR03
import Derived.StillTailTactics
/- Editing a row that the call owns in place: copy, clear, append of zero values, cuts up to the capacity, and whether two rows overlap. The block's content is a plain list. -/
namespace Go.Proofs.YtoecaonmehbfeaaGreat
open Go.RowKit
set_option maxRecDepth 100000

section
variable {P : Program} {B : Nat} {w0 w w' : World} {A F : List (Nat × Obj)} {T : TypeId} {size n m : Nat} {v x : Value} {xs news : List Value}

/-! ### lists -/
theorem take_splice {L : List Value} {p k : Nat} {c : List Value} (h : k ≤ p) (hp : p ≤ L.length) : (splice L p c).take k = L.take k := by
  unfold splice
  rw [List.take_append_of_le_length (by rw [List.length_take]; omega), List.take_take, Nat.min_eq_left h]
theorem drop_splice {L : List Value} {p : Nat} {c : List Value} (hp : p ≤ L.length) : (splice L p c).drop p = c ++ L.drop (p + c.length) := by
  unfold splice
  exact List.drop_left' (by rw [List.length_take]; omega)
theorem drop_splice_behind {L : List Value} {p k : Nat} {c : List Value} (hp : p ≤ L.length) (hk : k = p + c.length) : (splice L p c).drop k = L.drop k := by
  subst hk
  rw [← List.drop_drop, drop_splice hp, List.drop_left]
theorem drop_splice_ahead {L : List Value} {p k : Nat} {c : List Value} (h : k ≤ p) (hp : p ≤ L.length) : (splice L p c).drop k = splice (L.drop k) (p - k) c := by
  unfold splice
  rw [List.drop_append_of_le_length (by rw [List.length_take]; omega), List.drop_take, List.drop_drop]
  congr 3
  omega
theorem getElem_splice_out {L : List Value} {p j : Nat} {c : List Value} (hp : p ≤ L.length) (h : p + c.length ≤ j) : (splice L p c)[j]? = L[j]? := by
  obtain ⟨d, rfl⟩ : ∃ d, j = (p + c.length) + d := ⟨j - (p + c.length), by omega⟩
  rw [← List.getElem?_drop, ← List.getElem?_drop, drop_splice_behind hp rfl]

/-- What lies ahead of p, then c, then d: however the two were laid. -/
theorem splice2_low {L : List Value} {p q : Nat} {c d : List Value} (hq : q = p + c.length) (hl : q + d.length ≤ L.length) : (splice (splice L p c) q d).take (q + d.length) = L.take p ++ c ++ d := by
  have h1 : (splice L p c).take q = L.take p ++ c := by
    subst hq
    unfold splice
    rw [← List.append_assoc]
    exact List.take_left' (by rw [List.length_append, List.length_take]; omega)
  unfold splice at h1 ⊢
  rw [h1, ← List.append_assoc]
  exact List.take_left' (by simp only [List.length_append, List.length_take]; omega)
theorem splice2_high {L : List Value} {p q : Nat} {c d : List Value} (hq : q = p + c.length) (hl : q + d.length ≤ L.length) : (splice (splice L q d) p c).take (q + d.length) = L.take p ++ c ++ d := by
  have hl1 : (splice L q d).length = L.length := length_splice _ _ _ hl
  have h1 : (splice L q d).take p = L.take p := take_splice (by omega) (by omega)
  have h2 : (splice L q d).drop q = d ++ L.drop (q + d.length) := drop_splice (by omega)
  rw [show splice (splice L q d) p c = (splice L q d).take p ++ (c ++ (splice L q d).drop (p + c.length)) from rfl, h1, ← hq, h2, ← List.append_assoc, ← List.append_assoc]
  exact List.take_left' (by simp only [List.length_append, List.length_take]; omega)
theorem splice1 {L : List Value} {p : Nat} {c : List Value} (hl : p + c.length ≤ L.length) : (splice L p c).take (p + c.length) = L.take p ++ c := by
  unfold splice
  rw [← List.append_assoc]
  exact List.take_left' (by simp only [List.length_append, List.length_take]; omega)

/-! ### the block -/
/-- v is a slice of n elements and capacity cap, of the cells of block g from off on; the block holds L. -/
theorem SlIs.block {g off cap : Nat} (h : SlIs T size (.slice (some ⟨g, off, none⟩) n cap) n xs F) : ∃ L : List Value, F = [(g, .cells L.toArray T (0, 0))] ∧ n ≤ cap ∧ cap ≤ maxLen ∧ off + cap * size ≤ L.length ∧ (L.drop off).take (n * size) = xs := by
  obtain ⟨hl, ⟨h1, _⟩ | ⟨g', off', cap', cur, h1, hF, h3, h4, h5, h6⟩⟩ := h
  · cases h1
  · cases h1
    exact ⟨cur.toList, by rw [hF], h3, h4, by simpa using h5, h6⟩
theorem SlIs.of {g off cap : Nat} {L : List Value} (h3 : n ≤ cap) (h4 : cap ≤ maxLen) (h5 : off + cap * size ≤ L.length) (h6 : (L.drop off).take (n * size) = xs) : SlIs T size (.slice (some ⟨g, off, none⟩) n cap) n xs [(g, .cells L.toArray T (0, 0))] := by
  refine ⟨?_, .inr ⟨g, off, cap, _, rfl, rfl, h3, h4, by simpa using h5, h6⟩⟩
  rw [← h6, List.length_take, List.length_drop]
  have : n * size ≤ cap * size := Nat.mul_le_mul_right _ h3
  omega
theorem St.cellL {g : Nat} {L : List Value} (h : St B w0 w (A ++ [(g, .cells L.toArray T (0, 0))])) {j : Nat} {u : Value} (hj : L[j]? = some u) : w.cell? ⟨g, j, none⟩ = some u :=
  h.cell (b := g) (c := L.toArray) (T := T) (fr := (0, 0)) (by simp) (by simpa using hj)
theorem St.setL {g : Nat} {L L' : List Value} (h : St B w0 w (A ++ [(g, .cells L.toArray T (0, 0))])) : St B w0 (w.setRow g L'.toArray) (A ++ [(g, .cells L'.toArray T (0, 0))]) := St.setRow h

theorem run_copy_st {g o dLen dCap sLen sCap : Nat} {dp sp : Option Addr} {L cs : List Value} (dT sT ty e : TypeId) (hu : P.underlying dT = some (.slice e)) (hsz : (P.info? e).map (·.size) = some size)
    (hst : St B w0 w (A ++ [(g, .cells L.toArray T (0, 0))])) (hn : cs.length = Nat.min sLen dLen * size) (hd : cs ≠ [] → dp = some ⟨g, o, none⟩) (hs : cs ≠ [] → ∃ ad, sp = some ad)
    (hsrc : ∀ ad j u, sp = some ad → cs[j]? = some u → w.cell? (ad.add j) = some u) (hfit : o + cs.length ≤ L.length) (h1 : ∀ u ∈ cs, u.oneCell' = true) :
    ∃ w', (Builtin.copy_ #[dT, sT] ty #[.slice dp dLen dCap, .slice sp sLen sCap]).run P w = .ok (goInt (Nat.min sLen dLen)) w' ∧ St B w0 w' (A ++ [(g, .cells (splice L o cs).toArray T (0, 0))]) := by
  have hb := hst.get (b := g) (o := .cells L.toArray T (0, 0)) (by simp)
  cases hq : P.info? e with
  | none => simp [hq] at hsz
  | some i =>
    have hi : i.size = size := by simpa [hq] using hsz
    by_cases h0 : cs = []
    · subst h0
      have hl : Nat.min sLen dLen * size = 0 := by rw [← hn]; rfl
      refine ⟨w, ?_, by simpa [splice] using hst⟩
      have hf : (Builtin.firstCells size (Nat.min sLen dLen) (.slice sp sLen sCap)).run P w = .ok #[] w := by
        cases sp with
        | none => simp [Builtin.firstCells]
        | some a => exact run_firstCells_some (P := P) w size _ a sLen sCap [] (by rw [hl]; rfl) (by simp)
      cases dp <;> simp [Builtin.copy_, run_underlying hu, Builtin.lenOf, sizeOf, typeInfo, hq, hi, hf, storeCells]
    · obtain rfl := hd h0
      obtain ⟨ad, rfl⟩ := hs h0
      have hf := run_firstCells_some (P := P) w size (Nat.min sLen dLen) ad sLen sCap cs hn (fun j u hj => hsrc ad j u rfl hj)
      have hsto := run_storeCells_at P g o T cs 0 L.toArray w hb (by simpa using hfit) h1
      simp only [Nat.add_zero] at hsto
      refine ⟨_, ?_, hst.setL⟩
      simp [Builtin.copy_, run_underlying hu, Builtin.lenOf, sizeOf, typeInfo, hq, hi, hf, hsto, splice]

theorem run_copy_ty {dT sT ty ty' : TypeId} {d s : Value} {r : Result Value} (h : (Builtin.copy_ #[dT, sT] ty #[d, s]).run P w = r) : (Builtin.copy_ #[dT, sT] ty' #[d, s]).run P w = r := h

/-- A copy whose run is known: for the walk. -/
theorem wpList_copy_go {ops : Array Oper} {rest : List Oper} {o : Oper} {a : Act} {Q : Exit → Act → World → Prop} (hgd : o.guard = none) (d s : Operand) (dT sT : TypeId)
    (ho : o.op = .call { callee := .builtin .copy, args := #[d, s], argTypes := #[dT, sT] }) (vd vs : Value) (hed : a.eval d = vd) (hes : a.eval s = vs) {v' : Value} {w' : World}
    (hr : (Builtin.copy_ #[dT, sT] 0 #[vd, vs]).run P w = .ok v' w') (h : wpList P ops Q rest (a.put o.dst v') w') : wpList P ops Q (o :: rest) a w := by
  refine wpList_plain hgd fun K hK => ?_
  have hr' := run_copy_ty (ty' := o.type) hr
  unfold Oper.wp execOp
  simp only [ho, resolve, invoke, builtin, Sem.run_bind, Sem.run_pure, Result.andThen_ok, List.map_toArray, List.map_cons, List.map_nil, hed, hes, hr']
  exact hK _ _ h

/-- .. and as one step of a region that draws its order. -/
theorem step_copy_go {ops : Array Oper} {o : Oper} {a : Act} {K : Act → World → Prop} {Q : Exit → Act → World → Prop} {E : Prop} (hgd : o.guard = none) (d s : Operand) (dT sT : TypeId)
    (ho : o.op = .call { callee := .builtin .copy, args := #[d, s], argTypes := #[dT, sT] }) (vd vs : Value) (hed : a.eval d = vd) (hes : a.eval s = vs) {v' : Value} {w' : World}
    (hr : (Builtin.copy_ #[dT, sT] 0 #[vd, vs]).run P w = .ok v' w') (h : K (a.put o.dst v') w') :
    if Region.wanted o (yielded ops a.tmps) = true then Oper.wp P o a w K Q else E := by
  have hw : Region.wanted o (yielded ops a.tmps) = true := by simp [Region.wanted, hgd]
  rw [if_pos hw]
  have hr' := run_copy_ty (ty' := o.type) hr
  unfold Oper.wp execOp
  simp only [ho, resolve, invoke, builtin, Sem.run_bind, Sem.run_pure, Result.andThen_ok, List.map_toArray, List.map_cons, List.map_nil, hed, hes, hr']
  exact h

theorem run_append_ty {dT sT ty ty' : TypeId} {d s : Value} {r : Result Value} (h : (Builtin.append_ #[dT, sT] ty #[d, s]).run P w = r) : (Builtin.append_ #[dT, sT] ty' #[d, s]).run P w = r := h

/-- An append whose run is known: for the walk. -/
theorem wpList_append_go {ops : Array Oper} {rest : List Oper} {o : Oper} {a : Act} {Q : Exit → Act → World → Prop} (hgd : o.guard = none) (d s : Operand) (dT sT : TypeId)
    (ho : o.op = .call { callee := .builtin .append, args := #[d, s], argTypes := #[dT, sT] }) (vd vs : Value) (hed : a.eval d = vd) (hes : a.eval s = vs) {v' : Value} {w' : World}
    (hr : (Builtin.append_ #[dT, sT] 0 #[vd, vs]).run P w = .ok v' w') (h : wpList P ops Q rest (a.put o.dst v') w') : wpList P ops Q (o :: rest) a w := by
  refine wpList_plain hgd fun K hK => ?_
  have hr' := run_append_ty (ty' := o.type) hr
  unfold Oper.wp execOp
  simp only [ho, resolve, invoke, builtin, Sem.run_bind, Sem.run_pure, Result.andThen_ok, List.map_toArray, List.map_cons, List.map_nil, hed, hes, hr']
  exact hK _ _ h

/-- .. and inside a region that draws its order. -/
theorem step_append_go {ops : Array Oper} {o : Oper} {a : Act} {K : Act → World → Prop} {Q : Exit → Act → World → Prop} {E : Prop} (hgd : o.guard = none) (d s : Operand) (dT sT : TypeId)
    (ho : o.op = .call { callee := .builtin .append, args := #[d, s], argTypes := #[dT, sT] }) (vd vs : Value) (hed : a.eval d = vd) (hes : a.eval s = vs) {v' : Value} {w' : World}
    (hr : (Builtin.append_ #[dT, sT] 0 #[vd, vs]).run P w = .ok v' w') (h : K (a.put o.dst v') w') : if Region.wanted o (yielded ops a.tmps) = true then Oper.wp P o a w K Q else E := by
  have hw : Region.wanted o (yielded ops a.tmps) = true := by simp [Region.wanted, hgd]
  rw [if_pos hw]
  have hr' := run_append_ty (ty' := o.type) hr
  unfold Oper.wp execOp
  simp only [ho, resolve, invoke, builtin, Sem.run_bind, Sem.run_pure, Result.andThen_ok, List.map_toArray, List.map_cons, List.map_nil, hed, hes, hr']
  exact h

theorem run_append_room_st {g off sLen sCap : Nat} {L : List Value} (t ty e : TypeId) (i : TypeInfo) (ht : P.underlying t = some (.slice e)) (hi : P.info? e = some i) (hsize : i.size = size)
    (hst : St B w0 w (A ++ [(g, .cells L.toArray e (0, 0))])) (hx : Reads w x m size news) (h1 : ∀ u ∈ news, u.oneCell' = true) (hroom : sLen + m ≤ sCap) (hfit : off + sLen * size + news.length ≤ L.length) :
    ∃ w', (Builtin.append_ #[t, t] ty #[.slice (some ⟨g, off, none⟩) sLen sCap, x]).run P w = .ok (.slice (some ⟨g, off, none⟩) (sLen + m) sCap) w' ∧ St B w0 w' (A ++ [(g, .cells (splice L (off + sLen * size) news).toArray e (0, 0))]) := by
  subst hsize
  obtain ⟨hxl, ⟨rfl, rfl⟩ | ⟨ad, c, rfl, hnews⟩⟩ := hx
  · have hn : news = [] := List.eq_nil_of_length_eq_zero (by simpa using hxl)
    subst hn
    exact ⟨w, run_append_room_none w t ty e i ht hi _ sLen sCap hroom, by simpa [splice] using hst⟩
  · have hb := hst.get (b := g) (o := .cells L.toArray e (0, 0)) (by simp)
    refine ⟨_, run_append_room_off (P := P) w t ty e i ht hi g off sLen sCap L.toArray hb ad m c news hxl hnews h1 hroom (by simpa using hfit), ?_⟩
    have := hst.setL (L' := splice L (off + sLen * i.size) news)
    simpa [splice] using this

/-- A clear whose run is known: for the walk. -/
theorem run_clear_ty {t ty ty' : TypeId} {d : Value} {r : Result Value} (h : (Builtin.clear_ #[t] ty #[d]).run P w = r) : (Builtin.clear_ #[t] ty' #[d]).run P w = r := h
theorem wpList_clear_go {ops : Array Oper} {rest : List Oper} {o : Oper} {a : Act} {Q : Exit → Act → World → Prop} (hgd : o.guard = none) (d : Operand) (t : TypeId)
    (ho : o.op = .call { callee := .builtin .clear, args := #[d], argTypes := #[t] }) (vd : Value) (hed : a.eval d = vd) {v' : Value} {w' : World}
    (hr : (Builtin.clear_ #[t] 0 #[vd]).run P w = .ok v' w') (h : wpList P ops Q rest (a.put o.dst v') w') : wpList P ops Q (o :: rest) a w := by
  refine wpList_plain hgd fun K hK => ?_
  have hr' := run_clear_ty (ty' := o.type) hr
  unfold Oper.wp execOp
  simp only [ho, resolve, invoke, builtin, Sem.run_bind, Sem.run_pure, Result.andThen_ok, List.map_toArray, List.map_cons, List.map_nil, hed, hr']
  exact hK _ _ h

theorem run_clear_st {g off k cap : Nat} {dp : Option Addr} {L : List Value} {z : Value} (t ty e : TypeId) (ht : P.underlying t = some (.slice e)) (hv : ∀ w, (zeroValue e).run P w = .ok z w) (hzs : z.cells.size = size) (hz1 : ∀ u ∈ z.cells.toList, u.oneCell' = true)
    (hst : St B w0 w (A ++ [(g, .cells L.toArray T (0, 0))])) (hd : 0 < k → dp = some ⟨g, off, none⟩) (hfit : off + k * size ≤ L.length) :
    ∃ (w' : World) (c : List Value), (Builtin.clear_ #[t] ty #[.slice dp k cap]).run P w = .ok (.tuple #[]) w' ∧ c.length = k * size ∧ St B w0 w' (A ++ [(g, .cells (splice L off c).toArray T (0, 0))]) := by
  have hb := hst.get (b := g) (o := .cells L.toArray T (0, 0)) (by simp)
  cases k with
  | zero =>
    refine ⟨w, [], ?_, by simp, by simpa [splice] using hst⟩
    cases dp <;> simp [Builtin.clear_, run_underlying ht]
  | succ k =>
    obtain rfl := hd (by omega)
    have hc : (Builtin.zeroCells z.cells (k + 1)).toList.length = (k + 1) * size := by simp [size_zeroCells, hzs]
    have hsto := run_storeCells_at P g off T (Builtin.zeroCells z.cells (k + 1)).toList 0 L.toArray w hb (by simpa [size_zeroCells, hzs] using hfit) (by
      intro u hu
      simp only [Builtin.zeroCells, Array.toList_map, List.mem_map] at hu
      obtain ⟨j, hj, rfl⟩ := hu
      have hj2 : j < (k + 1) * z.cells.size := by simpa using hj
      have hpos : 0 < z.cells.size := by
        rcases Nat.eq_zero_or_pos z.cells.size with h | h
        · rw [h] at hj2; omega
        · exact h
      have hlt : j % z.cells.size < z.cells.size := Nat.mod_lt _ hpos
      refine hz1 _ ?_
      rw [getElem!_pos z.cells _ hlt]
      simp)
    simp only [Nat.add_zero] at hsto
    refine ⟨_, (Builtin.zeroCells z.cells (k + 1)).toList, ?_, hc, hst.setL⟩
    simp [Builtin.clear_, run_underlying ht, hv, hsto, splice]

/-- 'append(s[:i], make([]T, k)...)' where there is no room: a new row that holds what s[:i] held, then zero values. -/
theorem run_append_zeros_st {sCap k : Nat} (t tn ty e : TypeId) (i : TypeInfo) (z : Value) (kn : IntKind) (ht : P.underlying t = some (.slice e)) (htn : P.underlying tn = some (.int kn)) (hi : P.info? e = some i) (hz : i.zero = some z) (hsize : i.size = size) (hs0 : 0 < size) (hzs : z.cells.size = size)
    {bytes : Nat} (hby : i.bytes = bytes) {base : Option Addr} (hs : SlIs T size (.slice base n sCap) n xs F) (hst : St B w0 w (A ++ F)) (hk : 0 < k) (hg : sCap < n + k) (hb : (n + k) * bytes ≤ 140737488355328) (hm : n + k ≤ 1073741824) :
    ∃ (w' : World) (L : List Value) (cap : Nat), (Builtin.append_ #[t, tn] ty #[.slice base n sCap, .int .i64 k]).run P w = .ok (.slice (some ⟨w.heap.size, 0, none⟩) (n + k) cap) w' ∧ n + k ≤ cap ∧ cap ≤ maxLen ∧ cap * size ≤ L.length ∧ L.take (n * size) = xs ∧
      St B w0 w' ((A ++ F) ++ [(w.heap.size, .cells L.toArray e (0, 0))]) := by
  subst hsize hby
  have hr := hs.reads hst
  have hold : (Builtin.firstCells i.size n (.slice base n sCap)).run P w.drew = .ok xs.toArray w.drew := by
    obtain ⟨hl, ⟨h1, h2⟩ | ⟨ad, c, h1, h2⟩⟩ := hr
    · cases h1
      have : xs = [] := List.eq_nil_of_length_eq_zero (by simpa using hl)
      subst this
      simp [Builtin.firstCells]
    · cases h1
      exact run_firstCells_some (P := P) w.drew i.size n ad n sCap xs hl (by simpa using h2)
  have hkb : k * i.bytes ≤ (n + k) * i.bytes := Nat.mul_le_mul_right _ (by omega)
  have h := Lib.run_append_grow_zeros (P := P) w t tn ty e i z .i64 kn ht htn hi hz base n sCap xs.toArray.toList (by simpa using hold) k hk hs0 hg (by omega) (by omega) (growslice_fits hg hb)
  have hge := grownCap_ge w (n + k) sCap e
  refine ⟨_, (xs.toArray ++ Builtin.zeroCells z.cells k ++ Builtin.zeroCells z.cells (grownCap w (n + k) sCap e - (n + k))).toList, _, h, hge, grownCap_le_maxLen w _ sCap e (by unfold maxLen; omega), ?_, ?_, ?_⟩
  · simp only [Array.toList_append, List.length_append, Array.length_toList, size_zeroCells, hzs, hs.1, ← Nat.add_mul]
    exact Nat.mul_le_mul_right _ (by omega)
  · simp only [Array.toList_append, List.append_assoc]
    rw [← hs.1]
    exact List.take_left
  · rw [Array.toArray_toList]
    exact hst.fresh _

/-- Two rows in two blocks do not overlap. -/
theorem run_overlaps_st {tS tR e : TypeId} (ht : P.underlying tS = some (.slice e)) (hz : ∀ w, (Go.sizeOf e).run P w = .ok size w) {g1 g2 o1 o2 la ca lb cb : Nat} {c1 c2 : Array Value} {T1 T2 : TypeId} {H : List (Nat × Obj)}
    (hst : St B w0 w H) (h1 : (g1, .cells c1 T1) ∈ H) (h2 : (g2, .cells c2 T2) ∈ H) (hne : g1 ≠ g2) (hc : 0 < c2.size) :
    (Extern.SlicesOverlaps.overlaps #[tS, tS] #[tR] #[.slice (some ⟨g1, o1, none⟩) la ca, .slice (some ⟨g2, o2, none⟩) lb cb]).run P w = .ok (.bool false) w := by
  have e1 := hst.get h1
  have e2 := hst.get h2
  refine Lib.run_overlaps_apart w tS tR e ht size hz ⟨g1, o1, none⟩ ⟨g2, o2, none⟩ la ca lb cb hne T1 T2 c1.size c2.size ?_ ?_ (by omega) (hst.soft h1 o1) (hst.soft h1 c1.size)
  · simp [World.shape?, e1]
  · simp [World.shape?, e2]
end
end Go.Proofs.YtoecaonmehbfeaaGreat

/- Words, the program's. -/
namespace Go.Proofs.YtoecaonmehbfeaaGreat
open Go.RowKit
set_option linter.unusedVariables false
set_option maxRecDepth 100000

theorem words_short (l : List UInt8) : ∀ x ∈ wordsL l, x.length ≤ l.length := by
  induction l with
  | nil => simp [wordsL]
  | cons c l ih =>
    unfold wordsL
    intro x hx
    rw [List.length_cons]
    split at hx
    · rcases List.mem_cons.1 hx with rfl | hx
      · simp
      · have := ih x hx
        omega
    · split at hx
      · rw [List.mem_singleton] at hx
        subst hx
        simp
      · rename_i w r h
        rw [h] at ih
        rcases List.mem_cons.1 hx with rfl | hx
        · have := ih w (by simp)
          rw [List.length_cons]
          omega
        · have := ih x (by simp [hx])
          omega

/-- What holds at Words' label. -/
def WordsAt (w : World) (l : List UInt8) (g : Nat) (a' : Act) (w' : World) : Prop :=
  ∃ (done : Wds) (r : List UInt8) (v : Value) (S : List (Nat × Obj)), r.length = g ∧ done ++ wordsL r = wordsL l ∧ r.length ≤ l.length ∧ Fr 21 [(0, tx r), (3, v)] a' ∧ TssIs v done S ∧ St w.heap.size w w' S

set_option maxHeartbeats 1000000 in
theorem words_st {l : List UInt8} (hl : l.length ≤ 1000000) (w : World) :
    Calls Tryz.prog 96 #[tx l] w fun e w' => ∃ v S, e = .returned v ∧ TssIs v (wordsL l) S ∧ St w.heap.size w w' S := by
  have hwl := words_len l
  have hws := words_short l
  go_enter Tryz.func96, Tryz.ntmps96
  go_wp2_with fail
  refine wp_scope_ghost 0 (WordsAt w l) rfl ?_ ?_
  · rintro g a' w' ⟨done, r, v, S, hg, hd, hr, hfr, hs, hst⟩
    obtain ⟨f, rfl, hl'⟩ := hfr.lit
    clear hfr
    simp only [List.mem_cons, List.not_mem_nil, or_false, forall_eq_or_imp, forall_eq] at hl'
    obtain ⟨f0, f3⟩ := hl'
    simp only [List.range, List.range.loop, List.map, f0, f3]
    clear f0 f3
    have hdl : done.length ≤ 1000000 := by
      have h1 := congrArg List.length hd
      have h2 := words_pos r
      rw [List.length_append] at h1
      omega
    obtain ⟨av, cv, rfl⟩ := hs.form
    rcases cut_cases r with hn | ⟨x, r', rfl, hx⟩
    · have c1 := Lib.hid (cut_none hn w')
      rw [words_none hn] at hd
      have ap : Hid (∀ w1, Below w'.heap.size w' w1 → ∃ a cap W2 S2, (Builtin.append_ #[45, 45] 0 #[.slice av done.length cv, .slice (some ⟨w1.heap.size, 0, none⟩) 1 1]).run Tryz.prog (w1.alloc (.cells #[tx r] 9)) = .ok (.slice a (done.length + 1) cap) W2 ∧
          TssIs (.slice a (done.length + 1) cap) (wordsL l) S2 ∧ St w.heap.size w W2 S2) := Lib.hid fun w1 hb => by
        have hst1 : St w.heap.size w w1 ([] ++ S) := hst.grow hb
        obtain ⟨a, cap, W2, F2, h1, h2, h3⟩ := hs.append hst1 r hdl
        exact ⟨a, cap, W2, F2, h1, by rw [← hd]; exact h2, h3⟩
      clear hs hst hd hws hwl hn
      generalize done.length = n at *
      go_wp2_with fail
      refine c1.out.mono ?_
      rintro e w1 ⟨rfl, hb⟩
      obtain ⟨a2, cap2, W2, S2, hrun, fin⟩ := ap.out _ hb
      replace fin := Lib.hid fin
      clear hb c1 ap
      go_wp2_with (at_builtin; refine wpList_append_go rfl (.tmp 13) (.tmp 15) 45 45 rfl _ _ rfl rfl hrun ?_)
      simp only [Exit.jump]
      go_ret
      exact ⟨_, _, rfl, fin.out.1, fin.out.2⟩
    · have c1 := Lib.hid (cut_some (r := r') hx (by unfold maxLen; omega) w')
      rw [words_cut hx] at hd
      have ap : Hid (∀ w1, Below w'.heap.size w' w1 → ∃ a cap W2 S2, (Builtin.append_ #[45, 45] 0 #[.slice av done.length cv, .slice (some ⟨w1.heap.size, 0, none⟩) 1 1]).run Tryz.prog (w1.alloc (.cells #[tx x] 9)) = .ok (.slice a (done.length + 1) cap) W2 ∧
          TssIs (.slice a (done.length + 1) cap) (done ++ [x]) S2 ∧ St w.heap.size w W2 S2) := Lib.hid fun w1 hb => by
        have hst1 : St w.heap.size w w1 ([] ++ S) := hst.grow hb
        obtain ⟨a, cap, W2, F2, h1, h2, h3⟩ := hs.append hst1 x hdl
        exact ⟨a, cap, W2, F2, h1, h2, h3⟩
      have hlen : (x ++ 46 :: r').length = x.length + 1 + r'.length := by simp; omega
      have hd2 : (done ++ [x]) ++ wordsL r' = wordsL l := by rw [← hd]; simp
      replace hlen := Lib.hid hlen
      replace hd2 := Lib.hid hd2
      clear hs hst hd hws hwl
      generalize x ++ 46 :: r' = L at *
      go_wp2_with fail
      refine c1.out.mono ?_
      rintro e w1 ⟨rfl, hb⟩
      obtain ⟨a2, cap2, W2, S2, hrun, fin1, fin2⟩ := ap.out _ hb
      replace fin1 := Lib.hid fin1
      replace fin2 := Lib.hid fin2
      clear hb c1 ap
      go_wp2_with (at_builtin; refine wpList_append_go rfl (.tmp 13) (.tmp 15) 45 45 rfl _ _ rfl rfl hrun ?_)
      refine wp_goto ?_
      have := hlen.out
      exact ⟨rfl, r'.length, by omega, done ++ [x], r', _, S2, rfl, hd2.out, by omega, ⟨rfl, rfl, by simp⟩, fin1.out, fin2.out⟩
  · intro H
    clear hws hwl
    have hst := Lib.hid (St.start w)
    go_wp2_with fail
    refine wp_label ?_
    go_step
    go_step
    exact H l.length _ _ ⟨[], l, _, [], rfl, rfl, Nat.le_refl _, ⟨rfl, rfl, by simp⟩, TssIs.nil, hst.out⟩
theorem words_to {l : List UInt8} (hl : l.length ≤ 1000000) (w : World) :
    Calls Tryz.prog 96 #[tx l] w fun e w' => ∃ v, e = .returned v ∧ ReadTs w' v (wordsL l) ∧ Below w.heap.size w w' := by
  refine (words_st hl w).mono ?_
  rintro e w' ⟨v, S, rfl, h1, h2⟩
  refine ⟨v, rfl, h1.read (X := []) h2 fun x hx => ?_, h2.below⟩
  have := words_short l x hx
  unfold maxLen
  omega
end Go.Proofs.YtoecaonmehbfeaaGreat

/- A tree of nodes: words laid. -/
namespace Go.Proofs.YtoecaonmehbfeaaGreat
open Go.RowKit
open Go.ChangeMaps (setBlock)
set_option linter.unusedVariables false
set_option linter.unusedSectionVars false
set_option linter.unusedSimpArgs false
set_option maxRecDepth 100000

def RootX (L : List Nd) (X : List Value) : Prop := ∃ r ∈ L, r.p = [] ∧ r.x = X
/-- Of a tree as another: the same ids, the same beside the root. -/
structure Same (L L' : List Nd) : Prop where
  ids : ∀ p k, HasId L' p k ↔ HasId L p k
  root : ∀ X, RootX L X → RootX L' X
theorem Same.refl (L : List Nd) : Same L L := ⟨fun _ _ => Iff.rfl, fun _ h => h⟩
theorem Same.trans {L L' L2 : List Nd} (h : Same L L') (g : Same L' L2) : Same L L2 := ⟨fun p k => (g.ids p k).trans (h.ids p k), fun X hX => g.root X (h.root X hX)⟩
theorem Same.perm {L L' : List Nd} (h : L.Perm L') : Same L L' :=
  ⟨fun p k => ⟨fun ⟨n, hn, e⟩ => ⟨n, h.mem_iff.2 hn, e⟩, fun ⟨n, hn, e⟩ => ⟨n, h.mem_iff.1 hn, e⟩⟩, fun X ⟨n, hn, e⟩ => ⟨n, h.mem_iff.1 hn, e⟩⟩
theorem Same.grow {n : Nd} {R : List Nd} {w : List UInt8} {nb : Nat} {y : TypeId} {s' : Tb (List UInt8)} : Same (n :: R) (newNd n w nb y :: { n with s := s' } :: R) := by
  refine ⟨fun p k => ⟨?_, ?_⟩, ?_⟩
  · rintro ⟨m, hm, e1, e2⟩
    rcases List.mem_cons.1 hm with rfl | hm
    · exact absurd e2 (by simp [Tb.new])
    rcases List.mem_cons.1 hm with rfl | hm
    · exact ⟨n, List.mem_cons_self, e1, e2⟩
    · exact ⟨m, List.mem_cons_of_mem _ hm, e1, e2⟩
  · rintro ⟨m, hm, e1, e2⟩
    rcases List.mem_cons.1 hm with rfl | hm
    · exact ⟨{ m with s := s' }, by simp, e1, e2⟩
    · exact ⟨m, by simp [hm], e1, e2⟩
  · rintro X ⟨m, hm, e1, e2⟩
    rcases List.mem_cons.1 hm with rfl | hm
    · exact ⟨{ m with s := s' }, by simp, e1, e2⟩
    · exact ⟨m, by simp [hm], e1, e2⟩

/-- The node that these words lead to is handed back. -/
def LaidR (B : Nat) (w0 : World) (tb : Nat) (L : List Nd) (F : List (Nat × Obj)) (c : Nat) (p : Wds) (e : Ending) (w' : World) : Prop :=
  ∃ L' m, e = .returned (np m.b) ∧ m ∈ L' ∧ m.p = p ∧ St B w0 w' (objsL L' ++ F) ∧ TreeOk L' tb c ∧ Same L L'

section
variable {B : Nat} {w0 w : World} {F : List (Nat × Obj)} {L : List Nd} {tb c : Nat} {n m : Nd}
theorem cells_s (n : Nd) (s' : Tb (List UInt8)) : tabC n.cells 2 s'.mv s'.most = ({ n with s := s' } : Nd).cells := by
  simp [tabC, Nd.cells]
theorem cells_i (n : Nd) (i' : Tb Int) : tabC n.cells 4 i'.mv i'.most = ({ n with i := i' } : Nd).cells := by
  simp [tabC, Nd.cells]
theorem new_objs (n : Nd) (w : List UInt8) (nb : Nat) (y : TypeId) : (newNd n w nb y).objs = [(nb, .cells #[np n.b, tx w, .map none, .int .i64 0, .map none, .int .i64 0] y)] := by
  show (nb, (Obj.cells (newNd n w nb y).cells y)) :: [] = _
  unfold Nd.cells
  rw [lastW_snoc]
  rfl

set_option maxHeartbeats 1000000 in
theorem to_any (hst : St B w0 w (objsL L ++ F)) (ht : TreeOk L tb c) (hn : n ∈ L) (v : List UInt8) (hv : v.length ≤ 1000000) (hc : c ≤ 900000) :
    Calls Tryz.prog 101 #[np n.b, tx v] w (LaidR B w0 tb L F (c + 1) (n.p ++ [v])) := by
  have hk := run_kid hst ht hn v
  have c2 := hst.node hn (j := 2) (v := .map n.s.mv) rfl
  cases hm : nd L (n.p ++ [v]) with
  | some m =>
    obtain ⟨h1, h2⟩ := nd_mem hm
    have fin : Hid (LaidR B w0 tb L F (c + 1) (n.p ++ [v]) (.returned (np m.b)) w) := Lib.hid ⟨L, m, rfl, h1, h2, hst, ht.mono (Nat.le_succ _), Same.refl _⟩
    unfold ptrP at hk
    rw [hm] at hk
    clear hst ht hn h1 h2 hm
    go_enter Tryz.func101, Tryz.ntmps101
    go_wp2_with fail
    go_ret
    exact fin.out
  | none =>
    unfold ptrP at hk
    rw [hm] at hk
    have cl := Lib.hid (clone_any v w (by omega))
    have hne := nd_none.1 hm
    -- what put needs, whatever the world
    have put : Hid (∀ w1, Below w.heap.size w w1 → (w1.alloc (.cells #[np n.b, tx v, .map none, .int .i64 0, .map none, .int .i64 0] 120)).cell? ⟨w1.heap.size, 1, none⟩ = some (tx v) ∧
        Calls Tryz.prog 110 #[.pointer (some ⟨n.b, 2, none⟩), tx v, np w1.heap.size] (w1.alloc (.cells #[np n.b, tx v, .map none, .int .i64 0, .map none, .int .i64 0] 120)).drew fun e w' => e = .returned (.tuple #[]) ∧ LaidR B w0 tb L F (c + 1) (n.p ++ [v]) (.returned (np w1.heap.size)) w') := Lib.hid fun w1 hb => by
      obtain ⟨R, hp⟩ : ∃ R, L.Perm (n :: R) := by
        obtain ⟨a, b, rfl⟩ := List.append_of_mem hn
        exact ⟨a ++ b, List.perm_middle⟩
      have ht' := ht.perm hp
      have hs1 : St B w0 w1 (objsL (n :: R) ++ F) := (hst.grow hb).perm ((objs_perm hp).append_right F)
      have hs2 := (hs1.alloc (.cells #[np n.b, tx v, .map none, .int .i64 0, .map none, .int .i64 0] 120)).drew
      refine ⟨hs2.cell (b := w1.heap.size) List.mem_cons_self rfl, ?_⟩
      have hs3 : St B w0 (w1.alloc (.cells #[np n.b, tx v, .map none, .int .i64 0, .map none, .int .i64 0] 120)).drew ((n.b, .cells n.cells n.y) :: (tabH encS n.s ++ (tabH encI n.i ++ (objsL R ++ ((w1.heap.size, .cells #[np n.b, tx v, .map none, .int .i64 0, .map none, .int .i64 0] 120) :: F))))) := by
        refine hs2.perm ?_
        rw [objs_cons]
        unfold Nd.objs
        classical
        exact List.perm_iff_count.2 fun a => by simp only [List.count_append, List.count_cons, List.append_assoc, List.cons_append]; omega
      have hnk : v ∉ n.s.es.map (·.1) := by
        intro hmem
        rw [← keys_rows] at hmem
        obtain ⟨r, hr, rfl⟩ := List.mem_map.1 hmem
        obtain ⟨q, hq, e1, -⟩ := ht.downs n hn r hr
        exact hne q hq e1
      refine (putS_is hs3 rfl rfl (ht.oks n hn).1 (by omega) hnk).mono ?_
      rintro e w' ⟨rfl, s', ⟨g1, g2⟩, g3⟩
      have hnb : ∀ q ∈ n :: R, q.b ≠ w1.heap.size := fun q hq e => by
        have := hs1.lt (b := q.b) (o := .cells q.cells q.y) (List.mem_append_left _ (List.mem_flatMap.2 ⟨q, hq, List.mem_cons_self⟩))
        omega
      refine ⟨rfl, newNd n v w1.heap.size 120 :: { n with s := s' } :: R, newNd n v w1.heap.size 120, rfl, List.mem_cons_self, rfl, ?_, ht'.grow (fun q hq => hne q (hp.mem_iff.2 hq)) hnb g1 g2, (Same.perm hp).trans Same.grow⟩
      rw [cells_s] at g3
      refine g3.perm ?_
      rw [objs_cons, objs_cons, new_objs]
      unfold Nd.objs
      classical
      exact List.perm_iff_count.2 fun a => by simp only [List.count_append, List.count_cons, List.count_nil, List.append_assoc, List.cons_append]; omega
    clear hst ht hn hm hne
    go_enter Tryz.func101, Tryz.ntmps101
    go_wp2_with fail
    refine cl.out.mono ?_
    rintro e w1 ⟨rfl, hb⟩
    obtain ⟨g1, g2⟩ := put.out w1 hb
    replace g2 := Lib.hid g2
    clear hb put cl hk c2
    go_upto_region 5 with fail
    generalize w1.alloc (.cells #[np n.b, tx v, .map none, .int .i64 0, .map none, .int .i64 0] 120) = W2 at *
    generalize w1.heap.size = nb at *
    go_still_tail 8, (by kernel_rfl)
    change wpList _ _ _ _ _ W2.drew
    go_wp2_with fail
    refine g2.out.mono ?_
    rintro e w3 ⟨rfl, fin⟩
    replace fin := Lib.hid fin
    go_wp2_with fail
    go_ret
    exact fin.out

/-- What lay knows at its label. -/
def LayAt (B : Nat) (w0 : World) (tb : Nat) (L0 : List Nd) (F : List (Nat × Obj)) (c : Nat) (P : Wds) (g : Nat) (a' : Act) (w' : World) : Prop :=
  ∃ (L : List Nd) (m : Nd) (at_ : Nat) (a : Option Addr) (cap : Nat) (S : List (Nat × Obj)), at_ + g = P.length ∧ m ∈ L ∧ m.p = P.take at_ ∧ Fr 22 [(0, np m.b), (5, .slice a P.length cap), (6, .int .i64 at_)] a' ∧
    St B w0 w' (objsL L ++ (S ++ F)) ∧ TreeOk L tb (c + at_) ∧ Same L0 L ∧ TssIs (.slice a P.length cap) P S

theorem take_snoc {P : Wds} {k : Nat} {x : List UInt8} (h : P[k]? = some x) : P.take k ++ [x] = P.take (k + 1) := by
  rw [List.take_add_one, h]; rfl

set_option maxHeartbeats 1000000 in
theorem lay_any (hst : St B w0 w (objsL L ++ F)) (ht : TreeOk L tb c) (hn : n ∈ L) (h0 : n.p = []) (l : List UInt8) (hl : l.length ≤ 1000) (hc : c ≤ 800000) :
    Calls Tryz.prog 90 #[np n.b, tx l] w (LaidR B w0 tb L F (c + (wordsL l).length) (wordsL l)) := by
  have hwl := words_len l
  have hws := words_short l
  have cw := Lib.hid (words_st (l := l) (by omega) w)
  have start : Hid (∀ w1 S, St w.heap.size w w1 S → St B w0 w1 (objsL L ++ (S ++ F)) ∧ TreeOk L tb (c + 0) ∧ Same L L ∧ n ∈ L ∧ n.p = (wordsL l).take 0) := Lib.hid fun w1 S hs => by
    refine ⟨(hst.join hs).perm ?_, ht, Same.refl _, hn, h0⟩
    rw [List.append_assoc]
    exact List.Perm.append_left _ List.perm_append_comm
  clear hst ht hn h0
  generalize wordsL l = P at *
  have hPl : P.length ≤ 1001 := by omega
  have hws : ∀ x ∈ P, x.length ≤ 1000 := fun x hx => by have := hws x hx; omega
  clear hwl
  generalize hnb : np n.b = nv at *
  go_enter Tryz.func90, Tryz.ntmps90
  go_wp2_with fail
  refine wp_scope_ghost 0 (LayAt B w0 tb L F c P) rfl ?_ ?_
  · clear start cw hnb
    rintro g a' w' ⟨L1, m, at_, a, cap, S, hg, hm, hmp, hfr, hst, ht, hsame, hv⟩
    obtain ⟨f, rfl, hl'⟩ := hfr.lit
    clear hfr
    simp only [List.mem_cons, List.not_mem_nil, or_false, forall_eq_or_imp, forall_eq] at hl'
    obtain ⟨f0, f5, f6⟩ := hl'
    simp only [List.range, List.range.loop, List.map, f0, f5, f6]
    clear f0 f5 f6
    have hP0 : (P.length : Int) ≤ 1001 := by omega
    by_cases hlt : at_ < P.length
    · have hx : P[at_]? = some P[at_] := List.getElem?_eq_getElem hlt
      have hxl := hws _ (List.mem_of_getElem? hx)
      have hrd : ReadTs w' (.slice a P.length cap) P := hv.read (X := objsL L1 ++ F) (hst.perm (by rw [List.append_assoc]; exact List.Perm.append_left _ List.perm_append_comm)) (fun x hx => by have := hws x hx; unfold maxLen; omega)
      obtain ⟨a2, cap2, e2, hta⟩ := hrd
      simp only [Value.slice.injEq, true_and] at e2
      obtain ⟨rfl, rfl⟩ := e2
      obtain ⟨-, b, off, rfl, hcell⟩ := hta.at_ _ _ hx
      have c1 := Lib.hid (to_any (v := P[at_]) hst ht hm (by omega) (by omega))
      rw [hmp, take_snoc hx] at c1
      have hlt' : (at_ : Int) < P.length := by omega
      have hat0 : (0 : Int) ≤ at_ := by omega
      have hne : ¬ (at_ : Int) = P.length := by omega
      have hneB : ((at_ : Int) == (P.length : Int)) = false := by simpa using hne
      generalize P[at_] = x at *
      replace hsame := Lib.hid hsame
      replace hv := Lib.hid hv
      clear hst ht hm hmp hta hx hws
      go_wp2_with fail
      refine c1.out.mono ?_
      rintro e w2 ⟨L2, m2, rfl, g1, g2, g3, g4, g5⟩
      replace g3 := Lib.hid g3
      replace g4 := Lib.hid g4
      replace g2 := Lib.hid g2
      clear c1
      go_wp2_with fail
      refine wp_goto ?_
      exact ⟨rfl, P.length - (at_ + 1), by omega, L2, m2, at_ + 1, _, _, S, by omega, g1, g2.out, ⟨rfl, rfl, by simp⟩, g3.out, by rw [← Nat.add_assoc]; exact g4.out, hsame.out.trans g5, hv.out⟩
    · obtain rfl : at_ = P.length := by omega
      have fin : Hid (LaidR B w0 tb L F (c + P.length) P (.returned (np m.b)) w') := Lib.hid ⟨L1, m, rfl, hm, by rw [hmp, List.take_length], hst.sub ((List.Sublist.refl _).append (List.sublist_append_right _ _)), ht, hsame⟩
      clear hst ht hm hmp hsame hws hv
      go_wp2_with fail
      simp only [Exit.jump]
      go_ret
      exact fin.out
  · intro H
    clear hws
    go_wp2_with fail
    refine cw.out.mono ?_
    rintro e w1 ⟨v, S, rfl, hv, hS⟩
    obtain ⟨a, cap, rfl⟩ := hv.form
    obtain ⟨k1, k2, k3, k4, k5⟩ := start.out _ _ hS
    clear hS start cw
    replace k1 := Lib.hid k1
    replace hv := Lib.hid hv
    go_wp2_with fail
    refine wp_label ?_
    go_step
    go_step
    exact H P.length _ _ ⟨L, n, 0, a, cap, S, by omega, k4, k5, ⟨rfl, rfl, by simp [hnb]⟩, k1.out, k2, k3, hv.out⟩
end
end Go.Proofs.YtoecaonmehbfeaaGreat

/- A tree of nodes: words found; what leads nowhere taken out. -/
namespace Go.Proofs.YtoecaonmehbfeaaGreat
open Go.RowKit
open Go.ChangeMaps (setBlock)
set_option linter.unusedVariables false
set_option linter.unusedSectionVars false
set_option linter.unusedSimpArgs false
set_option maxRecDepth 100000

section
variable {B : Nat} {w0 w : World} {F : List (Nat × Obj)} {L : List Nd} {tb c : Nat} {n m : Nd} {P : Wds}
theorem TreeOk.one (h : TreeOk L tb c) {k : Nat} (hk : k < P.length) (hm : ∃ m ∈ L, m.p = P.take (k + 1)) : ∃ m ∈ L, m.p = P.take k := by
  obtain ⟨m, hm, e⟩ := hm
  have hx : P[k]? = some P[k] := List.getElem?_eq_getElem hk
  rw [← take_snoc hx] at e
  rcases h.ups m hm with ⟨h1, _⟩ | ⟨q, hq, w, h1, _, _⟩
  · rw [h1] at e
    have := congrArg List.length e
    rw [List.length_append, List.length_singleton, List.length_nil] at this
    omega
  · rw [h1] at e
    exact ⟨q, hq, (snoc_inj e).1⟩
theorem TreeOk.pre (h : TreeOk L tb c) (hm : ∃ m ∈ L, m.p = P) : ∀ (d k : Nat), k + d = P.length → ∃ m ∈ L, m.p = P.take k
  | 0, k, e => by rw [List.take_of_length_le (by omega)]; exact hm
  | d + 1, k, e => h.one (by omega) (TreeOk.pre h hm d (k + 1) (by omega))
theorem TreeOk.lost (h : TreeOk L tb c) {k : Nat} (hk : k ≤ P.length) (hn : nd L (P.take k) = none) : nd L P = none := by
  rw [nd_none]
  intro m hm e
  obtain ⟨q, hq, e2⟩ := h.pre ⟨m, hm, e⟩ (P.length - k) k (by omega)
  exact nd_none.1 hn q hq e2

/-- What find knows at its label. -/
def FindAt (w : World) (L : List Nd) (P : Wds) (g : Nat) (a' : Act) (w' : World) : Prop :=
  ∃ (at_ : Nat) (a : Option Addr) (cap : Nat), at_ + g = P.length ∧ Fr 30 [(0, ptrP L (P.take at_)), (5, .slice a P.length cap), (6, .int .i64 at_)] a' ∧ ReadTs w' (.slice a P.length cap) P ∧ Below w.heap.size w w'

set_option maxHeartbeats 1000000 in
theorem find_any (hst : St B w0 w (objsL L ++ F)) (ht : TreeOk L tb c) (hn : n ∈ L) (h0 : n.p = []) (l : List UInt8) (hl : l.length ≤ 1000) :
    Calls Tryz.prog 102 #[np n.b, tx l] w fun e w' => e = .returned (ptrP L (wordsL l)) ∧ Below w.heap.size w w' := by
  have hwl := words_len l
  have cw := Lib.hid (words_to (l := l) (by omega) w)
  have e0 : np n.b = ptrP L ((wordsL l).take 0) := by
    rw [List.take_zero, ← h0, ht.ptr hn]
  generalize wordsL l = P at *
  have hPl : P.length ≤ 1001 := by omega
  rw [e0]
  replace hst := Lib.hid hst
  replace ht := Lib.hid ht
  clear hwl e0 hn h0
  generalize hnv : ptrP L (P.take 0) = nv at *
  replace hnv := Lib.hid hnv
  go_enter Tryz.func102, Tryz.ntmps102
  go_wp2_with fail
  refine wp_scope_ghost 0 (FindAt w L P) rfl ?_ ?_
  · clear cw hnv
    rintro g a' w' ⟨at_, a, cap, hg, hfr, hv, hb⟩
    obtain ⟨f, rfl, hl'⟩ := hfr.lit
    clear hfr
    simp only [List.mem_cons, List.not_mem_nil, or_false, forall_eq_or_imp, forall_eq] at hl'
    obtain ⟨f0, f5, f6⟩ := hl'
    simp only [List.range, List.range.loop, List.map, f0, f5, f6]
    clear f0 f5 f6
    have hP0 : (P.length : Int) ≤ 1001 := by omega
    have hat0 : (0 : Int) ≤ at_ := by omega
    cases hm : nd L (P.take at_) with
    | none =>
      have e1 : ptrP L (P.take at_) = .pointer none := by unfold ptrP; rw [hm]
      have e2 : ptrP L P = .pointer none := by unfold ptrP; rw [ht.out.lost (by omega) hm]
      rw [e1]
      replace e2 := Lib.hid e2
      replace hb := Lib.hid hb
      clear hv hst ht e1 hm
      go_wp2_with fail
      simp only [Exit.jump]
      go_ret
      exact ⟨by rw [e2.out]; rfl, hb.out⟩
    | some m =>
      obtain ⟨hm1, hm2⟩ := nd_mem hm
      have e1 : ptrP L (P.take at_) = np m.b := by unfold ptrP; rw [hm]
      rw [e1]
      by_cases hlt : at_ < P.length
      · have hx : P[at_]? = some P[at_] := List.getElem?_eq_getElem hlt
        obtain ⟨a2, cap2, e2, hta⟩ := id hv
        simp only [Value.slice.injEq, true_and] at e2
        obtain ⟨rfl, rfl⟩ := e2
        obtain ⟨-, b, off, rfl, hcell⟩ := hta.at_ _ _ hx
        have hst' : St B w0 w' (objsL L ++ F) := hst.out.grow hb
        have hk := run_kid hst'.drew ht.out hm1 P[at_]
        rw [hm2, take_snoc hx] at hk
        have c2 := hst'.node hm1 (j := 2) (v := .map m.s.mv) rfl
        have hlt' : (at_ : Int) < P.length := by omega
        have hneB : ((at_ : Int) == (P.length : Int)) = false := by
          rw [beq_eq_false_iff_ne]
          omega
        replace hv := Lib.hid hv
        replace hb := Lib.hid hb
        clear hst ht hst' hm hm1 hm2 e1 hta
        generalize P[at_] = x at *
        generalize hnx : ptrP L (P.take (at_ + 1)) = nx at *
        replace hnx := Lib.hid hnx
        go_upto_region 5 with fail
        go_still_tail 10, (by kernel_rfl)
        change wpList _ _ _ _ _ w'.drew
        go_wp2_with fail
        refine wp_goto ?_
        exact ⟨rfl, P.length - (at_ + 1), by omega, at_ + 1, _, _, by omega, ⟨rfl, rfl, by simp [hnx.out]⟩, hv.out.below (Below.refl _ _).drew, hb.out.drew⟩
      · obtain rfl : at_ = P.length := by omega
        rw [List.take_length] at e1
        replace e1 := Lib.hid e1
        replace hb := Lib.hid hb
        clear hst ht hv hm hm1 hm2
        go_wp2_with fail
        simp only [Exit.jump]
        go_ret
        exact ⟨by rw [e1.out]; rfl, hb.out⟩
  · intro H
    go_wp2_with fail
    refine cw.out.mono ?_
    rintro e w1 ⟨v, rfl, hv, hb⟩
    obtain ⟨a, cap, rfl, hta⟩ := id hv
    clear cw hta
    replace hv := Lib.hid hv
    replace hb := Lib.hid hb
    go_wp2_with fail
    refine wp_label ?_
    go_step
    go_step
    exact H P.length _ _ ⟨0, a, cap, by omega, ⟨rfl, rfl, by simp only [List.mem_cons, List.not_mem_nil, or_false, forall_eq_or_imp, forall_eq]; exact ⟨by rw [hnv.out]; rfl, rfl, rfl⟩⟩, hv.out, hb.out⟩

theorem Same.cut {R : List Nd} {s' : Tb (List UInt8)} (hp : m.p ≠ []) (hi : m.i.es = []) : Same (m :: n :: R) ({ n with s := s' } :: R) := by
  refine ⟨fun p k => ⟨?_, ?_⟩, ?_⟩
  · rintro ⟨q, hq, e1, e2⟩
    rcases List.mem_cons.1 hq with rfl | hq
    · exact ⟨n, by simp, e1, e2⟩
    · exact ⟨q, by simp [hq], e1, e2⟩
  · rintro ⟨q, hq, e1, e2⟩
    rcases List.mem_cons.1 hq with rfl | hq
    · rw [hi] at e2
      exact absurd e2 (by simp)
    rcases List.mem_cons.1 hq with rfl | hq
    · exact ⟨{ q with s := s' }, by simp, e1, e2⟩
    · exact ⟨q, by simp [hq], e1, e2⟩
  · rintro X ⟨q, hq, e1, e2⟩
    rcases List.mem_cons.1 hq with rfl | hq
    · exact absurd e1 hp
    rcases List.mem_cons.1 hq with rfl | hq
    · exact ⟨{ q with s := s' }, by simp, e1, e2⟩
    · exact ⟨q, by simp [hq], e1, e2⟩

/-- What prune leaves; what it knows at its label. -/
def PruneR (B : Nat) (w0 : World) (tb : Nat) (L : List Nd) (F : List (Nat × Obj)) (c : Nat) (e : Ending) (w' : World) : Prop :=
  e = .returned (.tuple #[]) ∧ ∃ L', St B w0 w' (objsL L' ++ F) ∧ TreeOk L' tb c ∧ Same L L'
def PruneAt (B : Nat) (w0 : World) (tb : Nat) (L0 : List Nd) (F : List (Nat × Obj)) (c : Nat) (g : Nat) (a' : Act) (w' : World) : Prop :=
  ∃ L m, m ∈ L ∧ m.p.length = g ∧ Fr 36 [(0, np m.b)] a' ∧ St B w0 w' (objsL L ++ F) ∧ TreeOk L tb c ∧ Same L0 L

set_option maxHeartbeats 1000000 in
theorem prune_any (hst : St B w0 w (objsL L ++ F)) (ht : TreeOk L tb c) (hm : m ∈ L) (hc : c ≤ 1000000) :
    Calls Tryz.prog 104 #[np m.b] w (PruneR B w0 tb L F c) := by
  have start : Hid (St B w0 w (objsL L ++ F) ∧ TreeOk L tb c ∧ m ∈ L) := Lib.hid ⟨hst, ht, hm⟩
  clear hst ht hm
  generalize hnv : np m.b = nv at *
  replace hnv := Lib.hid hnv
  go_enter Tryz.func104, Tryz.ntmps104
  go_wp2_with fail
  refine wp_scope_ghost 0 (PruneAt B w0 tb L F c) rfl ?_ ?_
  · clear start hnv
    rintro g a' w' ⟨L1, m, hm, hg, hfr, hst, ht, hsame⟩
    obtain ⟨f, rfl, hl'⟩ := hfr.lit
    clear hfr
    simp only [List.mem_cons, List.not_mem_nil, or_false, forall_eq_or_imp, forall_eq] at hl'
    simp only [List.range, List.range.loop, List.map, hl']
    clear hl'
    have c0 := hst.node hm (j := 0) (v := upV m.u) rfl
    have c1 := hst.node hm (j := 1) (v := tx (lastW m.p)) rfl
    have stop : Hid (PruneR B w0 tb L F c (.returned (.tuple #[])) w') := Lib.hid ⟨rfl, L1, hst, ht, hsame⟩
    have ci := Lib.hid (countI_any (hst.tabI hm) fun e => ((ht.oks m hm).2.bare e).1)
    have cs := Lib.hid (countS_any (hst.tabS hm) fun e => ((ht.oks m hm).1.bare e).1)
    rcases ht.up hm with ⟨hp0, hu⟩ | ⟨q, hq, wd, hpq, hu⟩
    · rw [hu] at c0
      clear hst ht hm c1 ci cs hsame
      go_wp2_with fail
      simp only [Exit.jump]
      exact bodyPost_end (results_none rfl _ _ _) rfl stop.out
    · rw [hu] at c0
      by_cases hi : m.i.es = []
      · rw [hi] at ci
        by_cases hs : m.s.es = []
        · rw [hs] at cs
          rw [hpq, lastW_snoc] at c1
          obtain ⟨R, hp⟩ : ∃ R, L1.Perm (m :: q :: R) := by
            obtain ⟨a, b, rfl⟩ := List.append_of_mem hm
            have hq2 : q ∈ a ++ b := by
              rcases List.mem_append.1 hq with hq | hq
              · exact List.mem_append_left _ hq
              · rcases List.mem_cons.1 hq with rfl | hq
                · have := congrArg List.length hpq
                  rw [List.length_append, List.length_singleton] at this
                  omega
                · exact List.mem_append_right _ hq
            obtain ⟨a2, b2, e2⟩ := List.append_of_mem hq2
            exact ⟨a2 ++ b2, List.perm_middle.trans (List.Perm.cons _ (by rw [e2]; exact List.perm_middle))⟩
          have hwd : wd ∈ q.s.es.map (·.1) := by
            rcases ht.ups m hm with ⟨e, _⟩ | ⟨q2, hq2, w2, e1, _, e3⟩
            · rw [e] at hpq; simp at hpq
            · rw [hpq] at e1
              obtain ⟨e4, rfl⟩ := snoc_inj e1
              obtain rfl := map_inj ht.paths hq hq2 e4
              rw [← keys_rows]
              exact List.mem_map_of_mem (f := (·.1)) e3
          have hs2 : St B w0 w'.drew ((q.b, .cells q.cells q.y) :: (tabH encS q.s ++ (tabH encI q.i ++ (objsL R ++ (m.objs ++ F))))) := by
            refine hst.drew.perm (((objs_perm hp).append_right F).trans ?_)
            rw [objs_cons, objs_cons]
            show (m.objs ++ (((q.b, .cells q.cells q.y) :: (tabH encS q.s ++ tabH encI q.i)) ++ objsL R) ++ F).Perm _
            classical
            exact List.perm_iff_count.2 fun a => by simp only [List.count_append, List.count_cons, List.append_assoc, List.cons_append]; omega
          have cd : Hid (Calls Tryz.prog 113 #[.pointer (some ⟨q.b, 2, none⟩), tx wd] w'.drew fun e w3 => e = .returned (.tuple #[]) ∧ ∃ L', ∃ q' ∈ L', q'.p = q.p ∧ q'.b = q.b ∧ St B w0 w3 (objsL L' ++ F) ∧ TreeOk L' tb c ∧ Same L L' ∧ w3.cell? ⟨m.b, 0, none⟩ = some (np q.b)) := Lib.hid (by
            refine (dropS_any hs2 rfl rfl (ht.oks q hq).1 hc hwd).mono ?_
            rintro e w3 ⟨rfl, s', ⟨g1, g2⟩, g3⟩
            rw [cells_s] at g3
            have hm0 : m.p ≠ [] := by rw [hpq]; simp
            refine ⟨rfl, { q with s := s' } :: R, _, List.mem_cons_self, rfl, rfl, ?_, (ht.perm hp).cut hpq (by simp [Tb.rows, hs]) g1 g2, hsame.trans ((Same.perm hp).trans (Same.cut hm0 hi)), ?_⟩
            · have g4 : St B w0 w3 (m.objs ++ (objsL ({ q with s := s' } :: R) ++ F)) := by
                refine g3.perm ?_
                rw [objs_cons]
                show List.Perm _ (m.objs ++ (((q.b, .cells ({ q with s := s' } : Nd).cells q.y) :: (tabH encS s' ++ tabH encI q.i)) ++ objsL R ++ F))
                classical
                exact List.perm_iff_count.2 fun a => by simp only [List.count_append, List.count_cons, List.append_assoc, List.cons_append]; omega
              exact g4.sub (List.sublist_append_right _ _)
            · refine g3.cell (b := m.b) (c := m.cells) (T := m.y) (fr := (0, 0)) ?_ (show m.cells[0]? = some (np q.b) by rw [← hu]; rfl)
              unfold Nd.objs
              simp)
          replace hpq := Lib.hid (congrArg List.length hpq)
          replace hg := Lib.hid hg
          clear hst ht hm hsame hs hi hwd hs2 stop hp hu hq
          go_wp2_with fail
          refine ci.out.mono ?_
          rintro e w2 ⟨rfl, rfl⟩
          go_wp2_with fail
          refine cs.out.mono ?_
          rintro e w2 ⟨rfl, rfl⟩
          go_upto_region 1 with fail
          go_still_tail 10, (by kernel_rfl)
          change wpList _ _ _ _ _ w2.drew
          go_wp2_with fail
          refine cd.out.mono ?_
          rintro e w3 ⟨rfl, L', q', g0, g1, g2, g3, g4, g5, g6⟩
          replace g3 := Lib.hid g3
          go_wp2_with fail
          refine wp_goto ?_
          refine ⟨rfl, q'.p.length, ?_, L', q', g0, rfl, ⟨rfl, rfl, fun p hp => by rw [List.mem_singleton] at hp; subst hp; rw [g2]; rfl⟩, g3.out, g4, g5⟩
          have := hpq.out
          rw [List.length_append, List.length_singleton] at this
          rw [g1, ← hg.out]
          omega
        · have hpos : (0 : Int) < m.s.es.length := by
            have := List.length_pos_iff.2 hs
            omega
          generalize m.s.es.length = k at *
          clear hst ht hm c1 hsame hs hi
          go_wp2_with fail
          refine ci.out.mono ?_
          rintro e w2 ⟨rfl, rfl⟩
          go_wp2_with fail
          refine cs.out.mono ?_
          rintro e w2 ⟨rfl, rfl⟩
          go_wp2_with fail
          simp only [Exit.jump]
          exact bodyPost_end (results_none rfl _ _ _) rfl stop.out
      · have hpos : (0 : Int) < m.i.es.length := by
          have := List.length_pos_iff.2 hi
          omega
        generalize m.i.es.length = k at *
        clear hst ht hm c1 cs hsame
        go_wp2_with fail
        refine ci.out.mono ?_
        rintro e w2 ⟨rfl, rfl⟩
        go_wp2_with fail
        simp only [Exit.jump]
        exact bodyPost_end (results_none rfl _ _ _) rfl stop.out
  · intro H
    obtain ⟨k1, k2, k3⟩ := start.out
    replace k1 := Lib.hid k1
    go_wp2_with fail
    refine wp_label ?_
    go_step
    go_step
    refine H m.p.length _ _ ?_
    refine ⟨L, m, k3, rfl, ⟨rfl, rfl, ?_⟩, k1.out, k2, Same.refl _⟩
    intro p hp
    rw [List.mem_singleton] at hp
    subst hp
    rw [hnv.out]
    rfl
end
end Go.Proofs.YtoecaonmehbfeaaGreat
