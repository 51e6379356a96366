/- Editing a row that the call owns in place: copy, clear, append of zero values, cuts up to the capacity, and whether two rows overlap. The block's content is a plain list. -/
import Derived.Test.YtaolpcmecfhgnaaSl
import Derived.Laws.CopyOwn
import Derived.Lib.AppendZerosOnto
import Derived.Lib.Overlaps
namespace Go.Proofs.Ytaolpcmecfhgnaa
open Go.RowKit
set_option maxRecDepth 100000

section
variable {P : Program} {B : Nat} {w0 w w' : World} {A F : List (Nat × Obj)} {T : TypeId} {size n m : Nat} {v x : Value} {xs news : List Value}

/-! ### lists -/
theorem take_splice {L : List Value} {p k : Nat} {c : List Value} (h : k ≤ p) (hp : p ≤ L.length) : (splice L p c).take k = L.take k := by
  unfold splice
  rw [List.take_append_of_le_length (by rw [List.length_take]; omega), List.take_take, Nat.min_eq_left h]
theorem drop_splice {L : List Value} {p : Nat} {c : List Value} (hp : p ≤ L.length) : (splice L p c).drop p = c ++ L.drop (p + c.length) := by
  unfold splice
  exact List.drop_left' (by rw [List.length_take]; omega)
theorem drop_splice_behind {L : List Value} {p k : Nat} {c : List Value} (hp : p ≤ L.length) (hk : k = p + c.length) : (splice L p c).drop k = L.drop k := by
  subst hk
  rw [← List.drop_drop, drop_splice hp, List.drop_left]
theorem drop_splice_ahead {L : List Value} {p k : Nat} {c : List Value} (h : k ≤ p) (hp : p ≤ L.length) : (splice L p c).drop k = splice (L.drop k) (p - k) c := by
  unfold splice
  rw [List.drop_append_of_le_length (by rw [List.length_take]; omega), List.drop_take, List.drop_drop]
  congr 3
  omega
theorem getElem_splice_out {L : List Value} {p j : Nat} {c : List Value} (hp : p ≤ L.length) (h : p + c.length ≤ j) : (splice L p c)[j]? = L[j]? := by
  obtain ⟨d, rfl⟩ : ∃ d, j = (p + c.length) + d := ⟨j - (p + c.length), by omega⟩
  rw [← List.getElem?_drop, ← List.getElem?_drop, drop_splice_behind hp rfl]

/-- What lies ahead of p, then c, then d: however the two were laid. -/
theorem splice2_low {L : List Value} {p q : Nat} {c d : List Value} (hq : q = p + c.length) (hl : q + d.length ≤ L.length) : (splice (splice L p c) q d).take (q + d.length) = L.take p ++ c ++ d := by
  have h1 : (splice L p c).take q = L.take p ++ c := by
    subst hq
    unfold splice
    rw [← List.append_assoc]
    exact List.take_left' (by rw [List.length_append, List.length_take]; omega)
  unfold splice at h1 ⊢
  rw [h1, ← List.append_assoc]
  exact List.take_left' (by simp only [List.length_append, List.length_take]; omega)
theorem splice2_high {L : List Value} {p q : Nat} {c d : List Value} (hq : q = p + c.length) (hl : q + d.length ≤ L.length) : (splice (splice L q d) p c).take (q + d.length) = L.take p ++ c ++ d := by
  have hl1 : (splice L q d).length = L.length := length_splice _ _ _ hl
  have h1 : (splice L q d).take p = L.take p := take_splice (by omega) (by omega)
  have h2 : (splice L q d).drop q = d ++ L.drop (q + d.length) := drop_splice (by omega)
  rw [show splice (splice L q d) p c = (splice L q d).take p ++ (c ++ (splice L q d).drop (p + c.length)) from rfl, h1, ← hq, h2, ← List.append_assoc, ← List.append_assoc]
  exact List.take_left' (by simp only [List.length_append, List.length_take]; omega)
theorem splice1 {L : List Value} {p : Nat} {c : List Value} (hl : p + c.length ≤ L.length) : (splice L p c).take (p + c.length) = L.take p ++ c := by
  unfold splice
  rw [← List.append_assoc]
  exact List.take_left' (by simp only [List.length_append, List.length_take]; omega)

/-! ### the block -/
/-- v is a slice of n elements and capacity cap, of the cells of block g from off on; the block holds L. -/
theorem SlIs.block {g off cap : Nat} (h : SlIs T size (.slice (some ⟨g, off, none⟩) n cap) n xs F) : ∃ L : List Value, F = [(g, .cells L.toArray T (0, 0))] ∧ n ≤ cap ∧ cap ≤ maxLen ∧ off + cap * size ≤ L.length ∧ (L.drop off).take (n * size) = xs := by
  obtain ⟨hl, ⟨h1, _⟩ | ⟨g', off', cap', cur, h1, hF, h3, h4, h5, h6⟩⟩ := h
  · cases h1
  · cases h1
    exact ⟨cur.toList, by rw [hF], h3, h4, by simpa using h5, h6⟩
theorem SlIs.of {g off cap : Nat} {L : List Value} (h3 : n ≤ cap) (h4 : cap ≤ maxLen) (h5 : off + cap * size ≤ L.length) (h6 : (L.drop off).take (n * size) = xs) : SlIs T size (.slice (some ⟨g, off, none⟩) n cap) n xs [(g, .cells L.toArray T (0, 0))] := by
  refine ⟨?_, .inr ⟨g, off, cap, _, rfl, rfl, h3, h4, by simpa using h5, h6⟩⟩
  rw [← h6, List.length_take, List.length_drop]
  have : n * size ≤ cap * size := Nat.mul_le_mul_right _ h3
  omega
theorem St.cellL {g : Nat} {L : List Value} (h : St B w0 w (A ++ [(g, .cells L.toArray T (0, 0))])) {j : Nat} {u : Value} (hj : L[j]? = some u) : w.cell? ⟨g, j, none⟩ = some u :=
  h.cell (b := g) (c := L.toArray) (T := T) (fr := (0, 0)) (by simp) (by simpa using hj)
theorem St.setL {g : Nat} {L L' : List Value} (h : St B w0 w (A ++ [(g, .cells L.toArray T (0, 0))])) : St B w0 (w.setRow g L'.toArray) (A ++ [(g, .cells L'.toArray T (0, 0))]) := St.setRow h

theorem run_copy_st {g o dLen dCap sLen sCap : Nat} {dp sp : Option Addr} {L cs : List Value} (dT sT ty e : TypeId) (hu : P.underlying dT = some (.slice e)) (hsz : (P.info? e).map (·.size) = some size)
    (hst : St B w0 w (A ++ [(g, .cells L.toArray T (0, 0))])) (hn : cs.length = Nat.min sLen dLen * size) (hd : cs ≠ [] → dp = some ⟨g, o, none⟩) (hs : cs ≠ [] → ∃ ad, sp = some ad)
    (hsrc : ∀ ad j u, sp = some ad → cs[j]? = some u → w.cell? (ad.add j) = some u) (hfit : o + cs.length ≤ L.length) (h1 : ∀ u ∈ cs, u.oneCell' = true) :
    ∃ w', (Builtin.copy_ #[dT, sT] ty #[.slice dp dLen dCap, .slice sp sLen sCap]).run P w = .ok (goInt (Nat.min sLen dLen)) w' ∧ St B w0 w' (A ++ [(g, .cells (splice L o cs).toArray T (0, 0))]) := by
  have hb := hst.get (b := g) (o := .cells L.toArray T (0, 0)) (by simp)
  cases hq : P.info? e with
  | none => simp [hq] at hsz
  | some i =>
    have hi : i.size = size := by simpa [hq] using hsz
    by_cases h0 : cs = []
    · subst h0
      have hl : Nat.min sLen dLen * size = 0 := by rw [← hn]; rfl
      refine ⟨w, ?_, by simpa [splice] using hst⟩
      have hf : (Builtin.firstCells size (Nat.min sLen dLen) (.slice sp sLen sCap)).run P w = .ok #[] w := by
        cases sp with
        | none => simp [Builtin.firstCells]
        | some a => exact run_firstCells_some (P := P) w size _ a sLen sCap [] (by rw [hl]; rfl) (by simp)
      cases dp <;> simp [Builtin.copy_, run_underlying hu, Builtin.lenOf, sizeOf, typeInfo, hq, hi, hf, storeCells]
    · obtain rfl := hd h0
      obtain ⟨ad, rfl⟩ := hs h0
      have hf := run_firstCells_some (P := P) w size (Nat.min sLen dLen) ad sLen sCap cs hn (fun j u hj => hsrc ad j u rfl hj)
      have hsto := run_storeCells_at P g o T cs 0 L.toArray w hb (by simpa using hfit) h1
      simp only [Nat.add_zero] at hsto
      refine ⟨_, ?_, hst.setL⟩
      simp [Builtin.copy_, run_underlying hu, Builtin.lenOf, sizeOf, typeInfo, hq, hi, hf, hsto, splice]

theorem run_copy_ty {dT sT ty ty' : TypeId} {d s : Value} {r : Result Value} (h : (Builtin.copy_ #[dT, sT] ty #[d, s]).run P w = r) : (Builtin.copy_ #[dT, sT] ty' #[d, s]).run P w = r := h

/-- A copy whose run is known: for the walk. -/
theorem wpList_copy_go {ops : Array Oper} {rest : List Oper} {o : Oper} {a : Act} {Q : Exit → Act → World → Prop} (hgd : o.guard = none) (d s : Operand) (dT sT : TypeId)
    (ho : o.op = .call { callee := .builtin .copy, args := #[d, s], argTypes := #[dT, sT] }) (vd vs : Value) (hed : a.eval d = vd) (hes : a.eval s = vs) {v' : Value} {w' : World}
    (hr : (Builtin.copy_ #[dT, sT] 0 #[vd, vs]).run P w = .ok v' w') (h : wpList P ops Q rest (a.put o.dst v') w') : wpList P ops Q (o :: rest) a w := by
  refine wpList_plain hgd fun K hK => ?_
  have hr' := run_copy_ty (ty' := o.type) hr
  unfold Oper.wp execOp
  simp only [ho, resolve, invoke, builtin, Sem.run_bind, Sem.run_pure, Result.andThen_ok, List.map_toArray, List.map_cons, List.map_nil, hed, hes, hr']
  exact hK _ _ h

/-- .. and as one step of a region that draws its order. -/
theorem step_copy_go {ops : Array Oper} {o : Oper} {a : Act} {K : Act → World → Prop} {Q : Exit → Act → World → Prop} {E : Prop} (hgd : o.guard = none) (d s : Operand) (dT sT : TypeId)
    (ho : o.op = .call { callee := .builtin .copy, args := #[d, s], argTypes := #[dT, sT] }) (vd vs : Value) (hed : a.eval d = vd) (hes : a.eval s = vs) {v' : Value} {w' : World}
    (hr : (Builtin.copy_ #[dT, sT] 0 #[vd, vs]).run P w = .ok v' w') (h : K (a.put o.dst v') w') :
    if Region.wanted o (yielded ops a.tmps) = true then Oper.wp P o a w K Q else E := by
  have hw : Region.wanted o (yielded ops a.tmps) = true := by simp [Region.wanted, hgd]
  rw [if_pos hw]
  have hr' := run_copy_ty (ty' := o.type) hr
  unfold Oper.wp execOp
  simp only [ho, resolve, invoke, builtin, Sem.run_bind, Sem.run_pure, Result.andThen_ok, List.map_toArray, List.map_cons, List.map_nil, hed, hes, hr']
  exact h

theorem run_append_ty {dT sT ty ty' : TypeId} {d s : Value} {r : Result Value} (h : (Builtin.append_ #[dT, sT] ty #[d, s]).run P w = r) : (Builtin.append_ #[dT, sT] ty' #[d, s]).run P w = r := h

/-- An append whose run is known: for the walk. -/
theorem wpList_append_go {ops : Array Oper} {rest : List Oper} {o : Oper} {a : Act} {Q : Exit → Act → World → Prop} (hgd : o.guard = none) (d s : Operand) (dT sT : TypeId)
    (ho : o.op = .call { callee := .builtin .append, args := #[d, s], argTypes := #[dT, sT] }) (vd vs : Value) (hed : a.eval d = vd) (hes : a.eval s = vs) {v' : Value} {w' : World}
    (hr : (Builtin.append_ #[dT, sT] 0 #[vd, vs]).run P w = .ok v' w') (h : wpList P ops Q rest (a.put o.dst v') w') : wpList P ops Q (o :: rest) a w := by
  refine wpList_plain hgd fun K hK => ?_
  have hr' := run_append_ty (ty' := o.type) hr
  unfold Oper.wp execOp
  simp only [ho, resolve, invoke, builtin, Sem.run_bind, Sem.run_pure, Result.andThen_ok, List.map_toArray, List.map_cons, List.map_nil, hed, hes, hr']
  exact hK _ _ h

/-- .. and inside a region that draws its order. -/
theorem step_append_go {ops : Array Oper} {o : Oper} {a : Act} {K : Act → World → Prop} {Q : Exit → Act → World → Prop} {E : Prop} (hgd : o.guard = none) (d s : Operand) (dT sT : TypeId)
    (ho : o.op = .call { callee := .builtin .append, args := #[d, s], argTypes := #[dT, sT] }) (vd vs : Value) (hed : a.eval d = vd) (hes : a.eval s = vs) {v' : Value} {w' : World}
    (hr : (Builtin.append_ #[dT, sT] 0 #[vd, vs]).run P w = .ok v' w') (h : K (a.put o.dst v') w') : if Region.wanted o (yielded ops a.tmps) = true then Oper.wp P o a w K Q else E := by
  have hw : Region.wanted o (yielded ops a.tmps) = true := by simp [Region.wanted, hgd]
  rw [if_pos hw]
  have hr' := run_append_ty (ty' := o.type) hr
  unfold Oper.wp execOp
  simp only [ho, resolve, invoke, builtin, Sem.run_bind, Sem.run_pure, Result.andThen_ok, List.map_toArray, List.map_cons, List.map_nil, hed, hes, hr']
  exact h

theorem run_append_room_st {g off sLen sCap : Nat} {L : List Value} (t ty e : TypeId) (i : TypeInfo) (ht : P.underlying t = some (.slice e)) (hi : P.info? e = some i) (hsize : i.size = size)
    (hst : St B w0 w (A ++ [(g, .cells L.toArray e (0, 0))])) (hx : Reads w x m size news) (h1 : ∀ u ∈ news, u.oneCell' = true) (hroom : sLen + m ≤ sCap) (hfit : off + sLen * size + news.length ≤ L.length) :
    ∃ w', (Builtin.append_ #[t, t] ty #[.slice (some ⟨g, off, none⟩) sLen sCap, x]).run P w = .ok (.slice (some ⟨g, off, none⟩) (sLen + m) sCap) w' ∧ St B w0 w' (A ++ [(g, .cells (splice L (off + sLen * size) news).toArray e (0, 0))]) := by
  subst hsize
  obtain ⟨hxl, ⟨rfl, rfl⟩ | ⟨ad, c, rfl, hnews⟩⟩ := hx
  · have hn : news = [] := List.eq_nil_of_length_eq_zero (by simpa using hxl)
    subst hn
    exact ⟨w, run_append_room_none w t ty e i ht hi _ sLen sCap hroom, by simpa [splice] using hst⟩
  · have hb := hst.get (b := g) (o := .cells L.toArray e (0, 0)) (by simp)
    refine ⟨_, run_append_room_off (P := P) w t ty e i ht hi g off sLen sCap L.toArray hb ad m c news hxl hnews h1 hroom (by simpa using hfit), ?_⟩
    have := hst.setL (L' := splice L (off + sLen * i.size) news)
    simpa [splice] using this

/-- A clear whose run is known: for the walk. -/
theorem run_clear_ty {t ty ty' : TypeId} {d : Value} {r : Result Value} (h : (Builtin.clear_ #[t] ty #[d]).run P w = r) : (Builtin.clear_ #[t] ty' #[d]).run P w = r := h
theorem wpList_clear_go {ops : Array Oper} {rest : List Oper} {o : Oper} {a : Act} {Q : Exit → Act → World → Prop} (hgd : o.guard = none) (d : Operand) (t : TypeId)
    (ho : o.op = .call { callee := .builtin .clear, args := #[d], argTypes := #[t] }) (vd : Value) (hed : a.eval d = vd) {v' : Value} {w' : World}
    (hr : (Builtin.clear_ #[t] 0 #[vd]).run P w = .ok v' w') (h : wpList P ops Q rest (a.put o.dst v') w') : wpList P ops Q (o :: rest) a w := by
  refine wpList_plain hgd fun K hK => ?_
  have hr' := run_clear_ty (ty' := o.type) hr
  unfold Oper.wp execOp
  simp only [ho, resolve, invoke, builtin, Sem.run_bind, Sem.run_pure, Result.andThen_ok, List.map_toArray, List.map_cons, List.map_nil, hed, hr']
  exact hK _ _ h

theorem run_clear_st {g off k cap : Nat} {dp : Option Addr} {L : List Value} {z : Value} (t ty e : TypeId) (ht : P.underlying t = some (.slice e)) (hv : ∀ w, (zeroValue e).run P w = .ok z w) (hzs : z.cells.size = size) (hz1 : ∀ u ∈ z.cells.toList, u.oneCell' = true)
    (hst : St B w0 w (A ++ [(g, .cells L.toArray T (0, 0))])) (hd : 0 < k → dp = some ⟨g, off, none⟩) (hfit : off + k * size ≤ L.length) :
    ∃ (w' : World) (c : List Value), (Builtin.clear_ #[t] ty #[.slice dp k cap]).run P w = .ok (.tuple #[]) w' ∧ c.length = k * size ∧ St B w0 w' (A ++ [(g, .cells (splice L off c).toArray T (0, 0))]) := by
  have hb := hst.get (b := g) (o := .cells L.toArray T (0, 0)) (by simp)
  cases k with
  | zero =>
    refine ⟨w, [], ?_, by simp, by simpa [splice] using hst⟩
    cases dp <;> simp [Builtin.clear_, run_underlying ht]
  | succ k =>
    obtain rfl := hd (by omega)
    have hc : (Builtin.zeroCells z.cells (k + 1)).toList.length = (k + 1) * size := by simp [size_zeroCells, hzs]
    have hsto := run_storeCells_at P g off T (Builtin.zeroCells z.cells (k + 1)).toList 0 L.toArray w hb (by simpa [size_zeroCells, hzs] using hfit) (by
      intro u hu
      simp only [Builtin.zeroCells, Array.toList_map, List.mem_map] at hu
      obtain ⟨j, hj, rfl⟩ := hu
      have hj2 : j < (k + 1) * z.cells.size := by simpa using hj
      have hpos : 0 < z.cells.size := by
        rcases Nat.eq_zero_or_pos z.cells.size with h | h
        · rw [h] at hj2; omega
        · exact h
      have hlt : j % z.cells.size < z.cells.size := Nat.mod_lt _ hpos
      refine hz1 _ ?_
      rw [getElem!_pos z.cells _ hlt]
      simp)
    simp only [Nat.add_zero] at hsto
    refine ⟨_, (Builtin.zeroCells z.cells (k + 1)).toList, ?_, hc, hst.setL⟩
    simp [Builtin.clear_, run_underlying ht, hv, hsto, splice]

/-- 'append(s[:i], make([]T, k)...)' where there is no room: a new row that holds what s[:i] held, then zero values. -/
theorem run_append_zeros_st {sCap k : Nat} (t tn ty e : TypeId) (i : TypeInfo) (z : Value) (kn : IntKind) (ht : P.underlying t = some (.slice e)) (htn : P.underlying tn = some (.int kn)) (hi : P.info? e = some i) (hz : i.zero = some z) (hsize : i.size = size) (hs0 : 0 < size) (hzs : z.cells.size = size)
    {bytes : Nat} (hby : i.bytes = bytes) {base : Option Addr} (hs : SlIs T size (.slice base n sCap) n xs F) (hst : St B w0 w (A ++ F)) (hk : 0 < k) (hg : sCap < n + k) (hb : (n + k) * bytes ≤ 140737488355328) (hm : n + k ≤ 1073741824) :
    ∃ (w' : World) (L : List Value) (cap : Nat), (Builtin.append_ #[t, tn] ty #[.slice base n sCap, .int .i64 k]).run P w = .ok (.slice (some ⟨w.heap.size, 0, none⟩) (n + k) cap) w' ∧ n + k ≤ cap ∧ cap ≤ maxLen ∧ cap * size ≤ L.length ∧ L.take (n * size) = xs ∧
      St B w0 w' ((A ++ F) ++ [(w.heap.size, .cells L.toArray e (0, 0))]) := by
  subst hsize hby
  have hr := hs.reads hst
  have hold : (Builtin.firstCells i.size n (.slice base n sCap)).run P w.drew = .ok xs.toArray w.drew := by
    obtain ⟨hl, ⟨h1, h2⟩ | ⟨ad, c, h1, h2⟩⟩ := hr
    · cases h1
      have : xs = [] := List.eq_nil_of_length_eq_zero (by simpa using hl)
      subst this
      simp [Builtin.firstCells]
    · cases h1
      exact run_firstCells_some (P := P) w.drew i.size n ad n sCap xs hl (by simpa using h2)
  have hkb : k * i.bytes ≤ (n + k) * i.bytes := Nat.mul_le_mul_right _ (by omega)
  have h := Lib.run_append_grow_zeros (P := P) w t tn ty e i z .i64 kn ht htn hi hz base n sCap xs.toArray.toList (by simpa using hold) k hk hs0 hg (by omega) (by omega) (growslice_fits hg hb)
  have hge := grownCap_ge w (n + k) sCap e
  refine ⟨_, (xs.toArray ++ Builtin.zeroCells z.cells k ++ Builtin.zeroCells z.cells (grownCap w (n + k) sCap e - (n + k))).toList, _, h, hge, grownCap_le_maxLen w _ sCap e (by unfold maxLen; omega), ?_, ?_, ?_⟩
  · simp only [Array.toList_append, List.length_append, Array.length_toList, size_zeroCells, hzs, hs.1, ← Nat.add_mul]
    exact Nat.mul_le_mul_right _ (by omega)
  · simp only [Array.toList_append, List.append_assoc]
    rw [← hs.1]
    exact List.take_left
  · rw [Array.toArray_toList]
    exact hst.fresh _

/-- Two rows in two blocks do not overlap. -/
theorem run_overlaps_st {tS tR e : TypeId} (ht : P.underlying tS = some (.slice e)) (hz : ∀ w, (Go.sizeOf e).run P w = .ok size w) {g1 g2 o1 o2 la ca lb cb : Nat} {c1 c2 : Array Value} {T1 T2 : TypeId} {H : List (Nat × Obj)}
    (hst : St B w0 w H) (h1 : (g1, .cells c1 T1) ∈ H) (h2 : (g2, .cells c2 T2) ∈ H) (hne : g1 ≠ g2) (hc : 0 < c2.size) :
    (Extern.SlicesOverlaps.overlaps #[tS, tS] #[tR] #[.slice (some ⟨g1, o1, none⟩) la ca, .slice (some ⟨g2, o2, none⟩) lb cb]).run P w = .ok (.bool false) w := by
  have e1 := hst.get h1
  have e2 := hst.get h2
  refine Lib.run_overlaps_apart w tS tR e ht size hz ⟨g1, o1, none⟩ ⟨g2, o2, none⟩ la ca lb cb hne T1 T2 c1.size c2.size ?_ ?_ (by omega) (hst.soft h1 o1) (hst.soft h1 c1.size)
  · simp [World.shape?, e1]
  · simp [World.shape?, e2]
end
end Go.Proofs.Ytaolpcmecfhgnaa
