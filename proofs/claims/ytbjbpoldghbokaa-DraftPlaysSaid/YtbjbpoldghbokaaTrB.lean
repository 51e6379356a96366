/- Maps told by their rows, whatever their keys are told by: looked up, stored into, counted, ranged over. -/
import Derived.Test.YtbjbpoldghbokaaOwn
import Derived.Maps.RangeRun
namespace Go.Proofs.Ytbjbpoldghbokaa
open Go.RowKit
open Go.ChangeMaps (setBlock)
set_option linter.unusedVariables false
set_option linter.unusedSectionVars false
set_option linter.unusedSimpArgs false

abbrev MapRow (α : Type) := α × Value × Nat
theorem nodup_len {α : Type} {l m : List α} (hn : l.Nodup) (hs : ∀ x ∈ l, x ∈ m) : l.length ≤ m.length := by
  classical
  induction l generalizing m with
  | nil => exact Nat.zero_le _
  | cons x r ih =>
    have hx := hs x List.mem_cons_self
    obtain ⟨h1, h2⟩ := List.nodup_cons.1 hn
    have h3 := ih (m := m.erase x) h2 fun y hy => (List.mem_erase_of_ne fun e : y = x => h1 (by rw [← e]; exact hy)).2 (hs y (List.mem_cons_of_mem _ hy))
    have h4 := List.length_erase_of_mem hx
    have h5 := List.length_pos_of_mem hx
    rw [List.length_cons]
    omega
section
variable {α : Type}
def entE (enc : α → Value) (x : MapRow α) : MapEntry := { key := enc x.1, val := x.2.1, born := x.2.2 }
def entsE (enc : α → Value) (l : List (MapRow α)) : Array MapEntry := (l.map (entE enc)).toArray
variable [DecidableEq α]
def seek (l : List (MapRow α)) (k : α) : Option (MapRow α) := l.find? (fun x => decide (x.1 = k))
def spot (l : List (MapRow α)) (k : α) (i : Nat) : Option (Nat × Value) := (l.findIdx? (fun x => decide (x.1 = k))).bind fun j => (l[j]?).map fun x => (i + j, x.2.1)

theorem spot_nil (k : α) (i : Nat) : spot ([] : List (MapRow α)) k i = none := rfl
theorem spot_hit (l : List (MapRow α)) (x : MapRow α) (i : Nat) : spot (x :: l) x.1 i = some (i, x.2.1) := by simp [spot, List.findIdx?_cons]
theorem spot_miss {l : List (MapRow α)} {x : MapRow α} {k : α} (h : x.1 ≠ k) (i : Nat) : spot (x :: l) k i = spot l k (i + 1) := by
  have h2 : decide (x.1 = k) = false := by simpa using h
  simp only [spot, List.findIdx?_cons, h2]
  cases hf : l.findIdx? (fun x => decide (x.1 = k)) with
  | none => simp
  | some j => simp [Nat.add_assoc, Nat.add_comm 1 j]
theorem spot_seek (l : List (MapRow α)) (k : α) (i : Nat) : (spot l k i).map (·.2) = (seek l k).map (·.2.1) := by
  induction l generalizing i with
  | nil => rfl
  | cons x l ih =>
    by_cases h : x.1 = k
    · subst h
      rw [spot_hit]
      simp [seek]
    · rw [spot_miss h, ih]
      have h2 : decide (x.1 = k) = false := by simpa using h
      simp [seek, List.find?_cons, h2]

/-- Keys of the type K are what enc tells, where ok holds of them. -/
structure KeyBy (P : Program) (K : TypeId) (enc : α → Value) (ok : World → α → Prop) : Prop where
  check : ∀ em n k w, (Instr.checkKey em (n + 1) K (enc k)).run P w = .ok () w
  find : ∀ (l : List (MapRow α)) k w, ok w k → (∀ x ∈ l, ok w x.1) → (Instr.findKey K (enc k) (l.map (entE enc))).run P w = .ok (spot l k 0) w
  same : ∀ k, Instr.sameBits 10000 (enc k) (enc k) = true

theorem findNow_by {d : TypeDesc} {enc : α → Value} (h : ∀ a b, Instr.sameNow d (enc a) (enc b) = some (decide (b = a))) (k : α) : ∀ (l : List (MapRow α)) (i : Nat),
    Instr.findNow d (enc k) (l.map (entE enc)) i = some (spot l k i)
  | [], i => rfl
  | x :: l, i => by
    simp only [List.map_cons, Instr.findNow, entE, h]
    by_cases hx : x.1 = k
    · subst hx
      rw [spot_hit]
      simp
    · have h2 : decide (x.1 = k) = false := by simpa using hx
      rw [h2]
      simp only
      rw [spot_miss hx]
      exact findNow_by h k l (i + 1)

theorem keyBy_now {P : Program} {K : TypeId} {d : TypeDesc} {enc : α → Value} (hK : P.underlying K = some d) (hc : ∀ em n k w, (Instr.checkKey em (n + 1) K (enc k)).run P w = .ok () w)
    (h : ∀ a b, Instr.sameNow d (enc a) (enc b) = some (decide (b = a))) (hs : ∀ k, Instr.sameBits 10000 (enc k) (enc k) = true) : KeyBy P K enc (fun _ _ => True) :=
  ⟨hc, fun l k w _ _ => by
    simp only [Instr.findKey]
    simp [run_underlying hK, findNow_by h k l 0], hs⟩

section
variable {P : Program} {T K E : TypeId} {w : World} {b : Nat} {l : List (MapRow α)} {clk : Nat} {enc : α → Value} {ok : World → α → Prop}

theorem run_lookE {z : Value} {c : Bool} (kb : KeyBy P K enc ok) (hT : P.underlying T = some (.map K E)) (hz : (zeroValue E).run P w = .ok z w) (hb : w.heap[b]? = some (.map (entsE enc l) clk)) {k : α} (h1 : ok w k) (h2 : ∀ x ∈ l, ok w x.1) :
    (Instr.lookup T (.map (some b)) (enc k) c).run P w = .ok (if c then .tuple #[((seek l k).map (·.2.1)).getD z, .bool (seek l k).isSome] else ((seek l k).map (·.2.1)).getD z) w := by
  have hf := spot_seek l k 0
  simp only [Instr.lookup]
  simp only [Sem.run_bind, run_underlying hT, MapKept.run_getObj_map hb, Result.andThen, kb.check, entsE, kb.find l k w h1 h2, Sem.run_pure]
  cases h1 : spot l k 0 with
  | none =>
    rw [h1] at hf
    cases h2 : seek l k with
    | none => cases c <;> simp [hz, Result.andThen]
    | some x => rw [h2] at hf; simp at hf
  | some y =>
    rw [h1] at hf
    cases h2 : seek l k with
    | none => rw [h2] at hf; simp at hf
    | some x =>
      rw [h2] at hf
      simp at hf
      cases c <;> simp [hf]

theorem run_lookE_nil {z : Value} {c : Bool} (kb : KeyBy P K enc ok) (hT : P.underlying T = some (.map K E)) (hz : (zeroValue E).run P w = .ok z w) {k : α} (h1 : ok w k) :
    (Instr.lookup T (.map none) (enc k) c).run P w = .ok (if c then .tuple #[z, .bool false] else z) w := by
  have hf := kb.find [] k w h1 (by simp)
  simp at hf
  simp only [Instr.lookup]
  cases c <;> simp [run_underlying hT, Result.andThen, kb.check, hf, hz, spot_nil]

/-- A store at a key that is not there yet. -/
theorem run_mapE_new (kb : KeyBy P K enc ok) (hT : P.underlying T = some (.map K E)) (hb : w.heap[b]? = some (.map (entsE enc l) clk)) {k : α} (h1 : ok w k) (h2 : ∀ x ∈ l, ok w x.1) (v : Value) (hn : seek l k = none) :
    (Instr.mapUpdate T (.map (some b)) (enc k) v).run P w = .ok () (setBlock w b (.map (entsE enc (l ++ [(k, v, clk)])) (clk + 1))) := by
  have hf := spot_seek l k 0
  rw [hn] at hf
  simp only [Instr.mapUpdate]
  simp only [Sem.run_bind, run_underlying hT, MapKept.run_getObj_map hb, Result.andThen, kb.check, entsE, kb.find l k w h1 h2]
  cases h1 : spot l k 0 with
  | some y => rw [h1] at hf; simp at hf
  | none =>
    simp [Sem.run, setObj, hb, setBlock, entE, entsE]

/-- .. at one that is. -/
def putE (l : List (MapRow α)) (k : α) (v : Value) : List (MapRow α) := match l.findIdx? (fun x => decide (x.1 = k)) with
  | some j => l.modify j fun x => (k, v, x.2.2)
  | none => l
theorem run_mapE_old (kb : KeyBy P K enc ok) (hT : P.underlying T = some (.map K E)) (hb : w.heap[b]? = some (.map (entsE enc l) clk)) {k : α} (h1 : ok w k) (h2 : ∀ x ∈ l, ok w x.1) (v : Value) {y : MapRow α} (hn : seek l k = some y) :
    (Instr.mapUpdate T (.map (some b)) (enc k) v).run P w = .ok () (setBlock w b (.map (entsE enc (putE l k v)) clk)) := by
  simp only [Instr.mapUpdate]
  simp only [Sem.run_bind, run_underlying hT, MapKept.run_getObj_map hb, Result.andThen, kb.check, entsE, kb.find l k w h1 h2]
  unfold seek at hn
  have hj : ∃ j, l.findIdx? (fun x => decide (x.1 = k)) = some j := by
    cases hf : l.findIdx? (fun x => decide (x.1 = k)) with
    | some j => exact ⟨j, rfl⟩
    | none =>
      rw [List.findIdx?_eq_none_iff] at hf
      have := hf y (List.mem_of_find?_eq_some hn)
      have h3 := List.find?_some hn
      simp_all
  obtain ⟨j, hj⟩ := hj
  obtain ⟨hlt, hp, -⟩ := List.findIdx?_eq_some_iff_getElem.1 hj
  have hk : l[j].1 = k := by simpa using hp
  have hs : spot l k 0 = some (j, l[j].2.1) := by simp [spot, hj, hlt]
  rw [hs]
  have hkk : (((List.map (entE enc) l).toArray[j]?).map (·.key)).getD (enc k) = enc k := by simp [hlt, entE, hk]
  have hmod : (List.map (entE enc) l).toArray.modify j (fun e => { e with key := enc k, val := v }) = (List.map (entE enc) (l.modify j fun x => (k, v, x.2.2))).toArray := by
    apply Array.ext'
    simp only [Array.toList_modify]
    apply List.ext_getElem?
    intro i
    simp only [List.getElem?_modify, List.getElem?_map]
    cases l[i]? with
    | none => simp
    | some x => by_cases hi : j = i <;> simp [hi, entE]
  simp only [Sem.run_bind, hkk, Instr.keyThatStays, kb.same, if_true, Sem.run_pure, Result.andThen]
  simp only [putE, hj]
  rw [← hmod]
  simp [Sem.run, setObj, hb, setBlock]

theorem run_delE {ty : TypeId} (kb : KeyBy P K enc ok) (hT : P.underlying T = some (.map K E)) (hb : w.heap[b]? = some (.map (entsE enc l) clk)) {k : α} (h1 : ok w k) (h2 : ∀ x ∈ l, ok w x.1) :
    (Builtin.delete_ #[T, K] ty #[.map (some b), enc k]).run P w = .ok (.tuple #[]) (setBlock w b (.map (entsE enc (l.eraseP (fun x => decide (x.1 = k)))) clk)) := by
  have h0 : (Builtin.delete_ #[T, K] ty #[.map (some b), enc k]) = (do
    let .map keyType _ ← underlying T | stuck "delete: map type expected"
    let .map es clock ← getObj b | stuck "delete: map expected"
    Instr.checkKey es.isEmpty 10000 keyType (enc k)
    match ← Instr.findKey keyType (enc k) es.toList with
    | some (i, _) => setObj b (.map (es.eraseIdxIfInBounds i) clock)
    | none => setObj b (.map es clock)
    pure (.tuple #[])) := rfl
  rw [h0]
  simp only [Sem.run_bind, run_underlying hT, MapKept.run_getObj_map hb, Result.andThen, kb.check, entsE, kb.find l k w h1 h2]
  cases hj : l.findIdx? (fun x => decide (x.1 = k)) with
  | none =>
    have h2 : l.eraseP (fun x => decide (x.1 = k)) = l := List.eraseP_of_forall_not (by simpa [List.findIdx?_eq_none_iff] using hj)
    simp [spot, hj, Sem.run, setObj, hb, setBlock, h2, Result.andThen, entsE]
  | some j =>
    have hlt : j < l.length := (List.findIdx?_eq_some_iff_getElem.1 hj).1
    have h2 : l.eraseP (fun x => decide (x.1 = k)) = l.eraseIdx j := by rw [List.eraseP_eq_eraseIdx, hj]
    simp [spot, hj, hlt, Sem.run, setObj, hb, setBlock, h2, Result.andThen, Array.eraseIdxIfInBounds, ChangeMaps.map_eraseIdx, entsE]

theorem wpList_delE {ops : Array Oper} {rest : List Oper} {o : Oper} {a : Act} {Q : Exit → Act → World → Prop} (hg : o.guard = none) (x y : Operand)
    (hop : o.op = Op.call { callee := Callee.builtin Builtin.delete, args := #[x, y], argTypes := #[T, K] })
    (kb : KeyBy P K enc ok) (hT : P.underlying T = some (.map K E)) (hx : a.eval x = .map (some b)) (hb : w.heap[b]? = some (.map (entsE enc l) clk)) {k : α} (h1 : ok w k) (h2 : ∀ x ∈ l, ok w x.1) (hy : a.eval y = enc k)
    (h : ∀ w', Hid (w' = setBlock w b (.map (entsE enc (l.eraseP (fun x => decide (x.1 = k)))) clk)) → wpList P ops Q rest (a.put o.dst (.tuple #[])) w') :
    wpList P ops Q (o :: rest) a w := by
  refine wpList_plain hg fun K' hK' => ?_
  have hrun := run_delE (ty := o.type) kb hT hb h1 h2
  unfold Oper.wp
  simp [execOp, hop, resolve, invoke, builtin, hx, hy, hrun, Result.andThen]
  exact hK' _ _ (h _ rfl)

theorem run_lenE {ty : TypeId} (hT : P.underlying T = some (.map K E)) (hb : w.heap[b]? = some (.map (entsE enc l) clk)) :
    (Builtin.len_ #[T] ty #[.map (some b)]).run P w = .ok (.int .i64 l.length) w := by
  simp [Builtin.len_, run_underlying hT, MapKept.run_getObj_map hb, goInt, Result.andThen, entsE]
theorem run_lenE_nil {ty : TypeId} (hT : P.underlying T = some (.map K E)) :
    (Builtin.len_ #[T] ty #[.map none]).run P w = .ok (.int .i64 0) w := by
  simp [Builtin.len_, run_underlying hT, goInt, Result.andThen]
end

/-! ### ranged over -/
section
variable {P : Program} {w : World} {b r : Nat} {l : List (MapRow α)} {clk : Nat} {enc : α → Value}
/-- Block r is an iterator over the rows l of the map in block b; done: those that came. -/
def IterAt (w : World) (b r : Nat) (enc : α → Value) (l : List (MapRow α)) (clk : Nat) (done : List (MapRow α)) : Prop :=
  w.heap[b]? = some (.map (entsE enc l) clk) ∧ ∃ seen : Array Nat, w.heap[r]? = some (.mapIter (some b) clk seen clk) ∧ done.Nodup ∧ (∀ e ∈ done, e ∈ l) ∧ ∀ e ∈ l, (e ∈ done ↔ e.2.2 ∈ seen)
/-- The rows' stamps. -/
def Born (l : List (MapRow α)) (clk : Nat) : Prop := (l.map (·.2.2)).Nodup ∧ ∀ e ∈ l, e.2.2 < clk

theorem Born.inj (h : Born l clk) {x y : MapRow α} (hx : x ∈ l) (hy : y ∈ l) (e : x.2.2 = y.2.2) : x = y := by
  obtain ⟨i, hi⟩ := List.getElem?_of_mem hx
  obtain ⟨j, hj⟩ := List.getElem?_of_mem hy
  have hil := (List.getElem?_eq_some_iff.1 hi).1
  have : i = j := (List.getElem?_inj (by simpa using hil) h.1).1 (by simp [hi, hj, e])
  subst this
  rw [hi] at hj; cases hj; rfl

theorem IterAt.ne {done : List (MapRow α)} (h : IterAt w b r enc l clk done) : r ≠ b := by
  obtain ⟨h1, seen, h2, -⟩ := h
  rintro rfl
  rw [h1] at h2
  cases h2
theorem IterAt.kept {done : List (MapRow α)} {w' : World} (h : IterAt w b r enc l clk done) (h1 : w'.heap[b]? = w.heap[b]?) (h2 : w'.heap[r]? = w.heap[r]?) : IterAt w' b r enc l clk done := by
  obtain ⟨g1, seen, g2, g3⟩ := h
  exact ⟨h1.trans g1, seen, h2.trans g2, g3⟩

theorem IterAt.next {done : List (MapRow α)} (h : IterAt w b r enc l clk done) (hB : Born l clk) (hn : l.Nodup) (ty : TypeId) :
    (done.Perm l ∧ (Instr.next (.pointer (some ⟨r, 0, none⟩)) false ty).run P w = .ok (.tuple #[.bool false]) w) ∨
    ∃ e, e ∈ l ∧ e ∉ done ∧ ∃ w', (Instr.next (.pointer (some ⟨r, 0, none⟩)) false ty).run P w = .ok (.tuple #[.bool true, enc e.1, e.2.1]) w' ∧
      IterAt w' b r enc l clk (done ++ [e]) ∧ (∀ k, k ≠ r → w'.heap[k]? = w.heap[k]?) ∧ w'.heap.size = w.heap.size ∧ w'.os = w.os ∧ w'.tape = w.tape ∧ w'.output = w.output ∧
      (Instr.entry (.pointer (some ⟨r, 0, none⟩))).run P w' = .ok (.tuple #[enc e.1, e.2.1]) w' := by
  have hne := h.ne
  obtain ⟨h1, seen, h2, h3, h4, h5⟩ := h
  have hold : ∀ x ∈ (entsE enc l).toList, x.born < clk := by
    intro x hx
    simp only [entsE, List.mem_map] at hx
    obtain ⟨e, he, rfl⟩ := hx
    exact hB.2 e he
  rcases run_next_at (P := P) w ty r b clk clk seen (entsE enc l) clk h2 h1 hold (Nat.le_refl _) with ⟨h0, hrun⟩ | ⟨x, hx, w1, hal, hrun⟩
  · refine .inl ⟨(List.perm_ext_iff_of_nodup h3 hn).2 fun e => ⟨h4 e, fun he => (h5 e he).2 ?_⟩, hrun⟩
    unfold leftOf at h0
    rw [Array.size_eq_zero_iff, Array.filter_eq_empty_iff] at h0
    have := h0 (entE enc e) (by simp only [entsE, List.mem_toArray, List.mem_map]; exact ⟨e, he, rfl⟩)
    simpa [entE] using this
  · unfold leftOf at hx
    simp only [Array.toList_filter, List.mem_filter] at hx
    obtain ⟨hx1, hx2⟩ := hx
    simp only [entsE, List.mem_map] at hx1
    obtain ⟨e, he, rfl⟩ := hx1
    have hd : e ∉ done := fun hd => by
      have := (h5 e he).1 hd
      simp [entE] at hx2
      exact hx2 this
    have hr1 : w1.heap[r]? = some (.mapIter (some b) clk seen clk) := by rcases hal with rfl | rfl <;> exact h2
    have hlt := (Array.getElem?_eq_some_iff.1 hr1).1
    have hset1 : (setBlock w1 r (.mapIter (some b) clk (seen.push (entE enc e).born) clk)).heap[r]? = some (.mapIter (some b) clk (seen.push (entE enc e).born) clk) := by simp [setBlock, hlt]
    have hset2 : ∀ k, k ≠ r → (setBlock w1 r (.mapIter (some b) clk (seen.push (entE enc e).born) clk)).heap[k]? = w.heap[k]? := fun k hk => by
      simp only [setBlock]
      rw [Array.getElem?_setIfInBounds_ne (Ne.symm hk)]
      rcases hal with rfl | rfl <;> rfl
    have hb1 : (setBlock w1 r (.mapIter (some b) clk (seen.push (entE enc e).born) clk)).heap[b]? = some (.map (entsE enc l) clk) := (hset2 b (Ne.symm hne)).trans h1
    refine .inr ⟨e, he, hd, _, hrun, ⟨hb1, _, hset1, ?_, ?_, ?_⟩, hset2, ?_, ?_, ?_, ?_, ?_⟩
    · rw [List.nodup_append]
      exact ⟨h3, by simp, by rintro a ha b hb rfl; rw [List.mem_singleton] at hb; subst hb; exact hd ha⟩
    · intro y hy
      rcases List.mem_append.1 hy with hy | hy
      · exact h4 y hy
      · rw [List.mem_singleton] at hy; subst hy; exact he
    · intro y hy
      rw [List.mem_append, List.mem_singleton, h5 y hy, Array.mem_push]
      exact or_congr Iff.rfl ⟨fun e => by rw [e]; rfl, fun e1 => hB.inj hy he e1⟩
    · rcases hal with rfl | rfl <;> simp [setBlock]
    · rcases hal with rfl | rfl <;> rfl
    · rcases hal with rfl | rfl <;> rfl
    · rcases hal with rfl | rfl <;> rfl
    · refine run_entry_at (e := entE enc e) _ r b clk seen (entsE enc l) clk hset1 hb1 ?_ ?_
      · simp only [entsE, List.mem_map]
        exact ⟨e, he, rfl⟩
      · have : (entsE enc l).toList.map (·.born) = l.map (·.2.2) := by simp [entsE, entE, Function.comp_def]
        rw [this]
        exact hB.1
end
end
end Go.Proofs.Ytbjbpoldghbokaa
