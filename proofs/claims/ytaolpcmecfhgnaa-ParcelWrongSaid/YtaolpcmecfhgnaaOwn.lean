/- A small word for memory that a call owns: St B w0 w H says that below block B the world w is as w0 was, and that the blocks listed in H lie in w, each from B on, each once, each holding what the list says. -/
import Derived.WalkKit
import Derived.WalkSpells
import Derived.WalkLawsBesides
import Derived.Deep.Draws
namespace Go.Proofs.Ytaolpcmecfhgnaa
open Go.RowKit

theorem ret_int {k : IntKind} {a b : Int} (h : a = b) : Ending.returned (.int k a) = .returned (.int k b) := by rw [h]
theorem ret_bool {a b : Bool} (h : a = b) : Ending.returned (.bool a) = .returned (.bool b) := by rw [h]

/-- A frame told by the slots that matter. -/
def Fr (n : Nat) (l : List (Nat × Value)) (a : Act) : Prop := a.defers = [] ∧ a.tmps.size = n ∧ ∀ p ∈ l, a.tmps[p.1]? = some p.2

theorem Fr.lit {n : Nat} {l : List (Nat × Value)} {a : Act} (h : Fr n l a) : ∃ f : Nat → Value, a = ⟨((List.range n).map f).toArray, []⟩ ∧ ∀ p ∈ l, f p.1 = p.2 := by
  obtain ⟨hd, hs, hl⟩ := h
  refine ⟨fun i => a.tmps.getD i undef, ?_, fun p hp => by simp [Array.getD_eq_getD_getElem?, hl p hp]⟩
  obtain ⟨t, d⟩ := a
  simp only at hd hs
  subst hd
  congr 1
  apply Array.ext
  · simp [hs]
  · intro i h1 h2
    simp [Array.getD_eq_getD_getElem?, h1]

theorem Fr.get {n : Nat} {l : List (Nat × Value)} {a : Act} (h : Fr n l a) {i : Nat} {v : Value} (hm : (i, v) ∈ l) : a.tmps.getD i undef = v := by
  simp [Array.getD_eq_getD_getElem?, h.2.2 _ hm]

/-- A scope in which the run jumps back to one label: the pass from the label is walked once; the way to the label takes it as it stands. -/
theorem wp_scope_label {P : Program} {a : Act} {w : World} {Q : Exit → Act → World → Prop} {c X : Code} (l : Nat) (J : Act → World → Prop) (μ : Act → World → Nat) (hf : findLabel c l = some (.seq .skip X))
    (pass : ∀ a w, J a w → X.wp P (Exit.jump l (fun a' w' => J a' w' ∧ μ a' w' < μ a w) Q) a w)
    (first : (∀ a w, J a w → X.wp P (Exit.jump l J Q) a w) → c.wp P (Exit.jump l J Q) a w) : (Code.scope c).wp P Q a w :=
  wp_scope_jumps l J μ hf (first fun a w hJ => Code.wp_mono (fun e a' w' h => by cases e <;> first | exact h | exact ⟨h.1, h.2.1⟩) (pass a w hJ))
    fun a w hJ => wp_seq (wp_skip (pass a w hJ))

theorem least {p : Nat → Prop} (h : ∃ n, p n) : ∃ n, p n ∧ ∀ m, m < n → ¬ p m := by
  obtain ⟨n, hn⟩ := h
  induction n using Nat.strongRecOn with
  | _ n ih =>
    by_cases hm : ∃ m, m < n ∧ p m
    · obtain ⟨m, h1, h2⟩ := hm
      exact ih m h1 h2
    · exact ⟨n, hn, fun m h1 h2 => hm ⟨m, h1, h2⟩⟩

/-- The same, where what falls from round to round is told by what holds at the label and not by the frame. -/
theorem wp_scope_ghost {P : Program} {a : Act} {w : World} {Q : Exit → Act → World → Prop} {c X : Code} (l : Nat) (J : Nat → Act → World → Prop) (hf : findLabel c l = some (.seq .skip X))
    (pass : ∀ n a w, J n a w → X.wp P (Exit.jump l (fun a' w' => ∃ m, m < n ∧ J m a' w') Q) a w)
    (first : (∀ n a w, J n a w → X.wp P (Exit.jump l (fun a' w' => ∃ n, J n a' w') Q) a w) → c.wp P (Exit.jump l (fun a' w' => ∃ n, J n a' w') Q) a w) : (Code.scope c).wp P Q a w := by
  classical
  refine wp_scope_jumps l (fun a w => ∃ n, J n a w) (fun a w => if h : ∃ n, J n a w then (least h).choose else 0) hf
    (first fun n a w hJ => Code.wp_mono (fun e a' w' h => by cases e <;> first | exact h | exact ⟨h.1, h.2.imp fun _ h => h.2⟩) (pass n a w hJ)) fun a w hJ => ?_
  have hs := (least hJ).choose_spec
  refine wp_seq (wp_skip (Code.wp_mono (fun e a' w' h => ?_) (pass _ a w hs.1)))
  cases e with
  | goto l' =>
    obtain ⟨h1, m, h2, h3⟩ := h
    refine ⟨h1, ⟨m, h3⟩, ?_⟩
    have hJ' : ∃ n, J n a' w' := ⟨m, h3⟩
    rw [dif_pos hJ', dif_pos hJ]
    rcases Nat.lt_or_ge m (least hJ').choose with h | h
    · exact absurd h3 ((least hJ').choose_spec.2 m h)
    · omega
  | _ => exact h

structure St (B : Nat) (w0 w : World) (H : List (Nat × Obj)) : Prop where
  below : Below B w0 w
  base : B ≤ w.heap.size
  nodup : (H.map (·.1)).Nodup
  at_ : ∀ p ∈ H, B ≤ p.1 ∧ w.heap[p.1]? = some p.2

section
variable {B : Nat} {w0 w : World} {H A C : List (Nat × Obj)} {b : Nat} {o : Obj}

theorem St.start (w : World) : St w.heap.size w w [] := ⟨Below.refl _ _, Nat.le_refl _, by simp, by simp⟩

theorem St.get (h : St B w0 w H) (hm : (b, o) ∈ H) : w.heap[b]? = some o := (h.at_ _ hm).2
theorem St.ge (h : St B w0 w H) (hm : (b, o) ∈ H) : B ≤ b := (h.at_ _ hm).1
theorem St.lt (h : St B w0 w H) (hm : (b, o) ∈ H) : b < w.heap.size := (Array.getElem?_eq_some_iff.1 (h.get hm)).1
theorem St.cell (h : St B w0 w H) {c : Array Value} {T : TypeId} {fr : Nat × Nat} (hm : (b, .cells c T fr) ∈ H) {i : Nat} {v : Value} (hi : c[i]? = some v) : w.cell? ⟨b, i, none⟩ = some v := by
  simp [World.cell?, h.get hm, hi]
theorem St.soft (h : St B w0 w H) {c : Array Value} {T : TypeId} (hm : (b, .cells c T) ∈ H) (i : Nat) : w.frozen? ⟨b, i, none⟩ = false := by
  have := h.get hm
  simp only [World.frozen?, this]
  simp

theorem St.perm {H' : List (Nat × Obj)} (h : St B w0 w H) (hp : H.Perm H') : St B w0 w H' :=
  ⟨h.below, h.base, (hp.map _).nodup_iff.1 h.nodup, fun p hm => h.at_ p (hp.mem_iff.2 hm)⟩
theorem St.sub {H' : List (Nat × Obj)} (h : St B w0 w H) (hp : H'.Sublist H) : St B w0 w H' :=
  ⟨h.below, h.base, (hp.map _).nodup h.nodup, fun p hm => h.at_ p (hp.subset hm)⟩
theorem St.drew (h : St B w0 w H) : St B w0 w.drew H := ⟨h.below.drew, h.base, h.nodup, h.at_⟩
theorem St.drewN (h : St B w0 w H) (n : Nat) : St B w0 (w.drewN n) H := ⟨⟨h.below.os, h.below.tape, h.below.output, h.below.size, h.below.block⟩, h.base, h.nodup, h.at_⟩

theorem St.alloc (h : St B w0 w H) (o : Obj) : St B w0 (w.alloc o) ((w.heap.size, o) :: H) := by
  refine ⟨h.below.alloc h.base o, by have := h.base; simp; omega, ?_, ?_⟩
  · simp only [List.map_cons, List.nodup_cons]
    refine ⟨fun hm => ?_, h.nodup⟩
    obtain ⟨p, hp, he⟩ := List.mem_map.1 hm
    have := h.lt (b := p.1) (o := p.2) hp
    omega
  · intro p hp
    rcases List.mem_cons.1 hp with rfl | hp
    · exact ⟨h.base, (MapKept.heap_alloc w o).1⟩
    · refine ⟨(h.at_ p hp).1, ?_⟩
      have := h.lt (b := p.1) (o := p.2) hp
      rw [Below.heap_alloc _ _ _ this]
      exact (h.at_ p hp).2

/-- A block other than the written one keeps what it holds. -/
theorem St.write {w' : World} {o' : Obj} (h : St B w0 w (A ++ (b, o) :: C)) (hb : w'.heap[b]? = some o') (ho : ∀ k, k ≠ b → w'.heap[k]? = w.heap[k]?)
    (hs : w'.heap.size = w.heap.size) (h1 : w'.os = w.os) (h2 : w'.tape = w.tape) (h3 : w'.output = w.output) : St B w0 w' (A ++ (b, o') :: C) := by
  have hB : B ≤ b := h.ge (o := o) (by simp)
  refine ⟨⟨h1.trans h.below.os, h2.trans h.below.tape, h3.trans h.below.output, by rw [hs]; exact h.below.size, fun k hk => (ho k (by omega)).trans (h.below.block k hk)⟩, by rw [hs]; exact h.base, ?_, ?_⟩
  · have := h.nodup
    simpa using this
  · intro p hp
    by_cases hpb : p.1 = b
    · have hn := h.nodup
      simp only [List.map_append, List.map_cons] at hn
      have : p = (b, o') := by
        rcases List.mem_append.1 hp with hp | hp
        · exfalso
          have := (List.nodup_append.1 hn).2.2 p.1 (List.mem_map_of_mem hp) b (by simp)
          exact this hpb
        · rcases List.mem_cons.1 hp with rfl | hp
          · rfl
          · exfalso
            have := (List.nodup_cons.1 (List.nodup_append.1 hn).2.1).1
            exact this (hpb ▸ List.mem_map_of_mem hp)
      subst this
      exact ⟨hB, hb⟩
    · have hm : p ∈ A ++ (b, o) :: C := by
        rcases List.mem_append.1 hp with hp | hp
        · simp [hp]
        · rcases List.mem_cons.1 hp with rfl | hp
          · exact absurd rfl hpb
          · simp [hp]
      exact ⟨(h.at_ p hm).1, (ho _ hpb).trans (h.at_ p hm).2⟩

theorem St.set {c : Array Value} {T : TypeId} {fr : Nat × Nat} (h : St B w0 w (A ++ (b, .cells c T fr) :: C)) (i : Nat) (v : Value) :
    St B w0 (w.setCell ⟨b, i, none⟩ v) (A ++ (b, .cells (c.setIfInBounds i v) T fr) :: C) := by
  have hb := h.get (b := b) (o := .cells c T fr) (by simp)
  refine h.write (by simp only [World.setCell, Array.getElem?_modify, if_true, hb, Option.map_some]; rfl) (fun k hk => Below.heap_setCell _ _ _ _ (by simpa using hk)) (by simp) rfl rfl rfl

theorem St.set0 {c : Array Value} {T : TypeId} {fr : Nat × Nat} (h : St B w0 w ((b, .cells c T fr) :: C)) (i : Nat) (v : Value) :
    St B w0 (w.setCell ⟨b, i, none⟩ v) ((b, .cells (c.setIfInBounds i v) T fr) :: C) := St.set (A := []) h i v

theorem St.block0 {o o' : Obj} (h : St B w0 w ((b, o) :: C)) : St B w0 (ChangeMaps.setBlock w b o') ((b, o') :: C) := by
  have hb := h.lt (b := b) (o := o) (by simp)
  refine St.write (A := []) h (by simp [ChangeMaps.setBlock, hb]) (fun k hk => ?_) (by simp [ChangeMaps.setBlock]) rfl rfl rfl
  simp only [ChangeMaps.setBlock]
  rw [Array.getElem?_setIfInBounds_ne (Ne.symm hk)]

/-- Behind a law that ends in 'grownBy' with no row turned. -/
theorem St.grown {w' : World} (h : St B w0 w H) {row : Option Nat} (hg : w.grownBy w' row) (hr : ∀ k, row = some k → B ≤ k ∧ k ∉ H.map (·.1)) : St B w0 w' H := by
  refine ⟨h.below.grown hg h.base (fun k hk => (hr k hk).1), Nat.le_trans h.base hg.size, h.nodup, fun p hp => ⟨(h.at_ p hp).1, ?_⟩⟩
  rw [hg.block p.1 (h.lt (o := p.2) hp) (fun e => (hr _ e.symm).2 (List.mem_map_of_mem hp))]
  exact (h.at_ p hp).2

theorem St.ne {b' : Nat} {o' : Obj} (h : St B w0 w ((b, o) :: C)) (hm : (b', o') ∈ C) : b ≠ b' := by
  have := (List.nodup_cons.1 (by simpa using h.nodup : (b :: C.map (·.1)).Nodup)).1
  intro e
  exact this (e ▸ List.mem_map_of_mem (f := (·.1)) hm)
end

/-! ### maps with keys of kind int -/
def entI (x : Int × Value × Nat) : MapEntry := { key := .int .i64 x.1, val := x.2.1, born := x.2.2 }
def entsI (l : List (Int × Value × Nat)) : Array MapEntry := (l.map entI).toArray

theorem findNow_entsI (q : IntKind) (k : Int) : ∀ (l : List (Int × Value × Nat)) (i : Nat), Instr.findNow (.int q) (.int .i64 k) (l.map entI) i =
    some ((l.findIdx? (·.1 == k)).bind fun j => (l[j]?).map fun x => (i + j, x.2.1))
  | [], i => by simp [Instr.findNow]
  | x :: l, i => by
    simp only [List.map_cons, Instr.findNow, entI, Instr.sameNow, if_true]
    by_cases h : k = x.1
    · subst h
      simp [List.findIdx?_cons]
    · have h1 : (k == x.1) = false := by simpa using h
      have h2 : (x.1 == k) = false := by simpa using (fun e : x.1 = k => h e.symm)
      rw [h1]
      simp only [List.findIdx?_cons, h2]
      rw [findNow_entsI q k l (i + 1)]
      cases hf : l.findIdx? (·.1 == k) with
      | none => simp
      | some j => simp [Nat.add_assoc, Nat.add_comm 1 j]

def seekI (l : List (Int × Value × Nat)) (k : Int) : Option (Int × Value × Nat) := l.find? (·.1 == k)

theorem findI (l : List (Int × Value × Nat)) (k : Int) : ((l.findIdx? (·.1 == k)).bind fun j => (l[j]?).map fun x => (0 + j, x.2.1)).map (·.2) = (seekI l k).map (·.2.1) := by
  unfold seekI
  induction l with
  | nil => simp
  | cons x l ih =>
    by_cases h : x.1 = k
    · simp [h, List.findIdx?_cons]
    · have h2 : (x.1 == k) = false := by simpa using h
      simp only [List.findIdx?_cons, h2, List.find?_cons]
      simp only [Nat.zero_add] at ih ⊢
      rw [← ih]
      cases hf : l.findIdx? (·.1 == k) with
      | none => simp
      | some j => simp [Function.comp_def]

section
variable {P : Program} {T K E : TypeId} {w : World} {b : Nat} {l : List (Int × Value × Nat)} {clk : Nat}

theorem run_checkKeyI (hK : P.underlying K = some (.int .i64)) (em : Bool) (n : Nat) (k : Int) : (Instr.checkKey em (n + 1) K (.int .i64 k)).run P w = .ok () w := by
  simp [Instr.checkKey, run_underlying hK]

theorem run_findKeyI (hK : P.underlying K = some (.int .i64)) (k : Int) :
    (Instr.findKey K (.int .i64 k) (l.map entI)).run P w = .ok ((l.findIdx? (·.1 == k)).bind fun j => (l[j]?).map fun x => (0 + j, x.2.1)) w := by
  simp only [Instr.findKey]
  simp [run_underlying hK, findNow_entsI .i64 k l 0]

theorem run_lookupI {z : Value} (hT : P.underlying T = some (.map K E)) (hK : P.underlying K = some (.int .i64)) (hz : (zeroValue E).run P w = .ok z w) (hb : w.heap[b]? = some (.map (entsI l) clk)) (k : Int) :
    (Instr.lookup T (.map (some b)) (.int .i64 k) true).run P w = .ok (match seekI l k with | some x => .tuple #[x.2.1, .bool true] | none => .tuple #[z, .bool false]) w := by
  have hf := findI l k
  simp only [Instr.lookup]
  simp only [Sem.run_bind, run_underlying hT, MapKept.run_getObj_map hb, Result.andThen, run_checkKeyI hK, entsI, run_findKeyI hK, Sem.run_pure]
  cases h1 : ((l.findIdx? (·.1 == k)).bind fun j => (l[j]?).map fun x => (0 + j, x.2.1)) with
  | none =>
    rw [h1] at hf
    cases h2 : seekI l k with
    | none => simp [hz, Result.andThen]
    | some x => rw [h2] at hf; simp at hf
  | some y =>
    rw [h1] at hf
    cases h2 : seekI l k with
    | none => rw [h2] at hf; simp at hf
    | some x =>
      rw [h2] at hf
      simp at hf
      simp [hf]

theorem run_lookupI_nil {z : Value} (hT : P.underlying T = some (.map K E)) (hK : P.underlying K = some (.int .i64)) (hz : (zeroValue E).run P w = .ok z w) (k : Int) :
    (Instr.lookup T (.map none) (.int .i64 k) true).run P w = .ok (.tuple #[z, .bool false]) w := by
  have hf := run_findKeyI (P := P) (w := w) (l := []) hK k
  simp at hf
  simp only [Instr.lookup]
  simp [run_underlying hT, Result.andThen, run_checkKeyI hK, hf, hz]

/-- A store at a key that is not there yet. -/
theorem run_mapUpdateI_new (hT : P.underlying T = some (.map K E)) (hK : P.underlying K = some (.int .i64)) (hb : w.heap[b]? = some (.map (entsI l) clk)) (k : Int) (v : Value) (hn : seekI l k = none) :
    (Instr.mapUpdate T (.map (some b)) (.int .i64 k) v).run P w = .ok () (ChangeMaps.setBlock w b (.map (entsI (l ++ [(k, v, clk)])) (clk + 1))) := by
  have hf := findI l k
  rw [hn] at hf
  simp only [Instr.mapUpdate]
  simp only [Sem.run_bind, run_underlying hT, MapKept.run_getObj_map hb, Result.andThen, run_checkKeyI hK, entsI, run_findKeyI hK]
  cases h1 : ((l.findIdx? (·.1 == k)).bind fun j => (l[j]?).map fun x => (0 + j, x.2.1)) with
  | some y => rw [h1] at hf; simp at hf
  | none =>
    simp [Sem.run, setObj, hb, ChangeMaps.setBlock, entI]

theorem run_deleteI {ty : TypeId} (hT : P.underlying T = some (.map K E)) (hK : P.underlying K = some (.int .i64)) (hb : w.heap[b]? = some (.map (entsI l) clk)) (k : Int) :
    (Builtin.delete_ #[T, K] ty #[.map (some b), .int .i64 k]).run P w = .ok (.tuple #[]) (ChangeMaps.setBlock w b (.map (entsI (l.eraseP (·.1 == k))) clk)) := by
  have h0 : (Builtin.delete_ #[T, K] ty #[.map (some b), .int .i64 k]) = (do
    let .map keyType _ ← underlying T | stuck "delete: map type expected"
    let .map es clock ← getObj b | stuck "delete: map expected"
    Instr.checkKey es.isEmpty 10000 keyType (.int .i64 k)
    match ← Instr.findKey keyType (.int .i64 k) es.toList with
    | some (i, _) => setObj b (.map (es.eraseIdxIfInBounds i) clock)
    | none => setObj b (.map es clock)
    pure (.tuple #[])) := rfl
  rw [h0]
  simp only [Sem.run_bind, run_underlying hT, MapKept.run_getObj_map hb, Result.andThen, run_checkKeyI hK, entsI, run_findKeyI hK]
  cases h1 : l.findIdx? (·.1 == k) with
  | none =>
    have h2 : l.eraseP (·.1 == k) = l := List.eraseP_of_forall_not (by simpa [List.findIdx?_eq_none_iff] using h1)
    simp [Sem.run, setObj, hb, ChangeMaps.setBlock, h2, Result.andThen]
  | some j =>
    have hj : j < l.length := (List.findIdx?_eq_some_iff_getElem.1 h1).1
    have h2 : l.eraseP (·.1 == k) = l.eraseIdx j := by rw [List.eraseP_eq_eraseIdx, h1]
    simp [Sem.run, setObj, hb, ChangeMaps.setBlock, h2, Result.andThen, hj, Array.eraseIdxIfInBounds, ChangeMaps.map_eraseIdx]

theorem run_lenI {ty : TypeId} (hT : P.underlying T = some (.map K E)) (hb : w.heap[b]? = some (.map (entsI l) clk)) :
    (Builtin.len_ #[T] ty #[.map (some b)]).run P w = .ok (.int .i64 l.length) w := by
  simp [Builtin.len_, run_underlying hT, MapKept.run_getObj_map hb, goInt, Result.andThen, entsI]

/-- 'delete(m, k)' at the operation. -/
theorem wpList_deleteI {ops : Array Oper} {rest : List Oper} {o : Oper} {a : Act} {Q : Exit → Act → World → Prop} (hg : o.guard = none) (x y : Operand)
    (hop : o.op = Op.call { callee := Callee.builtin Builtin.delete, args := #[x, y], argTypes := #[T, K] })
    (hT : P.underlying T = some (.map K E)) (hK : P.underlying K = some (.int .i64)) (hx : a.eval x = .map (some b)) (hb : w.heap[b]? = some (.map (entsI l) clk)) (k : Int) (hy : a.eval y = .int .i64 k)
    (h : ∀ w', Hid (w' = ChangeMaps.setBlock w b (.map (entsI (l.eraseP (·.1 == k))) clk)) → wpList P ops Q rest (a.put o.dst (.tuple #[])) w') :
    wpList P ops Q (o :: rest) a w := by
  refine wpList_plain hg fun K' hK' => ?_
  have hrun := run_deleteI (P := P) (ty := o.type) hT hK hb k
  unfold Oper.wp
  simp [execOp, hop, resolve, invoke, builtin, hx, hy, hrun, Result.andThen]
  exact hK' _ _ (h _ rfl)
end
/-- Owned blocks stay as they are where only new ones come. -/
theorem St.grow {B : Nat} {w0 w w' : World} {H : List (Nat × Obj)} (h : St B w0 w H) (hb : Below w.heap.size w w') : St B w0 w' H :=
  ⟨h.below.trans (hb.mono h.base), Nat.le_trans h.base hb.size, h.nodup, fun p hm => ⟨(h.at_ p hm).1, (hb.block _ (St.lt (o := p.2) h hm)).trans (h.at_ p hm).2⟩⟩
theorem new_below (w : World) (o : Obj) : Below w.heap.size w (w.alloc o) := (Below.refl _ w).alloc (Nat.le_refl _) o
theorem drew_b (w : World) : Below w.heap.size w w.drew := ⟨rfl, rfl, rfl, Nat.le_refl _, fun _ _ => rfl⟩
theorem cellUp {w w' : World} {b o : Nat} {v : Value} (h : w.cell? ⟨b, o, none⟩ = some v) (hb : Below w.heap.size w w') : w'.cell? ⟨b, o, none⟩ = some v := (hb.cell (World.block_lt_of_cell? w _ h)).trans h
/-- Owned blocks and new ones. -/
theorem St.join {B : Nat} {w0 w w1 : World} {X Y : List (Nat × Obj)} (h : St B w0 w X) (k : St w.heap.size w w1 Y) : St B w0 w1 (X ++ Y) := by
  refine ⟨h.below.trans (k.below.mono h.base), Nat.le_trans h.base k.base, ?_, ?_⟩
  · rw [List.map_append, List.nodup_append]
    refine ⟨h.nodup, k.nodup, fun x hx y hy => ?_⟩
    obtain ⟨p, hp, rfl⟩ := List.mem_map.1 hx
    obtain ⟨q, hq, rfl⟩ := List.mem_map.1 hy
    have h1 := h.lt (b := p.1) (o := p.2) hp
    have h2 := (k.at_ q hq).1
    omega
  · intro p hp
    rcases List.mem_append.1 hp with hp | hp
    · exact ⟨(h.at_ p hp).1, (k.below.block _ (h.lt (b := p.1) (o := p.2) hp)).trans (h.at_ p hp).2⟩
    · exact ⟨Nat.le_trans h.base (k.at_ p hp).1, (k.at_ p hp).2⟩
/-- A call of a function with a Go body enters it. -/
theorem goesIn {P : Program} {f : FuncId} {fn : Func} {c : Code} (h1 : P.funcs[f]? = some fn) (h2 : (fn.name == "runtime.NumGoroutine") = false) (h3 : fn.body = some c) (args : Array Value) (w : World) :
    (callFunc f args).run P w = .ok (.enter f args) w := by
  have h4 : fn.name ≠ "runtime.NumGoroutine" := by simpa using h2
  simp [callFunc, h1, h4, h3, mark]
end Go.Proofs.Ytaolpcmecfhgnaa
