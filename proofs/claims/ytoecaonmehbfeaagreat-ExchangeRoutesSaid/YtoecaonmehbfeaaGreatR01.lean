/- A small word for memory that a call owns: St B w0 w H says that below block B the world w is as w0 was, and that the blocks listed in H lie in w, each from B on, each once, each holding what the list says, Bindings: plain data. Rows of them, cut, those that are so, names each once, Numbers and texts as bytes: plain data. The lowest bytes of a number, the highest first; the number of bytes; what is taken from the front, Keys with stars, plain: words, patterns held against words (at once, greedily, by a table), names, Exchanges: plain data. What is declared, what is bound, where a key goes. -/
import Derived.WalkKit
import Derived.WalkSpells
import Derived.WalkLawsBesides
import Derived.Deep.Draws
import Derived.Laws.BitsLemmas
import Derived.Laws.Strings
import Derived.Lib.Bytealg
/- A small word for memory that a call owns: St B w0 w H says that below block B the world w is as w0 was, and that the blocks listed in H lie in w, each from B on, each once, each holding what the list says. -/
namespace Go.Proofs.YtoecaonmehbfeaaGreat
open Go.RowKit

theorem ret_int {k : IntKind} {a b : Int} (h : a = b) : Ending.returned (.int k a) = .returned (.int k b) := by rw [h]
theorem ret_bool {a b : Bool} (h : a = b) : Ending.returned (.bool a) = .returned (.bool b) := by rw [h]

/-- A frame told by the slots that matter. -/
def Fr (n : Nat) (l : List (Nat × Value)) (a : Act) : Prop := a.defers = [] ∧ a.tmps.size = n ∧ ∀ p ∈ l, a.tmps[p.1]? = some p.2

theorem Fr.lit {n : Nat} {l : List (Nat × Value)} {a : Act} (h : Fr n l a) : ∃ f : Nat → Value, a = ⟨((List.range n).map f).toArray, []⟩ ∧ ∀ p ∈ l, f p.1 = p.2 := by
  obtain ⟨hd, hs, hl⟩ := h
  refine ⟨fun i => a.tmps.getD i undef, ?_, fun p hp => by simp [Array.getD_eq_getD_getElem?, hl p hp]⟩
  obtain ⟨t, d⟩ := a
  simp only at hd hs
  subst hd
  congr 1
  apply Array.ext
  · simp [hs]
  · intro i h1 h2
    simp [Array.getD_eq_getD_getElem?, h1]

theorem Fr.get {n : Nat} {l : List (Nat × Value)} {a : Act} (h : Fr n l a) {i : Nat} {v : Value} (hm : (i, v) ∈ l) : a.tmps.getD i undef = v := by
  simp [Array.getD_eq_getD_getElem?, h.2.2 _ hm]

/-- A scope in which the run jumps back to one label: the pass from the label is walked once; the way to the label takes it as it stands. -/
theorem wp_scope_label {P : Program} {a : Act} {w : World} {Q : Exit → Act → World → Prop} {c X : Code} (l : Nat) (J : Act → World → Prop) (μ : Act → World → Nat) (hf : findLabel c l = some (.seq .skip X))
    (pass : ∀ a w, J a w → X.wp P (Exit.jump l (fun a' w' => J a' w' ∧ μ a' w' < μ a w) Q) a w)
    (first : (∀ a w, J a w → X.wp P (Exit.jump l J Q) a w) → c.wp P (Exit.jump l J Q) a w) : (Code.scope c).wp P Q a w :=
  wp_scope_jumps l J μ hf (first fun a w hJ => Code.wp_mono (fun e a' w' h => by cases e <;> first | exact h | exact ⟨h.1, h.2.1⟩) (pass a w hJ))
    fun a w hJ => wp_seq (wp_skip (pass a w hJ))

theorem least {p : Nat → Prop} (h : ∃ n, p n) : ∃ n, p n ∧ ∀ m, m < n → ¬ p m := by
  obtain ⟨n, hn⟩ := h
  induction n using Nat.strongRecOn with
  | _ n ih =>
    by_cases hm : ∃ m, m < n ∧ p m
    · obtain ⟨m, h1, h2⟩ := hm
      exact ih m h1 h2
    · exact ⟨n, hn, fun m h1 h2 => hm ⟨m, h1, h2⟩⟩

/-- The same, where what falls from round to round is told by what holds at the label and not by the frame. -/
theorem wp_scope_ghost {P : Program} {a : Act} {w : World} {Q : Exit → Act → World → Prop} {c X : Code} (l : Nat) (J : Nat → Act → World → Prop) (hf : findLabel c l = some (.seq .skip X))
    (pass : ∀ n a w, J n a w → X.wp P (Exit.jump l (fun a' w' => ∃ m, m < n ∧ J m a' w') Q) a w)
    (first : (∀ n a w, J n a w → X.wp P (Exit.jump l (fun a' w' => ∃ n, J n a' w') Q) a w) → c.wp P (Exit.jump l (fun a' w' => ∃ n, J n a' w') Q) a w) : (Code.scope c).wp P Q a w := by
  classical
  refine wp_scope_jumps l (fun a w => ∃ n, J n a w) (fun a w => if h : ∃ n, J n a w then (least h).choose else 0) hf
    (first fun n a w hJ => Code.wp_mono (fun e a' w' h => by cases e <;> first | exact h | exact ⟨h.1, h.2.imp fun _ h => h.2⟩) (pass n a w hJ)) fun a w hJ => ?_
  have hs := (least hJ).choose_spec
  refine wp_seq (wp_skip (Code.wp_mono (fun e a' w' h => ?_) (pass _ a w hs.1)))
  cases e with
  | goto l' =>
    obtain ⟨h1, m, h2, h3⟩ := h
    refine ⟨h1, ⟨m, h3⟩, ?_⟩
    have hJ' : ∃ n, J n a' w' := ⟨m, h3⟩
    rw [dif_pos hJ', dif_pos hJ]
    rcases Nat.lt_or_ge m (least hJ').choose with h | h
    · exact absurd h3 ((least hJ').choose_spec.2 m h)
    · omega
  | _ => exact h

structure St (B : Nat) (w0 w : World) (H : List (Nat × Obj)) : Prop where
  below : Below B w0 w
  base : B ≤ w.heap.size
  nodup : (H.map (·.1)).Nodup
  at_ : ∀ p ∈ H, B ≤ p.1 ∧ w.heap[p.1]? = some p.2

section
variable {B : Nat} {w0 w : World} {H A C : List (Nat × Obj)} {b : Nat} {o : Obj}

theorem St.start (w : World) : St w.heap.size w w [] := ⟨Below.refl _ _, Nat.le_refl _, by simp, by simp⟩

theorem St.get (h : St B w0 w H) (hm : (b, o) ∈ H) : w.heap[b]? = some o := (h.at_ _ hm).2
theorem St.ge (h : St B w0 w H) (hm : (b, o) ∈ H) : B ≤ b := (h.at_ _ hm).1
theorem St.lt (h : St B w0 w H) (hm : (b, o) ∈ H) : b < w.heap.size := (Array.getElem?_eq_some_iff.1 (h.get hm)).1
theorem St.cell (h : St B w0 w H) {c : Array Value} {T : TypeId} {fr : Nat × Nat} (hm : (b, .cells c T fr) ∈ H) {i : Nat} {v : Value} (hi : c[i]? = some v) : w.cell? ⟨b, i, none⟩ = some v := by
  simp [World.cell?, h.get hm, hi]
theorem St.soft (h : St B w0 w H) {c : Array Value} {T : TypeId} (hm : (b, .cells c T) ∈ H) (i : Nat) : w.frozen? ⟨b, i, none⟩ = false := by
  have := h.get hm
  simp only [World.frozen?, this]
  simp

theorem St.perm {H' : List (Nat × Obj)} (h : St B w0 w H) (hp : H.Perm H') : St B w0 w H' :=
  ⟨h.below, h.base, (hp.map _).nodup_iff.1 h.nodup, fun p hm => h.at_ p (hp.mem_iff.2 hm)⟩
theorem St.sub {H' : List (Nat × Obj)} (h : St B w0 w H) (hp : H'.Sublist H) : St B w0 w H' :=
  ⟨h.below, h.base, (hp.map _).nodup h.nodup, fun p hm => h.at_ p (hp.subset hm)⟩
theorem St.drew (h : St B w0 w H) : St B w0 w.drew H := ⟨h.below.drew, h.base, h.nodup, h.at_⟩
theorem St.drewN (h : St B w0 w H) (n : Nat) : St B w0 (w.drewN n) H := ⟨⟨h.below.os, h.below.tape, h.below.output, h.below.size, h.below.block⟩, h.base, h.nodup, h.at_⟩

theorem St.alloc (h : St B w0 w H) (o : Obj) : St B w0 (w.alloc o) ((w.heap.size, o) :: H) := by
  refine ⟨h.below.alloc h.base o, by have := h.base; simp; omega, ?_, ?_⟩
  · simp only [List.map_cons, List.nodup_cons]
    refine ⟨fun hm => ?_, h.nodup⟩
    obtain ⟨p, hp, he⟩ := List.mem_map.1 hm
    have := h.lt (b := p.1) (o := p.2) hp
    omega
  · intro p hp
    rcases List.mem_cons.1 hp with rfl | hp
    · exact ⟨h.base, (MapKept.heap_alloc w o).1⟩
    · refine ⟨(h.at_ p hp).1, ?_⟩
      have := h.lt (b := p.1) (o := p.2) hp
      rw [Below.heap_alloc _ _ _ this]
      exact (h.at_ p hp).2

/-- A block other than the written one keeps what it holds. -/
theorem St.write {w' : World} {o' : Obj} (h : St B w0 w (A ++ (b, o) :: C)) (hb : w'.heap[b]? = some o') (ho : ∀ k, k ≠ b → w'.heap[k]? = w.heap[k]?)
    (hs : w'.heap.size = w.heap.size) (h1 : w'.os = w.os) (h2 : w'.tape = w.tape) (h3 : w'.output = w.output) : St B w0 w' (A ++ (b, o') :: C) := by
  have hB : B ≤ b := h.ge (o := o) (by simp)
  refine ⟨⟨h1.trans h.below.os, h2.trans h.below.tape, h3.trans h.below.output, by rw [hs]; exact h.below.size, fun k hk => (ho k (by omega)).trans (h.below.block k hk)⟩, by rw [hs]; exact h.base, ?_, ?_⟩
  · have := h.nodup
    simpa using this
  · intro p hp
    by_cases hpb : p.1 = b
    · have hn := h.nodup
      simp only [List.map_append, List.map_cons] at hn
      have : p = (b, o') := by
        rcases List.mem_append.1 hp with hp | hp
        · exfalso
          have := (List.nodup_append.1 hn).2.2 p.1 (List.mem_map_of_mem hp) b (by simp)
          exact this hpb
        · rcases List.mem_cons.1 hp with rfl | hp
          · rfl
          · exfalso
            have := (List.nodup_cons.1 (List.nodup_append.1 hn).2.1).1
            exact this (hpb ▸ List.mem_map_of_mem hp)
      subst this
      exact ⟨hB, hb⟩
    · have hm : p ∈ A ++ (b, o) :: C := by
        rcases List.mem_append.1 hp with hp | hp
        · simp [hp]
        · rcases List.mem_cons.1 hp with rfl | hp
          · exact absurd rfl hpb
          · simp [hp]
      exact ⟨(h.at_ p hm).1, (ho _ hpb).trans (h.at_ p hm).2⟩

theorem St.set {c : Array Value} {T : TypeId} {fr : Nat × Nat} (h : St B w0 w (A ++ (b, .cells c T fr) :: C)) (i : Nat) (v : Value) :
    St B w0 (w.setCell ⟨b, i, none⟩ v) (A ++ (b, .cells (c.setIfInBounds i v) T fr) :: C) := by
  have hb := h.get (b := b) (o := .cells c T fr) (by simp)
  refine h.write (by simp only [World.setCell, Array.getElem?_modify, if_true, hb, Option.map_some]; rfl) (fun k hk => Below.heap_setCell _ _ _ _ (by simpa using hk)) (by simp) rfl rfl rfl

theorem St.set0 {c : Array Value} {T : TypeId} {fr : Nat × Nat} (h : St B w0 w ((b, .cells c T fr) :: C)) (i : Nat) (v : Value) :
    St B w0 (w.setCell ⟨b, i, none⟩ v) ((b, .cells (c.setIfInBounds i v) T fr) :: C) := St.set (A := []) h i v

theorem St.block0 {o o' : Obj} (h : St B w0 w ((b, o) :: C)) : St B w0 (ChangeMaps.setBlock w b o') ((b, o') :: C) := by
  have hb := h.lt (b := b) (o := o) (by simp)
  refine St.write (A := []) h (by simp [ChangeMaps.setBlock, hb]) (fun k hk => ?_) (by simp [ChangeMaps.setBlock]) rfl rfl rfl
  simp only [ChangeMaps.setBlock]
  rw [Array.getElem?_setIfInBounds_ne (Ne.symm hk)]

/-- Behind a law that ends in 'grownBy' with no row turned. -/
theorem St.grown {w' : World} (h : St B w0 w H) {row : Option Nat} (hg : w.grownBy w' row) (hr : ∀ k, row = some k → B ≤ k ∧ k ∉ H.map (·.1)) : St B w0 w' H := by
  refine ⟨h.below.grown hg h.base (fun k hk => (hr k hk).1), Nat.le_trans h.base hg.size, h.nodup, fun p hp => ⟨(h.at_ p hp).1, ?_⟩⟩
  rw [hg.block p.1 (h.lt (o := p.2) hp) (fun e => (hr _ e.symm).2 (List.mem_map_of_mem hp))]
  exact (h.at_ p hp).2

theorem St.ne {b' : Nat} {o' : Obj} (h : St B w0 w ((b, o) :: C)) (hm : (b', o') ∈ C) : b ≠ b' := by
  have := (List.nodup_cons.1 (by simpa using h.nodup : (b :: C.map (·.1)).Nodup)).1
  intro e
  exact this (e ▸ List.mem_map_of_mem (f := (·.1)) hm)
end

/-! ### maps with keys of kind int -/
def entI (x : Int × Value × Nat) : MapEntry := { key := .int .i64 x.1, val := x.2.1, born := x.2.2 }
def entsI (l : List (Int × Value × Nat)) : Array MapEntry := (l.map entI).toArray

theorem findNow_entsI (q : IntKind) (k : Int) : ∀ (l : List (Int × Value × Nat)) (i : Nat), Instr.findNow (.int q) (.int .i64 k) (l.map entI) i =
    some ((l.findIdx? (·.1 == k)).bind fun j => (l[j]?).map fun x => (i + j, x.2.1))
  | [], i => by simp [Instr.findNow]
  | x :: l, i => by
    simp only [List.map_cons, Instr.findNow, entI, Instr.sameNow, if_true]
    by_cases h : k = x.1
    · subst h
      simp [List.findIdx?_cons]
    · have h1 : (k == x.1) = false := by simpa using h
      have h2 : (x.1 == k) = false := by simpa using (fun e : x.1 = k => h e.symm)
      rw [h1]
      simp only [List.findIdx?_cons, h2]
      rw [findNow_entsI q k l (i + 1)]
      cases hf : l.findIdx? (·.1 == k) with
      | none => simp
      | some j => simp [Nat.add_assoc, Nat.add_comm 1 j]

def seekI (l : List (Int × Value × Nat)) (k : Int) : Option (Int × Value × Nat) := l.find? (·.1 == k)

theorem findI (l : List (Int × Value × Nat)) (k : Int) : ((l.findIdx? (·.1 == k)).bind fun j => (l[j]?).map fun x => (0 + j, x.2.1)).map (·.2) = (seekI l k).map (·.2.1) := by
  unfold seekI
  induction l with
  | nil => simp
  | cons x l ih =>
    by_cases h : x.1 = k
    · simp [h, List.findIdx?_cons]
    · have h2 : (x.1 == k) = false := by simpa using h
      simp only [List.findIdx?_cons, h2, List.find?_cons]
      simp only [Nat.zero_add] at ih ⊢
      rw [← ih]
      cases hf : l.findIdx? (·.1 == k) with
      | none => simp
      | some j => simp [Function.comp_def]

section
variable {P : Program} {T K E : TypeId} {w : World} {b : Nat} {l : List (Int × Value × Nat)} {clk : Nat}

theorem run_checkKeyI (hK : P.underlying K = some (.int .i64)) (em : Bool) (n : Nat) (k : Int) : (Instr.checkKey em (n + 1) K (.int .i64 k)).run P w = .ok () w := by
  simp [Instr.checkKey, run_underlying hK]

theorem run_findKeyI (hK : P.underlying K = some (.int .i64)) (k : Int) :
    (Instr.findKey K (.int .i64 k) (l.map entI)).run P w = .ok ((l.findIdx? (·.1 == k)).bind fun j => (l[j]?).map fun x => (0 + j, x.2.1)) w := by
  simp only [Instr.findKey]
  simp [run_underlying hK, findNow_entsI .i64 k l 0]

theorem run_lookupI {z : Value} (hT : P.underlying T = some (.map K E)) (hK : P.underlying K = some (.int .i64)) (hz : (zeroValue E).run P w = .ok z w) (hb : w.heap[b]? = some (.map (entsI l) clk)) (k : Int) :
    (Instr.lookup T (.map (some b)) (.int .i64 k) true).run P w = .ok (match seekI l k with | some x => .tuple #[x.2.1, .bool true] | none => .tuple #[z, .bool false]) w := by
  have hf := findI l k
  simp only [Instr.lookup]
  simp only [Sem.run_bind, run_underlying hT, MapKept.run_getObj_map hb, Result.andThen, run_checkKeyI hK, entsI, run_findKeyI hK, Sem.run_pure]
  cases h1 : ((l.findIdx? (·.1 == k)).bind fun j => (l[j]?).map fun x => (0 + j, x.2.1)) with
  | none =>
    rw [h1] at hf
    cases h2 : seekI l k with
    | none => simp [hz, Result.andThen]
    | some x => rw [h2] at hf; simp at hf
  | some y =>
    rw [h1] at hf
    cases h2 : seekI l k with
    | none => rw [h2] at hf; simp at hf
    | some x =>
      rw [h2] at hf
      simp at hf
      simp [hf]

theorem run_lookupI_nil {z : Value} (hT : P.underlying T = some (.map K E)) (hK : P.underlying K = some (.int .i64)) (hz : (zeroValue E).run P w = .ok z w) (k : Int) :
    (Instr.lookup T (.map none) (.int .i64 k) true).run P w = .ok (.tuple #[z, .bool false]) w := by
  have hf := run_findKeyI (P := P) (w := w) (l := []) hK k
  simp at hf
  simp only [Instr.lookup]
  simp [run_underlying hT, Result.andThen, run_checkKeyI hK, hf, hz]

/-- A store at a key that is not there yet. -/
theorem run_mapUpdateI_new (hT : P.underlying T = some (.map K E)) (hK : P.underlying K = some (.int .i64)) (hb : w.heap[b]? = some (.map (entsI l) clk)) (k : Int) (v : Value) (hn : seekI l k = none) :
    (Instr.mapUpdate T (.map (some b)) (.int .i64 k) v).run P w = .ok () (ChangeMaps.setBlock w b (.map (entsI (l ++ [(k, v, clk)])) (clk + 1))) := by
  have hf := findI l k
  rw [hn] at hf
  simp only [Instr.mapUpdate]
  simp only [Sem.run_bind, run_underlying hT, MapKept.run_getObj_map hb, Result.andThen, run_checkKeyI hK, entsI, run_findKeyI hK]
  cases h1 : ((l.findIdx? (·.1 == k)).bind fun j => (l[j]?).map fun x => (0 + j, x.2.1)) with
  | some y => rw [h1] at hf; simp at hf
  | none =>
    simp [Sem.run, setObj, hb, ChangeMaps.setBlock, entI]

theorem run_deleteI {ty : TypeId} (hT : P.underlying T = some (.map K E)) (hK : P.underlying K = some (.int .i64)) (hb : w.heap[b]? = some (.map (entsI l) clk)) (k : Int) :
    (Builtin.delete_ #[T, K] ty #[.map (some b), .int .i64 k]).run P w = .ok (.tuple #[]) (ChangeMaps.setBlock w b (.map (entsI (l.eraseP (·.1 == k))) clk)) := by
  have h0 : (Builtin.delete_ #[T, K] ty #[.map (some b), .int .i64 k]) = (do
    let .map keyType _ ← underlying T | stuck "delete: map type expected"
    let .map es clock ← getObj b | stuck "delete: map expected"
    Instr.checkKey es.isEmpty 10000 keyType (.int .i64 k)
    match ← Instr.findKey keyType (.int .i64 k) es.toList with
    | some (i, _) => setObj b (.map (es.eraseIdxIfInBounds i) clock)
    | none => setObj b (.map es clock)
    pure (.tuple #[])) := rfl
  rw [h0]
  simp only [Sem.run_bind, run_underlying hT, MapKept.run_getObj_map hb, Result.andThen, run_checkKeyI hK, entsI, run_findKeyI hK]
  cases h1 : l.findIdx? (·.1 == k) with
  | none =>
    have h2 : l.eraseP (·.1 == k) = l := List.eraseP_of_forall_not (by simpa [List.findIdx?_eq_none_iff] using h1)
    simp [Sem.run, setObj, hb, ChangeMaps.setBlock, h2, Result.andThen]
  | some j =>
    have hj : j < l.length := (List.findIdx?_eq_some_iff_getElem.1 h1).1
    have h2 : l.eraseP (·.1 == k) = l.eraseIdx j := by rw [List.eraseP_eq_eraseIdx, h1]
    simp [Sem.run, setObj, hb, ChangeMaps.setBlock, h2, Result.andThen, hj, Array.eraseIdxIfInBounds, ChangeMaps.map_eraseIdx]

theorem run_lenI {ty : TypeId} (hT : P.underlying T = some (.map K E)) (hb : w.heap[b]? = some (.map (entsI l) clk)) :
    (Builtin.len_ #[T] ty #[.map (some b)]).run P w = .ok (.int .i64 l.length) w := by
  simp [Builtin.len_, run_underlying hT, MapKept.run_getObj_map hb, goInt, Result.andThen, entsI]

/-- 'delete(m, k)' at the operation. -/
theorem wpList_deleteI {ops : Array Oper} {rest : List Oper} {o : Oper} {a : Act} {Q : Exit → Act → World → Prop} (hg : o.guard = none) (x y : Operand)
    (hop : o.op = Op.call { callee := Callee.builtin Builtin.delete, args := #[x, y], argTypes := #[T, K] })
    (hT : P.underlying T = some (.map K E)) (hK : P.underlying K = some (.int .i64)) (hx : a.eval x = .map (some b)) (hb : w.heap[b]? = some (.map (entsI l) clk)) (k : Int) (hy : a.eval y = .int .i64 k)
    (h : ∀ w', Hid (w' = ChangeMaps.setBlock w b (.map (entsI (l.eraseP (·.1 == k))) clk)) → wpList P ops Q rest (a.put o.dst (.tuple #[])) w') :
    wpList P ops Q (o :: rest) a w := by
  refine wpList_plain hg fun K' hK' => ?_
  have hrun := run_deleteI (P := P) (ty := o.type) hT hK hb k
  unfold Oper.wp
  simp [execOp, hop, resolve, invoke, builtin, hx, hy, hrun, Result.andThen]
  exact hK' _ _ (h _ rfl)
end
/-- Owned blocks stay as they are where only new ones come. -/
theorem St.grow {B : Nat} {w0 w w' : World} {H : List (Nat × Obj)} (h : St B w0 w H) (hb : Below w.heap.size w w') : St B w0 w' H :=
  ⟨h.below.trans (hb.mono h.base), Nat.le_trans h.base hb.size, h.nodup, fun p hm => ⟨(h.at_ p hm).1, (hb.block _ (St.lt (o := p.2) h hm)).trans (h.at_ p hm).2⟩⟩
theorem new_below (w : World) (o : Obj) : Below w.heap.size w (w.alloc o) := (Below.refl _ w).alloc (Nat.le_refl _) o
/-- Owned blocks and new ones. -/
theorem St.join {B : Nat} {w0 w w1 : World} {X Y : List (Nat × Obj)} (h : St B w0 w X) (k : St w.heap.size w w1 Y) : St B w0 w1 (X ++ Y) := by
  refine ⟨h.below.trans (k.below.mono h.base), Nat.le_trans h.base k.base, ?_, ?_⟩
  · rw [List.map_append, List.nodup_append]
    refine ⟨h.nodup, k.nodup, fun x hx y hy => ?_⟩
    obtain ⟨p, hp, rfl⟩ := List.mem_map.1 hx
    obtain ⟨q, hq, rfl⟩ := List.mem_map.1 hy
    have h1 := h.lt (b := p.1) (o := p.2) hp
    have h2 := (k.at_ q hq).1
    omega
  · intro p hp
    rcases List.mem_append.1 hp with hp | hp
    · exact ⟨(h.at_ p hp).1, (k.below.block _ (h.lt (b := p.1) (o := p.2) hp)).trans (h.at_ p hp).2⟩
    · exact ⟨Nat.le_trans h.base (k.at_ p hp).1, (k.at_ p hp).2⟩
/-- A call of a function with a Go body enters it. -/
theorem goesIn {P : Program} {f : FuncId} {fn : Func} {c : Code} (h1 : P.funcs[f]? = some fn) (h2 : (fn.name == "runtime.NumGoroutine") = false) (h3 : fn.body = some c) (args : Array Value) (w : World) :
    (callFunc f args).run P w = .ok (.enter f args) w := by
  have h4 : fn.name ≠ "runtime.NumGoroutine" := by simpa using h2
  simp [callFunc, h1, h4, h3, mark]
end Go.Proofs.YtoecaonmehbfeaaGreat

/- Bindings: plain data. Rows of them, cut, those that are so, names each once. -/
namespace Go.Proofs.YtoecaonmehbfeaaGreat

abbrev Bnd := List UInt8 × List UInt8 × List UInt8

/-- Names, each once, where it comes first. -/
def onceL : List (List UInt8) → List (List UInt8) → List (List UInt8)
  | acc, [] => acc
  | acc, n :: r => onceL (if n ∈ acc then acc else acc ++ [n]) r
theorem onceL_append (acc l m : List (List UInt8)) : onceL acc (l ++ m) = onceL (onceL acc l) m := by
  induction l generalizing acc with
  | nil => rfl
  | cons n l ih => simp only [List.cons_append, onceL, ih]
theorem onceL_len (acc l : List (List UInt8)) : (onceL acc l).length ≤ acc.length + l.length := by
  induction l generalizing acc with
  | nil => simp [onceL]
  | cons n l ih =>
    simp only [onceL, List.length_cons]
    refine Nat.le_trans (ih _) ?_
    split
    · omega
    · rw [List.length_append, List.length_singleton]; omega
theorem onceL_mem (acc l : List (List UInt8)) (x : List UInt8) : x ∈ onceL acc l ↔ x ∈ acc ∨ x ∈ l := by
  induction l generalizing acc with
  | nil => simp [onceL]
  | cons n l ih =>
    simp only [onceL, ih, List.mem_cons]
    split
    · rename_i h
      constructor
      · rintro (h1 | h1)
        · exact .inl h1
        · exact .inr (.inr h1)
      · rintro (h1 | rfl | h1)
        · exact .inl h1
        · exact .inl h
        · exact .inr h1
    · rw [List.mem_append, List.mem_singleton, or_assoc]
theorem onceL_nodup {acc : List (List UInt8)} (l : List (List UInt8)) (h : acc.Nodup) : (onceL acc l).Nodup := by
  induction l generalizing acc with
  | nil => exact h
  | cons n l ih =>
    simp only [onceL]
    apply ih
    split
    · exact h
    · rename_i hn
      rw [List.nodup_append]
      exact ⟨h, by simp, fun a ha b hb => by rw [List.mem_singleton] at hb; subst hb; exact fun e => hn (e ▸ ha)⟩
theorem onceL_same {acc l : List (List UInt8)} (h : (acc ++ l).Nodup) : onceL acc l = acc ++ l := by
  induction l generalizing acc with
  | nil => simp [onceL]
  | cons n l ih =>
    have hn : n ∉ acc := fun hm => (List.nodup_append.1 h).2.2 n hm n List.mem_cons_self rfl
    simp only [onceL, if_neg hn]
    rw [ih (by rw [List.append_assoc]; exact h), List.append_assoc]
    rfl
/-- One name more. -/
def onceS (m : List (List UInt8)) (n : List UInt8) : List (List UInt8) := if n ∈ m then m else m ++ [n]
theorem onceL_snoc (acc l : List (List UInt8)) (n : List UInt8) : onceL acc (l ++ [n]) = onceS (onceL acc l) n := by
  rw [onceL_append]
  rfl

theorem filter_step {L : List Bnd} {p : Bnd → Bool} {i : Nat} {b : Bnd} (h : L[i]? = some b) : (L.take (i + 1)).filter p = (L.take i).filter p ++ (if p b then [b] else []) := by
  rw [List.take_add_one, h, Option.toList_some, List.filter_append]
  congr 1
  simp only [List.filter_cons, List.filter_nil]
theorem map_step {α : Type} {L : List Bnd} {f : Bnd → α} {i : Nat} {b : Bnd} (h : L[i]? = some b) : (L.take (i + 1)).map f = (L.take i).map f ++ [f b] := by
  rw [List.take_add_one, h, Option.toList_some, List.map_append]
  rfl
theorem filter_whole {L : List Bnd} {p : Bnd → Bool} {i : Nat} (h : L.length ≤ i) : (L.take i).filter p = L.filter p := by rw [List.take_of_length_le h]
theorem filter_len_take {L : List Bnd} (p : Bnd → Bool) (i : Nat) : ((L.take i).filter p).length ≤ i := Nat.le_trans (List.length_filter_le _ _) (by rw [List.length_take]; omega)

theorem bnd_cases (x y : Bnd) : x = y ∨ (x.1 == y.1) = false ∨ (x.1 = y.1 ∧ (x.2.1 == y.2.1) = false) ∨ (x.1 = y.1 ∧ x.2.1 = y.2.1 ∧ (x.2.2 == y.2.2) = false) := by
  obtain ⟨a, b, c⟩ := x
  obtain ⟨d, e, f⟩ := y
  by_cases h1 : a = d
  · by_cases h2 : b = e
    · by_cases h3 : c = f
      · exact .inl (by rw [h1, h2, h3])
      · exact .inr (.inr (.inr ⟨h1, h2, by simpa using h3⟩))
    · exact .inr (.inr (.inl ⟨h1, by simpa using h2⟩))
  · exact .inr (.inl (by simpa using h1))
theorem bnd_ne {x y : Bnd} (h : (x.1 == y.1) = false ∨ (x.1 = y.1 ∧ (x.2.1 == y.2.1) = false) ∨ (x.1 = y.1 ∧ x.2.1 = y.2.1 ∧ (x.2.2 == y.2.2) = false)) : x ≠ y := by
  rintro rfl
  rcases h with h | ⟨_, h⟩ | ⟨_, _, h⟩ <;> simp at h

/-- What a table holds behind Add, what it answers. -/
def addL (L : List Bnd) (b : Bnd) : List Bnd × Bool × Int := if b ∈ L then (L, false, 0) else if 40 ≤ L.length then (L, false, 12) else (L ++ [b], true, 0)
/-- Short texts: what came in. -/
def FitB (b : Bnd) : Prop := b.1.length ≤ 140737488351232 ∧ b.2.1.length ≤ 140737488351232 ∧ b.2.2.length ≤ 140737488351232
/-- A table's rows: few, each once. -/
structure FineL (L : List Bnd) : Prop where
  few : L.length ≤ 40
  once : L.Nodup
  fit : ∀ b ∈ L, FitB b
theorem FineL.nil : FineL [] := ⟨by simp, by simp, by simp⟩
theorem FineL.add {L : List Bnd} (h : FineL L) {b : Bnd} (hb : FitB b) : FineL (addL L b).1 := by
  unfold addL
  split
  · exact h
  · split
    · exact h
    · rename_i h1 h2
      refine ⟨by rw [List.length_append, List.length_singleton]; omega, ?_, ?_⟩
      · rw [List.nodup_append]
        exact ⟨h.once, by simp, fun x hx y hy => by rw [List.mem_singleton] at hy; subst hy; exact fun e => h1 (e ▸ hx)⟩
      · intro x hx
        rcases List.mem_append.1 hx with hx | hx
        · exact h.fit x hx
        · rw [List.mem_singleton] at hx
          subst hx
          exact hb
theorem FineL.filter {L : List Bnd} (h : FineL L) (p : Bnd → Bool) : FineL (L.filter p) :=
  ⟨Nat.le_trans (List.length_filter_le _ _) h.few, h.once.sublist List.filter_sublist, fun b hb => h.fit b (List.mem_filter.1 hb).1⟩
/-- The queues of one exchange's rows of one key are each once. -/
theorem FineL.keyed {L : List Bnd} (h : L.Nodup) (e k : List UInt8) : onceL [] ((L.filter fun b => b.1 == e && b.2.2 == k).map (·.2.1)) = (L.filter fun b => b.1 == e && b.2.2 == k).map (·.2.1) := by
  rw [onceL_same, List.nil_append]
  rw [List.nil_append]
  have h1 : (L.filter fun b => b.1 == e && b.2.2 == k).Nodup := h.sublist List.filter_sublist
  rw [List.Nodup, List.pairwise_map]
  refine List.Pairwise.imp_of_mem ?_ h1
  rintro ⟨a1, a2, a3⟩ ⟨b1, b2, b3⟩ ha hb hne heq
  simp only [List.mem_filter, Bool.and_eq_true, beq_iff_eq] at ha hb heq
  exact hne (by rw [ha.2.1, ha.2.2, hb.2.1, hb.2.2, heq])
/-- Keyed is what of Of has that Key. -/
theorem filter_and (L : List Bnd) (e k : List UInt8) : (L.filter fun b => b.1 == e).filter (fun b => b.2.2 == k) = L.filter fun b => b.1 == e && b.2.2 == k := by
  rw [List.filter_filter]
  apply List.filter_congr
  intro b _
  rw [Bool.and_comm]
end Go.Proofs.YtoecaonmehbfeaaGreat

/- Numbers and texts as bytes: plain data. The lowest bytes of a number, the highest first; the number of bytes; what is taken from the front. -/
namespace Go.Proofs.YtoecaonmehbfeaaGreat
open Go.RowKit

/-- A text by its bytes. -/
abbrev tx (l : List UInt8) : Value := .string ⟨l.toArray⟩
def oct (z : Int) : UInt8 := UInt8.ofNat (z % 256).toNat
theorem oct_nat (z : Int) : ((oct z).toNat : Int) = z % 256 := by
  unfold oct
  rw [UInt8.toNat_ofNat']
  omega
/-- The k lowest bytes of n, the highest first. -/
def low : Nat → Int → List UInt8
  | 0, _ => []
  | k + 1, n => oct (n / 256 ^ k) :: low k n
theorem div_pow (n : Int) (j : Nat) : n / 256 ^ (j + 1) = n / 256 ^ j / 256 := by
  have h : (0 : Int) ≤ 256 ^ j := Int.pow_nonneg (by decide)
  rw [Int.pow_succ, Int.ediv_mul, if_neg (by omega), Int.add_zero]
theorem low_length (k : Nat) (n : Int) : (low k n).length = k := by
  induction k with
  | zero => rfl
  | succ k ih => simp [low, ih]
/-- The number of so many bytes. -/
def num (l : List UInt8) : Nat := l.foldl (fun a b => a * 256 + b.toNat) 0
theorem num_nil : num [] = 0 := rfl
theorem num_snoc (l : List UInt8) (b : UInt8) : num (l ++ [b]) = num l * 256 + b.toNat := by simp [num]
theorem u8_lt (b : UInt8) : b.toNat < 256 := UInt8.toNat_lt b
theorem num_from (l : List UInt8) (a : Nat) : l.foldl (fun a b => a * 256 + b.toNat) a = a * 256 ^ l.length + num l := by
  induction l generalizing a with
  | nil => simp [num]
  | cons b l ih =>
    simp only [List.foldl_cons, num, Nat.zero_mul, Nat.zero_add, List.length_cons]
    rw [ih (a * 256 + b.toNat), ih b.toNat, Nat.pow_succ, Nat.add_mul, Nat.mul_assoc, Nat.mul_comm 256 (256 ^ l.length)]
    omega
theorem num_cons (b : UInt8) (l : List UInt8) : num (b :: l) = b.toNat * 256 ^ l.length + num l := by
  show l.foldl _ (0 * 256 + b.toNat) = _
  rw [Nat.zero_mul, Nat.zero_add, num_from]
theorem num_lt (l : List UInt8) : num l < 256 ^ l.length := by
  induction l with
  | nil => simp [num]
  | cons b l ih =>
    rw [num_cons, List.length_cons, Nat.pow_succ]
    have h1 := u8_lt b
    have h2 : b.toNat * 256 ^ l.length ≤ 255 * 256 ^ l.length := Nat.mul_le_mul_right _ (by omega)
    omega
theorem num_low (k m : Nat) : num (low k (m : Int)) = m % 256 ^ k := by
  induction k with
  | zero => simp [low, num, Nat.mod_one]
  | succ k ih =>
    have e : (oct ((m : Int) / 256 ^ k)).toNat = m / 256 ^ k % 256 := by
      have := oct_nat ((m : Int) / 256 ^ k)
      have c : ((m : Int) / 256 ^ k) % 256 = ((m / 256 ^ k % 256 : Nat) : Int) := by simp
      omega
    rw [low, num_cons, low_length, ih, e, Nat.pow_succ, Nat.mod_mul, Nat.mul_comm (m / 256 ^ k % 256)]
    omega
theorem num_take {l : List UInt8} {i : Nat} {b : UInt8} (h : l[i]? = some b) : num (l.take (i + 1)) = num (l.take i) * 256 + b.toNat := by
  rw [List.take_add_one, h, Option.toList_some, num_snoc]

/-- Of how many bytes a number is made or taken. -/
def heldN (k : Int) : Nat := (min (max k 0) 7).toNat
theorem heldN_le (k : Int) : heldN k ≤ 7 := by unfold heldN; omega
theorem heldN_of {k : Nat} (h : k ≤ 7) : heldN (k : Int) = k := by unfold heldN; omega
theorem pow256_le {k : Nat} (h : k ≤ 7) : 256 ^ k ≤ 72057594037927936 := Nat.le_trans (Nat.pow_le_pow_right (by decide) h) (by decide)
theorem num_le {l : List UInt8} (h : l.length ≤ 7) : num l < 72057594037927936 := Nat.lt_of_lt_of_le (num_lt l) (pow256_le h)

def takeL (l : List UInt8) (k : Int) : Nat × List UInt8 × Int :=
  if l.length < heldN k then (0, l, 11) else (num (l.take (heldN k)), l.drop (heldN k), 0)
def textL (l : List UInt8) : List UInt8 × Int := if 255 < l.length then ([], 15) else (oct l.length :: l, 0)
def takeTextL (l : List UInt8) (most : Int) : List UInt8 × List UInt8 × Int :=
  match l with
  | [] => ([], [], 11)
  | b :: r => if most < b.toNat then ([], b :: r, 15) else if r.length < b.toNat then ([], b :: r, 11) else (r.take b.toNat, r.drop b.toNat, 0)

theorem low_one (n : Int) : low 1 n = [oct n] := by simp [low]
theorem textL_eq {l : List UInt8} (h : l.length ≤ 255) : textL l = (oct l.length :: l, 0) := if_neg (by omega)
theorem oct_len {l : List UInt8} (h : l.length ≤ 255) : (oct (l.length : Int)).toNat = l.length := by
  have := oct_nat (l.length : Int)
  omega
/-- What is put is taken, whatever is behind. -/
theorem takeL_low (k m : Nat) (hk : k ≤ 7) (hm : m < 256 ^ k) (r : List UInt8) : takeL (low k (m : Int) ++ r) k = (m, r, 0) := by
  have hl := low_length k (m : Int)
  unfold takeL
  rw [heldN_of hk, if_neg (by rw [List.length_append]; omega), List.take_left' hl, List.drop_left' hl, num_low, Nat.mod_eq_of_lt hm]
theorem takeL_short {k : Nat} (hk : k ≤ 7) {l : List UInt8} (h : l.length < k) : takeL l k = (0, l, 11) := by
  unfold takeL
  rw [heldN_of hk, if_pos h]
theorem takeTextL_text {l r : List UInt8} {most : Int} (h : l.length ≤ 255) (hm : (l.length : Int) ≤ most) : takeTextL (oct l.length :: l ++ r) most = (l, r, 0) := by
  have ho := oct_len h
  simp only [List.cons_append, takeTextL]
  rw [ho, if_neg (by omega), if_neg (by rw [List.length_append]; omega), List.take_left, List.drop_left]
theorem takeTextL_cut {l : List UInt8} {c : Nat} (h : l.length ≤ 255) (hc : c ≤ l.length) : takeTextL ((oct l.length :: l).take c) 255 = ([], (oct l.length :: l).take c, 11) := by
  have ho := oct_len h
  cases c with
  | zero => rfl
  | succ c =>
    simp only [List.take_succ_cons, takeTextL]
    rw [ho, if_neg (by omega), if_pos (by rw [List.length_take]; omega)]
end Go.Proofs.YtoecaonmehbfeaaGreat

/- Keys with stars, plain: words, patterns held against words (at once, greedily, by a table), names. -/
namespace Go.Proofs.YtoecaonmehbfeaaGreat
open Go.RowKit
set_option linter.unusedVariables false

/-! ### words -/
/-- What stands between points. -/
def wordsL : List UInt8 → List (List UInt8)
  | [] => [[]]
  | c :: l => if c = 46 then [] :: wordsL l else match wordsL l with
    | [] => [[c]]
    | w :: r => (c :: w) :: r
theorem words_pos (l : List UInt8) : 0 < (wordsL l).length := by
  cases l with
  | nil => simp [wordsL]
  | cons c l =>
    unfold wordsL
    split
    · simp
    · split <;> simp
theorem words_len (l : List UInt8) : (wordsL l).length ≤ l.length + 1 := by
  induction l with
  | nil => simp [wordsL]
  | cons c l ih =>
    unfold wordsL
    split
    · simpa using ih
    · split
      · simp
      · rename_i w r h
        rw [h] at ih
        simp only [List.length_cons] at ih ⊢
        omega
theorem words_none {l : List UInt8} (h : 46 ∉ l) : wordsL l = [l] := by
  induction l with
  | nil => rfl
  | cons c l ih =>
    simp only [List.mem_cons, not_or] at h
    rw [wordsL, if_neg (fun e => h.1 e.symm), ih h.2]
theorem words_cut {w : List UInt8} (h : 46 ∉ w) (r : List UInt8) : wordsL (w ++ 46 :: r) = w :: wordsL r := by
  induction w with
  | nil => simp [wordsL]
  | cons c w ih =>
    simp only [List.mem_cons, not_or] at h
    rw [List.cons_append, wordsL, if_neg (fun e => h.1 e.symm), ih h.2]
theorem cut_cases (l : List UInt8) : 46 ∉ l ∨ ∃ w r, l = w ++ 46 :: r ∧ 46 ∉ w := by
  induction l with
  | nil => exact .inl (by simp)
  | cons c l ih =>
    by_cases hc : c = 46
    · subst hc
      exact .inr ⟨[], l, rfl, by simp⟩
    · rcases ih with h | ⟨w, r, rfl, h⟩
      · exact .inl (by simp only [List.mem_cons, not_or]; exact ⟨fun e => hc e.symm, h⟩)
      · exact .inr ⟨c :: w, r, rfl, by simp only [List.mem_cons, not_or]; exact ⟨fun e => hc e.symm, h⟩⟩
theorem index_none {l : List UInt8} (h : 46 ∉ l) : Lib.indexByte l 46 = -1 := by
  induction l with
  | nil => rfl
  | cons c l ih =>
    simp only [List.mem_cons, not_or] at h
    have hb : (c == (46 : UInt8)) = false := by simpa using fun e => h.1 e.symm
    rw [Lib.indexByte, hb, ih h.2]
    rfl
theorem index_some {w : List UInt8} (h : 46 ∉ w) (r : List UInt8) : Lib.indexByte (w ++ 46 :: r) 46 = w.length := by
  induction w with
  | nil => simp [Lib.indexByte]
  | cons c w ih =>
    simp only [List.mem_cons, not_or] at h
    have hb : (c == (46 : UInt8)) = false := by simpa using fun e => h.1 e.symm
    have hn : (((w.length : Nat) : Int) == -1) = false := by
      rw [beq_eq_false_iff_ne]
      omega
    rw [List.cons_append, Lib.indexByte, hb, ih h.2, hn]
    simp
/-- What is behind the last point, of the rest. -/
theorem words_step {l w : List UInt8} {i : Nat} {f : Nat} (hw : (l.drop f).take (i - f) = w) (hf : f ≤ i) (h : 46 ∉ w) (hi : l[i]? = some 46) : wordsL (l.drop f) = w :: wordsL (l.drop (i + 1)) := by
  have e : l.drop f = w ++ 46 :: l.drop (i + 1) := by
    conv => lhs; rw [← List.take_append_drop (i - f) (l.drop f)]
    rw [hw, List.drop_drop, show f + (i - f) = i by omega]
    have hlt := (List.getElem?_eq_some_iff.1 hi).1
    rw [List.drop_eq_getElem_cons hlt, List.getElem?_eq_getElem hlt] at *
    rw [Option.some.inj hi]
  rw [e, words_cut h]

/-! ### patterns -/
abbrev Wds := List (List UInt8)
def stands (p x : List UInt8) : Bool := p == [42] || p == x
def hashL (f : Wds → Bool) : Wds → Bool
  | [] => f []
  | x :: k => f (x :: k) || hashL f k
/-- May the pattern's words stand for the key's. -/
def gl : Wds → Wds → Bool
  | [], k => k.isEmpty
  | p :: ps, k => if p = [35] then hashL (gl ps) k else match k with
    | [] => false
    | x :: ks => stands p x && gl ps ks
theorem gl_nil (k : Wds) : gl [] k = k.isEmpty := rfl
theorem gl_hash (ps k : Wds) : gl ([35] :: ps) k = hashL (gl ps) k := by
  cases k with
  | nil =>
    show (if [35] = [35] then hashL (gl ps) [] else false) = _
    rw [if_pos rfl]
  | cons x k =>
    show (if [35] = [35] then hashL (gl ps) (x :: k) else (stands [35] x && gl ps k)) = _
    rw [if_pos rfl]
theorem gl_short {p : List UInt8} (h : p ≠ [35]) (ps : Wds) : gl (p :: ps) [] = false := by
  show (if p = [35] then hashL (gl ps) [] else false) = false
  rw [if_neg h]
theorem gl_one {p : List UInt8} (h : p ≠ [35]) (ps : Wds) (x : List UInt8) (k : Wds) : gl (p :: ps) (x :: k) = (stands p x && gl ps k) := by
  show (if p = [35] then hashL (gl ps) (x :: k) else (stands p x && gl ps k)) = _
  rw [if_neg h]
theorem hashL_iff (f : Wds → Bool) (k : Wds) : hashL f k = true ↔ ∃ j, j ≤ k.length ∧ f (k.drop j) = true := by
  induction k with
  | nil =>
    rw [hashL]
    constructor
    · exact fun h => ⟨0, Nat.le_refl _, h⟩
    · rintro ⟨j, _, h⟩
      rwa [List.drop_nil] at h
  | cons x k ih =>
    rw [hashL, Bool.or_eq_true, ih]
    constructor
    · rintro (h | ⟨j, hj, h⟩)
      · exact ⟨0, Nat.zero_le _, h⟩
      · exact ⟨j + 1, by simpa using hj, h⟩
    · rintro ⟨j, hj, h⟩
      cases j with
      | zero => exact .inl h
      | succ j => exact .inr ⟨j, by simpa using hj, h⟩

/-! ### greedily -/
/-- These words of a pattern, no hash, stand for these of a key one by one. -/
def Fit : Wds → Wds → Prop
  | [], [] => True
  | s :: S, a :: A => s ≠ [35] ∧ stands s a = true ∧ Fit S A
  | _, _ => False
theorem Fit.len : ∀ {S A : Wds}, Fit S A → S.length = A.length
  | [], [], _ => rfl
  | s :: S, a :: A, h => by simp [Fit.len (S := S) (A := A) h.2.2]
  | [], _ :: _, h => h.elim
  | _ :: _, [], h => h.elim
theorem Fit.gl_eq : ∀ {S A : Wds} (h : Fit S A) (R Y : Wds), gl (S ++ R) (A ++ Y) = gl R Y
  | [], [], _, _, _ => rfl
  | s :: S, a :: A, h, R, Y => by rw [List.cons_append, List.cons_append, gl_one h.1, h.2.1, Bool.true_and, Fit.gl_eq h.2.2]
  | [], _ :: _, h, _, _ => h.elim
  | _ :: _, [], h, _, _ => h.elim
theorem Fit.snoc : ∀ {S A : Wds} {s a : List UInt8}, Fit S A → s ≠ [35] → stands s a = true → Fit (S ++ [s]) (A ++ [a])
  | [], [], _, _, _, h1, h2 => ⟨h1, h2, trivial⟩
  | _ :: _, _ :: _, _, _, h, h1, h2 => ⟨h.1, h.2.1, Fit.snoc h.2.2 h1 h2⟩
  | [], _ :: _, _, _, h, _, _ => h.elim
  | _ :: _, [], _, _, h, _, _ => h.elim
theorem Fit.plain : ∀ {S A : Wds}, Fit S A → ∀ s ∈ S, s ≠ [35]
  | [], [], _ => by simp
  | s :: S, a :: A, h => by
    intro x hx
    rcases List.mem_cons.1 hx with rfl | hx
    · exact h.1
    · exact Fit.plain h.2.2 x hx
  | [], _ :: _, h => h.elim
  | _ :: _, [], h => h.elim
theorem gl_plain : ∀ {S : Wds} (h : ∀ s ∈ S, s ≠ [35]) {T Z : Wds}, gl (S ++ T) Z = true → S.length ≤ Z.length ∧ gl T (Z.drop S.length) = true
  | [], _, T, Z, h => ⟨Nat.zero_le _, by simpa using h⟩
  | s :: S, hs, T, [], h => by
    rw [List.cons_append, gl_short (hs s (by simp))] at h
    cases h
  | s :: S, hs, T, z :: Z, h => by
    rw [List.cons_append, gl_one (hs s (by simp)), Bool.and_eq_true] at h
    have := gl_plain (fun x hx => hs x (by simp [hx])) h.2
    exact ⟨by simpa using this.1, by simpa using this.2⟩

/-- What holds where the words at, to are looked at next: behind, free tell the last hash and what it stands for, if there was one. -/
def Held (P K : Wds) (at_ to : Nat) (behind : Int) (free : Nat) : Prop :=
  at_ ≤ P.length ∧ to ≤ K.length ∧ free ≤ to ∧ ((behind = -1 ∧ free = 0 ∧ gl P K = gl (P.drop at_) (K.drop to)) ∨
    ∃ (b : Nat) (S A : Wds), behind = b ∧ b ≤ at_ ∧ P.drop b = S ++ P.drop at_ ∧ K.drop free = A ++ K.drop to ∧ Fit S A ∧ gl P K = hashL (gl (P.drop b)) (K.drop free))
/-- Neither goes on there, nor is all met. -/
def Miss (P K : Wds) (at_ to : Nat) : Prop := ¬ (at_ = P.length ∧ to = K.length) ∧ ∀ p, P[at_]? = some p → p ≠ [35] ∧ ∀ x, K[to]? = some x → stands p x = false

section
variable {P K : Wds} {a t f : Nat} {b : Int}
theorem drop_at {l : Wds} {i : Nat} {x : List UInt8} (h : l[i]? = some x) : l.drop i = x :: l.drop (i + 1) := by
  have hlt := (List.getElem?_eq_some_iff.1 h).1
  rw [List.drop_eq_getElem_cons hlt]
  rw [List.getElem?_eq_getElem hlt] at h
  rw [Option.some.inj h]
theorem Held.start (P K : Wds) : Held P K 0 0 (-1) 0 := ⟨Nat.zero_le _, Nat.zero_le _, Nat.le_refl _, .inl ⟨rfl, rfl, rfl⟩⟩
theorem Miss.gl_eq (h : Miss P K a t) (ha : a ≤ P.length) (ht : t ≤ K.length) : gl (P.drop a) (K.drop t) = false := by
  by_cases hp : a < P.length
  · have e := List.getElem?_eq_getElem hp
    obtain ⟨h1, h2⟩ := h.2 _ e
    rw [drop_at e]
    by_cases hk : t < K.length
    · have e2 := List.getElem?_eq_getElem hk
      rw [drop_at e2, gl_one h1, h2 _ e2, Bool.false_and]
    · rw [List.drop_of_length_le (show K.length ≤ t by omega), gl_short h1]
  · have hk : t < K.length := by
      have := h.1
      omega
    rw [List.drop_of_length_le (by omega), gl_nil, drop_at (List.getElem?_eq_getElem hk)]
    rfl
theorem Held.hash (h : Held P K a t b f) (hp : P[a]? = some [35]) : Held P K (a + 1) t ((a + 1 : Nat) : Int) t := by
  obtain ⟨h1, h2, h3, h⟩ := h
  have hlt := (List.getElem?_eq_some_iff.1 hp).1
  have e := drop_at hp
  refine ⟨hlt, h2, Nat.le_refl _, .inr ⟨a + 1, [], [], rfl, Nat.le_refl _, rfl, rfl, trivial, ?_⟩⟩
  rcases h with ⟨rfl, rfl, hg⟩ | ⟨b, S, A, rfl, hb, hP, hK, hF, hg⟩
  · rw [hg, e, gl_hash]
  · rw [hg, hP, e, hK]
    apply Bool.eq_iff_iff.2
    constructor
    · intro h
      obtain ⟨j, hj, h⟩ := (hashL_iff _ _).1 h
      obtain ⟨h4, h5⟩ := gl_plain hF.plain h
      rw [gl_hash, List.drop_drop] at h5
      obtain ⟨i, hi, h5⟩ := (hashL_iff _ _).1 h5
      have hl := hF.len
      rw [List.drop_drop] at h5
      have e2 : (A ++ List.drop t K).drop (j + S.length + i) = (List.drop t K).drop (j + i) := by
        rw [show j + S.length + i = A.length + (j + i) by omega, List.drop_append]
        simp
      rw [e2] at h5
      refine (hashL_iff _ _).2 ?_
      by_cases hji : j + i ≤ (K.drop t).length
      · exact ⟨j + i, hji, h5⟩
      · refine ⟨(K.drop t).length, Nat.le_refl _, ?_⟩
        rw [List.drop_of_length_le (l := List.drop t K) (by omega)] at h5
        rw [List.drop_of_length_le (Nat.le_refl _)]
        exact h5
    · intro h
      refine (hashL_iff _ _).2 ⟨0, Nat.zero_le _, ?_⟩
      rw [List.drop_zero, hF.gl_eq, gl_hash]
      exact h
theorem Held.one (h : Held P K a t b f) {p x : List UInt8} (hp : P[a]? = some p) (hn : p ≠ [35]) (hx : K[t]? = some x) (hs : stands p x = true) : Held P K (a + 1) (t + 1) b f := by
  obtain ⟨h1, h2, h3, h⟩ := h
  have hlt := (List.getElem?_eq_some_iff.1 hp).1
  have hlt2 := (List.getElem?_eq_some_iff.1 hx).1
  refine ⟨hlt, hlt2, by omega, ?_⟩
  rcases h with ⟨rfl, rfl, hg⟩ | ⟨b, S, A, rfl, hb, hP, hK, hF, hg⟩
  · refine .inl ⟨rfl, rfl, ?_⟩
    rw [hg, drop_at hp, drop_at hx, gl_one hn, hs, Bool.true_and]
  · refine .inr ⟨b, S ++ [p], A ++ [x], rfl, by omega, ?_, ?_, hF.snoc hn hs, hg⟩
    · rw [hP, drop_at hp]; simp
    · rw [hK, drop_at hx]; simp
theorem Held.met (h : Held P K P.length K.length b f) : gl P K = true := by
  obtain ⟨h1, h2, h3, h⟩ := h
  rcases h with ⟨rfl, rfl, hg⟩ | ⟨b, S, A, rfl, hb, hP, hK, hF, hg⟩
  · rw [hg, List.drop_of_length_le (Nat.le_refl _), List.drop_of_length_le (Nat.le_refl _)]
    rfl
  · rw [hg]
    refine (hashL_iff _ _).2 ⟨0, Nat.zero_le _, ?_⟩
    rw [List.drop_zero, hP, hK, hF.gl_eq, List.drop_of_length_le (Nat.le_refl _), List.drop_of_length_le (Nat.le_refl _)]
    rfl
theorem Held.not (h : Held P K a t b f) (hm : Miss P K a t) (hc : b < 0 ∨ t = K.length) : gl P K = false := by
  obtain ⟨h1, h2, h3, h⟩ := h
  rcases h with ⟨rfl, rfl, hg⟩ | ⟨b, S, A, rfl, hb, hP, hK, hF, hg⟩
  · rw [hg, hm.gl_eq h1 h2]
  · obtain rfl : t = K.length := by omega
    rw [hg]
    apply Bool.eq_false_iff.2
    intro hh
    obtain ⟨j, hj, hh⟩ := (hashL_iff _ _).1 hh
    have hp : a < P.length := by
      have := hm.1
      omega
    have e := List.getElem?_eq_getElem hp
    obtain ⟨n1, _⟩ := hm.2 _ e
    rw [hP, drop_at e, hK, show S ++ P[a] :: List.drop (a + 1) P = (S ++ [P[a]]) ++ List.drop (a + 1) P by simp] at hh
    have := gl_plain (S := S ++ [P[a]]) (fun x hx => by
      rcases List.mem_append.1 hx with hx | hx
      · exact hF.plain x hx
      · rw [List.mem_singleton] at hx
        rw [hx]
        exact n1) hh
    have hl := hF.len
    simp only [List.length_append, List.length_drop, List.length_singleton] at this
    omega
theorem Held.more (h : Held P K a t b f) (hm : Miss P K a t) (hc : ¬ b < 0) (ht : t < K.length) : ∃ n : Nat, b = n ∧ n ≤ P.length ∧ Held P K n (f + 1) b (f + 1) := by
  obtain ⟨h1, h2, h3, h⟩ := h
  rcases h with ⟨rfl, rfl, hg⟩ | ⟨b, S, A, rfl, hb, hP, hK, hF, hg⟩
  · omega
  · refine ⟨b, rfl, by omega, by omega, by omega, Nat.le_refl _, .inr ⟨b, [], [], rfl, Nat.le_refl _, rfl, rfl, trivial, ?_⟩⟩
    have hg2 := hm.gl_eq h1 h2
    have e := List.getElem?_eq_getElem (show f < K.length by omega)
    have e0 : gl (P.drop b) (K.drop f) = false := by rw [hP, hK, hF.gl_eq, hg2]
    rw [drop_at e] at e0
    rw [hg, drop_at e, hashL, e0, Bool.false_or]
end

/-! ### by a table -/
section
variable {P K : Wds}
/-- The row behind a word of the pattern that is a hash. -/
def hashR (r : Nat → Bool) : Nat → Bool
  | 0 => r 0
  | k + 1 => r (k + 1) || hashR r k
/-- .. that is none. -/
def oneR (r : Nat → Bool) (p : List UInt8) (K : Wds) : Nat → Bool
  | 0 => false
  | k + 1 => r k && stands p (K.getD k [])
def nextR (r : Nat → Bool) (p : List UInt8) (K : Wds) : Nat → Bool := if p = [35] then hashR r else oneR r p K
def rowR (P K : Wds) : Nat → Nat → Bool
  | 0 => fun k => k == 0
  | i + 1 => nextR (rowR P K i) (P.getD i []) K
theorem hashR_iff (r : Nat → Bool) (k : Nat) : hashR r k = true ↔ ∃ j, j ≤ k ∧ r j = true := by
  induction k with
  | zero =>
    rw [hashR]
    constructor
    · exact fun h => ⟨0, Nat.le_refl _, h⟩
    · rintro ⟨j, hj, h⟩
      obtain rfl : j = 0 := by omega
      exact h
  | succ k ih =>
    rw [hashR, Bool.or_eq_true, ih]
    constructor
    · rintro (h | ⟨j, hj, h⟩)
      · exact ⟨k + 1, Nat.le_refl _, h⟩
      · exact ⟨j, by omega, h⟩
    · rintro ⟨j, hj, h⟩
      by_cases e : j = k + 1
      · subst e; exact .inl h
      · exact .inr ⟨j, by omega, h⟩
theorem row_inv {i : Nat} (hi : i ≤ P.length) : gl P K = true ↔ ∃ k, k ≤ K.length ∧ rowR P K i k = true ∧ gl (P.drop i) (K.drop k) = true := by
  induction i with
  | zero =>
    constructor
    · exact fun h => ⟨0, Nat.zero_le _, rfl, h⟩
    · rintro ⟨k, _, h1, h2⟩
      obtain rfl : k = 0 := by simpa [rowR] using h1
      exact h2
  | succ i ih =>
    rw [ih (by omega)]
    have e : P[i]? = some P[i] := List.getElem?_eq_getElem (by omega)
    have hd : P.getD i [] = P[i] := by simp [List.getD_eq_getElem?_getD, e]
    rw [drop_at e, rowR, hd]
    generalize P[i] = p at *
    generalize List.drop (i + 1) P = R
    unfold nextR
    by_cases hp : p = [35]
    · subst hp
      rw [if_pos rfl]
      constructor
      · rintro ⟨k, hk, h1, h2⟩
        rw [gl_hash] at h2
        obtain ⟨j, hj, h2⟩ := (hashL_iff _ _).1 h2
        rw [List.length_drop] at hj
        rw [List.drop_drop] at h2
        exact ⟨k + j, by omega, (hashR_iff _ _).2 ⟨k, by omega, h1⟩, h2⟩
      · rintro ⟨k, hk, h1, h2⟩
        obtain ⟨j, hj, h1⟩ := (hashR_iff _ _).1 h1
        refine ⟨j, by omega, h1, ?_⟩
        rw [gl_hash]
        refine (hashL_iff _ _).2 ⟨k - j, by rw [List.length_drop]; omega, ?_⟩
        rw [List.drop_drop, show j + (k - j) = k by omega]
        exact h2
    · rw [if_neg hp]
      constructor
      · rintro ⟨k, hk, h1, h2⟩
        by_cases hlt : k < K.length
        · have e2 : K[k]? = some K[k] := List.getElem?_eq_getElem hlt
          rw [drop_at e2, gl_one hp, Bool.and_eq_true] at h2
          refine ⟨k + 1, by omega, ?_, h2.2⟩
          rw [oneR, h1, Bool.true_and]
          simp [List.getD_eq_getElem?_getD, e2, h2.1]
        · rw [List.drop_of_length_le (by omega), gl_short hp] at h2
          cases h2
      · rintro ⟨k, hk, h1, h2⟩
        cases k with
        | zero => cases h1
        | succ k =>
          rw [oneR, Bool.and_eq_true] at h1
          have e2 : K[k]? = some K[k] := List.getElem?_eq_getElem hk
          refine ⟨k, by omega, h1.1, ?_⟩
          rw [drop_at e2, gl_one hp, Bool.and_eq_true]
          refine ⟨?_, h2⟩
          have := h1.2
          simpa [List.getD_eq_getElem?_getD, e2] using this
theorem row_last : rowR P K P.length K.length = gl P K := by
  apply Bool.eq_iff_iff.2
  rw [row_inv (Nat.le_refl _)]
  constructor
  · intro h
    refine ⟨K.length, Nat.le_refl _, h, ?_⟩
    rw [List.drop_of_length_le (Nat.le_refl _), List.drop_of_length_le (Nat.le_refl _)]
    rfl
  · rintro ⟨k, hk, h1, h2⟩
    rw [List.drop_of_length_le (Nat.le_refl _), gl_nil, List.isEmpty_iff, List.drop_eq_nil_iff] at h2
    obtain rfl : k = K.length := by omega
    exact h1
end

/-! ### names -/
def inNm (c : UInt8) : Bool := decide (97 ≤ c.toNat ∧ c.toNat ≤ 122) || decide (65 ≤ c.toNat ∧ c.toNat ≤ 90) || decide (48 ≤ c.toNat ∧ c.toNat ≤ 57) || decide (c.toNat = 45)
def isNm (l : List UInt8) : Bool := decide (1 ≤ l.length) && decide (l.length ≤ 12) && l.all inNm
end Go.Proofs.YtoecaonmehbfeaaGreat

/- Exchanges: plain data. What is declared, what is bound, where a key goes. -/
namespace Go.Proofs.YtoecaonmehbfeaaGreat

/-- An exchange: its name, its kind, whether it goes with its last binding. -/
abbrev Plc := List UInt8 × Int × Bool
def findP (P : List Plc) (n : List UInt8) : Option Plc := P.find? fun p => p.1 == n
def ofB (A : List Bnd) (n : List UInt8) : List Bnd := A.filter fun b => b.1 == n
def dropP (P : List Plc) (n : List UInt8) : List Plc := P.filter fun p => !(p.1 == n)
def leaveX (P : List Plc) (A : List Bnd) (n : List UInt8) : List Plc :=
  match findP P n with
  | some p => if p.2.2 = true ∧ ofB A n = [] then dropP P n else P
  | none => P
def declX (P : List Plc) (n : List UInt8) (k : Int) (a : Bool) : List Plc × Int :=
  if n = [] then (P, 403)
  else if isNm n = false ∨ ¬ (1 ≤ k ∧ k ≤ 3) then (P, 406)
  else match findP P n with
  | some p => if p.2.1 = k ∧ p.2.2 = a then (P, 0) else (P, 406)
  | none => if 8 ≤ P.length then (P, 506) else (P ++ [(n, k, a)], 0)
def delX (P : List Plc) (A : List Bnd) (n : List UInt8) (iu : Bool) : List Plc × List Bnd × Int :=
  if n = [] then (P, A, 403)
  else match findP P n with
  | none => (P, A, 404)
  | some _ => if iu = true ∧ ofB A n ≠ [] then (P, A, 406) else (dropP P n, A.filter (fun b => !(b.1 == n)), 0)
def bindX (P : List Plc) (A : List Bnd) (b : Bnd) : List Bnd × Int :=
  if b.1 = [] then (A, 403)
  else match findP P b.1 with
  | none => (A, 404)
  | some _ => if 40 < b.2.2.length then (A, 406) else if (addL A b).2.2 = 0 then ((addL A b).1, 0) else (A, 506)
def unbX (P : List Plc) (A : List Bnd) (b : Bnd) : List Plc × List Bnd × Int :=
  if b.1 = [] then (P, A, 403)
  else match findP P b.1 with
  | none => (P, A, 404)
  | some _ => (if b ∈ A then leaveX P (A.filter fun x => !(x == b)) b.1 else P, A.filter (fun x => !(x == b)), 0)
def leavesX (P : List Plc) (A : List Bnd) (l : List (List UInt8)) : List Plc := l.foldl (fun P n => leaveX P A n) P
def dropqX (P : List Plc) (A : List Bnd) (q : List UInt8) : List Plc × List Bnd :=
  (leavesX P (A.filter fun b => !(b.2.1 == q)) (onceL [] ((A.filter fun b => b.2.1 == q).map (·.1))), A.filter fun b => !(b.2.1 == q))
/-- Whether a binding's key lets a message by. -/
def fitsK (k : Int) (key : List UInt8) (b : Bnd) : Bool := k == 2 || k == 1 && b.2.2 == key || k == 3 && gl (wordsL b.2.2) (wordsL key)
def routeL (k : Int) (A : List Bnd) (n key : List UInt8) : List (List UInt8) := onceL [] (((ofB A n).filter (fitsK k key)).map (·.2.1))
def routeX (P : List Plc) (A : List Bnd) (n key : List UInt8) : List (List UInt8) × Bool :=
  if n = [] then ([key], true)
  else match findP P n with
  | none => ([], false)
  | some p => (routeL p.2.1 A n key, true)

structure FineX (P : List Plc) (A : List Bnd) : Prop where
  few : P.length ≤ 8
  once : (P.map (·.1)).Nodup
  each : ∀ p ∈ P, p.1 ≠ [] ∧ p.1.length ≤ 12 ∧ 1 ≤ p.2.1 ∧ p.2.1 ≤ 3
  rows : FineL A
  keys : ∀ b ∈ A, b.2.2.length ≤ 40
  ins : ∀ b ∈ A, b.1 ∈ P.map (·.1)
theorem FineX.nil : FineX [] [] := ⟨by simp, by simp, by simp, FineL.nil, by simp, by simp⟩

section
variable {P : List Plc} {A : List Bnd} {n : List UInt8} {p : Plc} {b : Bnd}
theorem findP_mem (h : findP P n = some p) : p ∈ P ∧ p.1 = n := ⟨List.mem_of_find?_eq_some h, by simpa using List.find?_some h⟩
theorem findP_none : findP P n = none ↔ n ∉ P.map (·.1) := by
  unfold findP
  rw [List.find?_eq_none]
  simp only [List.mem_map, not_exists, not_and, beq_iff_eq]
theorem findP_some (h : n ∈ P.map (·.1)) : ∃ p, findP P n = some p := by
  cases hf : findP P n with
  | none => exact absurd h (findP_none.1 hf)
  | some p => exact ⟨p, rfl⟩
theorem ofB_nil (h : n ∉ A.map (·.1)) : ofB A n = [] := by
  unfold ofB
  rw [List.filter_eq_nil_iff]
  intro b hb
  simp only [beq_iff_eq]
  exact fun e => h (e ▸ List.mem_map_of_mem hb)
theorem ofB_none (h : FineX P A) (hn : findP P n = none) : ofB A n = [] := by
  refine ofB_nil fun hm => ?_
  obtain ⟨b, hb, rfl⟩ := List.mem_map.1 hm
  exact findP_none.1 hn (h.ins b hb)
theorem dropP_names (P : List Plc) (n : List UInt8) : (dropP P n).map (·.1) = (P.map (·.1)).filter fun x => !(x == n) := by
  unfold dropP
  rw [List.filter_map]
  rfl
theorem mem_dropP : p ∈ dropP P n ↔ p ∈ P ∧ p.1 ≠ n := by simp [dropP]
theorem dropP_split {X Y : List Plc} (h : ((X ++ p :: Y).map (·.1)).Nodup) : dropP (X ++ p :: Y) p.1 = X ++ Y := by
  unfold dropP
  rw [List.map_append, List.map_cons, List.nodup_append, List.nodup_cons] at h
  obtain ⟨-, ⟨h1, -⟩, h3⟩ := h
  rw [List.filter_append, List.filter_cons]
  simp only [beq_self_eq_true, Bool.not_true, Bool.false_eq_true, if_false]
  congr 1
  · refine List.filter_eq_self.2 fun x hx => ?_
    have : x.1 ≠ p.1 := h3 _ (List.mem_map_of_mem hx) _ List.mem_cons_self
    simpa using this
  · refine List.filter_eq_self.2 fun x hx => ?_
    have : x.1 ≠ p.1 := fun e => h1 (e ▸ List.mem_map_of_mem hx)
    simpa using this
theorem FineX.dropP (h : FineX P A) {A' : List Bnd} (hA : FineL A') (hs : ∀ b ∈ A', b ∈ A) (hn : ∀ b ∈ A', b.1 ≠ n) : FineX (dropP P n) A' := by
  refine ⟨Nat.le_trans (List.length_filter_le _ _) h.few, ?_, fun p hp => h.each p (mem_dropP.1 hp).1, hA, fun b hb => h.keys b (hs b hb), fun b hb => ?_⟩
  · rw [dropP_names]
    exact h.once.sublist List.filter_sublist
  · rw [dropP_names, List.mem_filter]
    exact ⟨h.ins b (hs b hb), by simpa using hn b hb⟩
theorem FineX.sub (h : FineX P A) (q : Bnd → Bool) : FineX P (A.filter q) :=
  ⟨h.few, h.once, h.each, h.rows.filter q, fun b hb => h.keys b (List.mem_filter.1 hb).1, fun b hb => h.ins b (List.mem_filter.1 hb).1⟩
theorem FineX.leave (h : FineX P A) (n : List UInt8) : FineX (leaveX P A n) A := by
  unfold leaveX
  split
  · split
    · rename_i hc
      refine h.dropP h.rows (fun b hb => hb) fun b hb e => ?_
      have : b ∈ ofB A n := by simp [ofB, hb, e]
      rw [hc.2] at this
      simp at this
    · exact h
  · exact h
theorem FineX.leaves (h : FineX P A) (l : List (List UInt8)) : FineX (leavesX P A l) A := by
  unfold leavesX
  induction l generalizing P with
  | nil => exact h
  | cons n l ih => exact ih (h.leave n)
theorem isNm_len (h : isNm n = true) : n ≠ [] ∧ n.length ≤ 12 := by
  unfold isNm at h
  simp only [Bool.and_eq_true, decide_eq_true_eq] at h
  refine ⟨fun e => ?_, h.1.2⟩
  rw [e] at h
  simp at h
theorem FineX.decl (h : FineX P A) (n : List UInt8) (k : Int) (a : Bool) : FineX (declX P n k a).1 A := by
  unfold declX
  split
  · exact h
  · split
    · exact h
    · rename_i hn hc
      split
      · split <;> exact h
      · rename_i hf
        split
        · exact h
        · rename_i hl
          simp only [not_or, Bool.not_eq_false, Decidable.not_not] at hc
          refine ⟨by rw [List.length_append, List.length_singleton]; omega, ?_, ?_, h.rows, h.keys, fun b hb => ?_⟩
          · rw [List.map_append, List.nodup_append]
            refine ⟨h.once, by simp, ?_⟩
            intro x hx y hy e
            simp only [List.map_cons, List.map_nil, List.mem_singleton] at hy
            exact findP_none.1 hf (hy ▸ e ▸ hx)
          · intro p hp
            rcases List.mem_append.1 hp with hp | hp
            · exact h.each p hp
            · rw [List.mem_singleton] at hp
              subst hp
              obtain ⟨g1, g2⟩ := isNm_len hc.1
              exact ⟨g1, g2, hc.2.1, hc.2.2⟩
          · rw [List.map_append, List.mem_append]
            exact .inl (h.ins b hb)
theorem FineX.del (h : FineX P A) (n : List UInt8) (iu : Bool) : FineX (delX P A n iu).1 (delX P A n iu).2.1 := by
  unfold delX
  split
  · exact h
  · split
    · exact h
    · split
      · exact h
      · refine h.dropP (h.rows.filter _) (fun b hb => (List.mem_filter.1 hb).1) fun b hb => ?_
        have := (List.mem_filter.1 hb).2
        simpa using this
theorem FineX.bind (h : FineX P A) (hb : FitB b) : FineX P (bindX P A b).1 := by
  unfold bindX
  split
  · exact h
  · split
    · exact h
    · rename_i p hp
      split
      · exact h
      · rename_i hk
        split
        · refine ⟨h.few, h.once, h.each, h.rows.add hb, ?_, ?_⟩
          · intro x hx
            unfold addL at hx
            split at hx
            · exact h.keys x hx
            · split at hx
              · exact h.keys x hx
              · rcases List.mem_append.1 hx with hx | hx
                · exact h.keys x hx
                · rw [List.mem_singleton] at hx
                  subst hx
                  omega
          · intro x hx
            unfold addL at hx
            split at hx
            · exact h.ins x hx
            · split at hx
              · exact h.ins x hx
              · rcases List.mem_append.1 hx with hx | hx
                · exact h.ins x hx
                · rw [List.mem_singleton] at hx
                  subst hx
                  obtain ⟨g1, g2⟩ := findP_mem hp
                  exact g2 ▸ List.mem_map_of_mem g1
        · exact h
theorem FineX.unb (h : FineX P A) (b : Bnd) : FineX (unbX P A b).1 (unbX P A b).2.1 := by
  unfold unbX
  split
  · exact h
  · split
    · exact h
    · simp only
      split
      · exact (h.sub _).leave _
      · exact h.sub _
theorem FineX.dropq (h : FineX P A) (q : List UInt8) : FineX (dropqX P A q).1 (dropqX P A q).2 := (h.sub _).leaves _
end
end Go.Proofs.YtoecaonmehbfeaaGreat
