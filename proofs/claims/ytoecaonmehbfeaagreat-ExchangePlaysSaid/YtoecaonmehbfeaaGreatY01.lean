/- A small word for memory that a call owns: St B w0 w H says that below block B the world w is as w0 was, and that the blocks listed in H lie in w, each from B on, each once, each holding what the list says, Bindings: plain data. Rows of them, cut, those that are so, names each once, Numbers and texts as bytes: plain data. The lowest bytes of a number, the highest first; the number of bytes; what is taken from the front, A row of bytes read as a text, What of texts stands alone: two of them as one, a row of bytes that is made, one letter taken, What a walk is told of arguments: a slice of integers that came in, A slice of texts that came in. -/
import Derived.WalkKit
import Derived.WalkSpells
import Derived.WalkLawsBesides
import Derived.Deep.Draws
import Derived.Laws.BitsLemmas
import Derived.Laws.Strings
import Derived.Test.YtoecaonmehbfeaaGreatProg
import Derived.Laws.BytesArg
import Derived.Laws.Concat
import Derived.Laws.DeepStrings4
import Derived.Lib.Hide
import Derived.Lib.UnsafeStr
import Derived.Deep.QuietTactic
import Derived.BigQuiet
import Derived.Laws.MakeOwn
import Derived.Lib.BufferWrite
import Derived.OpenShut
import Derived.ShutString
import Derived.Deep.Slices
import Derived.Deep.Fields
/- A small word for memory that a call owns: St B w0 w H says that below block B the world w is as w0 was, and that the blocks listed in H lie in w, each from B on, each once, each holding what the list says. -/
namespace Go.Proofs.YtoecaonmehbfeaaGreat
open Go.RowKit

theorem ret_int {k : IntKind} {a b : Int} (h : a = b) : Ending.returned (.int k a) = .returned (.int k b) := by rw [h]
theorem ret_bool {a b : Bool} (h : a = b) : Ending.returned (.bool a) = .returned (.bool b) := by rw [h]

/-- A frame told by the slots that matter. -/
def Fr (n : Nat) (l : List (Nat × Value)) (a : Act) : Prop := a.defers = [] ∧ a.tmps.size = n ∧ ∀ p ∈ l, a.tmps[p.1]? = some p.2

theorem Fr.lit {n : Nat} {l : List (Nat × Value)} {a : Act} (h : Fr n l a) : ∃ f : Nat → Value, a = ⟨((List.range n).map f).toArray, []⟩ ∧ ∀ p ∈ l, f p.1 = p.2 := by
  obtain ⟨hd, hs, hl⟩ := h
  refine ⟨fun i => a.tmps.getD i undef, ?_, fun p hp => by simp [Array.getD_eq_getD_getElem?, hl p hp]⟩
  obtain ⟨t, d⟩ := a
  simp only at hd hs
  subst hd
  congr 1
  apply Array.ext
  · simp [hs]
  · intro i h1 h2
    simp [Array.getD_eq_getD_getElem?, h1]

theorem Fr.get {n : Nat} {l : List (Nat × Value)} {a : Act} (h : Fr n l a) {i : Nat} {v : Value} (hm : (i, v) ∈ l) : a.tmps.getD i undef = v := by
  simp [Array.getD_eq_getD_getElem?, h.2.2 _ hm]

/-- A scope in which the run jumps back to one label: the pass from the label is walked once; the way to the label takes it as it stands. -/
theorem wp_scope_label {P : Program} {a : Act} {w : World} {Q : Exit → Act → World → Prop} {c X : Code} (l : Nat) (J : Act → World → Prop) (μ : Act → World → Nat) (hf : findLabel c l = some (.seq .skip X))
    (pass : ∀ a w, J a w → X.wp P (Exit.jump l (fun a' w' => J a' w' ∧ μ a' w' < μ a w) Q) a w)
    (first : (∀ a w, J a w → X.wp P (Exit.jump l J Q) a w) → c.wp P (Exit.jump l J Q) a w) : (Code.scope c).wp P Q a w :=
  wp_scope_jumps l J μ hf (first fun a w hJ => Code.wp_mono (fun e a' w' h => by cases e <;> first | exact h | exact ⟨h.1, h.2.1⟩) (pass a w hJ))
    fun a w hJ => wp_seq (wp_skip (pass a w hJ))

theorem least {p : Nat → Prop} (h : ∃ n, p n) : ∃ n, p n ∧ ∀ m, m < n → ¬ p m := by
  obtain ⟨n, hn⟩ := h
  induction n using Nat.strongRecOn with
  | _ n ih =>
    by_cases hm : ∃ m, m < n ∧ p m
    · obtain ⟨m, h1, h2⟩ := hm
      exact ih m h1 h2
    · exact ⟨n, hn, fun m h1 h2 => hm ⟨m, h1, h2⟩⟩

/-- The same, where what falls from round to round is told by what holds at the label and not by the frame. -/
theorem wp_scope_ghost {P : Program} {a : Act} {w : World} {Q : Exit → Act → World → Prop} {c X : Code} (l : Nat) (J : Nat → Act → World → Prop) (hf : findLabel c l = some (.seq .skip X))
    (pass : ∀ n a w, J n a w → X.wp P (Exit.jump l (fun a' w' => ∃ m, m < n ∧ J m a' w') Q) a w)
    (first : (∀ n a w, J n a w → X.wp P (Exit.jump l (fun a' w' => ∃ n, J n a' w') Q) a w) → c.wp P (Exit.jump l (fun a' w' => ∃ n, J n a' w') Q) a w) : (Code.scope c).wp P Q a w := by
  classical
  refine wp_scope_jumps l (fun a w => ∃ n, J n a w) (fun a w => if h : ∃ n, J n a w then (least h).choose else 0) hf
    (first fun n a w hJ => Code.wp_mono (fun e a' w' h => by cases e <;> first | exact h | exact ⟨h.1, h.2.imp fun _ h => h.2⟩) (pass n a w hJ)) fun a w hJ => ?_
  have hs := (least hJ).choose_spec
  refine wp_seq (wp_skip (Code.wp_mono (fun e a' w' h => ?_) (pass _ a w hs.1)))
  cases e with
  | goto l' =>
    obtain ⟨h1, m, h2, h3⟩ := h
    refine ⟨h1, ⟨m, h3⟩, ?_⟩
    have hJ' : ∃ n, J n a' w' := ⟨m, h3⟩
    rw [dif_pos hJ', dif_pos hJ]
    rcases Nat.lt_or_ge m (least hJ').choose with h | h
    · exact absurd h3 ((least hJ').choose_spec.2 m h)
    · omega
  | _ => exact h

structure St (B : Nat) (w0 w : World) (H : List (Nat × Obj)) : Prop where
  below : Below B w0 w
  base : B ≤ w.heap.size
  nodup : (H.map (·.1)).Nodup
  at_ : ∀ p ∈ H, B ≤ p.1 ∧ w.heap[p.1]? = some p.2

section
variable {B : Nat} {w0 w : World} {H A C : List (Nat × Obj)} {b : Nat} {o : Obj}

theorem St.start (w : World) : St w.heap.size w w [] := ⟨Below.refl _ _, Nat.le_refl _, by simp, by simp⟩

theorem St.get (h : St B w0 w H) (hm : (b, o) ∈ H) : w.heap[b]? = some o := (h.at_ _ hm).2
theorem St.ge (h : St B w0 w H) (hm : (b, o) ∈ H) : B ≤ b := (h.at_ _ hm).1
theorem St.lt (h : St B w0 w H) (hm : (b, o) ∈ H) : b < w.heap.size := (Array.getElem?_eq_some_iff.1 (h.get hm)).1
theorem St.cell (h : St B w0 w H) {c : Array Value} {T : TypeId} {fr : Nat × Nat} (hm : (b, .cells c T fr) ∈ H) {i : Nat} {v : Value} (hi : c[i]? = some v) : w.cell? ⟨b, i, none⟩ = some v := by
  simp [World.cell?, h.get hm, hi]
theorem St.soft (h : St B w0 w H) {c : Array Value} {T : TypeId} (hm : (b, .cells c T) ∈ H) (i : Nat) : w.frozen? ⟨b, i, none⟩ = false := by
  have := h.get hm
  simp only [World.frozen?, this]
  simp

theorem St.perm {H' : List (Nat × Obj)} (h : St B w0 w H) (hp : H.Perm H') : St B w0 w H' :=
  ⟨h.below, h.base, (hp.map _).nodup_iff.1 h.nodup, fun p hm => h.at_ p (hp.mem_iff.2 hm)⟩
theorem St.sub {H' : List (Nat × Obj)} (h : St B w0 w H) (hp : H'.Sublist H) : St B w0 w H' :=
  ⟨h.below, h.base, (hp.map _).nodup h.nodup, fun p hm => h.at_ p (hp.subset hm)⟩
theorem St.drew (h : St B w0 w H) : St B w0 w.drew H := ⟨h.below.drew, h.base, h.nodup, h.at_⟩
theorem St.drewN (h : St B w0 w H) (n : Nat) : St B w0 (w.drewN n) H := ⟨⟨h.below.os, h.below.tape, h.below.output, h.below.size, h.below.block⟩, h.base, h.nodup, h.at_⟩

theorem St.alloc (h : St B w0 w H) (o : Obj) : St B w0 (w.alloc o) ((w.heap.size, o) :: H) := by
  refine ⟨h.below.alloc h.base o, by have := h.base; simp; omega, ?_, ?_⟩
  · simp only [List.map_cons, List.nodup_cons]
    refine ⟨fun hm => ?_, h.nodup⟩
    obtain ⟨p, hp, he⟩ := List.mem_map.1 hm
    have := h.lt (b := p.1) (o := p.2) hp
    omega
  · intro p hp
    rcases List.mem_cons.1 hp with rfl | hp
    · exact ⟨h.base, (MapKept.heap_alloc w o).1⟩
    · refine ⟨(h.at_ p hp).1, ?_⟩
      have := h.lt (b := p.1) (o := p.2) hp
      rw [Below.heap_alloc _ _ _ this]
      exact (h.at_ p hp).2

/-- A block other than the written one keeps what it holds. -/
theorem St.write {w' : World} {o' : Obj} (h : St B w0 w (A ++ (b, o) :: C)) (hb : w'.heap[b]? = some o') (ho : ∀ k, k ≠ b → w'.heap[k]? = w.heap[k]?)
    (hs : w'.heap.size = w.heap.size) (h1 : w'.os = w.os) (h2 : w'.tape = w.tape) (h3 : w'.output = w.output) : St B w0 w' (A ++ (b, o') :: C) := by
  have hB : B ≤ b := h.ge (o := o) (by simp)
  refine ⟨⟨h1.trans h.below.os, h2.trans h.below.tape, h3.trans h.below.output, by rw [hs]; exact h.below.size, fun k hk => (ho k (by omega)).trans (h.below.block k hk)⟩, by rw [hs]; exact h.base, ?_, ?_⟩
  · have := h.nodup
    simpa using this
  · intro p hp
    by_cases hpb : p.1 = b
    · have hn := h.nodup
      simp only [List.map_append, List.map_cons] at hn
      have : p = (b, o') := by
        rcases List.mem_append.1 hp with hp | hp
        · exfalso
          have := (List.nodup_append.1 hn).2.2 p.1 (List.mem_map_of_mem hp) b (by simp)
          exact this hpb
        · rcases List.mem_cons.1 hp with rfl | hp
          · rfl
          · exfalso
            have := (List.nodup_cons.1 (List.nodup_append.1 hn).2.1).1
            exact this (hpb ▸ List.mem_map_of_mem hp)
      subst this
      exact ⟨hB, hb⟩
    · have hm : p ∈ A ++ (b, o) :: C := by
        rcases List.mem_append.1 hp with hp | hp
        · simp [hp]
        · rcases List.mem_cons.1 hp with rfl | hp
          · exact absurd rfl hpb
          · simp [hp]
      exact ⟨(h.at_ p hm).1, (ho _ hpb).trans (h.at_ p hm).2⟩

theorem St.set {c : Array Value} {T : TypeId} {fr : Nat × Nat} (h : St B w0 w (A ++ (b, .cells c T fr) :: C)) (i : Nat) (v : Value) :
    St B w0 (w.setCell ⟨b, i, none⟩ v) (A ++ (b, .cells (c.setIfInBounds i v) T fr) :: C) := by
  have hb := h.get (b := b) (o := .cells c T fr) (by simp)
  refine h.write (by simp only [World.setCell, Array.getElem?_modify, if_true, hb, Option.map_some]; rfl) (fun k hk => Below.heap_setCell _ _ _ _ (by simpa using hk)) (by simp) rfl rfl rfl

theorem St.set0 {c : Array Value} {T : TypeId} {fr : Nat × Nat} (h : St B w0 w ((b, .cells c T fr) :: C)) (i : Nat) (v : Value) :
    St B w0 (w.setCell ⟨b, i, none⟩ v) ((b, .cells (c.setIfInBounds i v) T fr) :: C) := St.set (A := []) h i v

theorem St.block0 {o o' : Obj} (h : St B w0 w ((b, o) :: C)) : St B w0 (ChangeMaps.setBlock w b o') ((b, o') :: C) := by
  have hb := h.lt (b := b) (o := o) (by simp)
  refine St.write (A := []) h (by simp [ChangeMaps.setBlock, hb]) (fun k hk => ?_) (by simp [ChangeMaps.setBlock]) rfl rfl rfl
  simp only [ChangeMaps.setBlock]
  rw [Array.getElem?_setIfInBounds_ne (Ne.symm hk)]

/-- Behind a law that ends in 'grownBy' with no row turned. -/
theorem St.grown {w' : World} (h : St B w0 w H) {row : Option Nat} (hg : w.grownBy w' row) (hr : ∀ k, row = some k → B ≤ k ∧ k ∉ H.map (·.1)) : St B w0 w' H := by
  refine ⟨h.below.grown hg h.base (fun k hk => (hr k hk).1), Nat.le_trans h.base hg.size, h.nodup, fun p hp => ⟨(h.at_ p hp).1, ?_⟩⟩
  rw [hg.block p.1 (h.lt (o := p.2) hp) (fun e => (hr _ e.symm).2 (List.mem_map_of_mem hp))]
  exact (h.at_ p hp).2

theorem St.ne {b' : Nat} {o' : Obj} (h : St B w0 w ((b, o) :: C)) (hm : (b', o') ∈ C) : b ≠ b' := by
  have := (List.nodup_cons.1 (by simpa using h.nodup : (b :: C.map (·.1)).Nodup)).1
  intro e
  exact this (e ▸ List.mem_map_of_mem (f := (·.1)) hm)
end

/-! ### maps with keys of kind int -/
def entI (x : Int × Value × Nat) : MapEntry := { key := .int .i64 x.1, val := x.2.1, born := x.2.2 }
def entsI (l : List (Int × Value × Nat)) : Array MapEntry := (l.map entI).toArray

theorem findNow_entsI (q : IntKind) (k : Int) : ∀ (l : List (Int × Value × Nat)) (i : Nat), Instr.findNow (.int q) (.int .i64 k) (l.map entI) i =
    some ((l.findIdx? (·.1 == k)).bind fun j => (l[j]?).map fun x => (i + j, x.2.1))
  | [], i => by simp [Instr.findNow]
  | x :: l, i => by
    simp only [List.map_cons, Instr.findNow, entI, Instr.sameNow, if_true]
    by_cases h : k = x.1
    · subst h
      simp [List.findIdx?_cons]
    · have h1 : (k == x.1) = false := by simpa using h
      have h2 : (x.1 == k) = false := by simpa using (fun e : x.1 = k => h e.symm)
      rw [h1]
      simp only [List.findIdx?_cons, h2]
      rw [findNow_entsI q k l (i + 1)]
      cases hf : l.findIdx? (·.1 == k) with
      | none => simp
      | some j => simp [Nat.add_assoc, Nat.add_comm 1 j]

def seekI (l : List (Int × Value × Nat)) (k : Int) : Option (Int × Value × Nat) := l.find? (·.1 == k)

theorem findI (l : List (Int × Value × Nat)) (k : Int) : ((l.findIdx? (·.1 == k)).bind fun j => (l[j]?).map fun x => (0 + j, x.2.1)).map (·.2) = (seekI l k).map (·.2.1) := by
  unfold seekI
  induction l with
  | nil => simp
  | cons x l ih =>
    by_cases h : x.1 = k
    · simp [h, List.findIdx?_cons]
    · have h2 : (x.1 == k) = false := by simpa using h
      simp only [List.findIdx?_cons, h2, List.find?_cons]
      simp only [Nat.zero_add] at ih ⊢
      rw [← ih]
      cases hf : l.findIdx? (·.1 == k) with
      | none => simp
      | some j => simp [Function.comp_def]

section
variable {P : Program} {T K E : TypeId} {w : World} {b : Nat} {l : List (Int × Value × Nat)} {clk : Nat}

theorem run_checkKeyI (hK : P.underlying K = some (.int .i64)) (em : Bool) (n : Nat) (k : Int) : (Instr.checkKey em (n + 1) K (.int .i64 k)).run P w = .ok () w := by
  simp [Instr.checkKey, run_underlying hK]

theorem run_findKeyI (hK : P.underlying K = some (.int .i64)) (k : Int) :
    (Instr.findKey K (.int .i64 k) (l.map entI)).run P w = .ok ((l.findIdx? (·.1 == k)).bind fun j => (l[j]?).map fun x => (0 + j, x.2.1)) w := by
  simp only [Instr.findKey]
  simp [run_underlying hK, findNow_entsI .i64 k l 0]

theorem run_lookupI {z : Value} (hT : P.underlying T = some (.map K E)) (hK : P.underlying K = some (.int .i64)) (hz : (zeroValue E).run P w = .ok z w) (hb : w.heap[b]? = some (.map (entsI l) clk)) (k : Int) :
    (Instr.lookup T (.map (some b)) (.int .i64 k) true).run P w = .ok (match seekI l k with | some x => .tuple #[x.2.1, .bool true] | none => .tuple #[z, .bool false]) w := by
  have hf := findI l k
  simp only [Instr.lookup]
  simp only [Sem.run_bind, run_underlying hT, MapKept.run_getObj_map hb, Result.andThen, run_checkKeyI hK, entsI, run_findKeyI hK, Sem.run_pure]
  cases h1 : ((l.findIdx? (·.1 == k)).bind fun j => (l[j]?).map fun x => (0 + j, x.2.1)) with
  | none =>
    rw [h1] at hf
    cases h2 : seekI l k with
    | none => simp [hz, Result.andThen]
    | some x => rw [h2] at hf; simp at hf
  | some y =>
    rw [h1] at hf
    cases h2 : seekI l k with
    | none => rw [h2] at hf; simp at hf
    | some x =>
      rw [h2] at hf
      simp at hf
      simp [hf]

theorem run_lookupI_nil {z : Value} (hT : P.underlying T = some (.map K E)) (hK : P.underlying K = some (.int .i64)) (hz : (zeroValue E).run P w = .ok z w) (k : Int) :
    (Instr.lookup T (.map none) (.int .i64 k) true).run P w = .ok (.tuple #[z, .bool false]) w := by
  have hf := run_findKeyI (P := P) (w := w) (l := []) hK k
  simp at hf
  simp only [Instr.lookup]
  simp [run_underlying hT, Result.andThen, run_checkKeyI hK, hf, hz]

/-- A store at a key that is not there yet. -/
theorem run_mapUpdateI_new (hT : P.underlying T = some (.map K E)) (hK : P.underlying K = some (.int .i64)) (hb : w.heap[b]? = some (.map (entsI l) clk)) (k : Int) (v : Value) (hn : seekI l k = none) :
    (Instr.mapUpdate T (.map (some b)) (.int .i64 k) v).run P w = .ok () (ChangeMaps.setBlock w b (.map (entsI (l ++ [(k, v, clk)])) (clk + 1))) := by
  have hf := findI l k
  rw [hn] at hf
  simp only [Instr.mapUpdate]
  simp only [Sem.run_bind, run_underlying hT, MapKept.run_getObj_map hb, Result.andThen, run_checkKeyI hK, entsI, run_findKeyI hK]
  cases h1 : ((l.findIdx? (·.1 == k)).bind fun j => (l[j]?).map fun x => (0 + j, x.2.1)) with
  | some y => rw [h1] at hf; simp at hf
  | none =>
    simp [Sem.run, setObj, hb, ChangeMaps.setBlock, entI]

theorem run_deleteI {ty : TypeId} (hT : P.underlying T = some (.map K E)) (hK : P.underlying K = some (.int .i64)) (hb : w.heap[b]? = some (.map (entsI l) clk)) (k : Int) :
    (Builtin.delete_ #[T, K] ty #[.map (some b), .int .i64 k]).run P w = .ok (.tuple #[]) (ChangeMaps.setBlock w b (.map (entsI (l.eraseP (·.1 == k))) clk)) := by
  have h0 : (Builtin.delete_ #[T, K] ty #[.map (some b), .int .i64 k]) = (do
    let .map keyType _ ← underlying T | stuck "delete: map type expected"
    let .map es clock ← getObj b | stuck "delete: map expected"
    Instr.checkKey es.isEmpty 10000 keyType (.int .i64 k)
    match ← Instr.findKey keyType (.int .i64 k) es.toList with
    | some (i, _) => setObj b (.map (es.eraseIdxIfInBounds i) clock)
    | none => setObj b (.map es clock)
    pure (.tuple #[])) := rfl
  rw [h0]
  simp only [Sem.run_bind, run_underlying hT, MapKept.run_getObj_map hb, Result.andThen, run_checkKeyI hK, entsI, run_findKeyI hK]
  cases h1 : l.findIdx? (·.1 == k) with
  | none =>
    have h2 : l.eraseP (·.1 == k) = l := List.eraseP_of_forall_not (by simpa [List.findIdx?_eq_none_iff] using h1)
    simp [Sem.run, setObj, hb, ChangeMaps.setBlock, h2, Result.andThen]
  | some j =>
    have hj : j < l.length := (List.findIdx?_eq_some_iff_getElem.1 h1).1
    have h2 : l.eraseP (·.1 == k) = l.eraseIdx j := by rw [List.eraseP_eq_eraseIdx, h1]
    simp [Sem.run, setObj, hb, ChangeMaps.setBlock, h2, Result.andThen, hj, Array.eraseIdxIfInBounds, ChangeMaps.map_eraseIdx]

theorem run_lenI {ty : TypeId} (hT : P.underlying T = some (.map K E)) (hb : w.heap[b]? = some (.map (entsI l) clk)) :
    (Builtin.len_ #[T] ty #[.map (some b)]).run P w = .ok (.int .i64 l.length) w := by
  simp [Builtin.len_, run_underlying hT, MapKept.run_getObj_map hb, goInt, Result.andThen, entsI]

/-- 'delete(m, k)' at the operation. -/
theorem wpList_deleteI {ops : Array Oper} {rest : List Oper} {o : Oper} {a : Act} {Q : Exit → Act → World → Prop} (hg : o.guard = none) (x y : Operand)
    (hop : o.op = Op.call { callee := Callee.builtin Builtin.delete, args := #[x, y], argTypes := #[T, K] })
    (hT : P.underlying T = some (.map K E)) (hK : P.underlying K = some (.int .i64)) (hx : a.eval x = .map (some b)) (hb : w.heap[b]? = some (.map (entsI l) clk)) (k : Int) (hy : a.eval y = .int .i64 k)
    (h : ∀ w', Hid (w' = ChangeMaps.setBlock w b (.map (entsI (l.eraseP (·.1 == k))) clk)) → wpList P ops Q rest (a.put o.dst (.tuple #[])) w') :
    wpList P ops Q (o :: rest) a w := by
  refine wpList_plain hg fun K' hK' => ?_
  have hrun := run_deleteI (P := P) (ty := o.type) hT hK hb k
  unfold Oper.wp
  simp [execOp, hop, resolve, invoke, builtin, hx, hy, hrun, Result.andThen]
  exact hK' _ _ (h _ rfl)
end
/-- Owned blocks stay as they are where only new ones come. -/
theorem St.grow {B : Nat} {w0 w w' : World} {H : List (Nat × Obj)} (h : St B w0 w H) (hb : Below w.heap.size w w') : St B w0 w' H :=
  ⟨h.below.trans (hb.mono h.base), Nat.le_trans h.base hb.size, h.nodup, fun p hm => ⟨(h.at_ p hm).1, (hb.block _ (St.lt (o := p.2) h hm)).trans (h.at_ p hm).2⟩⟩
theorem new_below (w : World) (o : Obj) : Below w.heap.size w (w.alloc o) := (Below.refl _ w).alloc (Nat.le_refl _) o
/-- Owned blocks and new ones. -/
theorem St.join {B : Nat} {w0 w w1 : World} {X Y : List (Nat × Obj)} (h : St B w0 w X) (k : St w.heap.size w w1 Y) : St B w0 w1 (X ++ Y) := by
  refine ⟨h.below.trans (k.below.mono h.base), Nat.le_trans h.base k.base, ?_, ?_⟩
  · rw [List.map_append, List.nodup_append]
    refine ⟨h.nodup, k.nodup, fun x hx y hy => ?_⟩
    obtain ⟨p, hp, rfl⟩ := List.mem_map.1 hx
    obtain ⟨q, hq, rfl⟩ := List.mem_map.1 hy
    have h1 := h.lt (b := p.1) (o := p.2) hp
    have h2 := (k.at_ q hq).1
    omega
  · intro p hp
    rcases List.mem_append.1 hp with hp | hp
    · exact ⟨(h.at_ p hp).1, (k.below.block _ (h.lt (b := p.1) (o := p.2) hp)).trans (h.at_ p hp).2⟩
    · exact ⟨Nat.le_trans h.base (k.at_ p hp).1, (k.at_ p hp).2⟩
/-- A call of a function with a Go body enters it. -/
theorem goesIn {P : Program} {f : FuncId} {fn : Func} {c : Code} (h1 : P.funcs[f]? = some fn) (h2 : (fn.name == "runtime.NumGoroutine") = false) (h3 : fn.body = some c) (args : Array Value) (w : World) :
    (callFunc f args).run P w = .ok (.enter f args) w := by
  have h4 : fn.name ≠ "runtime.NumGoroutine" := by simpa using h2
  simp [callFunc, h1, h4, h3, mark]
end Go.Proofs.YtoecaonmehbfeaaGreat

/- Bindings: plain data. Rows of them, cut, those that are so, names each once. -/
namespace Go.Proofs.YtoecaonmehbfeaaGreat

abbrev Bnd := List UInt8 × List UInt8 × List UInt8

/-- Names, each once, where it comes first. -/
def onceL : List (List UInt8) → List (List UInt8) → List (List UInt8)
  | acc, [] => acc
  | acc, n :: r => onceL (if n ∈ acc then acc else acc ++ [n]) r
theorem onceL_append (acc l m : List (List UInt8)) : onceL acc (l ++ m) = onceL (onceL acc l) m := by
  induction l generalizing acc with
  | nil => rfl
  | cons n l ih => simp only [List.cons_append, onceL, ih]
theorem onceL_len (acc l : List (List UInt8)) : (onceL acc l).length ≤ acc.length + l.length := by
  induction l generalizing acc with
  | nil => simp [onceL]
  | cons n l ih =>
    simp only [onceL, List.length_cons]
    refine Nat.le_trans (ih _) ?_
    split
    · omega
    · rw [List.length_append, List.length_singleton]; omega
theorem onceL_mem (acc l : List (List UInt8)) (x : List UInt8) : x ∈ onceL acc l ↔ x ∈ acc ∨ x ∈ l := by
  induction l generalizing acc with
  | nil => simp [onceL]
  | cons n l ih =>
    simp only [onceL, ih, List.mem_cons]
    split
    · rename_i h
      constructor
      · rintro (h1 | h1)
        · exact .inl h1
        · exact .inr (.inr h1)
      · rintro (h1 | rfl | h1)
        · exact .inl h1
        · exact .inl h
        · exact .inr h1
    · rw [List.mem_append, List.mem_singleton, or_assoc]
theorem onceL_nodup {acc : List (List UInt8)} (l : List (List UInt8)) (h : acc.Nodup) : (onceL acc l).Nodup := by
  induction l generalizing acc with
  | nil => exact h
  | cons n l ih =>
    simp only [onceL]
    apply ih
    split
    · exact h
    · rename_i hn
      rw [List.nodup_append]
      exact ⟨h, by simp, fun a ha b hb => by rw [List.mem_singleton] at hb; subst hb; exact fun e => hn (e ▸ ha)⟩
theorem onceL_same {acc l : List (List UInt8)} (h : (acc ++ l).Nodup) : onceL acc l = acc ++ l := by
  induction l generalizing acc with
  | nil => simp [onceL]
  | cons n l ih =>
    have hn : n ∉ acc := fun hm => (List.nodup_append.1 h).2.2 n hm n List.mem_cons_self rfl
    simp only [onceL, if_neg hn]
    rw [ih (by rw [List.append_assoc]; exact h), List.append_assoc]
    rfl
/-- One name more. -/
def onceS (m : List (List UInt8)) (n : List UInt8) : List (List UInt8) := if n ∈ m then m else m ++ [n]
theorem onceL_snoc (acc l : List (List UInt8)) (n : List UInt8) : onceL acc (l ++ [n]) = onceS (onceL acc l) n := by
  rw [onceL_append]
  rfl

theorem filter_step {L : List Bnd} {p : Bnd → Bool} {i : Nat} {b : Bnd} (h : L[i]? = some b) : (L.take (i + 1)).filter p = (L.take i).filter p ++ (if p b then [b] else []) := by
  rw [List.take_add_one, h, Option.toList_some, List.filter_append]
  congr 1
  simp only [List.filter_cons, List.filter_nil]
theorem map_step {α : Type} {L : List Bnd} {f : Bnd → α} {i : Nat} {b : Bnd} (h : L[i]? = some b) : (L.take (i + 1)).map f = (L.take i).map f ++ [f b] := by
  rw [List.take_add_one, h, Option.toList_some, List.map_append]
  rfl
theorem filter_whole {L : List Bnd} {p : Bnd → Bool} {i : Nat} (h : L.length ≤ i) : (L.take i).filter p = L.filter p := by rw [List.take_of_length_le h]
theorem filter_len_take {L : List Bnd} (p : Bnd → Bool) (i : Nat) : ((L.take i).filter p).length ≤ i := Nat.le_trans (List.length_filter_le _ _) (by rw [List.length_take]; omega)

theorem bnd_cases (x y : Bnd) : x = y ∨ (x.1 == y.1) = false ∨ (x.1 = y.1 ∧ (x.2.1 == y.2.1) = false) ∨ (x.1 = y.1 ∧ x.2.1 = y.2.1 ∧ (x.2.2 == y.2.2) = false) := by
  obtain ⟨a, b, c⟩ := x
  obtain ⟨d, e, f⟩ := y
  by_cases h1 : a = d
  · by_cases h2 : b = e
    · by_cases h3 : c = f
      · exact .inl (by rw [h1, h2, h3])
      · exact .inr (.inr (.inr ⟨h1, h2, by simpa using h3⟩))
    · exact .inr (.inr (.inl ⟨h1, by simpa using h2⟩))
  · exact .inr (.inl (by simpa using h1))
theorem bnd_ne {x y : Bnd} (h : (x.1 == y.1) = false ∨ (x.1 = y.1 ∧ (x.2.1 == y.2.1) = false) ∨ (x.1 = y.1 ∧ x.2.1 = y.2.1 ∧ (x.2.2 == y.2.2) = false)) : x ≠ y := by
  rintro rfl
  rcases h with h | ⟨_, h⟩ | ⟨_, _, h⟩ <;> simp at h

/-- What a table holds behind Add, what it answers. -/
def addL (L : List Bnd) (b : Bnd) : List Bnd × Bool × Int := if b ∈ L then (L, false, 0) else if 40 ≤ L.length then (L, false, 12) else (L ++ [b], true, 0)
/-- Short texts: what came in. -/
def FitB (b : Bnd) : Prop := b.1.length ≤ 140737488351232 ∧ b.2.1.length ≤ 140737488351232 ∧ b.2.2.length ≤ 140737488351232
/-- A table's rows: few, each once. -/
structure FineL (L : List Bnd) : Prop where
  few : L.length ≤ 40
  once : L.Nodup
  fit : ∀ b ∈ L, FitB b
theorem FineL.nil : FineL [] := ⟨by simp, by simp, by simp⟩
theorem FineL.add {L : List Bnd} (h : FineL L) {b : Bnd} (hb : FitB b) : FineL (addL L b).1 := by
  unfold addL
  split
  · exact h
  · split
    · exact h
    · rename_i h1 h2
      refine ⟨by rw [List.length_append, List.length_singleton]; omega, ?_, ?_⟩
      · rw [List.nodup_append]
        exact ⟨h.once, by simp, fun x hx y hy => by rw [List.mem_singleton] at hy; subst hy; exact fun e => h1 (e ▸ hx)⟩
      · intro x hx
        rcases List.mem_append.1 hx with hx | hx
        · exact h.fit x hx
        · rw [List.mem_singleton] at hx
          subst hx
          exact hb
theorem FineL.filter {L : List Bnd} (h : FineL L) (p : Bnd → Bool) : FineL (L.filter p) :=
  ⟨Nat.le_trans (List.length_filter_le _ _) h.few, h.once.sublist List.filter_sublist, fun b hb => h.fit b (List.mem_filter.1 hb).1⟩
/-- The queues of one exchange's rows of one key are each once. -/
theorem FineL.keyed {L : List Bnd} (h : L.Nodup) (e k : List UInt8) : onceL [] ((L.filter fun b => b.1 == e && b.2.2 == k).map (·.2.1)) = (L.filter fun b => b.1 == e && b.2.2 == k).map (·.2.1) := by
  rw [onceL_same, List.nil_append]
  rw [List.nil_append]
  have h1 : (L.filter fun b => b.1 == e && b.2.2 == k).Nodup := h.sublist List.filter_sublist
  rw [List.Nodup, List.pairwise_map]
  refine List.Pairwise.imp_of_mem ?_ h1
  rintro ⟨a1, a2, a3⟩ ⟨b1, b2, b3⟩ ha hb hne heq
  simp only [List.mem_filter, Bool.and_eq_true, beq_iff_eq] at ha hb heq
  exact hne (by rw [ha.2.1, ha.2.2, hb.2.1, hb.2.2, heq])
/-- Keyed is what of Of has that Key. -/
theorem filter_and (L : List Bnd) (e k : List UInt8) : (L.filter fun b => b.1 == e).filter (fun b => b.2.2 == k) = L.filter fun b => b.1 == e && b.2.2 == k := by
  rw [List.filter_filter]
  apply List.filter_congr
  intro b _
  rw [Bool.and_comm]
end Go.Proofs.YtoecaonmehbfeaaGreat

/- Numbers and texts as bytes: plain data. The lowest bytes of a number, the highest first; the number of bytes; what is taken from the front. -/
namespace Go.Proofs.YtoecaonmehbfeaaGreat
open Go.RowKit

/-- A text by its bytes. -/
abbrev tx (l : List UInt8) : Value := .string ⟨l.toArray⟩
def oct (z : Int) : UInt8 := UInt8.ofNat (z % 256).toNat
theorem oct_nat (z : Int) : ((oct z).toNat : Int) = z % 256 := by
  unfold oct
  rw [UInt8.toNat_ofNat']
  omega
/-- The k lowest bytes of n, the highest first. -/
def low : Nat → Int → List UInt8
  | 0, _ => []
  | k + 1, n => oct (n / 256 ^ k) :: low k n
theorem div_pow (n : Int) (j : Nat) : n / 256 ^ (j + 1) = n / 256 ^ j / 256 := by
  have h : (0 : Int) ≤ 256 ^ j := Int.pow_nonneg (by decide)
  rw [Int.pow_succ, Int.ediv_mul, if_neg (by omega), Int.add_zero]
theorem low_length (k : Nat) (n : Int) : (low k n).length = k := by
  induction k with
  | zero => rfl
  | succ k ih => simp [low, ih]
/-- The number of so many bytes. -/
def num (l : List UInt8) : Nat := l.foldl (fun a b => a * 256 + b.toNat) 0
theorem num_nil : num [] = 0 := rfl
theorem num_snoc (l : List UInt8) (b : UInt8) : num (l ++ [b]) = num l * 256 + b.toNat := by simp [num]
theorem u8_lt (b : UInt8) : b.toNat < 256 := UInt8.toNat_lt b
theorem num_from (l : List UInt8) (a : Nat) : l.foldl (fun a b => a * 256 + b.toNat) a = a * 256 ^ l.length + num l := by
  induction l generalizing a with
  | nil => simp [num]
  | cons b l ih =>
    simp only [List.foldl_cons, num, Nat.zero_mul, Nat.zero_add, List.length_cons]
    rw [ih (a * 256 + b.toNat), ih b.toNat, Nat.pow_succ, Nat.add_mul, Nat.mul_assoc, Nat.mul_comm 256 (256 ^ l.length)]
    omega
theorem num_cons (b : UInt8) (l : List UInt8) : num (b :: l) = b.toNat * 256 ^ l.length + num l := by
  show l.foldl _ (0 * 256 + b.toNat) = _
  rw [Nat.zero_mul, Nat.zero_add, num_from]
theorem num_lt (l : List UInt8) : num l < 256 ^ l.length := by
  induction l with
  | nil => simp [num]
  | cons b l ih =>
    rw [num_cons, List.length_cons, Nat.pow_succ]
    have h1 := u8_lt b
    have h2 : b.toNat * 256 ^ l.length ≤ 255 * 256 ^ l.length := Nat.mul_le_mul_right _ (by omega)
    omega
theorem num_low (k m : Nat) : num (low k (m : Int)) = m % 256 ^ k := by
  induction k with
  | zero => simp [low, num, Nat.mod_one]
  | succ k ih =>
    have e : (oct ((m : Int) / 256 ^ k)).toNat = m / 256 ^ k % 256 := by
      have := oct_nat ((m : Int) / 256 ^ k)
      have c : ((m : Int) / 256 ^ k) % 256 = ((m / 256 ^ k % 256 : Nat) : Int) := by simp
      omega
    rw [low, num_cons, low_length, ih, e, Nat.pow_succ, Nat.mod_mul, Nat.mul_comm (m / 256 ^ k % 256)]
    omega
theorem num_take {l : List UInt8} {i : Nat} {b : UInt8} (h : l[i]? = some b) : num (l.take (i + 1)) = num (l.take i) * 256 + b.toNat := by
  rw [List.take_add_one, h, Option.toList_some, num_snoc]

/-- Of how many bytes a number is made or taken. -/
def heldN (k : Int) : Nat := (min (max k 0) 7).toNat
theorem heldN_le (k : Int) : heldN k ≤ 7 := by unfold heldN; omega
theorem heldN_of {k : Nat} (h : k ≤ 7) : heldN (k : Int) = k := by unfold heldN; omega
theorem pow256_le {k : Nat} (h : k ≤ 7) : 256 ^ k ≤ 72057594037927936 := Nat.le_trans (Nat.pow_le_pow_right (by decide) h) (by decide)
theorem num_le {l : List UInt8} (h : l.length ≤ 7) : num l < 72057594037927936 := Nat.lt_of_lt_of_le (num_lt l) (pow256_le h)

def takeL (l : List UInt8) (k : Int) : Nat × List UInt8 × Int :=
  if l.length < heldN k then (0, l, 11) else (num (l.take (heldN k)), l.drop (heldN k), 0)
def textL (l : List UInt8) : List UInt8 × Int := if 255 < l.length then ([], 15) else (oct l.length :: l, 0)
def takeTextL (l : List UInt8) (most : Int) : List UInt8 × List UInt8 × Int :=
  match l with
  | [] => ([], [], 11)
  | b :: r => if most < b.toNat then ([], b :: r, 15) else if r.length < b.toNat then ([], b :: r, 11) else (r.take b.toNat, r.drop b.toNat, 0)

theorem low_one (n : Int) : low 1 n = [oct n] := by simp [low]
theorem textL_eq {l : List UInt8} (h : l.length ≤ 255) : textL l = (oct l.length :: l, 0) := if_neg (by omega)
theorem oct_len {l : List UInt8} (h : l.length ≤ 255) : (oct (l.length : Int)).toNat = l.length := by
  have := oct_nat (l.length : Int)
  omega
/-- What is put is taken, whatever is behind. -/
theorem takeL_low (k m : Nat) (hk : k ≤ 7) (hm : m < 256 ^ k) (r : List UInt8) : takeL (low k (m : Int) ++ r) k = (m, r, 0) := by
  have hl := low_length k (m : Int)
  unfold takeL
  rw [heldN_of hk, if_neg (by rw [List.length_append]; omega), List.take_left' hl, List.drop_left' hl, num_low, Nat.mod_eq_of_lt hm]
theorem takeL_short {k : Nat} (hk : k ≤ 7) {l : List UInt8} (h : l.length < k) : takeL l k = (0, l, 11) := by
  unfold takeL
  rw [heldN_of hk, if_pos h]
theorem takeTextL_text {l r : List UInt8} {most : Int} (h : l.length ≤ 255) (hm : (l.length : Int) ≤ most) : takeTextL (oct l.length :: l ++ r) most = (l, r, 0) := by
  have ho := oct_len h
  simp only [List.cons_append, takeTextL]
  rw [ho, if_neg (by omega), if_neg (by rw [List.length_append]; omega), List.take_left, List.drop_left]
theorem takeTextL_cut {l : List UInt8} {c : Nat} (h : l.length ≤ 255) (hc : c ≤ l.length) : takeTextL ((oct l.length :: l).take c) 255 = ([], (oct l.length :: l).take c, 11) := by
  have ho := oct_len h
  cases c with
  | zero => rfl
  | succ c =>
    simp only [List.take_succ_cons, takeTextL]
    rw [ho, if_neg (by omega), if_pos (by rw [List.length_take]; omega)]
end Go.Proofs.YtoecaonmehbfeaaGreat

/- A row of bytes read as a text. -/
namespace Go.Proofs.YtoecaonmehbfeaaGreat
open Go.RowKit
set_option linter.unusedVariables false
set_option maxRecDepth 100000

theorem uStr6 : Tryz.prog.underlying 9 = some .string := by kernel_rfl
theorem uU86 : Tryz.prog.underlying 5 = some (.int .u8) := by kernel_rfl
theorem uBytes6 : Tryz.prog.underlying 55 = some (.slice 5) := by kernel_rfl

set_option maxRecDepth 100000 in
theorem run_conv_bytes {w : World} {b off n cap : Nat} {l : List UInt8} (hl : l.length = n) (hc : ∀ i c, l[i]? = some c → w.cell? ⟨b, off + i, none⟩ = some (.int .u8 c.toNat)) :
    (convert 55 9 (.slice (some ⟨b, off, none⟩) n cap)).run Tryz.prog w = .ok (tx l) w := by
  have h := run_convert_bytes_arg (P := Tryz.prog) w 55 5 uBytes6 uU86 b off n cap (l.map fun c => (c.toNat : Int)) (by rw [List.length_map, hl])
    (fun i hi => by
      have e : l[i]? = some l[i] := List.getElem?_eq_getElem (by omega)
      rw [hc i _ e]
      simp [List.getD_eq_getElem?_getD, e]) 9 uStr6
  rw [h]
  congr 2
  simp only [strOfNums, List.map_map]
  congr 2
  conv => rhs; rw [← List.map_id l]
  apply List.map_congr_left
  intro c _
  simp
end Go.Proofs.YtoecaonmehbfeaaGreat

/- What of texts stands alone: two of them as one, a row of bytes that is made, one letter taken. -/
namespace Go.Proofs.YtoecaonmehbfeaaGreat
open Go.RowKit
set_option linter.unusedVariables false
set_option maxRecDepth 100000

theorem tx_add (a b : List UInt8) : (⟨a.toArray⟩ : ByteArray) ++ (⟨b.toArray⟩ : ByteArray) = ⟨(a ++ b).toArray⟩ := ByteArray.mk_append_mk a b

theorem infU86 : (Tryz.prog.info? 5).map (fun i => (i.zero, i.size, i.bytes)) = some (some (.int .u8 0), 1, 1) := by kernel_rfl

def rowOf (l : List UInt8) : Obj := .cells (Lib.byteCells l).toArray 5
theorem mk_row (w : World) (n : Nat) (hn : n ≤ 140737488351232) :
    (Instr.makeSlice 55 (.int .i64 (n : Int)) (.int .i64 (n : Int))).run Tryz.prog w = .ok (.slice (some ⟨w.heap.size, 0, none⟩) n n) (w.alloc (rowOf (List.replicate n 0))) := by
  obtain ⟨i0, hi, hz0, hz1, hz2⟩ := info_parts infU86
  have h := run_make (P := Tryz.prog) w 55 5 i0 (.int .u8 0) uBytes6 hi hz0 .i64 .i64 n n (by omega) (Int.le_refl _) (by rw [hz2]; omega) (by omega)
  rw [h, Int.toNat_natCast]
  congr 2
  unfold rowOf
  congr 1
  apply Array.toList_inj.1
  rw [hz1, Nat.mul_one, show (Value.int .u8 0).cells = #[Value.int .u8 0] from rfl, toList_madeCells_one]
  simp [Lib.byteCells]

theorem drewN_below (w : World) (n : Nat) : Below w.heap.size w (w.drewN n) := ⟨rfl, rfl, rfl, Nat.le_refl _, fun _ _ => rfl⟩
theorem takeL_nil1 : takeL [] 1 = (0, [], 11) := by decide
theorem takeL_cons1 (b : UInt8) (r : List UInt8) : takeL (b :: r) 1 = (b.toNat, r, 0) := by
  unfold takeL
  rw [show heldN 1 = 1 from rfl, if_neg (by simp)]
  simp [num]
/-- What is new to one is new to who came ahead. -/
theorem bel {a b c : World} (h : Below a.heap.size a b) (k : Below b.heap.size b c) : Below a.heap.size a c := h.trans (k.mono h.size)

theorem zeros_conv (w : World) (k : Nat) : (convert 55 9 (.slice (some ⟨w.heap.size, 0, none⟩) k k)).run Tryz.prog (w.alloc (rowOf (List.replicate k 0))) = .ok (tx (List.replicate k 0)) (w.alloc (rowOf (List.replicate k 0))) :=
  run_conv_bytes (by simp) fun i c hi => by
    rw [Nat.zero_add, rowOf, World.cell?_alloc_mark]
    show ((List.replicate k (0 : UInt8)).map _).toArray[i]? = _
    rw [List.getElem?_toArray, List.getElem?_map, hi]
    rfl
/-- One byte read as a text. -/
theorem conv_byte10 {w : World} {b : Nat} {z : Int} (h : w.cell? ⟨b, 0, none⟩ = some (.int .u8 z)) (h0 : 0 ≤ z) (h1 : z ≤ 255) : (convert 55 9 (.slice (some ⟨b, 0, none⟩) 1 1)).run Tryz.prog w = .ok (tx [oct z]) w :=
  run_conv_bytes (l := [oct z]) rfl fun i c hi => by
    have hi0 : i = 0 := by
      have := (List.getElem?_eq_some_iff.1 hi).1
      simp at this
      omega
    subst hi0
    simp only [List.getElem?_cons_zero, Option.some.injEq] at hi
    subst hi
    rw [oct_nat, Nat.add_zero, h]
    congr 2
    omega
end Go.Proofs.YtoecaonmehbfeaaGreat

/- What a walk is told of arguments: a slice of integers that came in. -/
namespace Go.Proofs.YtoecaonmehbfeaaGreat
open Go.RowKit
set_option maxRecDepth 100000

/-- The slice at a with len elements reads as the integers zs (of kind k, each within its bounds). -/
structure IntsAt (k : IntKind) (w : World) (a : Option Addr) (len : Nat) (zs : List Int) : Prop where
  size : zs.length = len
  top : len ≤ maxLen
  wf : ∀ n ∈ zs, (Lit.int k n).wf = true
  at_ : ∀ i n, zs[i]? = some n → ∃ b off, a = some ⟨b, off, none⟩ ∧ w.cell? ⟨b, off + i, none⟩ = some (.int k n)

theorem IntsAt.of {k : IntKind} {w : World} {a : Option Addr} {len cap : Nat} {zs : List Int}
    (h : (a = none ∧ len = 0 ∧ cap = 0 ∧ zs = []) ∨ ∃ x, a = some x ∧ len ≤ cap ∧ cap ≤ maxLen ∧ zs.length = cap ∧ (∀ i, i < zs.length → w.cell? (x.add i) = some (.int k (zs.getD i 0))) ∧ ∀ n ∈ zs, (Lit.int k n).wf = true) :
    IntsAt k w a len (zs.take len) := by
  rcases h with ⟨rfl, rfl, rfl, rfl⟩ | ⟨x, rfl, hl, hm, hz, hc, hw⟩
  · exact ⟨rfl, Nat.zero_le _, by simp, by simp⟩
  · refine ⟨by rw [List.length_take]; omega, by omega, fun n hn => hw n (List.mem_of_mem_take hn), fun i n hn => ?_⟩
    have hlt : i < len := by
      have := (List.getElem?_eq_some_iff.1 hn).1
      rw [List.length_take] at this
      omega
    rw [List.getElem?_take, if_pos hlt] at hn
    have hc' := hc i (by omega)
    obtain ⟨b, off, spot⟩ := x
    have hspot : spot = none := by
      have hc0 := hc 0 (by omega)
      simpa [Addr.add] using World.cell?_spot hc0
    subst hspot
    rw [Go.WideShapes.add_plain] at hc'
    refine ⟨b, off, rfl, hc'.trans ?_⟩
    simp [List.getD_eq_getElem?_getD, hn]

theorem IntsAt.below {k : IntKind} {w w' : World} {a : Option Addr} {len : Nat} {zs : List Int} (h : IntsAt k w a len zs) (hb : Below w.heap.size w w') : IntsAt k w' a len zs :=
  ⟨h.size, h.top, h.wf, fun i n hn => by
    obtain ⟨b, off, e, hc⟩ := h.at_ i n hn
    exact ⟨b, off, e, (hb.cell (p := ⟨b, off + i, none⟩) (World.block_lt_of_cell? w _ hc)).trans hc⟩⟩

/-! ### whatever came in, opened step by step -/
/-- The cells cs read as a datum of type t in w. -/
def Read (P : Program) (w : World) (t : TypeId) (cs : List Value) : Prop :=
  ∃ (H : Type) (enc : TypeId × Value → H) (base : Nat) (spare : Nat → Bool) (held : Bool) (fuel : Nat) (x : DataW H × List MemPlace), DataW.trod enc P w base spare held fuel t cs = some x

section
variable {P : Program} {w : World} {t e : TypeId} {cs : List Value}

theorem Read.int {k : IntKind} (ht : P.underlying t = some (.int k)) (h : Read P w t cs) : ∃ n, cs = [.int k n] ∧ (Lit.int k n).wf = true := by
  obtain ⟨_, _, _, _, _, _, _, h⟩ := h
  obtain ⟨n, h1, _, h2⟩ := Go.DataW.trod_int ht h
  exact ⟨n, h1, h2⟩
theorem Read.bool (ht : P.underlying t = some .bool) (h : Read P w t cs) : ∃ b, cs = [.bool b] := by
  obtain ⟨_, _, _, _, _, _, _, h⟩ := h
  obtain ⟨b, h1, _⟩ := Go.DataW.trod_bool ht h
  exact ⟨b, h1⟩
theorem Read.string (ht : P.underlying t = some .string) (h : Read P w t cs) : ∃ s : ByteArray, cs = [.string s] ∧ s.size ≤ maxLen := by
  obtain ⟨_, _, _, _, _, _, _, h⟩ := h
  obtain ⟨s, h1, _, h2⟩ := Go.DataW.trod_string ht h
  exact ⟨s, h1, h2⟩
theorem Read.struct {fs : Array Field} (ht : P.underlying t = some (.struct fs)) (h : Read P w t cs) :
    cs.length = P.cellsOf t ∧ ∀ (i : Nat) (f : Field), fs[i]? = some f → Read P w f.type ((cs.drop f.offset).take (P.cellsOf f.type)) := by
  obtain ⟨H, enc, b, sp, held, _, _, h⟩ := h
  obtain ⟨ys, n, _, _, h1, h2, hg⟩ := Go.DataW.trod_struct ht h
  refine ⟨h1, fun i f hf => ?_⟩
  have hi : i < ys.length := by
    have := (Array.getElem?_eq_some_iff.1 hf).1
    omega
  exact ⟨H, enc, b, sp, held, n, ys[i], (hg i f hf).trans (List.getElem?_eq_getElem hi)⟩

/-- The elements of a slice that came in: each lies where it lies, and reads as the element's type. -/
structure RowsAt (P : Program) (w : World) (e : TypeId) (a : Option Addr) (len : Nat) (rd : Nat → List Value) : Prop where
  top : len ≤ maxLen
  at_ : ∀ i, i < len → Read P w e (rd i) ∧ (rd i).length = P.cellsOf e ∧ ∃ b off, a = some ⟨b, off, none⟩ ∧ ∀ j u, (rd i)[j]? = some u → w.cell? ⟨b, off + i * P.cellsOf e + j, none⟩ = some u

theorem Read.slice {a : Option Addr} {len cap : Nat} (ht : P.underlying t = some (.slice e)) (hc : 0 < P.cellsOf e) (h : Read P w t [.slice a len cap]) : ∃ rd, RowsAt P w e a len rd := by
  obtain ⟨H, enc, b, sp, held, _, _, h⟩ := h
  rcases Go.Deep.open_slice ht h with ⟨hcs, _⟩ | ⟨a', len', cap', m, fuel', D, Pl, hcs, _, hl, hm, hmm, _, hi⟩
  · simp at hcs
    obtain ⟨rfl, rfl, rfl⟩ := hcs
    exact ⟨fun _ => [], Nat.zero_le _, fun i hi => by omega⟩
  · simp at hcs
    obtain ⟨rfl, rfl, rfl⟩ := hcs
    have hlm : len ≤ m := by rw [hmm]; split <;> omega
    have key : ∀ i, ∃ cs, i < len → Read P w e cs ∧ cs.length = P.cellsOf e ∧ ∃ b off, (some a' : Option Addr) = some ⟨b, off, none⟩ ∧ ∀ j u, cs[j]? = some u → w.cell? ⟨b, off + i * P.cellsOf e + j, none⟩ = some u := by
      intro i
      by_cases hil : i < len
      · obtain ⟨cs, hcs, hr⟩ := hi i (by omega)
        obtain ⟨_, hlc, hat⟩ := World.cells?_some hcs
        obtain ⟨bb, off, spot⟩ := a'
        have hspot : spot = none := by
          obtain ⟨_, hc', _⟩ := hi 0 (by omega)
          obtain ⟨_, hl', hat'⟩ := World.cells?_some hc'
          have cz := (hat' 0 hc).trans (List.getElem?_eq_getElem (by omega))
          simpa [Addr.add] using World.cell?_spot cz
        subst hspot
        refine ⟨cs, fun _ => ⟨⟨H, enc, b, sp, held, _, _, hr⟩, hlc, bb, off, rfl, fun j u hj => ?_⟩⟩
        have hjl : j < P.cellsOf e := by rw [← hlc]; exact (List.getElem?_eq_some_iff.1 hj).1
        have := hat j hjl
        rw [Go.WideShapes.add_plain, Go.WideShapes.add_plain] at this
        exact this.trans hj
      · exact ⟨[], fun h => absurd h hil⟩
    exact ⟨fun i => (key i).choose, by omega, fun i hil => (key i).choose_spec hil⟩

theorem RowsAt.cell {a : Option Addr} {len : Nat} {rd : Nat → List Value} (h : RowsAt P w e a len rd) {w' : World} (hb : Below w.heap.size w w') {i : Nat} (hi : i < len) :
    ∃ b off, a = some ⟨b, off, none⟩ ∧ ∀ j u, (rd i)[j]? = some u → w'.cell? ⟨b, off + i * P.cellsOf e + j, none⟩ = some u := by
  obtain ⟨_, _, b, off, ha, hc⟩ := h.at_ i hi
  exact ⟨b, off, ha, fun j u hj => (hb.cell (p := ⟨b, off + i * P.cellsOf e + j, none⟩) (World.block_lt_of_cell? w _ (hc j u hj))).trans (hc j u hj)⟩
end
end Go.Proofs.YtoecaonmehbfeaaGreat

/- A slice of texts that came in. -/
namespace Go.Proofs.YtoecaonmehbfeaaGreat
open Go.RowKit
set_option linter.unusedVariables false
set_option maxRecDepth 100000

/-- The slice at a with len elements reads as these texts. -/
structure TextsAt (w : World) (a : Option Addr) (len : Nat) (L : List (List UInt8)) : Prop where
  size : L.length = len
  at_ : ∀ (i : Nat) x, L[i]? = some x → x.length ≤ maxLen ∧ ∃ b off, a = some ⟨b, off, none⟩ ∧ w.cell? ⟨b, off + i, none⟩ = some (tx x)
theorem TextsAt.below {w w' : World} {a : Option Addr} {len : Nat} {L : List (List UInt8)} (h : TextsAt w a len L) (hb : Below w.heap.size w w') : TextsAt w' a len L :=
  ⟨h.size, fun i x hx => by
    obtain ⟨h1, b, off, e, hc⟩ := h.at_ i x hx
    exact ⟨h1, b, off, e, (hb.cell (p := ⟨b, off + i, none⟩) (World.block_lt_of_cell? w _ hc)).trans hc⟩⟩
theorem TextsAt.of {w : World} {a : Option Addr} {len : Nat} {rd : Nat → List Value} (h : RowsAt Tryz.prog w 9 a len rd) : ∃ L, TextsAt w a len L := by
  have hco : Tryz.prog.cellsOf 9 = 1 := by kernel_rfl
  have key : ∀ i, ∃ x : List UInt8, i < len → rd i = [tx x] ∧ x.length ≤ maxLen := by
    intro i
    by_cases hi : i < len
    · obtain ⟨s, h1, h2⟩ := (h.at_ i hi).1.string uStr6
      exact ⟨s.data.toList, fun _ => ⟨h1, h2⟩⟩
    · exact ⟨[], fun h => absurd h hi⟩
  refine ⟨(List.range len).map fun i => (key i).choose, by simp, fun i x hx => ?_⟩
  have hi : i < len := by
    have := (List.getElem?_eq_some_iff.1 hx).1
    simpa using this
  rw [List.getElem?_map, List.getElem?_range hi, Option.map_some, Option.some.injEq] at hx
  obtain ⟨h1, h2⟩ := (key i).choose_spec hi
  rw [hx] at h1 h2
  obtain ⟨_, _, b, off, ha, hc⟩ := h.at_ i hi
  refine ⟨h2, b, off, ha, ?_⟩
  have := hc 0 (tx x) (by rw [h1]; rfl)
  rwa [hco, Nat.mul_one] at this
end Go.Proofs.YtoecaonmehbfeaaGreat
