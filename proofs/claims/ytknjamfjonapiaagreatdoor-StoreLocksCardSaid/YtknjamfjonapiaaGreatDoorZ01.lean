import Derived.WalkKit
import Derived.WalkSpells
import Derived.WalkLawsBesides
import Derived.Deep.Draws
import Derived.OpenShut
import Derived.ShutString
import Derived.Deep.Slices
import Derived.Deep.Fields
import Derived.Test.YtknjamfjonapiaaGreatDoorRows
import Derived.Laws.CopyOwn
import Derived.StillTailTactics
import Derived.Lib.Strings
import Derived.Lib.Hide
import Derived.Deep.RegionHeld3
namespace Go.Proofs.YtknjamfjonapiaaGreatDoor
open Go.RowKit
set_option maxRecDepth 100000
theorem ret_int {k : IntKind} {a b : Int} (h : a = b) : Ending.returned (.int k a) = .returned (.int k b) := by rw [h]
theorem ret_bool {a b : Bool} (h : a = b) : Ending.returned (.bool a) = .returned (.bool b) := by rw [h]
def Fr (n : Nat) (l : List (Nat × Value)) (a : Act) : Prop := a.defers = [] ∧ a.tmps.size = n ∧ ∀ p ∈ l, a.tmps[p.1]? = some p.2
theorem Fr.lit {n : Nat} {l : List (Nat × Value)} {a : Act} (h : Fr n l a) : ∃ f : Nat → Value, a = ⟨((List.range n).map f).toArray, []⟩ ∧ ∀ p ∈ l, f p.1 = p.2 := by
 obtain ⟨hd, hs, hl⟩ := h
 refine ⟨fun i => a.tmps.getD i undef, ?_, fun p hp => by simp [Array.getD_eq_getD_getElem?, hl p hp]⟩
 obtain ⟨t, d⟩ := a
 simp only at hd hs
 subst hd
 congr 1
 apply Array.ext
 ·simp [hs]
 ·intro i h1 h2
  simp [Array.getD_eq_getD_getElem?, h1]
theorem Fr.get {n : Nat} {l : List (Nat × Value)} {a : Act} (h : Fr n l a) {i : Nat} {v : Value} (hm : (i, v) ∈ l) : a.tmps.getD i undef = v := by
 simp [Array.getD_eq_getD_getElem?, h.2.2 _ hm]
theorem wp_scope_label {P : Program} {a : Act} {w : World} {Q : Exit → Act → World → Prop} {c X : Code} (l : Nat) (J : Act → World → Prop) (μ : Act → World → Nat) (hf : findLabel c l = some (.seq .skip X))
  (pass : ∀ a w, J a w → X.wp P (Exit.jump l (fun a' w' => J a' w' ∧ μ a' w' < μ a w) Q) a w)
  (first : (∀ a w, J a w → X.wp P (Exit.jump l J Q) a w) → c.wp P (Exit.jump l J Q) a w) : (Code.scope c).wp P Q a w :=
 wp_scope_jumps l J μ hf (first fun a w hJ => Code.wp_mono (fun e a' w' h => by cases e <;> first | exact h | exact ⟨h.1, h.2.1⟩) (pass a w hJ))
  fun a w hJ => wp_seq (wp_skip (pass a w hJ))
theorem least {p : Nat → Prop} (h : ∃ n, p n) : ∃ n, p n ∧ ∀ m, m < n → ¬ p m := by
 obtain ⟨n, hn⟩ := h
 induction n using Nat.strongRecOn with
 | _ n ih =>
  by_cases hm : ∃ m, m < n ∧ p m
  ·obtain ⟨m, h1, h2⟩ := hm
   exact ih m h1 h2
  ·exact ⟨n, hn, fun m h1 h2 => hm ⟨m, h1, h2⟩⟩
theorem wp_scope_ghost {P : Program} {a : Act} {w : World} {Q : Exit → Act → World → Prop} {c X : Code} (l : Nat) (J : Nat → Act → World → Prop) (hf : findLabel c l = some (.seq .skip X))
  (pass : ∀ n a w, J n a w → X.wp P (Exit.jump l (fun a' w' => ∃ m, m < n ∧ J m a' w') Q) a w)
  (first : (∀ n a w, J n a w → X.wp P (Exit.jump l (fun a' w' => ∃ n, J n a' w') Q) a w) → c.wp P (Exit.jump l (fun a' w' => ∃ n, J n a' w') Q) a w) : (Code.scope c).wp P Q a w := by
 classical
 refine wp_scope_jumps l (fun a w => ∃ n, J n a w) (fun a w => if h : ∃ n, J n a w then (least h).choose else 0) hf
  (first fun n a w hJ => Code.wp_mono (fun e a' w' h => by cases e <;> first | exact h | exact ⟨h.1, h.2.imp fun _ h => h.2⟩) (pass n a w hJ)) fun a w hJ => ?_
 have hs := (least hJ).choose_spec
 refine wp_seq (wp_skip (Code.wp_mono (fun e a' w' h => ?_) (pass _ a w hs.1)))
 cases e with
 | goto l' =>
  obtain ⟨h1, m, h2, h3⟩ := h
  refine ⟨h1, ⟨m, h3⟩, ?_⟩
  have hJ' : ∃ n, J n a' w' := ⟨m, h3⟩
  rw [dif_pos hJ', dif_pos hJ]
  rcases Nat.lt_or_ge m (least hJ').choose with h | h
  ·exact absurd h3 ((least hJ').choose_spec.2 m h)
  ·omega
 | _ => exact h
structure St (B : Nat) (w0 w : World) (H : List (Nat × Obj)) : Prop where
 below : Below B w0 w
 base : B ≤ w.heap.size
 nodup : (H.map (·.1)).Nodup
 at_ : ∀ p ∈ H, B ≤ p.1 ∧ w.heap[p.1]? = some p.2
section
variable {B : Nat} {w0 w : World} {H A C : List (Nat × Obj)} {b : Nat} {o : Obj}
theorem St.start (w : World) : St w.heap.size w w [] := ⟨Below.refl _ _, Nat.le_refl _, by simp, by simp⟩
theorem St.get (h : St B w0 w H) (hm : (b, o) ∈ H) : w.heap[b]? = some o := (h.at_ _ hm).2
theorem St.ge (h : St B w0 w H) (hm : (b, o) ∈ H) : B ≤ b := (h.at_ _ hm).1
theorem St.lt (h : St B w0 w H) (hm : (b, o) ∈ H) : b < w.heap.size := (Array.getElem?_eq_some_iff.1 (h.get hm)).1
theorem St.cell (h : St B w0 w H) {c : Array Value} {T : TypeId} {fr : Nat × Nat} (hm : (b, .cells c T fr) ∈ H) {i : Nat} {v : Value} (hi : c[i]? = some v) : w.cell? ⟨b, i, none⟩ = some v := by
 simp [World.cell?, h.get hm, hi]
theorem St.soft (h : St B w0 w H) {c : Array Value} {T : TypeId} (hm : (b, .cells c T) ∈ H) (i : Nat) : w.frozen? ⟨b, i, none⟩ = false := by
 have := h.get hm
 simp only [World.frozen?, this]
 simp
theorem St.perm {H' : List (Nat × Obj)} (h : St B w0 w H) (hp : H.Perm H') : St B w0 w H' :=
 ⟨h.below, h.base, (hp.map _).nodup_iff.1 h.nodup, fun p hm => h.at_ p (hp.mem_iff.2 hm)⟩
theorem St.sub {H' : List (Nat × Obj)} (h : St B w0 w H) (hp : H'.Sublist H) : St B w0 w H' :=
 ⟨h.below, h.base, (hp.map _).nodup h.nodup, fun p hm => h.at_ p (hp.subset hm)⟩
theorem St.drew (h : St B w0 w H) : St B w0 w.drew H := ⟨h.below.drew, h.base, h.nodup, h.at_⟩
theorem St.drewN (h : St B w0 w H) (n : Nat) : St B w0 (w.drewN n) H := ⟨⟨h.below.os, h.below.tape, h.below.output, h.below.size, h.below.block⟩, h.base, h.nodup, h.at_⟩
theorem St.alloc (h : St B w0 w H) (o : Obj) : St B w0 (w.alloc o) ((w.heap.size, o) :: H) := by
 refine ⟨h.below.alloc h.base o, by have := h.base; simp; omega, ?_, ?_⟩
 ·simp only [List.map_cons, List.nodup_cons]
  refine ⟨fun hm => ?_, h.nodup⟩
  obtain ⟨p, hp, he⟩ := List.mem_map.1 hm
  have := h.lt (b := p.1) (o := p.2) hp
  omega
 ·intro p hp
  rcases List.mem_cons.1 hp with rfl | hp
  ·exact ⟨h.base, (MapKept.heap_alloc w o).1⟩
  ·refine ⟨(h.at_ p hp).1, ?_⟩
   have := h.lt (b := p.1) (o := p.2) hp
   rw [Below.heap_alloc _ _ _ this]
   exact (h.at_ p hp).2
theorem St.write {w' : World} {o' : Obj} (h : St B w0 w (A ++ (b, o) :: C)) (hb : w'.heap[b]? = some o') (ho : ∀ k, k ≠ b → w'.heap[k]? = w.heap[k]?)
  (hs : w'.heap.size = w.heap.size) (h1 : w'.os = w.os) (h2 : w'.tape = w.tape) (h3 : w'.output = w.output) : St B w0 w' (A ++ (b, o') :: C) := by
 have hB : B ≤ b := h.ge (o := o) (by simp)
 refine ⟨⟨h1.trans h.below.os, h2.trans h.below.tape, h3.trans h.below.output, by rw [hs]; exact h.below.size, fun k hk => (ho k (by omega)).trans (h.below.block k hk)⟩, by rw [hs]; exact h.base, ?_, ?_⟩
 ·have := h.nodup
  simpa using this
 ·intro p hp
  by_cases hpb : p.1 = b
  ·have hn := h.nodup
   simp only [List.map_append, List.map_cons] at hn
   have : p = (b, o') := by
    rcases List.mem_append.1 hp with hp | hp
    ·exfalso
     have := (List.nodup_append.1 hn).2.2 p.1 (List.mem_map_of_mem hp) b (by simp)
     exact this hpb
    ·rcases List.mem_cons.1 hp with rfl | hp
     ·rfl
     ·exfalso
      have := (List.nodup_cons.1 (List.nodup_append.1 hn).2.1).1
      exact this (hpb ▸ List.mem_map_of_mem hp)
   subst this
   exact ⟨hB, hb⟩
  ·have hm : p ∈ A ++ (b, o) :: C := by
    rcases List.mem_append.1 hp with hp | hp
    ·simp [hp]
    ·rcases List.mem_cons.1 hp with rfl | hp
     ·exact absurd rfl hpb
     ·simp [hp]
   exact ⟨(h.at_ p hm).1, (ho _ hpb).trans (h.at_ p hm).2⟩
theorem St.set {c : Array Value} {T : TypeId} {fr : Nat × Nat} (h : St B w0 w (A ++ (b, .cells c T fr) :: C)) (i : Nat) (v : Value) :
  St B w0 (w.setCell ⟨b, i, none⟩ v) (A ++ (b, .cells (c.setIfInBounds i v) T fr) :: C) := by
 have hb := h.get (b := b) (o := .cells c T fr) (by simp)
 refine h.write (by simp only [World.setCell, Array.getElem?_modify, if_true, hb, Option.map_some]; rfl) (fun k hk => Below.heap_setCell _ _ _ _ (by simpa using hk)) (by simp) rfl rfl rfl
theorem St.set0 {c : Array Value} {T : TypeId} {fr : Nat × Nat} (h : St B w0 w ((b, .cells c T fr) :: C)) (i : Nat) (v : Value) :
  St B w0 (w.setCell ⟨b, i, none⟩ v) ((b, .cells (c.setIfInBounds i v) T fr) :: C) := St.set (A := []) h i v
theorem St.block0 {o o' : Obj} (h : St B w0 w ((b, o) :: C)) : St B w0 (ChangeMaps.setBlock w b o') ((b, o') :: C) := by
 have hb := h.lt (b := b) (o := o) (by simp)
 refine St.write (A := []) h (by simp [ChangeMaps.setBlock, hb]) (fun k hk => ?_) (by simp [ChangeMaps.setBlock]) rfl rfl rfl
 simp only [ChangeMaps.setBlock]
 rw [Array.getElem?_setIfInBounds_ne (Ne.symm hk)]
theorem St.grown {w' : World} (h : St B w0 w H) {row : Option Nat} (hg : w.grownBy w' row) (hr : ∀ k, row = some k → B ≤ k ∧ k ∉ H.map (·.1)) : St B w0 w' H := by
 refine ⟨h.below.grown hg h.base (fun k hk => (hr k hk).1), Nat.le_trans h.base hg.size, h.nodup, fun p hp => ⟨(h.at_ p hp).1, ?_⟩⟩
 rw [hg.block p.1 (h.lt (o := p.2) hp) (fun e => (hr _ e.symm).2 (List.mem_map_of_mem hp))]
 exact (h.at_ p hp).2
theorem St.ne {b' : Nat} {o' : Obj} (h : St B w0 w ((b, o) :: C)) (hm : (b', o') ∈ C) : b ≠ b' := by
 have := (List.nodup_cons.1 (by simpa using h.nodup : (b :: C.map (·.1)).Nodup)).1
 intro e
 exact this (e ▸ List.mem_map_of_mem (f := (·.1)) hm)
end
def entI (x : Int × Value × Nat) : MapEntry := { key := .int .i64 x.1, val := x.2.1, born := x.2.2 }
def entsI (l : List (Int × Value × Nat)) : Array MapEntry := (l.map entI).toArray
theorem findNow_entsI (q : IntKind) (k : Int) : ∀ (l : List (Int × Value × Nat)) (i : Nat), Instr.findNow (.int q) (.int .i64 k) (l.map entI) i =
  some ((l.findIdx? (·.1 == k)).bind fun j => (l[j]?).map fun x => (i + j, x.2.1))
 | [], i => by simp [Instr.findNow]
 | x :: l, i => by
  simp only [List.map_cons, Instr.findNow, entI, Instr.sameNow, if_true]
  by_cases h : k = x.1
  ·subst h
   simp [List.findIdx?_cons]
  ·have h1 : (k == x.1) = false := by simpa using h
   have h2 : (x.1 == k) = false := by simpa using (fun e : x.1 = k => h e.symm)
   rw [h1]
   simp only [List.findIdx?_cons, h2]
   rw [findNow_entsI q k l (i + 1)]
   cases hf : l.findIdx? (·.1 == k) with
   | none => simp
   | some j => simp [Nat.add_assoc, Nat.add_comm 1 j]
def seekI (l : List (Int × Value × Nat)) (k : Int) : Option (Int × Value × Nat) := l.find? (·.1 == k)
theorem findI (l : List (Int × Value × Nat)) (k : Int) : ((l.findIdx? (·.1 == k)).bind fun j => (l[j]?).map fun x => (0 + j, x.2.1)).map (·.2) = (seekI l k).map (·.2.1) := by
 unfold seekI
 induction l with
 | nil => simp
 | cons x l ih =>
  by_cases h : x.1 = k
  ·simp [h, List.findIdx?_cons]
  ·have h2 : (x.1 == k) = false := by simpa using h
   simp only [List.findIdx?_cons, h2, List.find?_cons]
   simp only [Nat.zero_add] at ih ⊢
   rw [← ih]
   cases hf : l.findIdx? (·.1 == k) with
   | none => simp
   | some j => simp [Function.comp_def]
section
variable {P : Program} {T K E : TypeId} {w : World} {b : Nat} {l : List (Int × Value × Nat)} {clk : Nat}
theorem run_checkKeyI (hK : P.underlying K = some (.int .i64)) (em : Bool) (n : Nat) (k : Int) : (Instr.checkKey em (n + 1) K (.int .i64 k)).run P w = .ok () w := by
 simp [Instr.checkKey, run_underlying hK]
theorem run_findKeyI (hK : P.underlying K = some (.int .i64)) (k : Int) :
  (Instr.findKey K (.int .i64 k) (l.map entI)).run P w = .ok ((l.findIdx? (·.1 == k)).bind fun j => (l[j]?).map fun x => (0 + j, x.2.1)) w := by
 simp only [Instr.findKey]
 simp [run_underlying hK, findNow_entsI .i64 k l 0]
theorem run_lookupI {z : Value} (hT : P.underlying T = some (.map K E)) (hK : P.underlying K = some (.int .i64)) (hz : (zeroValue E).run P w = .ok z w) (hb : w.heap[b]? = some (.map (entsI l) clk)) (k : Int) :
  (Instr.lookup T (.map (some b)) (.int .i64 k) true).run P w = .ok (match seekI l k with | some x => .tuple #[x.2.1, .bool true] | none => .tuple #[z, .bool false]) w := by
 have hf := findI l k
 simp only [Instr.lookup]
 simp only [Sem.run_bind, run_underlying hT, MapKept.run_getObj_map hb, Result.andThen, run_checkKeyI hK, entsI, run_findKeyI hK, Sem.run_pure]
 cases h1 : ((l.findIdx? (·.1 == k)).bind fun j => (l[j]?).map fun x => (0 + j, x.2.1)) with
 | none =>
  rw [h1] at hf
  cases h2 : seekI l k with
  | none => simp [hz, Result.andThen]
  | some x => rw [h2] at hf; simp at hf
 | some y =>
  rw [h1] at hf
  cases h2 : seekI l k with
  | none => rw [h2] at hf; simp at hf
  | some x =>
   rw [h2] at hf
   simp at hf
   simp [hf]
theorem run_lookupI_nil {z : Value} (hT : P.underlying T = some (.map K E)) (hK : P.underlying K = some (.int .i64)) (hz : (zeroValue E).run P w = .ok z w) (k : Int) :
  (Instr.lookup T (.map none) (.int .i64 k) true).run P w = .ok (.tuple #[z, .bool false]) w := by
 have hf := run_findKeyI (P := P) (w := w) (l := []) hK k
 simp at hf
 simp only [Instr.lookup]
 simp [run_underlying hT, Result.andThen, run_checkKeyI hK, hf, hz]
theorem run_mapUpdateI_new (hT : P.underlying T = some (.map K E)) (hK : P.underlying K = some (.int .i64)) (hb : w.heap[b]? = some (.map (entsI l) clk)) (k : Int) (v : Value) (hn : seekI l k = none) :
  (Instr.mapUpdate T (.map (some b)) (.int .i64 k) v).run P w = .ok () (ChangeMaps.setBlock w b (.map (entsI (l ++ [(k, v, clk)])) (clk + 1))) := by
 have hf := findI l k
 rw [hn] at hf
 simp only [Instr.mapUpdate]
 simp only [Sem.run_bind, run_underlying hT, MapKept.run_getObj_map hb, Result.andThen, run_checkKeyI hK, entsI, run_findKeyI hK]
 cases h1 : ((l.findIdx? (·.1 == k)).bind fun j => (l[j]?).map fun x => (0 + j, x.2.1)) with
 | some y => rw [h1] at hf; simp at hf
 | none =>
  simp [Sem.run, setObj, hb, ChangeMaps.setBlock, entI]
theorem run_deleteI {ty : TypeId} (hT : P.underlying T = some (.map K E)) (hK : P.underlying K = some (.int .i64)) (hb : w.heap[b]? = some (.map (entsI l) clk)) (k : Int) :
  (Builtin.delete_ #[T, K] ty #[.map (some b), .int .i64 k]).run P w = .ok (.tuple #[]) (ChangeMaps.setBlock w b (.map (entsI (l.eraseP (·.1 == k))) clk)) := by
 have h0 : (Builtin.delete_ #[T, K] ty #[.map (some b), .int .i64 k]) = (do
  let .map keyType _ ← underlying T | stuck "delete: map type expected"
  let .map es clock ← getObj b | stuck "delete: map expected"
  Instr.checkKey es.isEmpty 10000 keyType (.int .i64 k)
  match ← Instr.findKey keyType (.int .i64 k) es.toList with
  | some (i, _) => setObj b (.map (es.eraseIdxIfInBounds i) clock)
  | none => setObj b (.map es clock)
  pure (.tuple #[])) := rfl
 rw [h0]
 simp only [Sem.run_bind, run_underlying hT, MapKept.run_getObj_map hb, Result.andThen, run_checkKeyI hK, entsI, run_findKeyI hK]
 cases h1 : l.findIdx? (·.1 == k) with
 | none =>
  have h2 : l.eraseP (·.1 == k) = l := List.eraseP_of_forall_not (by simpa [List.findIdx?_eq_none_iff] using h1)
  simp [Sem.run, setObj, hb, ChangeMaps.setBlock, h2, Result.andThen]
 | some j =>
  have hj : j < l.length := (List.findIdx?_eq_some_iff_getElem.1 h1).1
  have h2 : l.eraseP (·.1 == k) = l.eraseIdx j := by rw [List.eraseP_eq_eraseIdx, h1]
  simp [Sem.run, setObj, hb, ChangeMaps.setBlock, h2, Result.andThen, hj, Array.eraseIdxIfInBounds, ChangeMaps.map_eraseIdx]
theorem run_lenI {ty : TypeId} (hT : P.underlying T = some (.map K E)) (hb : w.heap[b]? = some (.map (entsI l) clk)) :
  (Builtin.len_ #[T] ty #[.map (some b)]).run P w = .ok (.int .i64 l.length) w := by
 simp [Builtin.len_, run_underlying hT, MapKept.run_getObj_map hb, goInt, Result.andThen, entsI]
theorem wpList_deleteI {ops : Array Oper} {rest : List Oper} {o : Oper} {a : Act} {Q : Exit → Act → World → Prop} (hg : o.guard = none) (x y : Operand)
  (hop : o.op = Op.call { callee := Callee.builtin Builtin.delete, args := #[x, y], argTypes := #[T, K] })
  (hT : P.underlying T = some (.map K E)) (hK : P.underlying K = some (.int .i64)) (hx : a.eval x = .map (some b)) (hb : w.heap[b]? = some (.map (entsI l) clk)) (k : Int) (hy : a.eval y = .int .i64 k)
  (h : ∀ w', Hid (w' = ChangeMaps.setBlock w b (.map (entsI (l.eraseP (·.1 == k))) clk)) → wpList P ops Q rest (a.put o.dst (.tuple #[])) w') :
  wpList P ops Q (o :: rest) a w := by
 refine wpList_plain hg fun K' hK' => ?_
 have hrun := run_deleteI (P := P) (ty := o.type) hT hK hb k
 unfold Oper.wp
 simp [execOp, hop, resolve, invoke, builtin, hx, hy, hrun, Result.andThen]
 exact hK' _ _ (h _ rfl)
end
theorem St.grow {B : Nat} {w0 w w' : World} {H : List (Nat × Obj)} (h : St B w0 w H) (hb : Below w.heap.size w w') : St B w0 w' H :=
 ⟨h.below.trans (hb.mono h.base), Nat.le_trans h.base hb.size, h.nodup, fun p hm => ⟨(h.at_ p hm).1, (hb.block _ (St.lt (o := p.2) h hm)).trans (h.at_ p hm).2⟩⟩
theorem new_below (w : World) (o : Obj) : Below w.heap.size w (w.alloc o) := (Below.refl _ w).alloc (Nat.le_refl _) o
theorem drew_b (w : World) : Below w.heap.size w w.drew := ⟨rfl, rfl, rfl, Nat.le_refl _, fun _ _ => rfl⟩
theorem cellUp {w w' : World} {b o : Nat} {v : Value} (h : w.cell? ⟨b, o, none⟩ = some v) (hb : Below w.heap.size w w') : w'.cell? ⟨b, o, none⟩ = some v := (hb.cell (World.block_lt_of_cell? w _ h)).trans h
theorem St.join {B : Nat} {w0 w w1 : World} {X Y : List (Nat × Obj)} (h : St B w0 w X) (k : St w.heap.size w w1 Y) : St B w0 w1 (X ++ Y) := by
 refine ⟨h.below.trans (k.below.mono h.base), Nat.le_trans h.base k.base, ?_, ?_⟩
 ·rw [List.map_append, List.nodup_append]
  refine ⟨h.nodup, k.nodup, fun x hx y hy => ?_⟩
  obtain ⟨p, hp, rfl⟩ := List.mem_map.1 hx
  obtain ⟨q, hq, rfl⟩ := List.mem_map.1 hy
  have h1 := h.lt (b := p.1) (o := p.2) hp
  have h2 := (k.at_ q hq).1
  omega
 ·intro p hp
  rcases List.mem_append.1 hp with hp | hp
  ·exact ⟨(h.at_ p hp).1, (k.below.block _ (h.lt (b := p.1) (o := p.2) hp)).trans (h.at_ p hp).2⟩
  ·exact ⟨Nat.le_trans h.base (k.at_ p hp).1, (k.at_ p hp).2⟩
theorem goesIn {P : Program} {f : FuncId} {fn : Func} {c : Code} (h1 : P.funcs[f]? = some fn) (h2 : (fn.name == "runtime.NumGoroutine") = false) (h3 : fn.body = some c) (args : Array Value) (w : World) :
  (callFunc f args).run P w = .ok (.enter f args) w := by
 have h4 : fn.name ≠ "runtime.NumGoroutine" := by simpa using h2
 simp [callFunc, h1, h4, h3, mark]
def Read (P : Program) (w : World) (t : TypeId) (cs : List Value) : Prop :=
 ∃ (H : Type) (enc : TypeId × Value → H) (base : Nat) (spare : Nat → Bool) (held : Bool) (fuel : Nat) (x : DataW H × List MemPlace), DataW.trod enc P w base spare held fuel t cs = some x
section
variable {P : Program} {w : World} {t e : TypeId} {cs : List Value}
theorem Read.int {k : IntKind} (ht : P.underlying t = some (.int k)) (h : Read P w t cs) : ∃ n, cs = [.int k n] ∧ (Lit.int k n).wf = true := by
 obtain ⟨_, _, _, _, _, _, _, h⟩ := h
 obtain ⟨n, h1, _, h2⟩ := Go.DataW.trod_int ht h
 exact ⟨n, h1, h2⟩
theorem Read.bool (ht : P.underlying t = some .bool) (h : Read P w t cs) : ∃ b, cs = [.bool b] := by
 obtain ⟨_, _, _, _, _, _, _, h⟩ := h
 obtain ⟨b, h1, _⟩ := Go.DataW.trod_bool ht h
 exact ⟨b, h1⟩
theorem Read.string (ht : P.underlying t = some .string) (h : Read P w t cs) : ∃ s : ByteArray, cs = [.string s] ∧ s.size ≤ maxLen := by
 obtain ⟨_, _, _, _, _, _, _, h⟩ := h
 obtain ⟨s, h1, _, h2⟩ := Go.DataW.trod_string ht h
 exact ⟨s, h1, h2⟩
theorem Read.struct {fs : Array Field} (ht : P.underlying t = some (.struct fs)) (h : Read P w t cs) :
  cs.length = P.cellsOf t ∧ ∀ (i : Nat) (f : Field), fs[i]? = some f → Read P w f.type ((cs.drop f.offset).take (P.cellsOf f.type)) := by
 obtain ⟨H, enc, b, sp, held, _, _, h⟩ := h
 obtain ⟨ys, n, _, _, h1, h2, hg⟩ := Go.DataW.trod_struct ht h
 refine ⟨h1, fun i f hf => ?_⟩
 have hi : i < ys.length := by
  have := (Array.getElem?_eq_some_iff.1 hf).1
  omega
 exact ⟨H, enc, b, sp, held, n, ys[i], (hg i f hf).trans (List.getElem?_eq_getElem hi)⟩
structure RowsAt (P : Program) (w : World) (e : TypeId) (a : Option Addr) (len : Nat) (rd : Nat → List Value) : Prop where
 top : len ≤ maxLen
 at_ : ∀ i, i < len → Read P w e (rd i) ∧ (rd i).length = P.cellsOf e ∧ ∃ b off, a = some ⟨b, off, none⟩ ∧ ∀ j u, (rd i)[j]? = some u → w.cell? ⟨b, off + i * P.cellsOf e + j, none⟩ = some u
theorem Read.slice {a : Option Addr} {len cap : Nat} (ht : P.underlying t = some (.slice e)) (hc : 0 < P.cellsOf e) (h : Read P w t [.slice a len cap]) : ∃ rd, RowsAt P w e a len rd := by
 obtain ⟨H, enc, b, sp, held, _, _, h⟩ := h
 rcases Go.Deep.open_slice ht h with ⟨hcs, _⟩ | ⟨a', len', cap', m, fuel', D, Pl, hcs, _, hl, hm, hmm, _, hi⟩
 ·simp at hcs
  obtain ⟨rfl, rfl, rfl⟩ := hcs
  exact ⟨fun _ => [], Nat.zero_le _, fun i hi => by omega⟩
 ·simp at hcs
  obtain ⟨rfl, rfl, rfl⟩ := hcs
  have hlm : len ≤ m := by rw [hmm]; split <;> omega
  have key : ∀ i, ∃ cs, i < len → Read P w e cs ∧ cs.length = P.cellsOf e ∧ ∃ b off, (some a' : Option Addr) = some ⟨b, off, none⟩ ∧ ∀ j u, cs[j]? = some u → w.cell? ⟨b, off + i * P.cellsOf e + j, none⟩ = some u := by
   intro i
   by_cases hil : i < len
   ·obtain ⟨cs, hcs, hr⟩ := hi i (by omega)
    obtain ⟨_, hlc, hat⟩ := World.cells?_some hcs
    obtain ⟨bb, off, spot⟩ := a'
    have hspot : spot = none := by
     obtain ⟨_, hc', _⟩ := hi 0 (by omega)
     obtain ⟨_, hl', hat'⟩ := World.cells?_some hc'
     have cz := (hat' 0 hc).trans (List.getElem?_eq_getElem (by omega))
     simpa [Addr.add] using World.cell?_spot cz
    subst hspot
    refine ⟨cs, fun _ => ⟨⟨H, enc, b, sp, held, _, _, hr⟩, hlc, bb, off, rfl, fun j u hj => ?_⟩⟩
    have hjl : j < P.cellsOf e := by rw [← hlc]; exact (List.getElem?_eq_some_iff.1 hj).1
    have := hat j hjl
    rw [Go.WideShapes.add_plain, Go.WideShapes.add_plain] at this
    exact this.trans hj
   ·exact ⟨[], fun h => absurd h hil⟩
  exact ⟨fun i => (key i).choose, by omega, fun i hil => (key i).choose_spec hil⟩
theorem RowsAt.cell {a : Option Addr} {len : Nat} {rd : Nat → List Value} (h : RowsAt P w e a len rd) {w' : World} (hb : Below w.heap.size w w') {i : Nat} (hi : i < len) :
  ∃ b off, a = some ⟨b, off, none⟩ ∧ ∀ j u, (rd i)[j]? = some u → w'.cell? ⟨b, off + i * P.cellsOf e + j, none⟩ = some u := by
 obtain ⟨_, _, b, off, ha, hc⟩ := h.at_ i hi
 exact ⟨b, off, ha, fun j u hj => (hb.cell (p := ⟨b, off + i * P.cellsOf e + j, none⟩) (World.block_lt_of_cell? w _ (hc j u hj))).trans (hc j u hj)⟩
end
def cls (n : Int) : Int := if n ≤ 0 then 0 else if n ≤ 32 then 32 else if n ≤ 64 then 64 else if n ≤ 128 then 128 else if n ≤ 256 then 256 else 0
theorem cls_le (n : Int) : 0 ≤ cls n ∧ cls n ≤ 256 := by unfold cls; repeat' split <;> omega
def u8v (c : UInt8) : Value := .int .u8 c.toNat
abbrev Chain := List (Nat × List UInt8)
def headP : Chain → Value
 | [] => .pointer none
 | (b, _) :: _ => .pointer (some ⟨b, 0, none⟩)
def cellObj (cs : List UInt8) (next : Value) : Obj := .cells ((cs.map u8v ++ [next]).toArray) 232
def cellsH : Chain → List (Nat × Obj)
 | [] => []
 | (b, cs) :: r => (b, cellObj cs (headP r)) :: cellsH r
theorem perm_pull {α : Type} (x y : α) (L M F : List α) : (x :: (L ++ (y :: M) ++ F)).Perm (y :: x :: (L ++ M ++ F)) := by
 have h : (L ++ (y :: M) ++ F).Perm (y :: (L ++ M ++ F)) := by
  rw [List.append_assoc, List.append_assoc]
  exact List.perm_middle
 exact (h.cons x).trans (.swap _ _ _)
theorem headP_ptr (c : Chain) : ∃ p, headP c = .pointer p := by
 cases c with
 | nil => exact ⟨_, rfl⟩
 | cons x r => exact ⟨_, rfl⟩
def headT : Chain → Value → Value
 | [], v => v
 | (b, _) :: _, _ => .pointer (some ⟨b, 0, none⟩)
def cellsT : Chain → Value → List (Nat × Obj)
 | [], _ => []
 | (b, cs) :: r, v => (b, cellObj cs (headT r v)) :: cellsT r v
theorem headT_nil (c : Chain) : headT c (.pointer none) = headP c := by cases c <;> rfl
theorem headT_append (c d : Chain) (v : Value) : headT (c ++ d) v = headT c (headT d v) := by cases c <;> rfl
theorem cellsT_nil : ∀ c : Chain, cellsT c (.pointer none) = cellsH c
 | [] => rfl
 | (b, cs) :: r => by simp only [cellsT, cellsH, headT_nil, cellsT_nil r]
theorem cellsT_append : ∀ (c d : Chain) (v : Value), cellsT (c ++ d) v = cellsT c (headT d v) ++ cellsT d v
 | [], _, _ => rfl
 | (b, cs) :: r, d, v => by simp only [List.cons_append, cellsT, headT_append, cellsT_append r d v]
theorem headP_append (c d : Chain) : headP (c ++ d) = headT c (headP d) := by cases c <;> rfl
theorem cellsH_append (c d : Chain) : cellsH (c ++ d) = cellsT c (headP d) ++ cellsH d := by
 rw [← cellsT_nil, cellsT_append, headT_nil, cellsT_nil]
theorem mem_cellsH {l1 l2 : Chain} {b : Nat} {cs : List UInt8} : (b, cellObj cs (headP l2)) ∈ cellsH (l1 ++ (b, cs) :: l2) := by
 rw [cellsH_append]
 simp [cellsH]
structure BodyG where
 h : Int
 blk : Nat
 born : Nat
 cells : Chain
 size : Int
 held : Int
def BodyG.ent (b : BodyG) : Int × Value × Nat := (b.h, .pointer (some ⟨b.blk, 0, none⟩), b.born)
def BodyG.obj (b : BodyG) : Obj := .cells #[headP b.cells, .int .i64 b.size, .int .i64 b.held] 146
def BodyG.heap (b : BodyG) : List (Nat × Obj) := (b.blk, b.obj) :: cellsH b.cells
def BodyG.text (b : BodyG) : List UInt8 := (b.cells.flatMap (·.2)).take b.size.toNat
structure SlabG where
 sb : Nat
 free : Int
 last : Int
 spare : Chain
 mb : Option Nat
 clk : Nat
 bs : List BodyG
def SlabG.obj (g : SlabG) : Obj := .cells #[.int .i64 g.free, .int .i64 g.last, headP g.spare, .map g.mb] 144
def SlabG.mapH (g : SlabG) : List (Nat × Obj) := match g.mb with | none => [] | some m => [(m, .map (entsI (g.bs.map BodyG.ent)) g.clk)]
def SlabG.heap (g : SlabG) : List (Nat × Obj) := (g.sb, g.obj) :: (g.mapH ++ (cellsH g.spare ++ g.bs.flatMap BodyG.heap))
def SlabG.seek (g : SlabG) (k : Int) : Option BodyG := g.bs.find? (·.h == k)
structure BodyG.Wf (b : BodyG) : Prop where
 full : ∀ c ∈ b.cells, c.2.length = 32
 cells : (b.cells.length : Int) * 32 = cls b.size
 size0 : 0 ≤ b.size
 size1 : b.size ≤ 256
 held : 1 ≤ b.held
structure SlabG.Wf (g : SlabG) : Prop where
 nomap : g.mb = none → g.bs = []
 spare : ∀ c ∈ g.spare, c.2.length = 32
 bodies : ∀ b ∈ g.bs, b.Wf ∧ 1 ≤ b.h ∧ b.h ≤ g.last
 keys : (g.bs.map (·.h)).Nodup
 free0 : 0 ≤ g.free
 free1 : g.free ≤ 100000
 last0 : 0 ≤ g.last
 many : g.bs.length ≤ 400
theorem seekI_bodies (bs : List BodyG) (k : Int) : seekI (bs.map BodyG.ent) k = (bs.find? (·.h == k)).map BodyG.ent := by
 unfold seekI
 rw [List.find?_map]
 rfl
theorem SlabG.mem_of_seek {g : SlabG} {k : Int} {b : BodyG} (h : g.seek k = some b) : b ∈ g.bs ∧ b.h = k :=
 ⟨List.mem_of_find?_eq_some h, by simpa using List.find?_some h⟩
theorem SlabG.heap_of_mem {g : SlabG} {b : BodyG} (h : b ∈ g.bs) {F : List (Nat × Obj)} : (b.blk, b.obj) ∈ g.heap ++ F := by
 simp only [SlabG.heap, List.cons_append, List.mem_cons, List.mem_append, List.mem_flatMap]
 exact .inr (.inl (.inr (.inr ⟨b, h, by simp [BodyG.heap]⟩)))
theorem SlabG.mapH_some {g : SlabG} {m : Nat} (h : g.mb = some m) : g.mapH = [(m, .map (entsI (g.bs.map BodyG.ent)) g.clk)] := by
 simp [SlabG.mapH, h]
theorem SlabG.Wf.map {g : SlabG} (h : g.Wf) {b : BodyG} (hb : b ∈ g.bs) : ∃ m, g.mb = some m := by
 cases hm : g.mb with
 | some m => exact ⟨m, rfl⟩
 | none => rw [h.nomap hm] at hb; simp at hb
def SlabG.upd (g : SlabG) (k : Int) (f : BodyG → BodyG) : SlabG := { g with bs := g.bs.map fun b => if b.h = k then f b else b }
theorem SlabG.split {g : SlabG} {k : Int} {b : BodyG} (hn : (g.bs.map (·.h)).Nodup) (hs : g.seek k = some b) :
  ∃ l1 l2, g.bs = l1 ++ b :: l2 ∧ (∀ x ∈ l1, x.h ≠ k) ∧ (∀ x ∈ l2, x.h ≠ k) ∧ b.h = k := by
 obtain ⟨hm, hk⟩ := SlabG.mem_of_seek hs
 obtain ⟨l1, l2, hb⟩ := List.append_of_mem hm
 refine ⟨l1, l2, hb, ?_, ?_, hk⟩
 ·intro x hx e
  rw [hb] at hn
  simp only [List.map_append, List.map_cons] at hn
  exact (List.nodup_append.1 hn).2.2 x.h (List.mem_map_of_mem hx) b.h (by simp) (e.trans hk.symm)
 ·intro x hx e
  rw [hb] at hn
  simp only [List.map_append, List.map_cons] at hn
  exact (List.nodup_cons.1 (List.nodup_append.1 hn).2.1).1 (by rw [hk, ← e]; exact List.mem_map_of_mem hx)
theorem map_if_ne {k : Int} {f : BodyG → BodyG} : ∀ {l : List BodyG}, (∀ x ∈ l, x.h ≠ k) → l.map (fun b => if b.h = k then f b else b) = l
 | [], _ => rfl
 | x :: l, h => by
  have ih : l.map (fun b => if b.h = k then f b else b) = l := map_if_ne (fun y hy => h y (List.mem_cons_of_mem _ hy))
  simp only [List.map_cons, if_neg (h x List.mem_cons_self), ih]
def SlabG.cut (g : SlabG) (k : Int) (b : BodyG) : SlabG := { g with free := g.free + cls b.size, spare := b.cells ++ g.spare, bs := g.bs.eraseP (·.h == k) }
theorem eraseP_split {k : Int} {b : BodyG} : ∀ {l1 l2 : List BodyG}, (∀ x ∈ l1, x.h ≠ k) → b.h = k → (l1 ++ b :: l2).eraseP (·.h == k) = l1 ++ l2
 | [], _, _, hb => by simp [hb]
 | x :: l1, l2, h, hb => by
  have h1 : (x.h == k) = false := by simpa using h x List.mem_cons_self
  rw [List.cons_append, List.eraseP_cons, h1, eraseP_split (fun y hy => h y (List.mem_cons_of_mem _ hy)) hb]
  rfl
def SlabG.pre (g : SlabG) (l1 : List BodyG) : List (Nat × Obj) := (g.sb, g.obj) :: (g.mapH ++ (cellsH g.spare ++ l1.flatMap BodyG.heap))
def SlabG.post (b : BodyG) (l2 : List BodyG) (F : List (Nat × Obj)) : List (Nat × Obj) := cellsH b.cells ++ (l2.flatMap BodyG.heap ++ F)
theorem SlabG.heap_split {g : SlabG} {l1 l2 : List BodyG} {b : BodyG} (hb : g.bs = l1 ++ b :: l2) (F : List (Nat × Obj)) :
  g.heap ++ F = g.pre l1 ++ (b.blk, b.obj) :: SlabG.post b l2 F := by
 simp [SlabG.heap, SlabG.pre, SlabG.post, hb, BodyG.heap]
theorem SlabG.upd_heap {g : SlabG} {l1 l2 : List BodyG} {b : BodyG} {k : Int} (hb : g.bs = l1 ++ b :: l2) (h1 : ∀ x ∈ l1, x.h ≠ k) (h2 : ∀ x ∈ l2, x.h ≠ k) (hk : b.h = k) {f : BodyG → BodyG}
  (hent : (f b).ent = b.ent) (hcells : (f b).cells = b.cells) (F : List (Nat × Obj)) :
  (g.upd k f).heap ++ F = g.pre l1 ++ (b.blk, (f b).obj) :: SlabG.post b l2 F := by
 have hbs : (g.upd k f).bs = l1 ++ f b :: l2 := by
  simp [SlabG.upd, hb, map_if_ne h1, map_if_ne h2, hk]
 have hmap : (g.upd k f).mapH = g.mapH := by
  unfold SlabG.mapH
  rw [hbs, hb]
  simp only [List.map_append, List.map_cons, hent]
  rfl
 have hblk : (f b).blk = b.blk := by
  have := congrArg (fun x => x.2.1) hent
  simpa [BodyG.ent] using this
 rw [SlabG.heap_split hbs]
 simp only [SlabG.pre, SlabG.post, hmap, hcells, hblk]
 rfl
theorem SlabG.upd_wf {g : SlabG} (wf : g.Wf) {k : Int} {f : BodyG → BodyG} (hf : ∀ b ∈ g.bs, b.h = k → b.Wf → (f b).Wf ∧ (f b).h = b.h) : (g.upd k f).Wf := by
 have hh : (g.upd k f).bs.map (·.h) = g.bs.map (·.h) := by
  simp only [SlabG.upd, List.map_map]
  refine List.map_congr_left fun b hb => ?_
  simp only [Function.comp]
  split
  ·rename_i h
   exact (hf b hb h (wf.bodies b hb).1).2
  ·rfl
 refine ⟨fun h => ?_, wf.spare, fun b hb => ?_, by rw [hh]; exact wf.keys, wf.free0, wf.free1, wf.last0, ?_⟩
 ·simp [SlabG.upd, wf.nomap h]
 ·obtain ⟨b0, hb0, rfl⟩ := List.mem_map.1 hb
  obtain ⟨w1, w2, w3⟩ := wf.bodies b0 hb0
  by_cases h : b0.h = k
  ·obtain ⟨x1, x2⟩ := hf b0 hb0 h w1
   rw [if_pos h]
   exact ⟨x1, by rw [x2]; exact w2, by rw [x2]; exact w3⟩
  ·rw [if_neg h]
   exact ⟨w1, w2, w3⟩
 ·simpa [SlabG.upd] using wf.many
theorem SlabG.upd_wf' {g : SlabG} (wf : g.Wf) {k : Int} {b : BodyG} (hs : g.seek k = some b) {f : BodyG → BodyG} (hf : (f b).Wf) (hh : (f b).h = b.h) : (g.upd k f).Wf := by
 obtain ⟨l1, l2, hbs, e1, e2, ek⟩ := SlabG.split wf.keys hs
 refine SlabG.upd_wf wf fun x hx hk _ => ?_
 have : x = b := by
  rw [hbs] at hx
  rcases List.mem_append.1 hx with hx | hx
  ·exact absurd hk (e1 x hx)
  ·rcases List.mem_cons.1 hx with rfl | hx
   ·rfl
   ·exact absurd hk (e2 x hx)
 subst this
 exact ⟨hf, hh⟩
abbrev ptr (b : Nat) : Value := .pointer (some ⟨b, 0, none⟩)
theorem uBodies : Tryz.prog.underlying 142 = some (.map 3 139) := by kernel_rfl
theorem uInt : Tryz.prog.underlying 3 = some (.int .i64) := by kernel_rfl
theorem zpBody (w : World) : (zeroValue 139).run Tryz.prog w = .ok (.pointer none) w := by kernel_rfl
section
variable {B : Nat} {w0 w : World} {g : SlabG} {F : List (Nat × Obj)}
theorem St.slab (h : St B w0 w (g.heap ++ F)) : St B w0 w ((g.sb, g.obj) :: (g.mapH ++ (cellsH g.spare ++ g.bs.flatMap BodyG.heap) ++ F)) := h
theorem St.s0 (h : St B w0 w (g.heap ++ F)) : w.cell? ⟨g.sb, 0, none⟩ = some (.int .i64 g.free) := h.slab.cell List.mem_cons_self rfl
theorem St.s1 (h : St B w0 w (g.heap ++ F)) : w.cell? ⟨g.sb, 1, none⟩ = some (.int .i64 g.last) := h.slab.cell List.mem_cons_self rfl
theorem St.s2 (h : St B w0 w (g.heap ++ F)) : w.cell? ⟨g.sb, 2, none⟩ = some (headP g.spare) := h.slab.cell List.mem_cons_self rfl
theorem St.s3 (h : St B w0 w (g.heap ++ F)) : w.cell? ⟨g.sb, 3, none⟩ = some (.map g.mb) := h.slab.cell List.mem_cons_self rfl
theorem St.sf (h : St B w0 w (g.heap ++ F)) (i : Nat) : w.frozen? ⟨g.sb, i, none⟩ = false := h.slab.soft List.mem_cons_self i
theorem St.mapAt (h : St B w0 w (g.heap ++ F)) {m : Nat} (hm : g.mb = some m) : w.heap[m]? = some (.map (entsI (g.bs.map BodyG.ent)) g.clk) :=
 h.get (b := m) (by simp [SlabG.heap, SlabG.mapH_some hm])
theorem St.b0 (h : St B w0 w (g.heap ++ F)) {b : BodyG} (hb : b ∈ g.bs) : w.cell? ⟨b.blk, 0, none⟩ = some (headP b.cells) := h.cell (SlabG.heap_of_mem hb) rfl
theorem St.b1 (h : St B w0 w (g.heap ++ F)) {b : BodyG} (hb : b ∈ g.bs) : w.cell? ⟨b.blk, 1, none⟩ = some (.int .i64 b.size) := h.cell (SlabG.heap_of_mem hb) rfl
theorem St.b2 (h : St B w0 w (g.heap ++ F)) {b : BodyG} (hb : b ∈ g.bs) : w.cell? ⟨b.blk, 2, none⟩ = some (.int .i64 b.held) := h.cell (SlabG.heap_of_mem hb) rfl
theorem St.bf (h : St B w0 w (g.heap ++ F)) {b : BodyG} (hb : b ∈ g.bs) (i : Nat) : w.frozen? ⟨b.blk, i, none⟩ = false := h.soft (SlabG.heap_of_mem hb) i
theorem St.look_some (h : St B w0 w (g.heap ++ F)) (wf : g.Wf) {k : Int} {b : BodyG} (hs : g.seek k = some b) :
  (Instr.lookup 142 (.map g.mb) (.int .i64 k) true).run Tryz.prog w = .ok (.tuple #[ptr b.blk, .bool true]) w := by
 obtain ⟨m, hm⟩ := wf.map (SlabG.mem_of_seek hs).1
 rw [hm, run_lookupI uBodies uInt (zpBody w) (h.mapAt hm) k, seekI_bodies]
 unfold SlabG.seek at hs
 rw [hs]
 rfl
theorem St.look_none (h : St B w0 w (g.heap ++ F)) {k : Int} (hs : g.seek k = none) :
  (Instr.lookup 142 (.map g.mb) (.int .i64 k) true).run Tryz.prog w = .ok (.tuple #[.pointer none, .bool false]) w := by
 cases hm : g.mb with
 | none => exact run_lookupI_nil uBodies uInt (zpBody w) k
 | some m =>
  rw [run_lookupI uBodies uInt (zpBody w) (h.mapAt hm) k, seekI_bodies]
  unfold SlabG.seek at hs
  rw [hs]
  rfl
theorem St.len (h : St B w0 w (g.heap ++ F)) (wf : g.Wf) (ty : TypeId) : (Builtin.len_ #[142] ty #[.map g.mb]).run Tryz.prog w = .ok (.int .i64 g.bs.length) w := by
 cases hm : g.mb with
 | none =>
  rw [wf.nomap hm]
  exact Maps.len_nil uBodies ty
 | some m =>
  rw [run_lenI uBodies (h.mapAt hm)]
  simp
set_option maxHeartbeats 400000 in
theorem live_ok (h : St B w0 w (g.heap ++ F)) (wf : g.Wf) : Calls Tryz.prog 23 #[ptr g.sb] w fun e w' => e = .returned (.int .i64 g.bs.length) ∧ w = w' := by
 have h0 := h.s3
 have hl := h.len wf
 go_enter Tryz.func23, Tryz.ntmps23
 go_wp2
 go_ret
 exact ⟨rfl, rfl⟩
set_option maxHeartbeats 400000 in
theorem hold_none (h : St B w0 w (g.heap ++ F)) {k : Int} (hs : g.seek k = none) : Calls Tryz.prog 359 #[ptr g.sb, .int .i64 k] w fun e w' => e = .returned (.int .i64 13) ∧ w = w' := by
 have h0 := h.s3
 have hl := h.look_none hs
 clear hs
 go_enter Tryz.func359, Tryz.ntmps359
 go_wp2
 go_ret
 exact ⟨rfl, rfl⟩
def BodyG.more (b : BodyG) : BodyG := { b with held := b.held + 1 }
set_option maxHeartbeats 400000 in
theorem hold_some (h : St B w0 w (g.heap ++ F)) (wf : g.Wf) {k : Int} {b : BodyG} (hs : g.seek k = some b) (hb : b.held < 9223372036854775807) :
  Calls Tryz.prog 359 #[ptr g.sb, .int .i64 k] w fun e w' => e = .returned (.int .i64 0) ∧ St B w0 w' ((g.upd k BodyG.more).heap ++ F) := by
 have h0 := h.s3
 have hl := h.look_some wf hs
 obtain ⟨l1, l2, hbs, e1, e2, ek⟩ := SlabG.split wf.keys hs
 have hm := (SlabG.mem_of_seek hs).1
 have h2 := h.b2 hm
 have hf := h.bf hm 2
 have hh := (wf.bodies b hm).1.held
 have HF : Hid (St B w0 (w.setCell ⟨b.blk, 2, none⟩ (.int .i64 (b.held + 1))) ((g.upd k BodyG.more).heap ++ F)) := by
  rw [SlabG.upd_heap hbs e1 e2 ek (f := BodyG.more) rfl rfl]
  rw [SlabG.heap_split hbs] at h
  exact h.set 2 _
 clear hs hbs ek h wf e1 e2 hm
 go_enter Tryz.func359, Tryz.ntmps359
 go_wp2
 go_ret
 exact ⟨rfl, HF.out⟩
end
set_option maxHeartbeats 400000 in
theorem class_any (n : Int) (w : World) : Calls Tryz.prog 95 #[.int .i64 n] w fun e w' => e = .returned (.int .i64 (cls n)) ∧ w = w' := by
 go_enter Tryz.func95, Tryz.ntmps95
 go_wp2
 refine wp_scope_label 0 (fun a' w' => w = w' ∧ 0 < n ∧ n ≤ 256 ∧ ∃ c : Int, Fr 16 [(0, .int .i64 n), (3, .int .i64 c)] a' ∧ (c = 32 ∨ c = 64 ∨ c = 128 ∨ c = 256) ∧ (c = 32 ∨ c < 2 * n)) (fun a' _ => (256 - intOf (a'.tmps.getD 3 undef)).toNat) rfl ?_ ?_
 ·rintro a' w' ⟨rfl, h0, h1, c, hf, hc, hc2⟩
  obtain ⟨f, rfl, hl⟩ := hf.lit
  clear hf
  simp only [List.mem_cons, List.not_mem_nil, or_false, forall_eq_or_imp, forall_eq] at hl
  obtain ⟨f0, f3⟩ := hl
  simp only [List.range, List.range.loop, List.map, f0, f3]
  clear f0 f3
  go_wp2
  ·refine wp_goto ?_
   refine ⟨rfl, ⟨rfl, h0, h1, c * 2, ⟨rfl, rfl, by simp⟩, by omega, by omega⟩, ?_⟩
   simp [intOf]
   omega
  ·simp only [Exit.jump]
   go_ret
   refine ⟨ret_int (a := c) ?_, rfl⟩
   unfold cls
   rcases hc with rfl | rfl | rfl | rfl
   ·simp only [if_neg (show ¬ n ≤ 0 by omega), if_pos (show n ≤ 32 by omega)]
   ·simp only [if_neg (show ¬ n ≤ 0 by omega), if_neg (show ¬ n ≤ 32 by omega), if_pos (show n ≤ 64 by omega)]
   ·simp only [if_neg (show ¬ n ≤ 0 by omega), if_neg (show ¬ n ≤ 32 by omega), if_neg (show ¬ n ≤ 64 by omega), if_pos (show n ≤ 128 by omega)]
   ·simp only [if_neg (show ¬ n ≤ 0 by omega), if_neg (show ¬ n ≤ 32 by omega), if_neg (show ¬ n ≤ 64 by omega), if_neg (show ¬ n ≤ 128 by omega), if_pos (show n ≤ 256 by omega)]
 ·intro H
  go_wp2
  ·simp only [Exit.jump]
   go_ret
   refine ⟨ret_int (a := 0) ?_, rfl⟩
   unfold cls
   rename_i h1 h2
   rcases h2 with h2 | h2
   ·omega
   ·simp only [if_neg (show ¬ n ≤ 0 by omega), if_neg (show ¬ n ≤ 32 by omega), if_neg (show ¬ n ≤ 64 by omega), if_neg (show ¬ n ≤ 128 by omega), if_neg (show ¬ n ≤ 256 by omega)]
  ·refine wp_label ?_
   go_step
   go_step
   refine H _ _ ⟨rfl, by omega, by omega, 32, ⟨rfl, rfl, by simp⟩, by omega, by omega⟩
  ·simp only [Exit.jump]
   go_ret
   refine ⟨ret_int (a := 0) ?_, rfl⟩
   unfold cls
   rw [if_pos (by assumption)]
theorem run_copy_str {P : Program} (w : World) (dT sT ty elem : TypeId) (g dLen dCap : Nat) (s : ByteArray) (cur : List Value) (t : TypeId) (n : Nat)
  (hu : P.underlying dT = some (.slice elem)) (hs : (P.info? elem).map (·.size) = some 1)
  (hg : w.heap[g]? = some (.cells cur.toArray t (0, 0))) (hn : n = Nat.min s.size dLen) (hfit : n ≤ cur.length) :
  (Builtin.copy_ #[dT, sT] ty #[.slice (some ⟨g, 0, none⟩) dLen dCap, .string s]).run P w =
   .ok (goInt n) (w.setRow g ((s.data.toList.take n).map u8v ++ cur.drop n).toArray) := by
 have hle : n ≤ s.size := by rw [hn]; exact Nat.min_le_left _ _
 have hle' : n ≤ s.data.toList.length := hle
 obtain ⟨cs, hcs⟩ : ∃ cs, cs = (s.data.toList.take n).map u8v := ⟨_, rfl⟩
 have hc : (s.extract 0 n).data.map (fun b => Value.int .u8 b.toNat) = cs.toArray := by
  apply Array.toList_inj.1
  rw [Array.toList_map, Lib.extract_data, hcs]
  simp
  rfl
 have hlen : cs.length = n := by rw [hcs, List.length_map, List.length_take]; omega
 have hone : ∀ v ∈ cs, v.oneCell' = true := by
  intro v hv
  rw [hcs] at hv
  obtain ⟨c, _, rfl⟩ := List.mem_map.1 hv
  rfl
 have hst := run_storeCells_at P g 0 t cs 0 cur.toArray w hg (by rw [hlen]; simpa using hfit) hone
 rw [← hcs]
 clear hcs
 cases hq : P.info? elem with
 | none => simp [hq] at hs
 | some i =>
  have hi : i.size = 1 := by simpa [hq] using hs
  have hf : (Builtin.firstCells 1 n (.string s)).run P w = .ok cs.toArray w := by
   show Sem.run P (pure ((s.extract 0 n).data.map fun b => Value.int .u8 b.toNat)) w = _
   rw [hc]
   rfl
  have hz : (sizeOf elem).run P w = .ok 1 w := by simp [sizeOf, typeInfo, hq, hi]
  have h0 : (Builtin.copy_ #[dT, sT] ty #[.slice (some ⟨g, 0, none⟩) dLen dCap, .string s]) = (do
   let .slice elem ← underlying dT | stuck "copy: slice type expected"
   let n := Nat.min (← Builtin.lenOf (.string s)) dLen
   let cells ← Builtin.firstCells (← sizeOf elem) n (.string s)
   storeCells ⟨g, 0, none⟩ cells.toList
   pure (goInt n)) := rfl
  rw [h0]
  simp only [Builtin.lenOf, Sem.run_bind, run_underlying hu, Result.andThen, Sem.run_pure, ← hn, hz, hf, hst]
  simp [hlen]
theorem step_copy_str {P : Program} {ops : Array Oper} {o : Oper} {a : Act} {w : World} {K : Act → World → Prop} {Q : Exit → Act → World → Prop} {E : Prop} (hgd : o.guard = none) (d s : Operand) (dT sT : TypeId)
  (ho : o.op = .call { callee := .builtin .copy, args := #[d, s], argTypes := #[dT, sT] }) (elem : TypeId) (hu : P.underlying dT = some (.slice elem)) (hsz : (P.info? elem).map (·.size) = some 1)
  (g dLen dCap : Nat) (b : ByteArray) (hd : a.eval d = .slice (some ⟨g, 0, none⟩) dLen dCap) (hs : a.eval s = .string b)
  (cur : List Value) (t : TypeId) (hg : w.heap[g]? = some (.cells cur.toArray t (0, 0))) (n : Nat) (hn : n = Nat.min b.size dLen) (hfit : n ≤ cur.length)
  (h : ∀ w', Hid (w' = w.setRow g ((b.data.toList.take n).map u8v ++ cur.drop n).toArray) → K (a.put o.dst (goInt n)) w') :
  if Region.wanted o (yielded ops a.tmps) = true then Oper.wp P o a w K Q else E := by
 have hw : Region.wanted o (yielded ops a.tmps) = true := by simp [Region.wanted, hgd]
 rw [if_pos hw]
 have hrun := run_copy_str (P := P) w dT sT o.type elem g dLen dCap b cur t n hu hsz hg hn hfit
 have h := h _ rfl
 generalize ((b.data.toList.take n).map u8v ++ cur.drop n).toArray = cs at h hrun
 unfold Oper.wp
 simp [execOp, ho, resolve, invoke, builtin, hd, hs, hrun, Result.andThen]
 exact h
theorem St.setRow0 {B : Nat} {w0 w : World} {b : Nat} {c : Array Value} {T : TypeId} {C : List (Nat × Obj)} (h : St B w0 w ((b, .cells c T) :: C)) (c' : Array Value) :
  St B w0 (w.setRow b c') ((b, .cells c' T) :: C) := by
 have hb := h.get (b := b) (o := .cells c T) (by simp)
 exact St.write (A := []) h (setRow_heap w b c c' T (0, 0) hb) (fun k hk => setRow_other w b k c' hk) (by simp [World.setRow]) rfl rfl rfl
def zero32 : List UInt8 := List.replicate 32 0
section
variable {B : Nat} {w0 w : World} {g : SlabG} {F : List (Nat × Obj)}
theorem uBytes : Tryz.prog.underlying 83 = some (.slice 5) := by kernel_rfl
theorem iU8 : (Tryz.prog.info? 5).map (·.size) = some 1 := by kernel_rfl
set_option maxHeartbeats 400000 in
theorem take_new (h : St B w0 w (g.heap ++ F)) (hs : g.spare = []) :
  Calls Tryz.prog 160 #[ptr g.sb] w fun e w' => e = .returned (ptr w.heap.size) ∧ St B w0 w' ((w.heap.size, cellObj zero32 (.pointer none)) :: (g.heap ++ F)) := by
 have h2 := h.s2
 rw [hs] at h2
 simp only [headP] at h2
 have HF : Hid (St B w0 (w.alloc (cellObj zero32 (.pointer none))) ((w.heap.size, cellObj zero32 (.pointer none)) :: (g.heap ++ F))) := h.alloc _
 clear h hs
 go_enter Tryz.func160, Tryz.ntmps160
 go_wp2
 go_ret
 exact ⟨rfl, HF.out⟩
set_option maxHeartbeats 400000 in
theorem take_old (h : St B w0 w (g.heap ++ F)) {b : Nat} {cs : List UInt8} {r : Chain} (hs : g.spare = (b, cs) :: r) (hc : cs.length = 32) :
  Calls Tryz.prog 160 #[ptr g.sb] w fun e w' => e = .returned (ptr b) ∧ St B w0 w' ((b, cellObj cs (headP r)) :: ({ g with spare := r }.heap ++ F)) := by
 have h2 := h.s2
 rw [hs] at h2
 simp only [headP] at h2
 have hf := h.sf 2
 have hm : (b, cellObj cs (headP r)) ∈ g.heap ++ F := by simp [SlabG.heap, hs, cellsH]
 have h32 : w.cell? ⟨b, 32, none⟩ = some (headP r) := h.cell hm (by simp [hc])
 have HF : Hid (St B w0 (w.setCell ⟨g.sb, 2, none⟩ (headP r)) ((b, cellObj cs (headP r)) :: ({ g with spare := r }.heap ++ F))) := by
  have h1 := h.slab.set0 2 (headP r)
  rw [hs] at h1
  exact h1.perm (perm_pull _ _ g.mapH _ F)
 clear h hs hm
 obtain ⟨p, hp⟩ := headP_ptr r
 rw [hp] at h32
 rw [hp] at HF
 rw [hp]
 clear hp
 go_enter Tryz.func160, Tryz.ntmps160
 go_wp2
 go_ret
 exact ⟨rfl, HF.out⟩
def Full (c : Chain) : Prop := ∀ x ∈ c, x.2.length = 32
theorem full_nil : Full [] := fun _ hx => absurd hx (List.not_mem_nil)
theorem zero32_len : zero32.length = 32 := List.length_replicate
theorem sbTake_any (h : St B w0 w (g.heap ++ F)) (hs : Full g.spare) :
  Calls Tryz.prog 160 #[ptr g.sb] w fun e w' => ∃ b cs nx sp, e = .returned (ptr b) ∧ cs.length = 32 ∧ Full sp ∧ St B w0 w' ((b, cellObj cs nx) :: ({ g with spare := sp }.heap ++ F)) := by
 cases hsp : g.spare with
 | nil =>
  refine (take_new h hsp).mono fun e w' ⟨he, hw⟩ => ⟨_, zero32, .pointer none, [], he, zero32_len, full_nil, ?_⟩
  have : ({ g with spare := [] } : SlabG) = g := by rw [← hsp]
  rw [this]
  exact hw
 | cons x r =>
  obtain ⟨b, cs⟩ := x
  rw [hsp] at hs
  exact (take_old h hsp (hs (b, cs) (by simp))).mono fun e w' ⟨he, hw⟩ => ⟨_, _, _, r, he, hs (b, cs) (by simp), fun x hx => hs x (by simp [hx]), hw⟩
theorem cellObj_set (cs : List UInt8) (v v' : Value) (hc : cs.length = 32) : (.cells (((cs.map u8v ++ [v]).toArray).setIfInBounds 32 v') 232 : Obj) = cellObj cs v' := by
 unfold cellObj
 congr 1
 simp [hc]
theorem cellObj_copy (cs s : List UInt8) (v : Value) (n : Nat) (hc : cs.length = 32) (hn : n ≤ 32) :
  (.cells ((s.take n).map u8v ++ (cs.map u8v ++ [v]).drop n).toArray 232 : Obj) = cellObj (s.take n ++ cs.drop n) v := by
 unfold cellObj
 congr 2
 rw [List.drop_append_of_le_length (by simp; omega)]
 simp
theorem piece_step (s cs : List UInt8) (acc : List UInt8) (k n : Nat) (hn : n = min (s.length - 32 * k) 32) (hcs : cs.length = 32) (hacc : acc.take (s.length - 32 * (k + 1)) = s.drop (32 * (k + 1))) :
  (((s.drop (32 * k)).take n ++ cs.drop n) ++ acc).take (s.length - 32 * k) = s.drop (32 * k) := by
 by_cases h : s.length - 32 * k ≤ 32
 ·have : n = s.length - 32 * k := by omega
  have hl : (s.drop (32 * k)).length = n := by rw [List.length_drop]; omega
  rw [List.append_assoc, List.take_append_of_le_length (by rw [List.length_take]; omega), List.take_take]
  rw [show min (s.length - 32 * k) n = (s.drop (32 * k)).length by omega, List.take_length]
 ·have : n = 32 := by omega
  subst this
  have hl : ((s.drop (32 * k)).take 32).length = 32 := by rw [List.length_take, List.length_drop]; omega
  rw [List.drop_of_length_le (l := cs) (by omega), List.append_nil, List.take_append, hl]
  rw [show s.length - 32 * k - 32 = s.length - 32 * (k + 1) by omega, hacc, List.take_of_length_le (by omega)]
  rw [show 32 * (k + 1) = 32 * k + 32 by omega, ← List.drop_drop, List.take_append_drop]
def Wrote (B : Nat) (w0 : World) (g : SlabG) (F : List (Nat × Obj)) (s : List UInt8) (k : Nat) (acc sp : Chain) (w' : World) : Prop :=
 St B w0 w' ({ g with spare := sp }.heap ++ (cellsH acc ++ F)) ∧ Full sp ∧ Full acc ∧ ((acc.length + k : Nat) : Int) * 32 = cls s.length ∧ (acc.flatMap (·.2)).take (s.length - 32 * k) = s.drop (32 * k)
theorem cell_fit {cs : List UInt8} (hc : cs.length = 32) (v : Value) (m : Nat) : Nat.min m 32 ≤ (cs.map u8v ++ [v]).length := by
 have := Nat.min_le_right m 32
 simp only [List.length_append, List.length_map, hc, List.length_cons, List.length_nil]
 exact Nat.le_succ_of_le this
theorem wrote_next {s : List UInt8} {k b : Nat} {cs : List UInt8} {nx : Value} {acc sp : Chain} (h : St B w0 w ((b, cellObj cs nx) :: ({ g with spare := sp }.heap ++ (cellsH acc ++ F)))) (hc : cs.length = 32)
  (h1 : Full sp) (h2 : Full acc) (h3 : ((acc.length + (k + 1) : Nat) : Int) * 32 = cls s.length) (h4 : ((cs ++ acc.flatMap (·.2)).take (s.length - 32 * k) = s.drop (32 * k))) :
  Wrote B w0 g F s k ((b, cs) :: acc) sp (w.setCell ⟨b, 32, none⟩ (headP acc)) := by
 refine ⟨?_, h1, ?_, ?_, ?_⟩
 ·have h5 := St.set0 (c := (cs.map u8v ++ [nx]).toArray) (T := 232) (fr := (0, 0)) h 32 (headP acc)
  rw [cellObj_set cs _ _ hc] at h5
  exact h5.perm List.perm_middle.symm
 ·intro x hx
  rcases List.mem_cons.1 hx with rfl | hx
  ·exact hc
  ·exact h2 x hx
 ·rw [← h3]; simp only [List.length_cons]; congr 2; omega
 ·simpa using h4
set_option maxHeartbeats 1000000 in
theorem write_any (h : St B w0 w (g.heap ++ F)) (hs : Full g.spare) (s : ByteArray) (hl : s.size ≤ 256) :
  Calls Tryz.prog 96 #[ptr g.sb, .string s] w fun e w' => ∃ acc sp, e = .returned (headP acc) ∧ Wrote B w0 g F s.data.toList 0 acc sp w' := by
 have H0 : ∃ k : Nat, 32 * (k : Int) = cls s.size ∧ Wrote B w0 g F s.data.toList k [] g.spare w := by
  have hz : (s.data.toList.length : Int) = s.size := by simp
  have hc : ∃ k : Nat, 32 * (k : Int) = cls s.size ∧ s.size ≤ 32 * k := by
   unfold cls
   by_cases h0 : (s.size : Int) ≤ 0
   ·exact ⟨0, by rw [if_pos h0]; rfl, by omega⟩
   by_cases h1 : (s.size : Int) ≤ 32
   ·exact ⟨1, by rw [if_neg h0, if_pos h1]; rfl, by omega⟩
   by_cases h2 : (s.size : Int) ≤ 64
   ·exact ⟨2, by rw [if_neg h0, if_neg h1, if_pos h2]; rfl, by omega⟩
   by_cases h3 : (s.size : Int) ≤ 128
   ·exact ⟨4, by rw [if_neg h0, if_neg h1, if_neg h2, if_pos h3]; rfl, by omega⟩
   ·exact ⟨8, by rw [if_neg h0, if_neg h1, if_neg h2, if_neg h3, if_pos (by omega)]; rfl, by omega⟩
  obtain ⟨k, hk, hle⟩ := hc
  refine ⟨k, hk, h, hs, full_nil, by simp; omega, ?_⟩
  rw [List.drop_of_length_le (by simpa using hle)]
  simp
 clear h hs
 have hcl := class_any s.size
 go_enter Tryz.func96, Tryz.ntmps96
 go_wp2_with fail
 refine wp_scope_label 0 (fun a' w' => ∃ (k : Nat) (c : Int) (acc sp : Chain), Hid (c = 32 * k) ∧ Fr 35 [(0, ptr g.sb), (1, .string s), (5, headP acc), (7, .int .i64 c)] a' ∧ Wrote B w0 g F s.data.toList k acc sp w') (fun a' _ => (intOf (a'.tmps.getD 7 undef)).toNat) rfl ?_ ?_
 ·rintro a' w' ⟨k, c, acc, sp, hk, hf, hw⟩
  obtain ⟨f, rfl, hl⟩ := hf.lit
  clear hf
  simp only [List.mem_cons, List.not_mem_nil, or_false, forall_eq_or_imp, forall_eq] at hl
  obtain ⟨f0, f1, f5, f7⟩ := hl
  simp only [List.range, List.range.loop, List.map, f0, f1, f5, f7]
  clear f0 f1 f5 f7 H0
  obtain ⟨p, hp⟩ := headP_ptr acc
  have hp := Lib.hid hp
  cases k with
  | zero =>
   have h0 : c = 0 := hk.out
   subst h0
   rw [hp.out]
   go_wp2_with fail
   simp only [Exit.jump]
   go_ret
   exact ⟨acc, sp, by rw [hp.out]; rfl, hw⟩
  | succ k =>
   have h0 : (c == 0) = false := by have := hk.out; rw [beq_eq_false_iff_ne]; omega
   have h1 : 32 ≤ c := by have := hk.out; omega
   have h2 : c ≤ 256 := by have := hk.out; have := hw.2.2.2.1; have := (cls_le s.data.toList.length).2; omega
   rw [hp.out]
   have hw := Lib.hid hw
   go_wp2_with fail
   refine (sbTake_any hw.out.1 hw.out.2.1).mono ?_
   rintro e w1 ⟨b, cs, nx, sp', rfl, hcs, hsp', h3⟩
   have hcell := h3.get (b := b) (o := cellObj cs nx) (by simp)
   have g32 := h3.cell (b := b) (c := (cs.map u8v ++ [nx]).toArray) List.mem_cons_self (i := 32) (v := nx) (by simp [hcs])
   have gf := h3.soft (b := b) (c := (cs.map u8v ++ [nx]).toArray) List.mem_cons_self 32
   have hcs := Lib.hid hcs
   have hcell := Lib.hid hcell
   have h3 := Lib.hid h3
   by_cases hlt : c - 32 < (s.size : Int)
   ·have h5 : 0 ≤ c - 32 := by omega
    have h6 : c - 32 ≤ (s.size : Int) := by omega
    go_wp2_with fail
    have hcell' : Hid (w1.drew.heap[b]? = some (.cells (cs.map u8v ++ [nx]).toArray 232 (0, 0))) := hcell.out
    have hfit := Lib.hid (cell_fit hcs.out nx)
    go_region_held3 (fun _ => True) (trivial) ((refine step_copy_str (w := w1.drew) rfl (.tmp 25) (.tmp 28) 83 9 rfl 5 uBytes iU8 b 32 32 _ rfl rfl (cs.map u8v ++ [nx]) 232 hcell'.out _ rfl (hfit.out _) ?_; intro w2 hw2))
    have hz : s.data.toList.length = s.size := by simp
    have hc0 : (c - 32).toNat = 32 * k := by have := hk.out; omega
    have hx : (s.extract (c - 32).toNat s.size).data.toList = s.data.toList.drop (32 * k) := by
     rw [Lib.extract_data, hc0, List.take_of_length_le (by rw [List.length_drop]; omega)]
    have hn : (s.extract (c - 32).toNat s.size).size = s.size - 32 * k := by
     have := congrArg List.length hx
     rw [List.length_drop] at this
     rw [← hz, ← this]
     simp
    obtain ⟨n, hnn⟩ : ∃ n, n = Nat.min (s.extract (c - 32).toNat s.size).size 32 := ⟨_, rfl⟩
    have hn32 : n ≤ 32 := by rw [hnn]; exact Nat.min_le_right _ _
    have h4 : St B w0 w2 ((b, cellObj ((s.data.toList.drop (32 * k)).take n ++ cs.drop n) nx) :: ({ g with spare := sp' }.heap ++ (cellsH acc ++ F))) := by
     rw [hw2.out, hx, ← hnn, ← cellObj_copy cs _ nx n hcs.out hn32]
     exact St.setRow0 (c := (cs.map u8v ++ [nx]).toArray) (T := 232) h3.out.drew _
    have hlen : ((s.data.toList.drop (32 * k)).take n ++ cs.drop n).length = 32 := by
     have := hcs.out
     have hnl : n ≤ s.size - 32 * k := by rw [hnn, ← hn]; exact Nat.min_le_left _ _
     simp only [List.length_append, List.length_take, List.length_drop]
     omega
    have hfin := Lib.hid (wrote_next h4 hlen hsp' hw.out.2.2.1 hw.out.2.2.2.1 (piece_step s.data.toList cs _ k n (by rw [hnn, hn, hz]) hcs.out hw.out.2.2.2.2))
    have g32 := h4.cell (b := b) (c := (((s.data.toList.drop (32 * k)).take n ++ cs.drop n).map u8v ++ [nx]).toArray) List.mem_cons_self (i := 32) (v := nx) (by
     rw [List.getElem?_toArray, List.getElem?_append_right (by rw [List.length_map, hlen]; exact Nat.le_refl _), List.length_map, hlen]
     rfl)
    have gf := h4.soft (b := b) (c := (((s.data.toList.drop (32 * k)).take n ++ cs.drop n).map u8v ++ [nx]).toArray) List.mem_cons_self 32
    have hlen := Lib.hid hlen
    generalize hcs' : (s.data.toList.drop (32 * k)).take n ++ cs.drop n = cs' at *
    clear h4 hx hn hz hc0 hnn hn32 hfit hcell' hw2 hcs'
    go_wp2_with fail
    refine wp_goto ?_
    refine ⟨rfl, ⟨k, c - 32, (b, cs') :: acc, sp', ?_, ⟨rfl, rfl, by simp [headP]⟩, ?_⟩, ?_⟩
    ·have := hk.out
     show c - 32 = _
     omega
    ·rw [← hp.out]
     exact hfin.out
    ·simp [intOf]
     omega
   ·go_wp2_with fail
    refine wp_goto ?_
    refine ⟨rfl, ⟨k, c - 32, (b, cs) :: acc, sp', ?_, ⟨rfl, rfl, by simp [headP]⟩, ?_⟩, ?_⟩
    ·have := hk.out
     show c - 32 = _
     omega
    ·rw [← hp.out]
     refine wrote_next h3.out hcs.out hsp' hw.out.2.2.1 hw.out.2.2.2.1 ?_
     have := hk.out
     have hz : s.data.toList.length = s.size := by simp
     rw [hz, show s.size - 32 * k = 0 by omega, List.take_zero, List.drop_of_length_le (by omega)]
    ·simp [intOf]
     omega
 ·intro H
  obtain ⟨k, hk, hw⟩ := H0
  have hk := Lib.hid hk
  go_wp2_with fail
  refine (hcl w).mono ?_
  rintro e w' ⟨rfl, rfl⟩
  go_wp2_with fail
  refine wp_label ?_
  go_step
  go_step
  exact H _ _ ⟨k, _, [], g.spare, hk.out.symm, ⟨rfl, rfl, by simp [headP]⟩, hw⟩
end
end Go.Proofs.YtknjamfjonapiaaGreatDoor
