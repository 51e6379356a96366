/- Exchanges: plain data. What is declared, what is bound, where a key goes, Maps told by their rows, whatever their keys are told by: looked up, stored into, counted, ranged over, Tables of ids: counted, asked, put into, Tables of ids: a row dropped; what is left is laid anew where much went. -/
import Derived.Test.YtoecaonmehbfeaaGreatY01
import Derived.Test.YtoecaonmehbfeaaGreatY04
import Derived.Maps.RangeRun
import Derived.Test.YtoecaonmehbfeaaGreatChecked
import Derived.WalkKit
import Derived.Deep.DeepCutAuto
import Derived.Deep.CutBlock
import Derived.StillTailTactics
import Derived.Lib.Hide
import Derived.Deep.QuietTactic
import Derived.BigQuiet
import Derived.Deep.LoopGhost
/- Exchanges: plain data. What is declared, what is bound, where a key goes. -/
namespace Go.Proofs.YtoecaonmehbfeaaGreat

/-- An exchange: its name, its kind, whether it goes with its last binding. -/
abbrev Plc := List UInt8 × Int × Bool
def findP (P : List Plc) (n : List UInt8) : Option Plc := P.find? fun p => p.1 == n
def ofB (A : List Bnd) (n : List UInt8) : List Bnd := A.filter fun b => b.1 == n
def dropP (P : List Plc) (n : List UInt8) : List Plc := P.filter fun p => !(p.1 == n)
def leaveX (P : List Plc) (A : List Bnd) (n : List UInt8) : List Plc :=
  match findP P n with
  | some p => if p.2.2 = true ∧ ofB A n = [] then dropP P n else P
  | none => P
def declX (P : List Plc) (n : List UInt8) (k : Int) (a : Bool) : List Plc × Int :=
  if n = [] then (P, 403)
  else if isNm n = false ∨ ¬ (1 ≤ k ∧ k ≤ 3) then (P, 406)
  else match findP P n with
  | some p => if p.2.1 = k ∧ p.2.2 = a then (P, 0) else (P, 406)
  | none => if 8 ≤ P.length then (P, 506) else (P ++ [(n, k, a)], 0)
def delX (P : List Plc) (A : List Bnd) (n : List UInt8) (iu : Bool) : List Plc × List Bnd × Int :=
  if n = [] then (P, A, 403)
  else match findP P n with
  | none => (P, A, 404)
  | some _ => if iu = true ∧ ofB A n ≠ [] then (P, A, 406) else (dropP P n, A.filter (fun b => !(b.1 == n)), 0)
def bindX (P : List Plc) (A : List Bnd) (b : Bnd) : List Bnd × Int :=
  if b.1 = [] then (A, 403)
  else match findP P b.1 with
  | none => (A, 404)
  | some _ => if 40 < b.2.2.length then (A, 406) else if (addL A b).2.2 = 0 then ((addL A b).1, 0) else (A, 506)
def unbX (P : List Plc) (A : List Bnd) (b : Bnd) : List Plc × List Bnd × Int :=
  if b.1 = [] then (P, A, 403)
  else match findP P b.1 with
  | none => (P, A, 404)
  | some _ => (if b ∈ A then leaveX P (A.filter fun x => !(x == b)) b.1 else P, A.filter (fun x => !(x == b)), 0)
def leavesX (P : List Plc) (A : List Bnd) (l : List (List UInt8)) : List Plc := l.foldl (fun P n => leaveX P A n) P
def dropqX (P : List Plc) (A : List Bnd) (q : List UInt8) : List Plc × List Bnd :=
  (leavesX P (A.filter fun b => !(b.2.1 == q)) (onceL [] ((A.filter fun b => b.2.1 == q).map (·.1))), A.filter fun b => !(b.2.1 == q))
/-- Whether a binding's key lets a message by. -/
def fitsK (k : Int) (key : List UInt8) (b : Bnd) : Bool := k == 2 || k == 1 && b.2.2 == key || k == 3 && gl (wordsL b.2.2) (wordsL key)
def routeL (k : Int) (A : List Bnd) (n key : List UInt8) : List (List UInt8) := onceL [] (((ofB A n).filter (fitsK k key)).map (·.2.1))
def routeX (P : List Plc) (A : List Bnd) (n key : List UInt8) : List (List UInt8) × Bool :=
  if n = [] then ([key], true)
  else match findP P n with
  | none => ([], false)
  | some p => (routeL p.2.1 A n key, true)

structure FineX (P : List Plc) (A : List Bnd) : Prop where
  few : P.length ≤ 8
  once : (P.map (·.1)).Nodup
  each : ∀ p ∈ P, p.1 ≠ [] ∧ p.1.length ≤ 12 ∧ 1 ≤ p.2.1 ∧ p.2.1 ≤ 3
  rows : FineL A
  keys : ∀ b ∈ A, b.2.2.length ≤ 40
  ins : ∀ b ∈ A, b.1 ∈ P.map (·.1)
theorem FineX.nil : FineX [] [] := ⟨by simp, by simp, by simp, FineL.nil, by simp, by simp⟩

section
variable {P : List Plc} {A : List Bnd} {n : List UInt8} {p : Plc} {b : Bnd}
theorem findP_mem (h : findP P n = some p) : p ∈ P ∧ p.1 = n := ⟨List.mem_of_find?_eq_some h, by simpa using List.find?_some h⟩
theorem findP_none : findP P n = none ↔ n ∉ P.map (·.1) := by
  unfold findP
  rw [List.find?_eq_none]
  simp only [List.mem_map, not_exists, not_and, beq_iff_eq]
theorem findP_some (h : n ∈ P.map (·.1)) : ∃ p, findP P n = some p := by
  cases hf : findP P n with
  | none => exact absurd h (findP_none.1 hf)
  | some p => exact ⟨p, rfl⟩
theorem ofB_nil (h : n ∉ A.map (·.1)) : ofB A n = [] := by
  unfold ofB
  rw [List.filter_eq_nil_iff]
  intro b hb
  simp only [beq_iff_eq]
  exact fun e => h (e ▸ List.mem_map_of_mem hb)
theorem ofB_none (h : FineX P A) (hn : findP P n = none) : ofB A n = [] := by
  refine ofB_nil fun hm => ?_
  obtain ⟨b, hb, rfl⟩ := List.mem_map.1 hm
  exact findP_none.1 hn (h.ins b hb)
theorem dropP_names (P : List Plc) (n : List UInt8) : (dropP P n).map (·.1) = (P.map (·.1)).filter fun x => !(x == n) := by
  unfold dropP
  rw [List.filter_map]
  rfl
theorem mem_dropP : p ∈ dropP P n ↔ p ∈ P ∧ p.1 ≠ n := by simp [dropP]
theorem dropP_split {X Y : List Plc} (h : ((X ++ p :: Y).map (·.1)).Nodup) : dropP (X ++ p :: Y) p.1 = X ++ Y := by
  unfold dropP
  rw [List.map_append, List.map_cons, List.nodup_append, List.nodup_cons] at h
  obtain ⟨-, ⟨h1, -⟩, h3⟩ := h
  rw [List.filter_append, List.filter_cons]
  simp only [beq_self_eq_true, Bool.not_true, Bool.false_eq_true, if_false]
  congr 1
  · refine List.filter_eq_self.2 fun x hx => ?_
    have : x.1 ≠ p.1 := h3 _ (List.mem_map_of_mem hx) _ List.mem_cons_self
    simpa using this
  · refine List.filter_eq_self.2 fun x hx => ?_
    have : x.1 ≠ p.1 := fun e => h1 (e ▸ List.mem_map_of_mem hx)
    simpa using this
theorem FineX.dropP (h : FineX P A) {A' : List Bnd} (hA : FineL A') (hs : ∀ b ∈ A', b ∈ A) (hn : ∀ b ∈ A', b.1 ≠ n) : FineX (dropP P n) A' := by
  refine ⟨Nat.le_trans (List.length_filter_le _ _) h.few, ?_, fun p hp => h.each p (mem_dropP.1 hp).1, hA, fun b hb => h.keys b (hs b hb), fun b hb => ?_⟩
  · rw [dropP_names]
    exact h.once.sublist List.filter_sublist
  · rw [dropP_names, List.mem_filter]
    exact ⟨h.ins b (hs b hb), by simpa using hn b hb⟩
theorem FineX.sub (h : FineX P A) (q : Bnd → Bool) : FineX P (A.filter q) :=
  ⟨h.few, h.once, h.each, h.rows.filter q, fun b hb => h.keys b (List.mem_filter.1 hb).1, fun b hb => h.ins b (List.mem_filter.1 hb).1⟩
theorem FineX.leave (h : FineX P A) (n : List UInt8) : FineX (leaveX P A n) A := by
  unfold leaveX
  split
  · split
    · rename_i hc
      refine h.dropP h.rows (fun b hb => hb) fun b hb e => ?_
      have : b ∈ ofB A n := by simp [ofB, hb, e]
      rw [hc.2] at this
      simp at this
    · exact h
  · exact h
theorem FineX.leaves (h : FineX P A) (l : List (List UInt8)) : FineX (leavesX P A l) A := by
  unfold leavesX
  induction l generalizing P with
  | nil => exact h
  | cons n l ih => exact ih (h.leave n)
theorem isNm_len (h : isNm n = true) : n ≠ [] ∧ n.length ≤ 12 := by
  unfold isNm at h
  simp only [Bool.and_eq_true, decide_eq_true_eq] at h
  refine ⟨fun e => ?_, h.1.2⟩
  rw [e] at h
  simp at h
theorem FineX.decl (h : FineX P A) (n : List UInt8) (k : Int) (a : Bool) : FineX (declX P n k a).1 A := by
  unfold declX
  split
  · exact h
  · split
    · exact h
    · rename_i hn hc
      split
      · split <;> exact h
      · rename_i hf
        split
        · exact h
        · rename_i hl
          simp only [not_or, Bool.not_eq_false, Decidable.not_not] at hc
          refine ⟨by rw [List.length_append, List.length_singleton]; omega, ?_, ?_, h.rows, h.keys, fun b hb => ?_⟩
          · rw [List.map_append, List.nodup_append]
            refine ⟨h.once, by simp, ?_⟩
            intro x hx y hy e
            simp only [List.map_cons, List.map_nil, List.mem_singleton] at hy
            exact findP_none.1 hf (hy ▸ e ▸ hx)
          · intro p hp
            rcases List.mem_append.1 hp with hp | hp
            · exact h.each p hp
            · rw [List.mem_singleton] at hp
              subst hp
              obtain ⟨g1, g2⟩ := isNm_len hc.1
              exact ⟨g1, g2, hc.2.1, hc.2.2⟩
          · rw [List.map_append, List.mem_append]
            exact .inl (h.ins b hb)
theorem FineX.del (h : FineX P A) (n : List UInt8) (iu : Bool) : FineX (delX P A n iu).1 (delX P A n iu).2.1 := by
  unfold delX
  split
  · exact h
  · split
    · exact h
    · split
      · exact h
      · refine h.dropP (h.rows.filter _) (fun b hb => (List.mem_filter.1 hb).1) fun b hb => ?_
        have := (List.mem_filter.1 hb).2
        simpa using this
theorem FineX.bind (h : FineX P A) (hb : FitB b) : FineX P (bindX P A b).1 := by
  unfold bindX
  split
  · exact h
  · split
    · exact h
    · rename_i p hp
      split
      · exact h
      · rename_i hk
        split
        · refine ⟨h.few, h.once, h.each, h.rows.add hb, ?_, ?_⟩
          · intro x hx
            unfold addL at hx
            split at hx
            · exact h.keys x hx
            · split at hx
              · exact h.keys x hx
              · rcases List.mem_append.1 hx with hx | hx
                · exact h.keys x hx
                · rw [List.mem_singleton] at hx
                  subst hx
                  omega
          · intro x hx
            unfold addL at hx
            split at hx
            · exact h.ins x hx
            · split at hx
              · exact h.ins x hx
              · rcases List.mem_append.1 hx with hx | hx
                · exact h.ins x hx
                · rw [List.mem_singleton] at hx
                  subst hx
                  obtain ⟨g1, g2⟩ := findP_mem hp
                  exact g2 ▸ List.mem_map_of_mem g1
        · exact h
theorem FineX.unb (h : FineX P A) (b : Bnd) : FineX (unbX P A b).1 (unbX P A b).2.1 := by
  unfold unbX
  split
  · exact h
  · split
    · exact h
    · simp only
      split
      · exact (h.sub _).leave _
      · exact h.sub _
theorem FineX.dropq (h : FineX P A) (q : List UInt8) : FineX (dropqX P A q).1 (dropqX P A q).2 := (h.sub _).leaves _
end
end Go.Proofs.YtoecaonmehbfeaaGreat

/- Maps told by their rows, whatever their keys are told by: looked up, stored into, counted, ranged over. -/
namespace Go.Proofs.YtoecaonmehbfeaaGreat
open Go.RowKit
open Go.ChangeMaps (setBlock)
set_option linter.unusedVariables false
set_option linter.unusedSectionVars false
set_option linter.unusedSimpArgs false

abbrev Ent (α : Type) := α × Value × Nat
theorem nodup_len {α : Type} {l m : List α} (hn : l.Nodup) (hs : ∀ x ∈ l, x ∈ m) : l.length ≤ m.length := by
  classical
  induction l generalizing m with
  | nil => exact Nat.zero_le _
  | cons x r ih =>
    have hx := hs x List.mem_cons_self
    obtain ⟨h1, h2⟩ := List.nodup_cons.1 hn
    have h3 := ih (m := m.erase x) h2 fun y hy => (List.mem_erase_of_ne fun e : y = x => h1 (by rw [← e]; exact hy)).2 (hs y (List.mem_cons_of_mem _ hy))
    have h4 := List.length_erase_of_mem hx
    have h5 := List.length_pos_of_mem hx
    rw [List.length_cons]
    omega
section
variable {α : Type}
def entE (enc : α → Value) (x : Ent α) : MapEntry := { key := enc x.1, val := x.2.1, born := x.2.2 }
def entsE (enc : α → Value) (l : List (Ent α)) : Array MapEntry := (l.map (entE enc)).toArray
variable [DecidableEq α]
def seek (l : List (Ent α)) (k : α) : Option (Ent α) := l.find? (fun x => decide (x.1 = k))
def spot (l : List (Ent α)) (k : α) (i : Nat) : Option (Nat × Value) := (l.findIdx? (fun x => decide (x.1 = k))).bind fun j => (l[j]?).map fun x => (i + j, x.2.1)

theorem spot_nil (k : α) (i : Nat) : spot ([] : List (Ent α)) k i = none := rfl
theorem spot_hit (l : List (Ent α)) (x : Ent α) (i : Nat) : spot (x :: l) x.1 i = some (i, x.2.1) := by simp [spot, List.findIdx?_cons]
theorem spot_miss {l : List (Ent α)} {x : Ent α} {k : α} (h : x.1 ≠ k) (i : Nat) : spot (x :: l) k i = spot l k (i + 1) := by
  have h2 : decide (x.1 = k) = false := by simpa using h
  simp only [spot, List.findIdx?_cons, h2]
  cases hf : l.findIdx? (fun x => decide (x.1 = k)) with
  | none => simp
  | some j => simp [Nat.add_assoc, Nat.add_comm 1 j]
theorem spot_seek (l : List (Ent α)) (k : α) (i : Nat) : (spot l k i).map (·.2) = (seek l k).map (·.2.1) := by
  induction l generalizing i with
  | nil => rfl
  | cons x l ih =>
    by_cases h : x.1 = k
    · subst h
      rw [spot_hit]
      simp [seek]
    · rw [spot_miss h, ih]
      have h2 : decide (x.1 = k) = false := by simpa using h
      simp [seek, List.find?_cons, h2]

/-- Keys of the type K are what enc tells, where ok holds of them. -/
structure KeyBy (P : Program) (K : TypeId) (enc : α → Value) (ok : World → α → Prop) : Prop where
  check : ∀ em n k w, (Instr.checkKey em (n + 1) K (enc k)).run P w = .ok () w
  find : ∀ (l : List (Ent α)) k w, ok w k → (∀ x ∈ l, ok w x.1) → (Instr.findKey K (enc k) (l.map (entE enc))).run P w = .ok (spot l k 0) w
  same : ∀ k, Instr.sameBits 10000 (enc k) (enc k) = true

theorem findNow_by {d : TypeDesc} {enc : α → Value} (h : ∀ a b, Instr.sameNow d (enc a) (enc b) = some (decide (b = a))) (k : α) : ∀ (l : List (Ent α)) (i : Nat),
    Instr.findNow d (enc k) (l.map (entE enc)) i = some (spot l k i)
  | [], i => rfl
  | x :: l, i => by
    simp only [List.map_cons, Instr.findNow, entE, h]
    by_cases hx : x.1 = k
    · subst hx
      rw [spot_hit]
      simp
    · have h2 : decide (x.1 = k) = false := by simpa using hx
      rw [h2]
      simp only
      rw [spot_miss hx]
      exact findNow_by h k l (i + 1)

theorem keyBy_now {P : Program} {K : TypeId} {d : TypeDesc} {enc : α → Value} (hK : P.underlying K = some d) (hc : ∀ em n k w, (Instr.checkKey em (n + 1) K (enc k)).run P w = .ok () w)
    (h : ∀ a b, Instr.sameNow d (enc a) (enc b) = some (decide (b = a))) (hs : ∀ k, Instr.sameBits 10000 (enc k) (enc k) = true) : KeyBy P K enc (fun _ _ => True) :=
  ⟨hc, fun l k w _ _ => by
    simp only [Instr.findKey]
    simp [run_underlying hK, findNow_by h k l 0], hs⟩

section
variable {P : Program} {T K E : TypeId} {w : World} {b : Nat} {l : List (Ent α)} {clk : Nat} {enc : α → Value} {ok : World → α → Prop}

theorem run_lookE {z : Value} {c : Bool} (kb : KeyBy P K enc ok) (hT : P.underlying T = some (.map K E)) (hz : (zeroValue E).run P w = .ok z w) (hb : w.heap[b]? = some (.map (entsE enc l) clk)) {k : α} (h1 : ok w k) (h2 : ∀ x ∈ l, ok w x.1) :
    (Instr.lookup T (.map (some b)) (enc k) c).run P w = .ok (if c then .tuple #[((seek l k).map (·.2.1)).getD z, .bool (seek l k).isSome] else ((seek l k).map (·.2.1)).getD z) w := by
  have hf := spot_seek l k 0
  simp only [Instr.lookup]
  simp only [Sem.run_bind, run_underlying hT, MapKept.run_getObj_map hb, Result.andThen, kb.check, entsE, kb.find l k w h1 h2, Sem.run_pure]
  cases h1 : spot l k 0 with
  | none =>
    rw [h1] at hf
    cases h2 : seek l k with
    | none => cases c <;> simp [hz, Result.andThen]
    | some x => rw [h2] at hf; simp at hf
  | some y =>
    rw [h1] at hf
    cases h2 : seek l k with
    | none => rw [h2] at hf; simp at hf
    | some x =>
      rw [h2] at hf
      simp at hf
      cases c <;> simp [hf]

theorem run_lookE_nil {z : Value} {c : Bool} (kb : KeyBy P K enc ok) (hT : P.underlying T = some (.map K E)) (hz : (zeroValue E).run P w = .ok z w) {k : α} (h1 : ok w k) :
    (Instr.lookup T (.map none) (enc k) c).run P w = .ok (if c then .tuple #[z, .bool false] else z) w := by
  have hf := kb.find [] k w h1 (by simp)
  simp at hf
  simp only [Instr.lookup]
  cases c <;> simp [run_underlying hT, Result.andThen, kb.check, hf, hz, spot_nil]

/-- A store at a key that is not there yet. -/
theorem run_mapE_new (kb : KeyBy P K enc ok) (hT : P.underlying T = some (.map K E)) (hb : w.heap[b]? = some (.map (entsE enc l) clk)) {k : α} (h1 : ok w k) (h2 : ∀ x ∈ l, ok w x.1) (v : Value) (hn : seek l k = none) :
    (Instr.mapUpdate T (.map (some b)) (enc k) v).run P w = .ok () (setBlock w b (.map (entsE enc (l ++ [(k, v, clk)])) (clk + 1))) := by
  have hf := spot_seek l k 0
  rw [hn] at hf
  simp only [Instr.mapUpdate]
  simp only [Sem.run_bind, run_underlying hT, MapKept.run_getObj_map hb, Result.andThen, kb.check, entsE, kb.find l k w h1 h2]
  cases h1 : spot l k 0 with
  | some y => rw [h1] at hf; simp at hf
  | none =>
    simp [Sem.run, setObj, hb, setBlock, entE, entsE]

/-- .. at one that is. -/
def putE (l : List (Ent α)) (k : α) (v : Value) : List (Ent α) := match l.findIdx? (fun x => decide (x.1 = k)) with
  | some j => l.modify j fun x => (k, v, x.2.2)
  | none => l
theorem run_mapE_old (kb : KeyBy P K enc ok) (hT : P.underlying T = some (.map K E)) (hb : w.heap[b]? = some (.map (entsE enc l) clk)) {k : α} (h1 : ok w k) (h2 : ∀ x ∈ l, ok w x.1) (v : Value) {y : Ent α} (hn : seek l k = some y) :
    (Instr.mapUpdate T (.map (some b)) (enc k) v).run P w = .ok () (setBlock w b (.map (entsE enc (putE l k v)) clk)) := by
  simp only [Instr.mapUpdate]
  simp only [Sem.run_bind, run_underlying hT, MapKept.run_getObj_map hb, Result.andThen, kb.check, entsE, kb.find l k w h1 h2]
  unfold seek at hn
  have hj : ∃ j, l.findIdx? (fun x => decide (x.1 = k)) = some j := by
    cases hf : l.findIdx? (fun x => decide (x.1 = k)) with
    | some j => exact ⟨j, rfl⟩
    | none =>
      rw [List.findIdx?_eq_none_iff] at hf
      have := hf y (List.mem_of_find?_eq_some hn)
      have h3 := List.find?_some hn
      simp_all
  obtain ⟨j, hj⟩ := hj
  obtain ⟨hlt, hp, -⟩ := List.findIdx?_eq_some_iff_getElem.1 hj
  have hk : l[j].1 = k := by simpa using hp
  have hs : spot l k 0 = some (j, l[j].2.1) := by simp [spot, hj, hlt]
  rw [hs]
  have hkk : (((List.map (entE enc) l).toArray[j]?).map (·.key)).getD (enc k) = enc k := by simp [hlt, entE, hk]
  have hmod : (List.map (entE enc) l).toArray.modify j (fun e => { e with key := enc k, val := v }) = (List.map (entE enc) (l.modify j fun x => (k, v, x.2.2))).toArray := by
    apply Array.ext'
    simp only [Array.toList_modify]
    apply List.ext_getElem?
    intro i
    simp only [List.getElem?_modify, List.getElem?_map]
    cases l[i]? with
    | none => simp
    | some x => by_cases hi : j = i <;> simp [hi, entE]
  simp only [Sem.run_bind, hkk, Instr.keyThatStays, kb.same, if_true, Sem.run_pure, Result.andThen]
  simp only [putE, hj]
  rw [← hmod]
  simp [Sem.run, setObj, hb, setBlock]

theorem run_delE {ty : TypeId} (kb : KeyBy P K enc ok) (hT : P.underlying T = some (.map K E)) (hb : w.heap[b]? = some (.map (entsE enc l) clk)) {k : α} (h1 : ok w k) (h2 : ∀ x ∈ l, ok w x.1) :
    (Builtin.delete_ #[T, K] ty #[.map (some b), enc k]).run P w = .ok (.tuple #[]) (setBlock w b (.map (entsE enc (l.eraseP (fun x => decide (x.1 = k)))) clk)) := by
  have h0 : (Builtin.delete_ #[T, K] ty #[.map (some b), enc k]) = (do
    let .map keyType _ ← underlying T | stuck "delete: map type expected"
    let .map es clock ← getObj b | stuck "delete: map expected"
    Instr.checkKey es.isEmpty 10000 keyType (enc k)
    match ← Instr.findKey keyType (enc k) es.toList with
    | some (i, _) => setObj b (.map (es.eraseIdxIfInBounds i) clock)
    | none => setObj b (.map es clock)
    pure (.tuple #[])) := rfl
  rw [h0]
  simp only [Sem.run_bind, run_underlying hT, MapKept.run_getObj_map hb, Result.andThen, kb.check, entsE, kb.find l k w h1 h2]
  cases hj : l.findIdx? (fun x => decide (x.1 = k)) with
  | none =>
    have h2 : l.eraseP (fun x => decide (x.1 = k)) = l := List.eraseP_of_forall_not (by simpa [List.findIdx?_eq_none_iff] using hj)
    simp [spot, hj, Sem.run, setObj, hb, setBlock, h2, Result.andThen, entsE]
  | some j =>
    have hlt : j < l.length := (List.findIdx?_eq_some_iff_getElem.1 hj).1
    have h2 : l.eraseP (fun x => decide (x.1 = k)) = l.eraseIdx j := by rw [List.eraseP_eq_eraseIdx, hj]
    simp [spot, hj, hlt, Sem.run, setObj, hb, setBlock, h2, Result.andThen, Array.eraseIdxIfInBounds, ChangeMaps.map_eraseIdx, entsE]

theorem wpList_delE {ops : Array Oper} {rest : List Oper} {o : Oper} {a : Act} {Q : Exit → Act → World → Prop} (hg : o.guard = none) (x y : Operand)
    (hop : o.op = Op.call { callee := Callee.builtin Builtin.delete, args := #[x, y], argTypes := #[T, K] })
    (kb : KeyBy P K enc ok) (hT : P.underlying T = some (.map K E)) (hx : a.eval x = .map (some b)) (hb : w.heap[b]? = some (.map (entsE enc l) clk)) {k : α} (h1 : ok w k) (h2 : ∀ x ∈ l, ok w x.1) (hy : a.eval y = enc k)
    (h : ∀ w', Hid (w' = setBlock w b (.map (entsE enc (l.eraseP (fun x => decide (x.1 = k)))) clk)) → wpList P ops Q rest (a.put o.dst (.tuple #[])) w') :
    wpList P ops Q (o :: rest) a w := by
  refine wpList_plain hg fun K' hK' => ?_
  have hrun := run_delE (ty := o.type) kb hT hb h1 h2
  unfold Oper.wp
  simp [execOp, hop, resolve, invoke, builtin, hx, hy, hrun, Result.andThen]
  exact hK' _ _ (h _ rfl)

theorem run_lenE {ty : TypeId} (hT : P.underlying T = some (.map K E)) (hb : w.heap[b]? = some (.map (entsE enc l) clk)) :
    (Builtin.len_ #[T] ty #[.map (some b)]).run P w = .ok (.int .i64 l.length) w := by
  simp [Builtin.len_, run_underlying hT, MapKept.run_getObj_map hb, goInt, Result.andThen, entsE]
theorem run_lenE_nil {ty : TypeId} (hT : P.underlying T = some (.map K E)) :
    (Builtin.len_ #[T] ty #[.map none]).run P w = .ok (.int .i64 0) w := by
  simp [Builtin.len_, run_underlying hT, goInt, Result.andThen]
end

/-! ### ranged over -/
section
variable {P : Program} {w : World} {b r : Nat} {l : List (Ent α)} {clk : Nat} {enc : α → Value}
/-- Block r is an iterator over the rows l of the map in block b; done: those that came. -/
def IterAt (w : World) (b r : Nat) (enc : α → Value) (l : List (Ent α)) (clk : Nat) (done : List (Ent α)) : Prop :=
  w.heap[b]? = some (.map (entsE enc l) clk) ∧ ∃ seen : Array Nat, w.heap[r]? = some (.mapIter (some b) clk seen clk) ∧ done.Nodup ∧ (∀ e ∈ done, e ∈ l) ∧ ∀ e ∈ l, (e ∈ done ↔ e.2.2 ∈ seen)
/-- The rows' stamps. -/
def Born (l : List (Ent α)) (clk : Nat) : Prop := (l.map (·.2.2)).Nodup ∧ ∀ e ∈ l, e.2.2 < clk

theorem Born.inj (h : Born l clk) {x y : Ent α} (hx : x ∈ l) (hy : y ∈ l) (e : x.2.2 = y.2.2) : x = y := by
  obtain ⟨i, hi⟩ := List.getElem?_of_mem hx
  obtain ⟨j, hj⟩ := List.getElem?_of_mem hy
  have hil := (List.getElem?_eq_some_iff.1 hi).1
  have : i = j := (List.getElem?_inj (by simpa using hil) h.1).1 (by simp [hi, hj, e])
  subst this
  rw [hi] at hj; cases hj; rfl

theorem IterAt.ne {done : List (Ent α)} (h : IterAt w b r enc l clk done) : r ≠ b := by
  obtain ⟨h1, seen, h2, -⟩ := h
  rintro rfl
  rw [h1] at h2
  cases h2
theorem IterAt.kept {done : List (Ent α)} {w' : World} (h : IterAt w b r enc l clk done) (h1 : w'.heap[b]? = w.heap[b]?) (h2 : w'.heap[r]? = w.heap[r]?) : IterAt w' b r enc l clk done := by
  obtain ⟨g1, seen, g2, g3⟩ := h
  exact ⟨h1.trans g1, seen, h2.trans g2, g3⟩

theorem IterAt.next {done : List (Ent α)} (h : IterAt w b r enc l clk done) (hB : Born l clk) (hn : l.Nodup) (ty : TypeId) :
    (done.Perm l ∧ (Instr.next (.pointer (some ⟨r, 0, none⟩)) false ty).run P w = .ok (.tuple #[.bool false]) w) ∨
    ∃ e, e ∈ l ∧ e ∉ done ∧ ∃ w', (Instr.next (.pointer (some ⟨r, 0, none⟩)) false ty).run P w = .ok (.tuple #[.bool true, enc e.1, e.2.1]) w' ∧
      IterAt w' b r enc l clk (done ++ [e]) ∧ (∀ k, k ≠ r → w'.heap[k]? = w.heap[k]?) ∧ w'.heap.size = w.heap.size ∧ w'.os = w.os ∧ w'.tape = w.tape ∧ w'.output = w.output ∧
      (Instr.entry (.pointer (some ⟨r, 0, none⟩))).run P w' = .ok (.tuple #[enc e.1, e.2.1]) w' := by
  have hne := h.ne
  obtain ⟨h1, seen, h2, h3, h4, h5⟩ := h
  have hold : ∀ x ∈ (entsE enc l).toList, x.born < clk := by
    intro x hx
    simp only [entsE, List.mem_map] at hx
    obtain ⟨e, he, rfl⟩ := hx
    exact hB.2 e he
  rcases run_next_at (P := P) w ty r b clk clk seen (entsE enc l) clk h2 h1 hold (Nat.le_refl _) with ⟨h0, hrun⟩ | ⟨x, hx, w1, hal, hrun⟩
  · refine .inl ⟨(List.perm_ext_iff_of_nodup h3 hn).2 fun e => ⟨h4 e, fun he => (h5 e he).2 ?_⟩, hrun⟩
    unfold leftOf at h0
    rw [Array.size_eq_zero_iff, Array.filter_eq_empty_iff] at h0
    have := h0 (entE enc e) (by simp only [entsE, List.mem_toArray, List.mem_map]; exact ⟨e, he, rfl⟩)
    simpa [entE] using this
  · unfold leftOf at hx
    simp only [Array.toList_filter, List.mem_filter] at hx
    obtain ⟨hx1, hx2⟩ := hx
    simp only [entsE, List.mem_map] at hx1
    obtain ⟨e, he, rfl⟩ := hx1
    have hd : e ∉ done := fun hd => by
      have := (h5 e he).1 hd
      simp [entE] at hx2
      exact hx2 this
    have hr1 : w1.heap[r]? = some (.mapIter (some b) clk seen clk) := by rcases hal with rfl | rfl <;> exact h2
    have hlt := (Array.getElem?_eq_some_iff.1 hr1).1
    have hset1 : (setBlock w1 r (.mapIter (some b) clk (seen.push (entE enc e).born) clk)).heap[r]? = some (.mapIter (some b) clk (seen.push (entE enc e).born) clk) := by simp [setBlock, hlt]
    have hset2 : ∀ k, k ≠ r → (setBlock w1 r (.mapIter (some b) clk (seen.push (entE enc e).born) clk)).heap[k]? = w.heap[k]? := fun k hk => by
      simp only [setBlock]
      rw [Array.getElem?_setIfInBounds_ne (Ne.symm hk)]
      rcases hal with rfl | rfl <;> rfl
    have hb1 : (setBlock w1 r (.mapIter (some b) clk (seen.push (entE enc e).born) clk)).heap[b]? = some (.map (entsE enc l) clk) := (hset2 b (Ne.symm hne)).trans h1
    refine .inr ⟨e, he, hd, _, hrun, ⟨hb1, _, hset1, ?_, ?_, ?_⟩, hset2, ?_, ?_, ?_, ?_, ?_⟩
    · rw [List.nodup_append]
      exact ⟨h3, by simp, by rintro a ha b hb rfl; rw [List.mem_singleton] at hb; subst hb; exact hd ha⟩
    · intro y hy
      rcases List.mem_append.1 hy with hy | hy
      · exact h4 y hy
      · rw [List.mem_singleton] at hy; subst hy; exact he
    · intro y hy
      rw [List.mem_append, List.mem_singleton, h5 y hy, Array.mem_push]
      exact or_congr Iff.rfl ⟨fun e => by rw [e]; rfl, fun e1 => hB.inj hy he e1⟩
    · rcases hal with rfl | rfl <;> simp [setBlock]
    · rcases hal with rfl | rfl <;> rfl
    · rcases hal with rfl | rfl <;> rfl
    · rcases hal with rfl | rfl <;> rfl
    · refine run_entry_at (e := entE enc e) _ r b clk seen (entsE enc l) clk hset1 hb1 ?_ ?_
      · simp only [entsE, List.mem_map]
        exact ⟨e, he, rfl⟩
      · have : (entsE enc l).toList.map (·.born) = l.map (·.2.2) := by simp [entsE, entE, Function.comp_def]
        rw [this]
        exact hB.1
end
end
end Go.Proofs.YtoecaonmehbfeaaGreat

/- Tables of ids: counted, asked, put into. -/
namespace Go.Proofs.YtoecaonmehbfeaaGreat
open Go.RowKit
open Go.ChangeMaps (setBlock)
set_option linter.unusedVariables false
set_option linter.unusedSectionVars false
set_option linter.unusedSimpArgs false
set_option maxRecDepth 100000

/-! ### what a table holds -/
structure Tb (α : Type) where
  mv : Option Nat
  es : List (Ent α)
  clk : Nat
  most : Nat
section
variable {α : Type} [DecidableEq α]
def Tb.new : Tb α := ⟨none, [], 0, 0⟩
def Tb.rows (t : Tb α) : List (α × Value) := t.es.map fun e => (e.1, e.2.1)
def tabH (enc : α → Value) (t : Tb α) : List (Nat × Obj) := match t.mv with
  | none => []
  | some b => [(b, .map (entsE enc t.es) t.clk)]
structure TbOk (t : Tb α) (n : Nat) : Prop where
  keys : (t.es.map (·.1)).Nodup
  born : Born t.es t.clk
  bare : t.mv = none → t.es = [] ∧ t.clk = 0
  len : t.es.length ≤ n
  most : t.most ≤ n
theorem TbOk.new (n : Nat) : TbOk (Tb.new : Tb α) n := ⟨by simp [Tb.new], ⟨by simp [Tb.new], by simp [Tb.new]⟩, fun _ => ⟨rfl, rfl⟩, Nat.zero_le _, Nat.zero_le _⟩
theorem TbOk.mono {t : Tb α} {n m : Nat} (h : TbOk t n) (hm : n ≤ m) : TbOk t m := ⟨h.keys, h.born, h.bare, Nat.le_trans h.len hm, Nat.le_trans h.most hm⟩

/-- A table with a row more. -/
structure TbPut (t t' : Tb α) (k : α) (v : Value) : Prop where
  rows : t'.rows = t.rows ++ [(k, v)]
/-- .. without one. -/
structure TbCut (t t' : Tb α) (k : α) : Prop where
  rows : t'.rows.Perm (t.rows.filter fun x => decide (x.1 ≠ k))

theorem seek_none {l : List (Ent α)} {k : α} : seek l k = none ↔ k ∉ l.map (·.1) := by
  unfold seek
  rw [List.find?_eq_none]
  simp only [decide_eq_true_eq, List.mem_map, not_exists, not_and]
theorem seek_mem {l : List (Ent α)} {k : α} {e : Ent α} (h : seek l k = some e) : e ∈ l ∧ e.1 = k := by
  unfold seek at h
  exact ⟨List.mem_of_find?_eq_some h, by simpa using List.find?_some h⟩
theorem seek_some {l : List (Ent α)} {e : Ent α} (hn : (l.map (·.1)).Nodup) (h : e ∈ l) : seek l e.1 = some e := by
  cases hs : seek l e.1 with
  | none => exact absurd (List.mem_map_of_mem h) (seek_none.1 hs)
  | some x =>
    obtain ⟨h1, h2⟩ := seek_mem hs
    obtain ⟨i, hi⟩ := List.getElem?_of_mem h
    obtain ⟨j, hj⟩ := List.getElem?_of_mem h1
    have hil := (List.getElem?_eq_some_iff.1 hi).1
    have : i = j := (List.getElem?_inj (by simpa using hil) hn).1 (by simp [hi, hj, h2])
    subst this
    rw [hi] at hj; cases hj; rfl
theorem seek_isSome {l : List (Ent α)} {k : α} : (seek l k).isSome = decide (k ∈ l.map (·.1)) := by
  cases hs : seek l k with
  | none => simpa using seek_none.1 hs
  | some e =>
    obtain ⟨h1, h2⟩ := seek_mem hs
    have : k ∈ l.map (·.1) := h2 ▸ List.mem_map_of_mem h1
    simp only [Option.isSome_some, true_eq_decide_iff] 
    exact this
theorem keys_rows (t : Tb α) : t.rows.map (·.1) = t.es.map (·.1) := by simp [Tb.rows, Function.comp_def]

/-- What is read of a table at the cells o, o + 1 of block b. -/
structure TbAt (w : World) (b o : Nat) (enc : α → Value) (t : Tb α) : Prop where
  c0 : w.cell? ⟨b, o, none⟩ = some (.map t.mv)
  c1 : w.cell? ⟨b, o + 1, none⟩ = some (.int .i64 t.most)
  map : ∀ mb, t.mv = some mb → w.heap[mb]? = some (.map (entsE enc t.es) t.clk)
end

/-! ### ids -/
abbrev encI : Int → Value := fun k => .int .i64 k
theorem uInt12 : Tryz.prog.underlying 3 = some (.int .i64) := by kernel_rfl
theorem uMapI : Tryz.prog.underlying 116 = some (.map 3 124) := by kernel_rfl
theorem keyI : KeyBy Tryz.prog 3 encI (fun _ _ => True) := keyBy_now uInt12 (fun em n k w => by simp [Instr.checkKey, run_underlying uInt12])
  (fun a b => by
    have h : Instr.sameNow (.int .i64) (encI a) (encI b) = some (a == b) := rfl
    rw [h, Option.some.injEq, Bool.eq_iff_iff, beq_iff_eq, decide_eq_true_iff]
    exact eq_comm) (fun k => by
    have h : Instr.sameBits 10000 (encI k) (encI k) = (IntKind.i64 == IntKind.i64 && k == k) := rfl
    rw [h, beq_self_eq_true k]
    rfl)
theorem zUnit (w : World) : (zeroValue 124).run Tryz.prog w = .ok (.agg #[]) w := Tryz.zeroValue124 w

section
variable {B : Nat} {w0 w : World} {F : List (Nat × Obj)} {b o : Nat} {c : Array Value} {T : TypeId} {t : Tb Int} {n : Nat} {k : Int}

theorem countI_any (h : TbAt w b o encI t) (hb : t.mv = none → t.es = []) : Calls Tryz.prog 111 #[.pointer (some ⟨b, o, none⟩)] w fun e w' => e = .returned (.int .i64 t.es.length) ∧ w' = w := by
  obtain ⟨c0, -, hm⟩ := h
  cases hmv : t.mv with
  | none =>
    rw [hmv] at c0
    have hl := fun ty => run_lenE_nil (P := Tryz.prog) (w := w) (ty := ty) uMapI
    rw [hb hmv]
    go_enter Tryz.func111, Tryz.ntmps111
    go_wp2_with fail
    go_ret
    exact ⟨rfl, rfl⟩
  | some mb =>
    rw [hmv] at c0
    have hl := fun ty => run_lenE (P := Tryz.prog) (ty := ty) uMapI (hm mb hmv)
    generalize t.es.length = L at *
    go_enter Tryz.func111, Tryz.ntmps111
    go_wp2_with fail
    go_ret
    exact ⟨rfl, rfl⟩

/-- Of ids nothing is told but that they are there. -/
def Bare (t : Tb Int) : Prop := ∀ e ∈ t.es, e.2.1 = .agg #[]
theorem Bare.look (h : Bare t) (k : Int) : ((seek t.es k).map (·.2.1)).getD (.agg #[]) = .agg #[] := by
  cases hs : seek t.es k with
  | none => rfl
  | some e => exact h e (seek_mem hs).1

theorem hasI_any (h : TbAt w b o encI t) (hb : t.mv = none → t.es = []) (hv : Bare t) (k : Int) : Calls Tryz.prog 91 #[.pointer (some ⟨b, o, none⟩), .int .i64 k] w fun e w' => e = .returned (.bool (decide (k ∈ t.es.map (·.1)))) ∧ Below w.heap.size w w' := by
  obtain ⟨c0, -, hm⟩ := h
  have hnew := Lib.hid (new_below w (.cells #[] 124))
  cases hmv : t.mv with
  | none =>
    rw [hmv] at c0
    have hl := run_lookE_nil (c := true) keyI uMapI (zUnit w) (k := k) trivial
    rw [hb hmv]
    simp only [List.map_nil, List.not_mem_nil, decide_false]
    go_enter Tryz.func91, Tryz.ntmps91
    go_wp2_with fail
    go_ret
    exact ⟨rfl, hnew.out⟩
  | some mb =>
    rw [hmv] at c0
    have hl := run_lookE (c := true) keyI uMapI (zUnit w) (hm mb hmv) (k := k) trivial (fun _ _ => trivial)
    rw [hv.look, seek_isSome] at hl
    clear hm hv hb
    generalize decide (k ∈ t.es.map (·.1)) = r at *
    go_enter Tryz.func91, Tryz.ntmps91
    go_wp2_with fail
    go_ret
    exact ⟨rfl, hnew.out⟩

theorem uEqMapI (w : World) (m : Option Nat) : (binOp .eql 116 (.map m) (.map none)).run Tryz.prog w = .ok (.bool m.isNone) w := by
  simp only [binOp]
  simp [run_equal_map_nil w 116 _ _ m uMapI]

theorem Tb.rows_push (t : Tb Int) (k : Int) (v : Value) (m : Option Nat) (q : Nat) : (⟨m, t.es ++ [(k, v, t.clk)], t.clk + 1, q⟩ : Tb Int).rows = t.rows ++ [(k, v)] := by simp [Tb.rows]
theorem TbOk.push {α : Type} [DecidableEq α] {t : Tb α} {n : Nat} {k : α} (h : TbOk t n) (hk : k ∉ t.es.map (·.1)) (v : Value) (mb : Nat) : TbOk (⟨some mb, t.es ++ [(k, v, t.clk)], t.clk + 1, max t.most (t.es.length + 1)⟩ : Tb α) (n + 1) := by
  refine ⟨?_, ⟨?_, ?_⟩, (fun e => nomatch e), ?_, ?_⟩
  · simp only [List.map_append, List.map_cons, List.map_nil]
    rw [List.nodup_append]
    exact ⟨h.keys, by simp, by rintro a ha b hb rfl; rw [List.mem_singleton] at hb; subst hb; exact hk ha⟩
  · simp only [List.map_append, List.map_cons, List.map_nil]
    rw [List.nodup_append]
    refine ⟨h.born.1, by simp, ?_⟩
    rintro a ha b hb rfl
    rw [List.mem_singleton] at hb
    subst hb
    obtain ⟨e, he, e1⟩ := List.mem_map.1 ha
    have := h.born.2 e he
    omega
  · intro e he
    rcases List.mem_append.1 he with he | he
    · have := h.born.2 e he
      show _ < t.clk + 1
      omega
    · rw [List.mem_singleton] at he
      subst he
      exact Nat.lt_succ_self _
  · have := h.len
    simp only [List.length_append, List.length_singleton]
    omega
  · have := h.len
    have := h.most
    show max _ _ ≤ _
    omega

/-- A block's cells with a table at o, o + 1. -/
def tabC (c : Array Value) (o : Nat) (m : Option Nat) (q : Nat) : Array Value := (c.setIfInBounds o (.map m)).setIfInBounds (o + 1) (.int .i64 q)
theorem tabC_tabC (c : Array Value) (o : Nat) (m m' : Option Nat) (q q' : Nat) : tabC (tabC c o m q) o m' q' = tabC c o m' q' := by
  unfold tabC
  apply Array.ext_getElem?
  intro i
  simp only [Array.getElem?_setIfInBounds, Array.size_setIfInBounds]
  by_cases h1 : o + 1 = i
  · simp [h1]
  · by_cases h2 : o = i
    · simp [h1, h2]
    · simp [h1, h2]
theorem tabC_same {c : Array Value} {o : Nat} {m : Option Nat} {q : Nat} (h0 : c[o]? = some (.map m)) (h1 : c[o + 1]? = some (.int .i64 q)) : tabC c o m q = c := by
  unfold tabC
  apply Array.ext_getElem?
  intro i
  have l0 := (Array.getElem?_eq_some_iff.1 h0).1
  have l1 := (Array.getElem?_eq_some_iff.1 h1).1
  simp only [Array.getElem?_setIfInBounds, Array.size_setIfInBounds]
  by_cases e1 : o + 1 = i
  · subst e1; rw [h1]; simp [l1]
  · by_cases e2 : o = i
    · subst e2; rw [h0]; simp [l0]
    · simp [e1, e2]
theorem tabC_0 {c : Array Value} {o : Nat} (m : Option Nat) (q : Nat) (h : o < c.size) : (tabC c o m q)[o]? = some (.map m) := by
  unfold tabC
  simp [Array.getElem?_setIfInBounds, h]
theorem tabC_1 {c : Array Value} {o : Nat} (m : Option Nat) (q : Nat) (h : o + 1 < c.size) : (tabC c o m q)[o + 1]? = some (.int .i64 q) := by
  unfold tabC
  simp [Array.getElem?_setIfInBounds, h]

/-- What a call leaves that turned a table. -/
def TabR {α : Type} (enc : α → Value) (B : Nat) (w0 : World) (b o : Nat) (c : Array Value) (T : TypeId) (F : List (Nat × Obj)) (ok : Tb α → Prop) (e : Ending) (w' : World) : Prop :=
  e = .returned (.tuple #[]) ∧ ∃ t', ok t' ∧ St B w0 w' ((b, .cells (tabC c o t'.mv t'.most) T) :: (tabH enc t' ++ F))

/-- What put leaves. -/
def PutR {α : Type} (enc : α → Value) (B : Nat) (w0 : World) (b o : Nat) (c : Array Value) (T : TypeId) (F : List (Nat × Obj)) (t : Tb α) (k : α) (v : Value) (n : Nat) (e : Ending) (w' : World) : Prop :=
  e = .returned (.tuple #[]) ∧ ∃ mb, St B w0 w' ((b, .cells ((c.setIfInBounds o (.map (some mb))).setIfInBounds (o + 1) (.int .i64 (max t.most (t.es.length + 1) : Nat))) T) :: ((mb, .map (entsE enc (t.es ++ [(k, v, t.clk)])) (t.clk + 1)) :: F))

set_option maxHeartbeats 1000000 in
theorem putI_any (hst : St B w0 w ((b, .cells c T) :: (tabH encI t ++ F))) (h0 : c[o]? = some (.map t.mv)) (h1 : c[o + 1]? = some (.int .i64 t.most)) (hok : TbOk t n) (hn : n ≤ 1000000) (hk : k ∉ t.es.map (·.1)) :
    Calls Tryz.prog 92 #[.pointer (some ⟨b, o, none⟩), .int .i64 k, .agg #[]] w (PutR encI B w0 b o c T F t k (.agg #[]) n) := by
  have hmk := fun w : World => run_makeMap (P := Tryz.prog) 116 w
  have heq := uEqMapI
  have hnew : St B w0 (w.alloc (.cells #[] 124)) ((b, .cells c T) :: (tabH encI t ++ F)) := (hst.alloc _).sub (List.sublist_cons_self _ _)
  have hso : (w.alloc (.cells #[] 124)).cell? ⟨b, o, none⟩ = some (.map t.mv) := hnew.cell (b := b) List.mem_cons_self h0
  have hbx : (w.alloc (.cells #[] 124)).heap[w.heap.size]? = some (.cells #[] 124) := (MapKept.heap_alloc w _).1
  have hlen := hok.len
  have hmost := hok.most
  replace hok := Lib.hid hok
  replace hnew := Lib.hid hnew
  replace h0 := Lib.hid h0
  replace h1 := Lib.hid h1
  go_enter Tryz.func92, Tryz.ntmps92
  go_upto_if 10 with fail
  go_cut [] (fun wy => ∃ mb, Hid (St B w0 wy ((b, .cells (c.setIfInBounds o (.map (some mb))) T) :: ((mb, .map (entsE encI t.es) t.clk) :: F))) ∧ wy.heap[w.heap.size]? = some (.cells #[] 124))
  case first =>
    cases hmv : t.mv with
    | none =>
      rw [hmv] at hso
      obtain ⟨he, hclk⟩ := hok.out.bare hmv
      have hs2 := hnew.out.alloc (.map #[] 0)
      have hsz : (w.alloc (.cells #[] 124)).heap.size = w.heap.size + 1 := by simp
      rw [hsz] at hs2
      unfold tabH at hs2
      rw [hmv] at hs2
      have hs2' := hs2.perm (List.Perm.swap _ _ _)
      have f2 := hs2'.soft (b := b) List.mem_cons_self o
      have c2 := hs2'.cell (b := b) List.mem_cons_self h0.out
      have hs3 := hs2'.set0 o (.map (some (w.heap.size + 1)))
      have hbx2 : (((w.alloc (.cells #[] 124)).alloc (.map #[] 0)).setCell ⟨b, o, none⟩ (.map (some (w.heap.size + 1)))).heap[w.heap.size]? = some (.cells #[] 124) := by
        have hbl : b ≠ w.heap.size := by
          have := hst.lt (b := b) (o := .cells c T) List.mem_cons_self
          omega
        rw [Below.heap_setCell _ _ _ _ (by simpa using Ne.symm hbl), Below.heap_alloc _ _ _ (by simp)]
        exact hbx
      have fin : Hid (∃ mb, Hid (St B w0 (((w.alloc (.cells #[] 124)).alloc (.map #[] 0)).setCell ⟨b, o, none⟩ (.map (some (w.heap.size + 1)))) ((b, .cells (c.setIfInBounds o (.map (some mb))) T) :: ((mb, .map (entsE encI t.es) t.clk) :: F))) ∧ (((w.alloc (.cells #[] 124)).alloc (.map #[] 0)).setCell ⟨b, o, none⟩ (.map (some (w.heap.size + 1)))).heap[w.heap.size]? = some (.cells #[] 124)) := by
        refine Lib.hid ⟨w.heap.size + 1, Lib.hid ?_, hbx2⟩
        rw [he, hclk]
        exact hs3
      clear hs2 hs2' hs3 hbx2 hst
      go_wp2_with fail
      go_meet
      case rel => exact fin.out
    | some mb =>
      rw [hmv] at hso
      have hs2 := hnew.out
      unfold tabH at hs2
      rw [hmv] at hs2
      have hsame : c.setIfInBounds o (.map (some mb)) = c := by
        rw [hmv] at h0
        have := h0.out
        apply Array.ext_getElem?
        intro i
        rw [Array.getElem?_setIfInBounds]
        split
        · rename_i e
          subst e
          rw [this, if_pos (Array.getElem?_eq_some_iff.1 this).1]
        · rfl
      have fin : Hid (∃ mb, Hid (St B w0 (w.alloc (.cells #[] 124)) ((b, .cells (c.setIfInBounds o (.map (some mb))) T) :: ((mb, .map (entsE encI t.es) t.clk) :: F))) ∧ (w.alloc (.cells #[] 124)).heap[w.heap.size]? = some (.cells #[] 124)) := Lib.hid ⟨mb, Lib.hid (by rw [hsame]; exact hs2), hbx⟩
      clear hs2 hsame hst
      go_wp2_with fail
      go_meet
      case rel => exact fin.out
  case rest =>
    clear hst
    obtain ⟨mb, hst, hby⟩ := hcut
    clear hso hbx hnew heq hmk
    have hlt : o < c.size := (Array.getElem?_eq_some_iff.1 h0.out).1
    have e0 := hst.out.cell (b := b) (i := o) (v := .map (some mb)) List.mem_cons_self (by simp [hlt])
    have hg : wc.drew.heap[mb]? = some (.map (entsE encI t.es) t.clk) := hst.out.get (b := mb) (List.mem_cons_of_mem _ List.mem_cons_self)
    have hmu := run_mapE_new keyI uMapI hg (k := k) trivial (fun _ _ => trivial) (.agg #[]) (seek_none.2 hk)
    have hs2 := (hst.out.drew.perm (List.Perm.swap _ _ _)).block0 (o' := .map (entsE encI (t.es ++ [(k, .agg #[], t.clk)])) (t.clk + 1))
    generalize hW : setBlock wc.drew mb (.map (entsE encI (t.es ++ [(k, .agg #[], t.clk)])) (t.clk + 1)) = W at *
    replace hW := Lib.hid hW
    have g0 := hs2.cell (b := b) (i := o) (v := .map (some mb)) (List.mem_cons_of_mem _ List.mem_cons_self) (by simp [hlt])
    have g1 := hs2.cell (b := b) (i := o + 1) (v := .int .i64 t.most) (List.mem_cons_of_mem _ List.mem_cons_self) (by rw [Array.getElem?_setIfInBounds_ne (by omega)]; exact h1.out)
    have gf := hs2.soft (b := b) (List.mem_cons_of_mem _ List.mem_cons_self) (o + 1)
    have gl := fun ty => run_lenE (P := Tryz.prog) (ty := ty) uMapI (hs2.drew.get (b := mb) List.mem_cons_self)
    rw [List.length_append, List.length_singleton] at gl
    have hs3 := (hs2.perm (List.Perm.swap _ _ _)).set0 (o + 1) (.int .i64 (max t.most (t.es.length + 1) : Nat))
    have hs3d := (hs2.drew.perm (List.Perm.swap _ _ _)).set0 (o + 1) (.int .i64 (max t.most (t.es.length + 1) : Nat))
    have fin : Hid (PutR encI B w0 b o c T F t k (.agg #[]) n (.returned (.tuple #[])) (W.drew.setCell ⟨b, o + 1, none⟩ (.int .i64 (max t.most (t.es.length + 1) : Nat)))) := Lib.hid ⟨rfl, mb, hs3d⟩
    have hL : (t.es.length + 1 : Nat) ≤ 1000001 := by omega
    generalize t.es.length + 1 = L at *
    generalize t.most = q at *
    clear hs2 hs3 hs3d hst
    go_upto_region 3 with fail
    go_still_tail 6, (by kernel_rfl)
    change wpList _ _ _ _ _ wc.drew
    go_wp2_with fail
    clear e0 hg hmu hby hW
    by_cases hm : q < L
    · rw [Nat.max_eq_right (Nat.le_of_lt hm)] at fin
      have hm1 : (q : Int) < L := by omega
      go_still_tail 13, (by kernel_rfl)
      change wpList _ _ _ _ _ W.drew
      go_wp2_with fail
      exact bodyPost_end (results_none rfl _ _ _) rfl fin.out
    · rw [Nat.max_eq_left (by omega)] at fin
      have hm1 : ¬ (q : Int) < L := by omega
      go_still_tail 13, (by kernel_rfl)
      change wpList _ _ _ _ _ W.drew
      go_wp2_with fail
      exact bodyPost_end (results_none rfl _ _ _) rfl fin.out

theorem putI_is (hst : St B w0 w ((b, .cells c T) :: (tabH encI t ++ F))) (h0 : c[o]? = some (.map t.mv)) (h1 : c[o + 1]? = some (.int .i64 t.most)) (hok : TbOk t n) (hn : n ≤ 1000000) (hk : k ∉ t.es.map (·.1)) :
    Calls Tryz.prog 92 #[.pointer (some ⟨b, o, none⟩), .int .i64 k, .agg #[]] w (TabR encI B w0 b o c T F (fun t' => t'.rows = t.rows ++ [(k, .agg #[])] ∧ TbOk t' (n + 1))) := by
  refine (putI_any hst h0 h1 hok hn hk).mono ?_
  rintro e w' ⟨rfl, mb, h⟩
  exact ⟨rfl, ⟨some mb, _, _, _⟩, ⟨by simp [Tb.rows], hok.push hk _ mb⟩, h⟩
end
end Go.Proofs.YtoecaonmehbfeaaGreat

/- Tables of ids: a row dropped; what is left is laid anew where much went. -/
namespace Go.Proofs.YtoecaonmehbfeaaGreat
open Go.RowKit
open Go.ChangeMaps (setBlock)
set_option linter.unusedVariables false
set_option linter.unusedSectionVars false
set_option linter.unusedSimpArgs false
set_option maxRecDepth 100000

section
variable {α : Type} [DecidableEq α]
theorem keys_rows2 (t : Tb α) : t.rows.map (·.1) = t.es.map (·.1) := keys_rows t
/-- The rows that are left. -/
def restE (es : List (Ent α)) (k : α) : List (Ent α) := es.eraseP (fun x => decide (x.1 = k))
theorem rest_sub (es : List (Ent α)) (k : α) : (restE es k).Sublist es := List.eraseP_sublist
theorem rest_eq {es : List (Ent α)} (hn : (es.map (·.1)).Nodup) (k : α) : restE es k = es.filter fun x => decide (x.1 ≠ k) := by
  unfold restE
  induction es with
  | nil => rfl
  | cons x es ih =>
    rw [List.map_cons, List.nodup_cons] at hn
    by_cases hx : x.1 = k
    · rw [List.eraseP_cons_of_pos (by simpa using hx), List.filter_cons_of_neg (by simpa using hx)]
      refine (List.filter_eq_self.2 fun y hy => ?_).symm
      have : y.1 ≠ k := fun e => hn.1 (hx ▸ e ▸ List.mem_map_of_mem hy)
      simpa using this
    · rw [List.eraseP_cons_of_neg (by simpa using hx), List.filter_cons_of_pos (by simpa using hx), ih hn.2]
theorem TbOk.rest {t : Tb α} {n : Nat} (h : TbOk t n) (hm : t.mv ≠ none) (k : α) : TbOk (⟨t.mv, restE t.es k, t.clk, t.most⟩ : Tb α) n :=
  ⟨((rest_sub t.es k).map _).nodup h.keys, ⟨((rest_sub t.es k).map _).nodup h.born.1, fun e he => h.born.2 e ((rest_sub t.es k).subset he)⟩, fun e => absurd e hm, Nat.le_trans (rest_sub t.es k).length_le h.len, h.most⟩
theorem rows_filter (t : Tb α) (k : α) : t.rows.filter (fun x => decide (x.1 ≠ k)) = (t.es.filter fun x => decide (x.1 ≠ k)).map fun e => (e.1, e.2.1) := by
  unfold Tb.rows
  rw [List.filter_map]
  rfl
end

section
variable {B : Nat} {w0 w : World} {F : List (Nat × Obj)} {b o : Nat} {c : Array Value} {T : TypeId} {t : Tb Int} {n : Nat} {k : Int}

/-- While what is left is laid anew: done came, those of rows are laid. -/
def Moved (B : Nat) (w0 : World) (b o : Nat) (c : Array Value) (T : TypeId) (F : List (Nat × Obj)) (mb r : Nat) (es : List (Ent Int)) (clk : Nat) (done laid : List (Ent Int)) (w' : World) : Prop :=
  IterAt w' mb r encI es clk done ∧ ∃ seen t2, t2.rows = laid.map (fun e => (e.1, e.2.1)) ∧ TbOk t2 laid.length ∧ St B w0 w' ((b, .cells (tabC c o t2.mv t2.most) T) :: (tabH encI t2 ++ ((mb, .map (entsE encI es) clk) :: (r, .mapIter (some mb) clk seen clk) :: F)))

theorem perm_m {α : Type} (x y z : α) (A F : List α) : (x :: (A ++ (y :: z :: F))).Perm ((x :: A) ++ z :: (y :: F)) := by
  classical
  exact List.perm_iff_count.2 fun a => by simp only [List.count_append, List.count_cons]; omega

theorem Moved.next {mb r : Nat} {es : List (Ent Int)} {clk : Nat} {done : List (Ent Int)} (h : Moved B w0 b o c T F mb r es clk done done w) (hB : Born es clk) (hn : es.Nodup) (ty : TypeId) :
    (done.Perm es ∧ (Instr.next (.pointer (some ⟨r, 0, none⟩)) false ty).run Tryz.prog w = .ok (.tuple #[.bool false]) w) ∨
    ∃ e w', e ∈ es ∧ e ∉ done ∧ (Instr.next (.pointer (some ⟨r, 0, none⟩)) false ty).run Tryz.prog w = .ok (.tuple #[.bool true, encI e.1, e.2.1]) w' ∧ (Instr.entry (.pointer (some ⟨r, 0, none⟩))).run Tryz.prog w' = .ok (.tuple #[encI e.1, e.2.1]) w' ∧
      Moved B w0 b o c T F mb r es clk (done ++ [e]) done w' := by
  obtain ⟨hI, seen, t2, h1, h2, h3⟩ := h
  rcases hI.next (P := Tryz.prog) hB hn ty with ⟨hp, hr⟩ | ⟨e, he, hd, w', hr, hI', hk, hs, ho, ht, hu, hen⟩
  · exact .inl ⟨hp, hr⟩
  · obtain ⟨-, seen', hs', -⟩ := id hI'
    have h3' := h3.perm (perm_m _ _ _ _ _)
    have h4 := (h3'.write hs' hk hs ho ht hu).perm (perm_m _ _ _ _ _).symm
    exact .inr ⟨e, w', he, hd, hr, hen, hI', seen', t2, h1, h2, h4⟩

theorem Moved.laid {mb r : Nat} {es : List (Ent Int)} {clk : Nat} {done : List (Ent Int)} {e : Ent Int} (h : Moved B w0 b o c T F mb r es clk (done ++ [e]) done w) (hv : e.2.1 = .agg #[]) (hk : (es.map (·.1)).Nodup) (he : e ∈ es) (hd : e ∉ done) (hl : done.length ≤ 1000000) (hc : o + 1 < c.size) {w1 : World} (hb : Below w.heap.size w w1) :
    Calls Tryz.prog 92 #[.pointer (some ⟨b, o, none⟩), .int .i64 e.1, .agg #[]] w1 fun e2 w' => e2 = .returned (.tuple #[]) ∧ Moved B w0 b o c T F mb r es clk (done ++ [e]) (done ++ [e]) w' := by
  obtain ⟨hI, seen, t2, h1, h2, h3o⟩ := h
  have h3 := h3o.grow hb
  have hnk : e.1 ∉ t2.es.map (·.1) := by
    rw [← keys_rows, h1]
    intro hm
    simp only [List.map_map, List.mem_map, Function.comp_apply] at hm
    obtain ⟨x, hx, e1⟩ := hm
    have hxe := hI.2.choose_spec.2.2.1 x (by simp [hx])
    have := (seek_some hk he).symm.trans (e1 ▸ seek_some hk hxe)
    rw [Option.some.inj this] at hd
    exact hd hx
  refine (putI_is h3 (tabC_0 _ _ (by omega)) (tabC_1 _ _ hc) h2 hl hnk).mono ?_
  rintro e2 w' ⟨rfl, t3, ⟨h4, h5⟩, h6⟩
  rw [tabC_tabC] at h6
  refine ⟨rfl, hI.kept ?_ ?_, seen, t3, ?_, by rw [List.length_append]; exact h5, h6⟩
  · exact (h6.get (b := mb) (o := .map (entsE encI es) clk) (by simp)).trans hI.1.symm
  · exact (h6.get (b := r) (o := .mapIter (some mb) clk seen clk) (by simp)).trans (h3o.get (b := r) (by simp)).symm
  · rw [h4, h1, List.map_append]
    simp [hv]

set_option maxHeartbeats 1000000 in
theorem dropI_any (hst : St B w0 w ((b, .cells c T) :: (tabH encI t ++ F))) (h0 : c[o]? = some (.map t.mv)) (h1 : c[o + 1]? = some (.int .i64 t.most)) (hok : TbOk t n) (hv : Bare t) (hn : n ≤ 1000000) (hk : k ∈ t.es.map (·.1)) :
    Calls Tryz.prog 103 #[.pointer (some ⟨b, o, none⟩), .int .i64 k] w (TabR encI B w0 b o c T F (fun t' => t'.rows.Perm (t.rows.filter fun x => decide (x.1 ≠ k)) ∧ TbOk t' n)) := by
  obtain ⟨mb, hmv⟩ : ∃ mb, t.mv = some mb := by
    cases h : t.mv with
    | some mb => exact ⟨mb, rfl⟩
    | none => rw [(hok.bare h).1] at hk; simp at hk
  have hst' : St B w0 w ((b, .cells c T) :: ((mb, .map (entsE encI t.es) t.clk) :: F)) := by
    unfold tabH at hst; rw [hmv] at hst; exact hst
  have c0 : w.cell? ⟨b, o, none⟩ = some (.map (some mb)) := hst'.cell (b := b) List.mem_cons_self (hmv ▸ h0)
  have hg := hst'.get (b := mb) (List.mem_cons_of_mem _ List.mem_cons_self)
  have hs1 := ((hst'.perm (List.Perm.swap _ _ _)).block0 (o' := .map (entsE encI (restE t.es k)) t.clk)).perm (List.Perm.swap _ _ _)
  have hrest := hok.rest (by rw [hmv]; simp) k
  have hre := rest_eq hok.keys k
  have hmost := hok.most
  have hlt : (restE t.es k).length ≤ n := hrest.len
  -- what is left stays
  have fin1 : ∀ w', St B w0 w' ((b, .cells c T) :: ((mb, .map (entsE encI (restE t.es k)) t.clk) :: F)) → TabR encI B w0 b o c T F (fun t' => t'.rows.Perm (t.rows.filter fun x => decide (x.1 ≠ k)) ∧ TbOk t' n) (.returned (.tuple #[])) w' := fun w' h => by
    refine ⟨rfl, ⟨t.mv, restE t.es k, t.clk, t.most⟩, ⟨?_, hrest⟩, ?_⟩
    · rw [rows_filter, ← hre]
      exact List.Perm.refl _
    · rw [tabC_same h0 h1]
      unfold tabH
      rw [hmv]
      exact h
  generalize hW : setBlock w mb (.map (entsE encI (restE t.es k)) t.clk) = W at *
  have d0 : W.cell? ⟨b, o, none⟩ = some (.map (some mb)) := hs1.cell (b := b) List.mem_cons_self (hmv ▸ h0)
  have d1 : W.cell? ⟨b, o + 1, none⟩ = some (.int .i64 t.most) := hs1.cell (b := b) List.mem_cons_self h1
  have gl := fun ty => run_lenE (P := Tryz.prog) (ty := ty) uMapI (hs1.drew.get (b := mb) (List.mem_cons_of_mem _ List.mem_cons_self))
  replace hs1 := Lib.hid hs1
  replace fin1 := Lib.hid fin1
  replace hW := Lib.hid hW
  go_enter Tryz.func103, Tryz.ntmps103
  go_wp2_with (at_delete; refine wpList_delE rfl (.tmp 10) (.tmp 11) rfl keyI uMapI rfl hg (k := k) trivial (fun _ _ => trivial) rfl ?_; intro w2 hw2; replace hw2 := Lib.hid (hw2.out.trans hW.out); rw [hw2.out])
  clear hst hst' h0 hg c0 gl
  replace hre := Lib.hid hre
  obtain ⟨L, hLn⟩ : ∃ L, L = (restE t.es k).length := ⟨_, rfl⟩
  obtain ⟨q, hqn⟩ : ∃ q, q = t.most := ⟨_, rfl⟩
  obtain ⟨d, hd⟩ : ∃ d, d = q / 4 := ⟨_, rfl⟩
  have gl2 := fun ty n => run_lenE (P := Tryz.prog) (ty := ty) uMapI ((hs1.out.drewN n).get (b := mb) (List.mem_cons_of_mem _ List.mem_cons_self))
  rw [← hLn] at gl2 hlt
  rw [← hqn] at d1 hmost
  have hL : (L : Int) ≤ 1000000 := by omega
  have hd1 : (q : Int) / 4 = d := by omega
  have hd2 : IntKind.i64.wrap (d : Int) = d := IntWalk.i64_in _ (by omega)
  have f0 : W.frozen? ⟨b, o, none⟩ = false := hs1.out.soft (b := b) List.mem_cons_self o
  have f1 : W.frozen? ⟨b, o + 1, none⟩ = false := hs1.out.soft (b := b) List.mem_cons_self (o + 1)
  have hq0 : (0 : Int) ≤ q := by omega
  replace hLn := Lib.hid hLn
  replace hqn := Lib.hid hqn
  replace hd := Lib.hid hd
  by_cases hc : (d : Int) < L
  · have fin := Lib.hid (fun n => fin1.out _ (hs1.out.drewN n))
    go_quiet (fail)
    go_wp2_with fail
    exact bodyPost_end (results_none rfl _ _ _) rfl (fin.out _)
  · have hs2 := Lib.hid (hs1.out.drewN 1)
    go_quiet (fail)
    go_upto_region 4 with fail
    have hs3 : St B w0 (((W.drewN nq).setCell ⟨b, o, none⟩ (.map none)).setCell ⟨b, o + 1, none⟩ (.int .i64 0)) ((b, .cells (tabC c o none 0) T) :: ((mb, .map (entsE encI (restE t.es k)) t.clk) :: F)) := ((hs1.out.drewN nq).set0 o (.map none)).set0 (o + 1) (.int .i64 0)
    generalize ((W.drewN nq).setCell ⟨b, o, none⟩ (.map none)).setCell ⟨b, o + 1, none⟩ (.int .i64 0) = W3 at *
    have hg3 := hs3.get (b := mb) (List.mem_cons_of_mem _ List.mem_cons_self)
    have hrg := run_range_map (P := Tryz.prog) W3 116 _ _ mb _ _ uMapI hg3
    have hs4 := (hs3.alloc (.mapIter (some mb) t.clk #[] t.clk)).perm ((List.Perm.swap _ _ _).trans ((List.Perm.swap _ _ _).cons _))
    have start : Hid (Moved B w0 b o c T F mb W3.heap.size (restE t.es k) t.clk [] [] (W3.alloc (.mapIter (some mb) t.clk #[] t.clk))) := Lib.hid ⟨⟨hs4.get (b := mb) (by simp), #[], hs4.get (b := W3.heap.size) (by simp), by simp, by simp, by simp⟩, #[], Tb.new, rfl, TbOk.new _, hs4⟩
    have hob := Lib.hid hrest.born
    have hkn := Lib.hid hrest.keys
    have hnd : (restE t.es k).Nodup := List.Pairwise.of_map (S := fun a b => a ≠ b) _ (fun a b h e => h (by rw [e])) hrest.keys
    have hva : Hid (∀ e ∈ restE t.es k, e.2.1 = .agg #[]) := Lib.hid fun e he => hv e ((rest_sub t.es k).subset he)
    have hcs : o + 1 < c.size := (Array.getElem?_eq_some_iff.1 h1).1
    have fin : Hid (∀ done w', Moved B w0 b o c T F mb W3.heap.size (restE t.es k) t.clk done done w' → done.Perm (restE t.es k) → TabR encI B w0 b o c T F (fun t' => t'.rows.Perm (t.rows.filter fun x => decide (x.1 ≠ k)) ∧ TbOk t' n) (.returned (.tuple #[])) w') := Lib.hid (by
      rintro done w' ⟨-, seen, t2, g1, g2, g3⟩ hp
      refine ⟨rfl, t2, ⟨?_, g2.mono ?_⟩, g3.sub ?_⟩
      · rw [g1, rows_filter, ← hre.out]
        exact hp.map _
      · rw [hp.length_eq]
        have := hLn.out
        omega
      · refine List.Sublist.cons_cons _ ((List.Sublist.refl _).append ?_)
        exact (List.sublist_cons_self _ _).trans (List.sublist_cons_self _ _))
    replace hlt := Lib.hid (show (restE t.es k).length ≤ 1000000 by have := hLn.out; omega)
    replace hnd := Lib.hid hnd
    clear hs1 hs2 hs3 hs4 hg3 hrest fin1 hW gl2 d0 d1 f0 f1 h1 hok hv hk hLn hqn hd hre hd1 hd2 hc hL hq0 hmost
    generalize restE t.es k = es at *
    generalize t.clk = clk at *
    generalize W3.heap.size = r at *
    generalize W3.alloc (.mapIter (some mb) clk #[] clk) = W4 at *
    go_wp2_with fail
    go_loopg [5] es.length (fun g v5 wr => ∃ done, done.length + g = es.length ∧ Hid (Moved B w0 b o c T F mb r es clk done done wr))
    case atStart => exact ⟨[], by simp, start⟩
    case round =>
      obtain ⟨done, hg, hM⟩ := hrel
      rcases hM.out.next hob.out hnd.out 0 with ⟨hp, hnx⟩ | ⟨e, w', he, hd, hnx, hen, hM2⟩
      · have fin := Lib.hid (fin.out _ _ hM.out hp)
        go_wp2_with fail
        exact bodyPost_end (results_none rfl _ _ _) rfl fin.out
      · have hev := hva.out e he
        rw [hev] at hnx hen
        have hle : done.length + 1 ≤ es.length := by
          have := nodup_len (l := done ++ [e]) (m := es) (hM2.1.2.choose_spec.2.1) hM2.1.2.choose_spec.2.2.1
          simpa using this
        have cp := Lib.hid (fun w1 hb => hM2.laid hev hkn.out he hd (by have := hlt.out; omega) hcs (w1 := w1) hb)
        have hnew := Lib.hid (new_below w' (.cells #[] 124))
        clear hM hM2 hd he fin start
        go_wp2_with fail
        refine (cp.out _ hnew.out).mono ?_
        rintro e2 w5 ⟨rfl, hM3⟩
        go_wp2_with fail
        go_roundg (es.length - (done.length + 1))
        case measure => omega
        case rel => exact ⟨done ++ [e], by rw [List.length_append, List.length_singleton]; omega, Lib.hid hM3⟩
end
end Go.Proofs.YtoecaonmehbfeaaGreat
