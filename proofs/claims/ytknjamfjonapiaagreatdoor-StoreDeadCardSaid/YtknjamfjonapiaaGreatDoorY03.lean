import Derived.Test.YtknjamfjonapiaaGreatDoorY02
import Derived.Lib.Bytealg
import Derived.Test.YtknjamfjonapiaaGreatDoorProg
import Derived.Laws.BytesArg
import Derived.Laws.Concat
import Derived.Laws.DeepStrings4
import Derived.Lib.Hide
import Derived.Lib.UnsafeStr
import Derived.Deep.QuietTactic
import Derived.BigQuiet
import Derived.Laws.MakeOwn
import Derived.Lib.BufferWrite
namespace Go.Proofs.YtknjamfjonapiaaGreatDoor
open Go.RowKit
set_option linter.unusedVariables false
def wordsL : List UInt8 → List (List UInt8)
 | [] => [[]]
 | c :: l => if c = 46 then [] :: wordsL l else match wordsL l with
  | [] => [[c]]
  | w :: r => (c :: w) :: r
theorem words_pos (l : List UInt8) : 0 < (wordsL l).length := by
 cases l with
 | nil => simp [wordsL]
 | cons c l =>
  unfold wordsL
  split
  ·simp
  ·split <;> simp
theorem words_len (l : List UInt8) : (wordsL l).length ≤ l.length + 1 := by
 induction l with
 | nil => simp [wordsL]
 | cons c l ih =>
  unfold wordsL
  split
  ·simpa using ih
  ·split
   ·simp
   ·rename_i w r h
    rw [h] at ih
    simp only [List.length_cons] at ih ⊢
    omega
theorem words_none {l : List UInt8} (h : 46 ∉ l) : wordsL l = [l] := by
 induction l with
 | nil => rfl
 | cons c l ih =>
  simp only [List.mem_cons, not_or] at h
  rw [wordsL, if_neg (fun e => h.1 e.symm), ih h.2]
theorem words_cut {w : List UInt8} (h : 46 ∉ w) (r : List UInt8) : wordsL (w ++ 46 :: r) = w :: wordsL r := by
 induction w with
 | nil => simp [wordsL]
 | cons c w ih =>
  simp only [List.mem_cons, not_or] at h
  rw [List.cons_append, wordsL, if_neg (fun e => h.1 e.symm), ih h.2]
theorem cut_cases (l : List UInt8) : 46 ∉ l ∨ ∃ w r, l = w ++ 46 :: r ∧ 46 ∉ w := by
 induction l with
 | nil => exact .inl (by simp)
 | cons c l ih =>
  by_cases hc : c = 46
  ·subst hc
   exact .inr ⟨[], l, rfl, by simp⟩
  ·rcases ih with h | ⟨w, r, rfl, h⟩
   ·exact .inl (by simp only [List.mem_cons, not_or]; exact ⟨fun e => hc e.symm, h⟩)
   ·exact .inr ⟨c :: w, r, rfl, by simp only [List.mem_cons, not_or]; exact ⟨fun e => hc e.symm, h⟩⟩
theorem index_none {l : List UInt8} (h : 46 ∉ l) : Lib.indexByte l 46 = -1 := by
 induction l with
 | nil => rfl
 | cons c l ih =>
  simp only [List.mem_cons, not_or] at h
  have hb : (c == (46 : UInt8)) = false := by simpa using fun e => h.1 e.symm
  rw [Lib.indexByte, hb, ih h.2]
  rfl
theorem index_some {w : List UInt8} (h : 46 ∉ w) (r : List UInt8) : Lib.indexByte (w ++ 46 :: r) 46 = w.length := by
 induction w with
 | nil => simp [Lib.indexByte]
 | cons c w ih =>
  simp only [List.mem_cons, not_or] at h
  have hb : (c == (46 : UInt8)) = false := by simpa using fun e => h.1 e.symm
  have hn : (((w.length : Nat) : Int) == -1) = false := by
   rw [beq_eq_false_iff_ne]
   omega
  rw [List.cons_append, Lib.indexByte, hb, ih h.2, hn]
  simp
abbrev Wds := List (List UInt8)
def stands (p x : List UInt8) : Bool := p == [42] || p == x
def hashL (f : Wds → Bool) : Wds → Bool
 | [] => f []
 | x :: k => f (x :: k) || hashL f k
def gl : Wds → Wds → Bool
 | [], k => k.isEmpty
 | p :: ps, k => if p = [35] then hashL (gl ps) k else match k with
  | [] => false
  | x :: ks => stands p x && gl ps ks
theorem gl_nil (k : Wds) : gl [] k = k.isEmpty := rfl
theorem gl_hash (ps k : Wds) : gl ([35] :: ps) k = hashL (gl ps) k := by
 cases k with
 | nil =>
  show (if [35] = [35] then hashL (gl ps) [] else false) = _
  rw [if_pos rfl]
 | cons x k =>
  show (if [35] = [35] then hashL (gl ps) (x :: k) else (stands [35] x && gl ps k)) = _
  rw [if_pos rfl]
theorem gl_short {p : List UInt8} (h : p ≠ [35]) (ps : Wds) : gl (p :: ps) [] = false := by
 show (if p = [35] then hashL (gl ps) [] else false) = false
 rw [if_neg h]
theorem gl_one {p : List UInt8} (h : p ≠ [35]) (ps : Wds) (x : List UInt8) (k : Wds) : gl (p :: ps) (x :: k) = (stands p x && gl ps k) := by
 show (if p = [35] then hashL (gl ps) (x :: k) else (stands p x && gl ps k)) = _
 rw [if_neg h]
theorem hashL_iff (f : Wds → Bool) (k : Wds) : hashL f k = true ↔ ∃ j, j ≤ k.length ∧ f (k.drop j) = true := by
 induction k with
 | nil =>
  rw [hashL]
  constructor
  ·exact fun h => ⟨0, Nat.le_refl _, h⟩
  ·rintro ⟨j, _, h⟩
   rwa [List.drop_nil] at h
 | cons x k ih =>
  rw [hashL, Bool.or_eq_true, ih]
  constructor
  ·rintro (h | ⟨j, hj, h⟩)
   ·exact ⟨0, Nat.zero_le _, h⟩
   ·exact ⟨j + 1, by simpa using hj, h⟩
  ·rintro ⟨j, hj, h⟩
   cases j with
   | zero => exact .inl h
   | succ j => exact .inr ⟨j, by simpa using hj, h⟩
def Fit : Wds → Wds → Prop
 | [], [] => True
 | s :: S, a :: A => s ≠ [35] ∧ stands s a = true ∧ Fit S A
 | _, _ => False
theorem Fit.len : ∀ {S A : Wds}, Fit S A → S.length = A.length
 | [], [], _ => rfl
 | s :: S, a :: A, h => by simp [Fit.len (S := S) (A := A) h.2.2]
 | [], _ :: _, h => h.elim
 | _ :: _, [], h => h.elim
theorem Fit.snoc : ∀ {S A : Wds} {s a : List UInt8}, Fit S A → s ≠ [35] → stands s a = true → Fit (S ++ [s]) (A ++ [a])
 | [], [], _, _, _, h1, h2 => ⟨h1, h2, trivial⟩
 | _ :: _, _ :: _, _, _, h, h1, h2 => ⟨h.1, h.2.1, Fit.snoc h.2.2 h1 h2⟩
 | [], _ :: _, _, _, h, _, _ => h.elim
 | _ :: _, [], _, _, h, _, _ => h.elim
section
variable {P K : Wds} {a t f : Nat} {b : Int}
end
section
variable {P K : Wds}
end
def inNm (c : UInt8) : Bool := decide (97 ≤ c.toNat ∧ c.toNat ≤ 122) || decide (65 ≤ c.toNat ∧ c.toNat ≤ 90) || decide (48 ≤ c.toNat ∧ c.toNat ≤ 57) || decide (c.toNat = 45)
def isNm (l : List UInt8) : Bool := decide (1 ≤ l.length) && decide (l.length ≤ 12) && l.all inNm
end Go.Proofs.YtknjamfjonapiaaGreatDoor
namespace Go.Proofs.YtknjamfjonapiaaGreatDoor
abbrev Plc := List UInt8 × Int × Bool
def findP (P : List Plc) (n : List UInt8) : Option Plc := P.find? fun p => p.1 == n
def ofB (A : List Bnd) (n : List UInt8) : List Bnd := A.filter fun b => b.1 == n
def dropP (P : List Plc) (n : List UInt8) : List Plc := P.filter fun p => !(p.1 == n)
def leaveX (P : List Plc) (A : List Bnd) (n : List UInt8) : List Plc :=
 match findP P n with
 | some p => if p.2.2 = true ∧ ofB A n = [] then dropP P n else P
 | none => P
def declX (P : List Plc) (n : List UInt8) (k : Int) (a : Bool) : List Plc × Int :=
 if n = [] then (P, 403)
 else if isNm n = false ∨ ¬ (1 ≤ k ∧ k ≤ 3) then (P, 406)
 else match findP P n with
 | some p => if p.2.1 = k ∧ p.2.2 = a then (P, 0) else (P, 406)
 | none => if 8 ≤ P.length then (P, 506) else (P ++ [(n, k, a)], 0)
def delX (P : List Plc) (A : List Bnd) (n : List UInt8) (iu : Bool) : List Plc × List Bnd × Int :=
 if n = [] then (P, A, 403)
 else match findP P n with
 | none => (P, A, 404)
 | some _ => if iu = true ∧ ofB A n ≠ [] then (P, A, 406) else (dropP P n, A.filter (fun b => !(b.1 == n)), 0)
def bindX (P : List Plc) (A : List Bnd) (b : Bnd) : List Bnd × Int :=
 if b.1 = [] then (A, 403)
 else match findP P b.1 with
 | none => (A, 404)
 | some _ => if 40 < b.2.2.length then (A, 406) else if (addL A b).2.2 = 0 then ((addL A b).1, 0) else (A, 506)
def leavesX (P : List Plc) (A : List Bnd) (l : List (List UInt8)) : List Plc := l.foldl (fun P n => leaveX P A n) P
def dropqX (P : List Plc) (A : List Bnd) (q : List UInt8) : List Plc × List Bnd :=
 (leavesX P (A.filter fun b => !(b.2.1 == q)) (onceL [] ((A.filter fun b => b.2.1 == q).map (·.1))), A.filter fun b => !(b.2.1 == q))
def fitsK (k : Int) (key : List UInt8) (b : Bnd) : Bool := k == 2 || k == 1 && b.2.2 == key || k == 3 && gl (wordsL b.2.2) (wordsL key)
def routeL (k : Int) (A : List Bnd) (n key : List UInt8) : List (List UInt8) := onceL [] (((ofB A n).filter (fitsK k key)).map (·.2.1))
def routeX (P : List Plc) (A : List Bnd) (n key : List UInt8) : List (List UInt8) × Bool :=
 if n = [] then ([key], true)
 else match findP P n with
 | none => ([], false)
 | some p => (routeL p.2.1 A n key, true)
structure FineX (P : List Plc) (A : List Bnd) : Prop where
 few : P.length ≤ 8
 once : (P.map (·.1)).Nodup
 each : ∀ p ∈ P, p.1 ≠ [] ∧ p.1.length ≤ 12 ∧ 1 ≤ p.2.1 ∧ p.2.1 ≤ 3
 rows : FineL A
 keys : ∀ b ∈ A, b.2.2.length ≤ 40
 ins : ∀ b ∈ A, b.1 ∈ P.map (·.1)
theorem FineX.nil : FineX [] [] := ⟨by simp, by simp, by simp, FineL.nil, by simp, by simp⟩
section
variable {P : List Plc} {A : List Bnd} {n : List UInt8} {p : Plc} {b : Bnd}
theorem findP_mem (h : findP P n = some p) : p ∈ P ∧ p.1 = n := ⟨List.mem_of_find?_eq_some h, by simpa using List.find?_some h⟩
theorem findP_none : findP P n = none ↔ n ∉ P.map (·.1) := by
 unfold findP
 rw [List.find?_eq_none]
 simp only [List.mem_map, not_exists, not_and, beq_iff_eq]
theorem ofB_nil (h : n ∉ A.map (·.1)) : ofB A n = [] := by
 unfold ofB
 rw [List.filter_eq_nil_iff]
 intro b hb
 simp only [beq_iff_eq]
 exact fun e => h (e ▸ List.mem_map_of_mem hb)
theorem ofB_none (h : FineX P A) (hn : findP P n = none) : ofB A n = [] := by
 refine ofB_nil fun hm => ?_
 obtain ⟨b, hb, rfl⟩ := List.mem_map.1 hm
 exact findP_none.1 hn (h.ins b hb)
theorem dropP_names (P : List Plc) (n : List UInt8) : (dropP P n).map (·.1) = (P.map (·.1)).filter fun x => !(x == n) := by
 unfold dropP
 rw [List.filter_map]
 rfl
theorem mem_dropP : p ∈ dropP P n ↔ p ∈ P ∧ p.1 ≠ n := by simp [dropP]
theorem FineX.dropP (h : FineX P A) {A' : List Bnd} (hA : FineL A') (hs : ∀ b ∈ A', b ∈ A) (hn : ∀ b ∈ A', b.1 ≠ n) : FineX (dropP P n) A' := by
 refine ⟨Nat.le_trans (List.length_filter_le _ _) h.few, ?_, fun p hp => h.each p (mem_dropP.1 hp).1, hA, fun b hb => h.keys b (hs b hb), fun b hb => ?_⟩
 ·rw [dropP_names]
  exact h.once.sublist List.filter_sublist
 ·rw [dropP_names, List.mem_filter]
  exact ⟨h.ins b (hs b hb), by simpa using hn b hb⟩
theorem FineX.sub (h : FineX P A) (q : Bnd → Bool) : FineX P (A.filter q) :=
 ⟨h.few, h.once, h.each, h.rows.filter q, fun b hb => h.keys b (List.mem_filter.1 hb).1, fun b hb => h.ins b (List.mem_filter.1 hb).1⟩
theorem isNm_len (h : isNm n = true) : n ≠ [] ∧ n.length ≤ 12 := by
 unfold isNm at h
 simp only [Bool.and_eq_true, decide_eq_true_eq] at h
 refine ⟨fun e => ?_, h.1.2⟩
 rw [e] at h
 simp at h
theorem FineX.decl (h : FineX P A) (n : List UInt8) (k : Int) (a : Bool) : FineX (declX P n k a).1 A := by
 unfold declX
 split
 ·exact h
 ·split
  ·exact h
  ·rename_i hn hc
   split
   ·split <;> exact h
   ·rename_i hf
    split
    ·exact h
    ·rename_i hl
     simp only [not_or, Bool.not_eq_false, Decidable.not_not] at hc
     refine ⟨by rw [List.length_append, List.length_singleton]; omega, ?_, ?_, h.rows, h.keys, fun b hb => ?_⟩
     ·rw [List.map_append, List.nodup_append]
      refine ⟨h.once, by simp, ?_⟩
      intro x hx y hy e
      simp only [List.map_cons, List.map_nil, List.mem_singleton] at hy
      exact findP_none.1 hf (hy ▸ e ▸ hx)
     ·intro p hp
      rcases List.mem_append.1 hp with hp | hp
      ·exact h.each p hp
      ·rw [List.mem_singleton] at hp
       subst hp
       obtain ⟨g1, g2⟩ := isNm_len hc.1
       exact ⟨g1, g2, hc.2.1, hc.2.2⟩
     ·rw [List.map_append, List.mem_append]
      exact .inl (h.ins b hb)
theorem FineX.del (h : FineX P A) (n : List UInt8) (iu : Bool) : FineX (delX P A n iu).1 (delX P A n iu).2.1 := by
 unfold delX
 split
 ·exact h
 ·split
  ·exact h
  ·split
   ·exact h
   ·refine h.dropP (h.rows.filter _) (fun b hb => (List.mem_filter.1 hb).1) fun b hb => ?_
    have := (List.mem_filter.1 hb).2
    simpa using this
theorem FineX.bind (h : FineX P A) (hb : FitB b) : FineX P (bindX P A b).1 := by
 unfold bindX
 split
 ·exact h
 ·split
  ·exact h
  ·rename_i p hp
   split
   ·exact h
   ·rename_i hk
    split
    ·refine ⟨h.few, h.once, h.each, h.rows.add hb, ?_, ?_⟩
     ·intro x hx
      unfold addL at hx
      split at hx
      ·exact h.keys x hx
      ·split at hx
       ·exact h.keys x hx
       ·rcases List.mem_append.1 hx with hx | hx
        ·exact h.keys x hx
        ·rw [List.mem_singleton] at hx
         subst hx
         omega
     ·intro x hx
      unfold addL at hx
      split at hx
      ·exact h.ins x hx
      ·split at hx
       ·exact h.ins x hx
       ·rcases List.mem_append.1 hx with hx | hx
        ·exact h.ins x hx
        ·rw [List.mem_singleton] at hx
         subst hx
         obtain ⟨g1, g2⟩ := findP_mem hp
         exact g2 ▸ List.mem_map_of_mem g1
    ·exact h
end
def autoB (n : Int) : Bool := bits .and .i64 n 2 != 0
def kindL (l : List UInt8) : Int := if l = [100, 105, 114, 101, 99, 116] then 1 else if l = [102, 97, 110, 111, 117, 116] then 2 else if l = [116, 111, 112, 105, 99] then 3 else 0
def unuB (n : Int) : Bool := bits .and .i64 n 1 != 0
def hasX (P : List Plc) (n : List UInt8) : Bool := n == [] || (findP P n).isSome
end Go.Proofs.YtknjamfjonapiaaGreatDoor
namespace Go.Proofs.YtknjamfjonapiaaGreatDoor
open Go.RowKit
set_option linter.unusedVariables false
structure Ent where
 id : Int
 body : Int
 size : Int
 exch : List UInt8
 key : List UInt8
 prio : Int
 ttl : Int
 til : Int
 again : Bool
 hops : Int
abbrev enV (e : Ent) : Value := .agg #[.int .i64 e.id, .int .i64 e.body, .int .i64 e.size, tx e.exch, tx e.key, .int .i64 e.prio, .int .i64 e.ttl, .int .i64 e.til, .bool e.again, .int .i64 e.hops]
abbrev enO (e : Ent) : Obj := .cells #[.int .i64 e.id, .int .i64 e.body, .int .i64 e.size, tx e.exch, tx e.key, .int .i64 e.prio, .int .i64 e.ttl, .int .i64 e.til, .bool e.again, .int .i64 e.hops] 51
def In64 (n : Int) : Prop := -9223372036854775808 ≤ n ∧ n ≤ 9223372036854775807
def lessE (a b : Ent) : Bool := decide (b.prio < a.prio ∨ a.prio = b.prio ∧ a.id < b.id)
def goneE (e : Ent) (now : Int) : Bool := decide (0 < e.til ∧ e.til ≤ now)
end Go.Proofs.YtknjamfjonapiaaGreatDoor
namespace Go.Proofs.YtknjamfjonapiaaGreatDoor
open Go.RowKit
set_option linter.unusedVariables false
theorem less_iff {a b : Ent} : lessE a b = true ↔ b.prio < a.prio ∨ a.prio = b.prio ∧ a.id < b.id := by simp [lessE]
theorem less_trans {a b c : Ent} (h1 : lessE a b = true) (h2 : lessE b c = true) : lessE a c = true := by
 rw [less_iff] at *
 omega
structure RkOk (M : List Ent) : Prop where
 sorted : M.Pairwise fun a b => lessE a b = true
 prio : ∀ e ∈ M, 0 ≤ e.prio ∧ e.prio ≤ 3
 ids : (M.map (·.id)).Nodup
theorem RkOk.nil : RkOk [] := ⟨List.Pairwise.nil, by simp, by simp⟩
theorem RkOk.sub {M L : List Ent} (h : RkOk M) (hs : L.Sublist M) : RkOk L := ⟨h.sorted.sublist hs, fun e he => h.prio e (hs.subset he), h.ids.sublist (hs.map _)⟩
theorem RkOk.inj {M : List Ent} (h : RkOk M) {a b : Ent} (ha : a ∈ M) (hb : b ∈ M) (e : a.id = b.id) : a = b := by
 obtain ⟨i, hi⟩ := List.getElem?_of_mem ha
 obtain ⟨j, hj⟩ := List.getElem?_of_mem hb
 have hil := (List.getElem?_eq_some_iff.1 hi).1
 have : i = j := (List.getElem?_inj (by simpa using hil) h.ids).1 (by simp [hi, hj, e])
 subst this
 rw [hi] at hj; cases hj; rfl
def entP (M : List Ent) (p : Int) : List Ent := M.filter fun e => decide (e.prio = p)
def rowP (M : List Ent) (p : Int) : List Int := (entP M p).map (·.id)
theorem entP_cons (e : Ent) (M : List Ent) (p : Int) : entP (e :: M) p = if e.prio = p then e :: entP M p else entP M p := by
 unfold entP
 rw [List.filter_cons]
 simp only [decide_eq_true_eq]
theorem rowP_cons (e : Ent) (M : List Ent) (p : Int) : rowP (e :: M) p = if e.prio = p then e.id :: rowP M p else rowP M p := by
 unfold rowP
 rw [entP_cons]
 split <;> rfl
theorem mem_entP {M : List Ent} {p : Int} {e : Ent} : e ∈ entP M p ↔ e ∈ M ∧ e.prio = p := by simp [entP]
theorem entP_none {M : List Ent} {p : Int} (h : ∀ e ∈ M, e.prio ≠ p) : entP M p = [] := by
 unfold entP
 rw [List.filter_eq_nil_iff]
 intro e he
 simpa using h e he
theorem row_up {M : List Ent} (h : RkOk M) (p : Int) : (rowP M p).Pairwise (· < ·) := by
 unfold rowP
 rw [List.pairwise_map]
 have h1 := h.sorted.sublist (List.filter_sublist (p := fun e => decide (e.prio = p)))
 refine List.Pairwise.imp_of_mem ?_ h1
 intro a b ha hb hl
 have h2 := (mem_entP.1 ha).2
 have h3 := (mem_entP.1 hb).2
 rw [less_iff] at hl
 omega
theorem by_rows {M : List Ent} (h : RkOk M) : M = entP M 3 ++ (entP M 2 ++ (entP M 1 ++ entP M 0)) := by
 induction M with
 | nil => rfl
 | cons e M ih =>
  have ih := ih (h.sub (List.sublist_cons_self _ _))
  obtain ⟨p0, p1⟩ := h.prio e List.mem_cons_self
  have hle : ∀ x ∈ M, x.prio ≤ e.prio := fun x hx => by
   have := (List.pairwise_cons.1 h.sorted).1 x hx
   rw [less_iff] at this
   omega
  have hno : ∀ p, e.prio < p → entP M p = [] := fun p hp => entP_none fun x hx => by
   have := hle x hx
   omega
  simp only [entP_cons]
  rcases (by omega : e.prio = 3 ∨ e.prio = 2 ∨ e.prio = 1 ∨ e.prio = 0) with q | q | q | q
  ·rw [q]
   simp only [if_true, show (3 : Int) ≠ 2 by decide, show (3 : Int) ≠ 1 by decide, show (3 : Int) ≠ 0 by decide, if_false, List.cons_append]
   rw [← ih]
  ·have a3 := hno 3 (by omega)
   rw [q]
   simp only [if_true, show (2 : Int) ≠ 3 by decide, show (2 : Int) ≠ 1 by decide, show (2 : Int) ≠ 0 by decide, if_false, a3, List.nil_append, List.cons_append]
   rw [a3, List.nil_append] at ih
   rw [← ih]
  ·have a3 := hno 3 (by omega)
   have a2 := hno 2 (by omega)
   rw [q]
   simp only [if_true, show (1 : Int) ≠ 3 by decide, show (1 : Int) ≠ 2 by decide, show (1 : Int) ≠ 0 by decide, if_false, a3, a2, List.nil_append, List.cons_append]
   rw [a3, a2, List.nil_append, List.nil_append] at ih
   rw [← ih]
  ·have a3 := hno 3 (by omega)
   have a2 := hno 2 (by omega)
   have a1 := hno 1 (by omega)
   rw [q]
   simp only [if_true, show (0 : Int) ≠ 3 by decide, show (0 : Int) ≠ 2 by decide, show (0 : Int) ≠ 1 by decide, if_false, a3, a2, a1, List.nil_append]
   rw [a3, a2, a1, List.nil_append, List.nil_append, List.nil_append] at ih
   rw [← ih]
def cntL (r : List Int) (k : Int) : Nat := (r.takeWhile fun x => decide (x < k)).length
theorem cntL_le (r : List Int) (k : Int) : cntL r k ≤ r.length := (List.takeWhile_sublist _).length_le
theorem cntL_is {r : List Int} {k : Int} {f : Nat} (hf : f ≤ r.length) (h1 : ∀ i x, i < f → r[i]? = some x → x < k) (h2 : ∀ x, r[f]? = some x → ¬ x < k) : cntL r k = f := by
 induction r generalizing f with
 | nil =>
  simp at hf
  subst hf
  rfl
 | cons y r ih =>
  cases f with
  | zero =>
   have := h2 y rfl
   simp [cntL, this]
  | succ f =>
   have h3 := h1 0 y (by omega) rfl
   have h4 := ih (f := f) (by simpa using hf) (fun i x hi hx => h1 (i + 1) x (by omega) (by simpa using hx)) (fun x hx => h2 x (by simpa using hx))
   unfold cntL at *
   rw [List.takeWhile_cons_of_pos (by simpa using h3), List.length_cons, h4]
theorem cntL_zero {r : List Int} {k : Int} (h : ∀ x ∈ r, ¬ x < k) : cntL r k = 0 := cntL_is (Nat.zero_le _) (fun i x hi => absurd hi (by omega)) fun x hx => h x (List.mem_of_getElem? hx)
theorem cntL_cons {y : Int} {r : List Int} {k : Int} (h : y < k) : cntL (y :: r) k = cntL r k + 1 := by
 unfold cntL
 rw [List.takeWhile_cons_of_pos (by simpa using h), List.length_cons]
def insM (e : Ent) : List Ent → List Ent
 | [] => [e]
 | x :: l => if lessE e x = true then e :: x :: l else x :: insM e l
def rkPutRow (r : List Int) (k : Int) : List Int := r.take (cntL r k) ++ k :: r.drop (cntL r k)
theorem mem_ins {e x : Ent} : ∀ {M : List Ent}, x ∈ insM e M ↔ x = e ∨ x ∈ M
 | [] => by simp [insM]
 | y :: l => by
  unfold insM
  split
  ·simp
  ·rw [List.mem_cons, mem_ins (M := l), List.mem_cons]
   constructor
   ·rintro (h | h | h)
    ·exact .inr (.inl h)
    ·exact .inl h
    ·exact .inr (.inr h)
   ·rintro (h | h | h)
    ·exact .inr (.inl h)
    ·exact .inl h
    ·exact .inr (.inr h)
theorem ins_perm (e : Ent) : ∀ (M : List Ent), (insM e M).Perm (e :: M)
 | [] => List.Perm.refl _
 | y :: l => by
  unfold insM
  split
  ·exact List.Perm.refl _
  ·exact ((ins_perm e l).cons y).trans (List.Perm.swap _ _ _)
theorem ins_len (e : Ent) (M : List Ent) : (insM e M).length = M.length + 1 := (ins_perm e M).length_eq
theorem not_less {a b : Ent} (h : ¬ lessE a b = true) (hi : a.id ≠ b.id) : lessE b a = true := by
 rw [less_iff] at *
 omega
theorem RkOk.ins {M : List Ent} (h : RkOk M) {e : Ent} (hp : 0 ≤ e.prio ∧ e.prio ≤ 3) (hn : ∀ x ∈ M, x.id ≠ e.id) : RkOk (insM e M) := by
 refine ⟨?_, ?_, ?_⟩
 ·have : ∀ {M : List Ent}, M.Pairwise (fun a b => lessE a b = true) → (∀ x ∈ M, x.id ≠ e.id) → (insM e M).Pairwise (fun a b => lessE a b = true) := by
   intro M
   induction M with
   | nil => intro _ _; simp [insM]
   | cons y l ih =>
    intro hs hn
    obtain ⟨s1, s2⟩ := List.pairwise_cons.1 hs
    unfold insM
    split
    ·rename_i hl
     refine List.pairwise_cons.2 ⟨fun x hx => ?_, hs⟩
     rcases List.mem_cons.1 hx with rfl | hx
     ·exact hl
     ·exact less_trans hl (s1 x hx)
    ·rename_i hl
     refine List.pairwise_cons.2 ⟨fun x hx => ?_, ih s2 fun x hx => hn x (List.mem_cons_of_mem _ hx)⟩
     rcases mem_ins.1 hx with rfl | hx
     ·exact not_less hl (Ne.symm (hn y List.mem_cons_self))
     ·exact s1 x hx
  exact this h.sorted hn
 ·intro x hx
  rcases mem_ins.1 hx with rfl | hx
  ·exact hp
  ·exact h.prio x hx
 ·refine ((ins_perm e M).map (·.id)).nodup_iff.2 ?_
  rw [List.map_cons, List.nodup_cons]
  refine ⟨fun hm => ?_, h.ids⟩
  obtain ⟨x, hx, e1⟩ := List.mem_map.1 hm
  exact hn x hx e1
theorem ins_row {M : List Ent} (h : RkOk M) {e : Ent} (hn : ∀ x ∈ M, x.id ≠ e.id) (p : Int) : rowP (insM e M) p = if p = e.prio then rkPutRow (rowP M p) e.id else rowP M p := by
 induction M with
 | nil =>
  unfold insM
  rw [rowP_cons]
  by_cases hp : p = e.prio
  ·subst hp
   simp [rowP, entP, rkPutRow, cntL]
  ·rw [if_neg hp, if_neg (Ne.symm hp)]
 | cons y l ih =>
  have ih := ih (h.sub (List.sublist_cons_self _ _)) fun x hx => hn x (List.mem_cons_of_mem _ hx)
  unfold insM
  by_cases hl : lessE e y = true
  ·rw [if_pos hl, rowP_cons]
   by_cases hp : p = e.prio
   ·subst hp
    rw [if_pos rfl, if_pos rfl]
    have h0 : cntL (rowP (y :: l) e.prio) e.id = 0 := cntL_zero fun x hx => by
     obtain ⟨z, hz, rfl⟩ := List.mem_map.1 hx
     obtain ⟨hz1, hz2⟩ := mem_entP.1 hz
     have h3 : lessE e z = true := by
      rcases List.mem_cons.1 hz1 with rfl | hz1
      ·exact hl
      ·exact less_trans hl ((List.pairwise_cons.1 h.sorted).1 z hz1)
     rw [less_iff] at h3
     omega
    unfold rkPutRow
    rw [h0]
    rfl
   ·rw [if_neg hp, if_neg (Ne.symm hp)]
  ·rw [if_neg hl, rowP_cons, ih]
   by_cases hp : p = e.prio
   ·rw [if_pos hp, if_pos hp]
    rw [rowP_cons]
    by_cases hy : y.prio = p
    ·rw [if_pos hy, if_pos hy]
     have hlt : y.id < e.id := by
      have := not_less hl (Ne.symm (hn y List.mem_cons_self))
      rw [less_iff] at this
      omega
     unfold rkPutRow
     rw [cntL_cons hlt, List.take_succ_cons, List.drop_succ_cons, List.cons_append]
    ·rw [if_neg hy, if_neg hy]
   ·rw [if_neg hp, if_neg hp, rowP_cons]
def delM (M : List Ent) (k : Int) : List Ent := M.filter fun x => decide (x.id ≠ k)
theorem del_row (M : List Ent) (k : Int) (p : Int) : rowP (delM M k) p = (rowP M p).filter fun x => decide (x ≠ k) := by
 unfold rowP entP delM
 rw [List.filter_filter, List.filter_map, List.filter_filter]
 congr 1
 apply List.filter_congr
 intro x _
 simp [Bool.and_comm]
theorem row_cut {r : List Int} (h : r.Pairwise (· < ·)) {k : Int} (hk : k ∈ r) : r.filter (fun x => decide (x ≠ k)) = r.eraseIdx (cntL r k) ∧ cntL r k < r.length := by
 induction r with
 | nil => simp at hk
 | cons y r ih =>
  obtain ⟨h1, h2⟩ := List.pairwise_cons.1 h
  by_cases hy : y = k
  ·subst hy
   have h0 : cntL (y :: r) y = 0 := cntL_zero fun x hx => by
    rcases List.mem_cons.1 hx with rfl | hx
    ·omega
    ·have := h1 x hx
     omega
   rw [h0]
   refine ⟨?_, by simp⟩
   rw [List.filter_cons_of_neg (by simp), List.eraseIdx_cons_zero, List.filter_eq_self]
   intro x hx
   have := h1 x hx
   simp
   omega
  ·have hk2 : k ∈ r := by
    rcases List.mem_cons.1 hk with rfl | hk
    ·exact absurd rfl hy
    ·exact hk
   obtain ⟨i1, i2⟩ := ih h2 hk2
   rw [cntL_cons (h1 k hk2), List.filter_cons_of_pos (by simpa using hy), List.eraseIdx_cons_succ, i1]
   exact ⟨rfl, by simpa using i2⟩
theorem row_none {r : List Int} {k : Int} (hk : k ∉ r) : r.filter (fun x => decide (x ≠ k)) = r := by
 rw [List.filter_eq_self]
 intro x hx
 simp only [decide_eq_true_eq, ne_eq]
 rintro rfl
 exact hk hx
theorem del_rows {M : List Ent} (h : RkOk M) {e : Ent} (he : e ∈ M) (p : Int) : rowP (delM M e.id) p = if p = e.prio then (rowP M p).eraseIdx (cntL (rowP M p) e.id) else rowP M p := by
 rw [del_row]
 split
 ·rename_i hp
  refine (row_cut (row_up h p) ?_).1
  exact List.mem_map_of_mem (mem_entP.2 ⟨he, hp.symm⟩)
 ·rename_i hp
  refine row_none fun hm => hp ?_
  obtain ⟨x, hx, e1⟩ := List.mem_map.1 hm
  obtain ⟨hx1, hx2⟩ := mem_entP.1 hx
  rw [← hx2, h.inj hx1 he e1]
theorem del_cnt {M : List Ent} (h : RkOk M) {e : Ent} (he : e ∈ M) : cntL (rowP M e.prio) e.id < (rowP M e.prio).length :=
 (row_cut (row_up h _) (List.mem_map_of_mem (mem_entP.2 ⟨he, rfl⟩))).2
theorem RkOk.del {M : List Ent} (h : RkOk M) (k : Int) : RkOk (delM M k) := h.sub List.filter_sublist
theorem del_len {M : List Ent} (h : RkOk M) {e : Ent} (he : e ∈ M) : (delM M e.id).length + 1 = M.length := by
 induction M with
 | nil => simp at he
 | cons y l ih =>
  have hi := h.ids
  rw [List.map_cons, List.nodup_cons] at hi
  by_cases hy : y.id = e.id
  ·have h0 : delM (y :: l) e.id = l := by
    unfold delM
    rw [List.filter_cons_of_neg (by simpa using hy), List.filter_eq_self]
    intro x hx
    simp only [ne_eq, decide_eq_true_eq]
    intro e1
    exact hi.1 (by rw [hy, ← e1]; exact List.mem_map_of_mem hx)
   rw [h0, List.length_cons]
  ·have he2 : e ∈ l := by
    rcases List.mem_cons.1 he with rfl | he
    ·exact absurd rfl hy
    ·exact he
   have := ih (h.sub (List.sublist_cons_self _ _)) he2
   unfold delM at *
   rw [List.filter_cons_of_pos (by simpa using hy), List.length_cons, List.length_cons, this]
theorem del_head {e : Ent} {l : List Ent} (h : RkOk (e :: l)) : delM (e :: l) e.id = l := by
 have hi := h.ids
 rw [List.map_cons, List.nodup_cons] at hi
 unfold delM
 rw [List.filter_cons_of_neg (by simp), List.filter_eq_self]
 intro x hx
 simp only [ne_eq, decide_eq_true_eq]
 intro e1
 exact hi.1 (by rw [← e1]; exact List.mem_map_of_mem hx)
def lookR : List (List Int) → Option Int
 | [] => none
 | [] :: R => lookR R
 | (k :: _) :: _ => some k
def rowsM (M : List Ent) : List (List Int) := [rowP M 3, rowP M 2, rowP M 1, rowP M 0]
theorem look_first {M : List Ent} (h : RkOk M) : lookR (rowsM M) = M.head?.map (·.id) := by
 have e := congrArg (fun l => (List.head? l).map (·.id)) (by_rows h)
 rw [e]
 unfold rowsM rowP
 cases entP M 3 with
 | cons x l => simp [lookR]
 | nil =>
  cases entP M 2 with
  | cons x l => simp [lookR]
  | nil =>
   cases entP M 1 with
   | cons x l => simp [lookR]
   | nil => cases entP M 0 <;> simp [lookR]
structure IsWorst (M : List Ent) (e : Ent) : Prop where
 mem : e ∈ M
 le : ∀ x ∈ M, e.prio < x.prio ∨ e.prio = x.prio ∧ e.id ≤ x.id
theorem IsWorst.eq {M : List Ent} (h : RkOk M) {a b : Ent} (ha : IsWorst M a) (hb : IsWorst M b) : a = b := by
 have h1 := ha.le b hb.mem
 have h2 := hb.le a ha.mem
 exact h.inj ha.mem hb.mem (by omega)
theorem look_in {M : List Ent} {p k : Int} {r : List Int} (hr : rowP M p = k :: r) : ∃ e, e ∈ M ∧ e.prio = p ∧ e.id = k := by
 have : k ∈ rowP M p := by rw [hr]; exact List.mem_cons_self
 obtain ⟨x, hx, e⟩ := List.mem_map.1 this
 exact ⟨x, (mem_entP.1 hx).1, (mem_entP.1 hx).2, e⟩
theorem row_nil {M : List Ent} {p : Int} (hr : rowP M p = []) : ∀ x ∈ M, x.prio ≠ p := by
 intro x hx hp
 have : x.id ∈ rowP M p := List.mem_map_of_mem (mem_entP.2 ⟨hx, hp⟩)
 rw [hr] at this
 simp at this
theorem row_head {M : List Ent} (h : RkOk M) {p k : Int} {r : List Int} (hr : rowP M p = k :: r) : ∀ x ∈ M, x.prio = p → k ≤ x.id := by
 intro x hx hp
 have h1 : x.id ∈ rowP M p := List.mem_map_of_mem (mem_entP.2 ⟨hx, hp⟩)
 have h2 := row_up h p
 rw [hr] at h1 h2
 rcases List.mem_cons.1 h1 with h1 | h1
 ·omega
 ·have := (List.pairwise_cons.1 h2).1 _ h1
  omega
theorem look_worst {M : List Ent} (h : RkOk M) : match lookR (rowsM M).reverse with | none => M = [] | some k => ∃ e, e.id = k ∧ IsWorst M e := by
 have key : ∀ p k r, (∀ x ∈ M, p ≤ x.prio) → rowP M p = k :: r → ∃ e, e.id = k ∧ IsWorst M e := by
  intro p k r hp hr
  obtain ⟨e, he, h1, h2⟩ := look_in hr
  refine ⟨e, h2, he, fun x hx => ?_⟩
  have := hp x hx
  by_cases hq : x.prio = p
  ·have := row_head h hr x hx hq
   omega
  ·omega
 have hp := fun x hx => (h.prio x hx)
 unfold rowsM
 cases h0 : rowP M 0 with
 | cons k r =>
  simp
  exact key 0 k r (fun x hx => (hp x hx).1) h0
 | nil =>
  have n0 := row_nil h0
  cases h1 : rowP M 1 with
  | cons k r =>
   simp [lookR]
   exact key 1 k r (fun x hx => by have := (hp x hx).1; have := n0 x hx; omega) h1
  | nil =>
   have n1 := row_nil h1
   cases h2 : rowP M 2 with
   | cons k r =>
    simp [lookR]
    exact key 2 k r (fun x hx => by have := (hp x hx).1; have := n0 x hx; have := n1 x hx; omega) h2
   | nil =>
    have n2 := row_nil h2
    cases h3 : rowP M 3 with
    | cons k r =>
     simp [lookR]
     exact key 3 k r (fun x hx => by have := (hp x hx).1; have := n0 x hx; have := n1 x hx; have := n2 x hx; omega) h3
    | nil =>
     have n3 := row_nil h3
     simp [lookR]
     apply List.eq_nil_iff_forall_not_mem.2
     intro x hx
     have := hp x hx
     have := n0 x hx
     have := n1 x hx
     have := n2 x hx
     have := n3 x hx
     omega
end Go.Proofs.YtknjamfjonapiaaGreatDoor
namespace Go.Proofs.YtknjamfjonapiaaGreatDoor
open Go.RowKit
set_option linter.unusedVariables false
set_option maxRecDepth 100000
theorem uStr6 : Tryz.prog.underlying 9 = some .string := by kernel_rfl
theorem uBytes6 : Tryz.prog.underlying 83 = some (.slice 5) := by kernel_rfl
end Go.Proofs.YtknjamfjonapiaaGreatDoor
namespace Go.Proofs.YtknjamfjonapiaaGreatDoor
open Go.RowKit
set_option linter.unusedVariables false
set_option maxRecDepth 100000
theorem infU86 : (Tryz.prog.info? 5).map (fun i => (i.zero, i.size, i.bytes)) = some (some (.int .u8 0), 1, 1) := by kernel_rfl
def rowOf (l : List UInt8) : Obj := .cells (Lib.byteCells l).toArray 5
theorem mk_row (w : World) (n : Nat) (hn : n ≤ 140737488351232) :
  (Instr.makeSlice 83 (.int .i64 (n : Int)) (.int .i64 (n : Int))).run Tryz.prog w = .ok (.slice (some ⟨w.heap.size, 0, none⟩) n n) (w.alloc (rowOf (List.replicate n 0))) := by
 obtain ⟨i0, hi, hz0, hz1, hz2⟩ := info_parts infU86
 have h := run_make (P := Tryz.prog) w 83 5 i0 (.int .u8 0) uBytes6 hi hz0 .i64 .i64 n n (by omega) (Int.le_refl _) (by rw [hz2]; omega) (by omega)
 rw [h, Int.toNat_natCast]
 congr 2
 unfold rowOf
 congr 1
 apply Array.toList_inj.1
 rw [hz1, Nat.mul_one, show (Value.int .u8 0).cells = #[Value.int .u8 0] from rfl, toList_madeCells_one]
 simp [Lib.byteCells]
theorem drewN_below (w : World) (n : Nat) : Below w.heap.size w (w.drewN n) := ⟨rfl, rfl, rfl, Nat.le_refl _, fun _ _ => rfl⟩
theorem bel {a b c : World} (h : Below a.heap.size a b) (k : Below b.heap.size b c) : Below a.heap.size a c := h.trans (k.mono h.size)
end Go.Proofs.YtknjamfjonapiaaGreatDoor
