import Derived.Test.YtknjamfjonapiaaGreatDoorZ02
import Derived.Test.YtknjamfjonapiaaGreatDoorProg
import Derived.Laws.BytesArg
import Derived.Laws.Concat
import Derived.Laws.DeepStrings4
import Derived.Lib.Hide
import Derived.Lib.UnsafeStr
import Derived.Deep.QuietTactic
import Derived.BigQuiet
import Derived.Laws.MakeOwn
import Derived.Lib.BufferWrite
namespace Go.Proofs.YtknjamfjonapiaaGreatDoor
open Go.RowKit
set_option linter.unusedVariables false
set_option maxRecDepth 100000
theorem less_iff {a b : Ent} : lessE a b = true ↔ b.prio < a.prio ∨ a.prio = b.prio ∧ a.id < b.id := by simp [lessE]
theorem less_trans {a b c : Ent} (h1 : lessE a b = true) (h2 : lessE b c = true) : lessE a c = true := by
 rw [less_iff] at *
 omega
structure RkOk (M : List Ent) : Prop where
 sorted : M.Pairwise fun a b => lessE a b = true
 prio : ∀ e ∈ M, 0 ≤ e.prio ∧ e.prio ≤ 3
 ids : (M.map (·.id)).Nodup
theorem RkOk.nil : RkOk [] := ⟨List.Pairwise.nil, by simp, by simp⟩
theorem RkOk.sub {M L : List Ent} (h : RkOk M) (hs : L.Sublist M) : RkOk L := ⟨h.sorted.sublist hs, fun e he => h.prio e (hs.subset he), h.ids.sublist (hs.map _)⟩
theorem RkOk.inj {M : List Ent} (h : RkOk M) {a b : Ent} (ha : a ∈ M) (hb : b ∈ M) (e : a.id = b.id) : a = b := by
 obtain ⟨i, hi⟩ := List.getElem?_of_mem ha
 obtain ⟨j, hj⟩ := List.getElem?_of_mem hb
 have hil := (List.getElem?_eq_some_iff.1 hi).1
 have : i = j := (List.getElem?_inj (by simpa using hil) h.ids).1 (by simp [hi, hj, e])
 subst this
 rw [hi] at hj; cases hj; rfl
def entP (M : List Ent) (p : Int) : List Ent := M.filter fun e => decide (e.prio = p)
def rowP (M : List Ent) (p : Int) : List Int := (entP M p).map (·.id)
theorem entP_cons (e : Ent) (M : List Ent) (p : Int) : entP (e :: M) p = if e.prio = p then e :: entP M p else entP M p := by
 unfold entP
 rw [List.filter_cons]
 simp only [decide_eq_true_eq]
theorem rowP_cons (e : Ent) (M : List Ent) (p : Int) : rowP (e :: M) p = if e.prio = p then e.id :: rowP M p else rowP M p := by
 unfold rowP
 rw [entP_cons]
 split <;> rfl
theorem mem_entP {M : List Ent} {p : Int} {e : Ent} : e ∈ entP M p ↔ e ∈ M ∧ e.prio = p := by simp [entP]
theorem entP_none {M : List Ent} {p : Int} (h : ∀ e ∈ M, e.prio ≠ p) : entP M p = [] := by
 unfold entP
 rw [List.filter_eq_nil_iff]
 intro e he
 simpa using h e he
theorem row_up {M : List Ent} (h : RkOk M) (p : Int) : (rowP M p).Pairwise (· < ·) := by
 unfold rowP
 rw [List.pairwise_map]
 have h1 := h.sorted.sublist (List.filter_sublist (p := fun e => decide (e.prio = p)))
 refine List.Pairwise.imp_of_mem ?_ h1
 intro a b ha hb hl
 have h2 := (mem_entP.1 ha).2
 have h3 := (mem_entP.1 hb).2
 rw [less_iff] at hl
 omega
theorem by_rows {M : List Ent} (h : RkOk M) : M = entP M 3 ++ (entP M 2 ++ (entP M 1 ++ entP M 0)) := by
 induction M with
 | nil => rfl
 | cons e M ih =>
  have ih := ih (h.sub (List.sublist_cons_self _ _))
  obtain ⟨p0, p1⟩ := h.prio e List.mem_cons_self
  have hle : ∀ x ∈ M, x.prio ≤ e.prio := fun x hx => by
   have := (List.pairwise_cons.1 h.sorted).1 x hx
   rw [less_iff] at this
   omega
  have hno : ∀ p, e.prio < p → entP M p = [] := fun p hp => entP_none fun x hx => by
   have := hle x hx
   omega
  simp only [entP_cons]
  rcases (by omega : e.prio = 3 ∨ e.prio = 2 ∨ e.prio = 1 ∨ e.prio = 0) with q | q | q | q
  ·rw [q]
   simp only [if_true, show (3 : Int) ≠ 2 by decide, show (3 : Int) ≠ 1 by decide, show (3 : Int) ≠ 0 by decide, if_false, List.cons_append]
   rw [← ih]
  ·have a3 := hno 3 (by omega)
   rw [q]
   simp only [if_true, show (2 : Int) ≠ 3 by decide, show (2 : Int) ≠ 1 by decide, show (2 : Int) ≠ 0 by decide, if_false, a3, List.nil_append, List.cons_append]
   rw [a3, List.nil_append] at ih
   rw [← ih]
  ·have a3 := hno 3 (by omega)
   have a2 := hno 2 (by omega)
   rw [q]
   simp only [if_true, show (1 : Int) ≠ 3 by decide, show (1 : Int) ≠ 2 by decide, show (1 : Int) ≠ 0 by decide, if_false, a3, a2, List.nil_append, List.cons_append]
   rw [a3, a2, List.nil_append, List.nil_append] at ih
   rw [← ih]
  ·have a3 := hno 3 (by omega)
   have a2 := hno 2 (by omega)
   have a1 := hno 1 (by omega)
   rw [q]
   simp only [if_true, show (0 : Int) ≠ 3 by decide, show (0 : Int) ≠ 2 by decide, show (0 : Int) ≠ 1 by decide, if_false, a3, a2, a1, List.nil_append]
   rw [a3, a2, a1, List.nil_append, List.nil_append, List.nil_append] at ih
   rw [← ih]
def cntL (r : List Int) (k : Int) : Nat := (r.takeWhile fun x => decide (x < k)).length
theorem cntL_le (r : List Int) (k : Int) : cntL r k ≤ r.length := (List.takeWhile_sublist _).length_le
theorem cntL_is {r : List Int} {k : Int} {f : Nat} (hf : f ≤ r.length) (h1 : ∀ i x, i < f → r[i]? = some x → x < k) (h2 : ∀ x, r[f]? = some x → ¬ x < k) : cntL r k = f := by
 induction r generalizing f with
 | nil =>
  simp at hf
  subst hf
  rfl
 | cons y r ih =>
  cases f with
  | zero =>
   have := h2 y rfl
   simp [cntL, this]
  | succ f =>
   have h3 := h1 0 y (by omega) rfl
   have h4 := ih (f := f) (by simpa using hf) (fun i x hi hx => h1 (i + 1) x (by omega) (by simpa using hx)) (fun x hx => h2 x (by simpa using hx))
   unfold cntL at *
   rw [List.takeWhile_cons_of_pos (by simpa using h3), List.length_cons, h4]
theorem cntL_zero {r : List Int} {k : Int} (h : ∀ x ∈ r, ¬ x < k) : cntL r k = 0 := cntL_is (Nat.zero_le _) (fun i x hi => absurd hi (by omega)) fun x hx => h x (List.mem_of_getElem? hx)
theorem cntL_cons {y : Int} {r : List Int} {k : Int} (h : y < k) : cntL (y :: r) k = cntL r k + 1 := by
 unfold cntL
 rw [List.takeWhile_cons_of_pos (by simpa using h), List.length_cons]
def insM (e : Ent) : List Ent → List Ent
 | [] => [e]
 | x :: l => if lessE e x = true then e :: x :: l else x :: insM e l
def rkPutRow (r : List Int) (k : Int) : List Int := r.take (cntL r k) ++ k :: r.drop (cntL r k)
theorem mem_ins {e x : Ent} : ∀ {M : List Ent}, x ∈ insM e M ↔ x = e ∨ x ∈ M
 | [] => by simp [insM]
 | y :: l => by
  unfold insM
  split
  ·simp
  ·rw [List.mem_cons, mem_ins (M := l), List.mem_cons]
   constructor
   ·rintro (h | h | h)
    ·exact .inr (.inl h)
    ·exact .inl h
    ·exact .inr (.inr h)
   ·rintro (h | h | h)
    ·exact .inr (.inl h)
    ·exact .inl h
    ·exact .inr (.inr h)
theorem ins_perm (e : Ent) : ∀ (M : List Ent), (insM e M).Perm (e :: M)
 | [] => List.Perm.refl _
 | y :: l => by
  unfold insM
  split
  ·exact List.Perm.refl _
  ·exact ((ins_perm e l).cons y).trans (List.Perm.swap _ _ _)
theorem ins_len (e : Ent) (M : List Ent) : (insM e M).length = M.length + 1 := (ins_perm e M).length_eq
theorem not_less {a b : Ent} (h : ¬ lessE a b = true) (hi : a.id ≠ b.id) : lessE b a = true := by
 rw [less_iff] at *
 omega
theorem RkOk.ins {M : List Ent} (h : RkOk M) {e : Ent} (hp : 0 ≤ e.prio ∧ e.prio ≤ 3) (hn : ∀ x ∈ M, x.id ≠ e.id) : RkOk (insM e M) := by
 refine ⟨?_, ?_, ?_⟩
 ·have : ∀ {M : List Ent}, M.Pairwise (fun a b => lessE a b = true) → (∀ x ∈ M, x.id ≠ e.id) → (insM e M).Pairwise (fun a b => lessE a b = true) := by
   intro M
   induction M with
   | nil => intro _ _; simp [insM]
   | cons y l ih =>
    intro hs hn
    obtain ⟨s1, s2⟩ := List.pairwise_cons.1 hs
    unfold insM
    split
    ·rename_i hl
     refine List.pairwise_cons.2 ⟨fun x hx => ?_, hs⟩
     rcases List.mem_cons.1 hx with rfl | hx
     ·exact hl
     ·exact less_trans hl (s1 x hx)
    ·rename_i hl
     refine List.pairwise_cons.2 ⟨fun x hx => ?_, ih s2 fun x hx => hn x (List.mem_cons_of_mem _ hx)⟩
     rcases mem_ins.1 hx with rfl | hx
     ·exact not_less hl (Ne.symm (hn y List.mem_cons_self))
     ·exact s1 x hx
  exact this h.sorted hn
 ·intro x hx
  rcases mem_ins.1 hx with rfl | hx
  ·exact hp
  ·exact h.prio x hx
 ·refine ((ins_perm e M).map (·.id)).nodup_iff.2 ?_
  rw [List.map_cons, List.nodup_cons]
  refine ⟨fun hm => ?_, h.ids⟩
  obtain ⟨x, hx, e1⟩ := List.mem_map.1 hm
  exact hn x hx e1
theorem ins_row {M : List Ent} (h : RkOk M) {e : Ent} (hn : ∀ x ∈ M, x.id ≠ e.id) (p : Int) : rowP (insM e M) p = if p = e.prio then rkPutRow (rowP M p) e.id else rowP M p := by
 induction M with
 | nil =>
  unfold insM
  rw [rowP_cons]
  by_cases hp : p = e.prio
  ·subst hp
   simp [rowP, entP, rkPutRow, cntL]
  ·rw [if_neg hp, if_neg (Ne.symm hp)]
 | cons y l ih =>
  have ih := ih (h.sub (List.sublist_cons_self _ _)) fun x hx => hn x (List.mem_cons_of_mem _ hx)
  unfold insM
  by_cases hl : lessE e y = true
  ·rw [if_pos hl, rowP_cons]
   by_cases hp : p = e.prio
   ·subst hp
    rw [if_pos rfl, if_pos rfl]
    have h0 : cntL (rowP (y :: l) e.prio) e.id = 0 := cntL_zero fun x hx => by
     obtain ⟨z, hz, rfl⟩ := List.mem_map.1 hx
     obtain ⟨hz1, hz2⟩ := mem_entP.1 hz
     have h3 : lessE e z = true := by
      rcases List.mem_cons.1 hz1 with rfl | hz1
      ·exact hl
      ·exact less_trans hl ((List.pairwise_cons.1 h.sorted).1 z hz1)
     rw [less_iff] at h3
     omega
    unfold rkPutRow
    rw [h0]
    rfl
   ·rw [if_neg hp, if_neg (Ne.symm hp)]
  ·rw [if_neg hl, rowP_cons, ih]
   by_cases hp : p = e.prio
   ·rw [if_pos hp, if_pos hp]
    rw [rowP_cons]
    by_cases hy : y.prio = p
    ·rw [if_pos hy, if_pos hy]
     have hlt : y.id < e.id := by
      have := not_less hl (Ne.symm (hn y List.mem_cons_self))
      rw [less_iff] at this
      omega
     unfold rkPutRow
     rw [cntL_cons hlt, List.take_succ_cons, List.drop_succ_cons, List.cons_append]
    ·rw [if_neg hy, if_neg hy]
   ·rw [if_neg hp, if_neg hp, rowP_cons]
def delM (M : List Ent) (k : Int) : List Ent := M.filter fun x => decide (x.id ≠ k)
theorem del_row (M : List Ent) (k : Int) (p : Int) : rowP (delM M k) p = (rowP M p).filter fun x => decide (x ≠ k) := by
 unfold rowP entP delM
 rw [List.filter_filter, List.filter_map, List.filter_filter]
 congr 1
 apply List.filter_congr
 intro x _
 simp [Bool.and_comm]
theorem row_cut {r : List Int} (h : r.Pairwise (· < ·)) {k : Int} (hk : k ∈ r) : r.filter (fun x => decide (x ≠ k)) = r.eraseIdx (cntL r k) ∧ cntL r k < r.length := by
 induction r with
 | nil => simp at hk
 | cons y r ih =>
  obtain ⟨h1, h2⟩ := List.pairwise_cons.1 h
  by_cases hy : y = k
  ·subst hy
   have h0 : cntL (y :: r) y = 0 := cntL_zero fun x hx => by
    rcases List.mem_cons.1 hx with rfl | hx
    ·omega
    ·have := h1 x hx
     omega
   rw [h0]
   refine ⟨?_, by simp⟩
   rw [List.filter_cons_of_neg (by simp), List.eraseIdx_cons_zero, List.filter_eq_self]
   intro x hx
   have := h1 x hx
   simp
   omega
  ·have hk2 : k ∈ r := by
    rcases List.mem_cons.1 hk with rfl | hk
    ·exact absurd rfl hy
    ·exact hk
   obtain ⟨i1, i2⟩ := ih h2 hk2
   rw [cntL_cons (h1 k hk2), List.filter_cons_of_pos (by simpa using hy), List.eraseIdx_cons_succ, i1]
   exact ⟨rfl, by simpa using i2⟩
theorem row_none {r : List Int} {k : Int} (hk : k ∉ r) : r.filter (fun x => decide (x ≠ k)) = r := by
 rw [List.filter_eq_self]
 intro x hx
 simp only [decide_eq_true_eq, ne_eq]
 rintro rfl
 exact hk hx
theorem del_rows {M : List Ent} (h : RkOk M) {e : Ent} (he : e ∈ M) (p : Int) : rowP (delM M e.id) p = if p = e.prio then (rowP M p).eraseIdx (cntL (rowP M p) e.id) else rowP M p := by
 rw [del_row]
 split
 ·rename_i hp
  refine (row_cut (row_up h p) ?_).1
  exact List.mem_map_of_mem (mem_entP.2 ⟨he, hp.symm⟩)
 ·rename_i hp
  refine row_none fun hm => hp ?_
  obtain ⟨x, hx, e1⟩ := List.mem_map.1 hm
  obtain ⟨hx1, hx2⟩ := mem_entP.1 hx
  rw [← hx2, h.inj hx1 he e1]
theorem del_cnt {M : List Ent} (h : RkOk M) {e : Ent} (he : e ∈ M) : cntL (rowP M e.prio) e.id < (rowP M e.prio).length :=
 (row_cut (row_up h _) (List.mem_map_of_mem (mem_entP.2 ⟨he, rfl⟩))).2
theorem RkOk.del {M : List Ent} (h : RkOk M) (k : Int) : RkOk (delM M k) := h.sub List.filter_sublist
theorem del_len {M : List Ent} (h : RkOk M) {e : Ent} (he : e ∈ M) : (delM M e.id).length + 1 = M.length := by
 induction M with
 | nil => simp at he
 | cons y l ih =>
  have hi := h.ids
  rw [List.map_cons, List.nodup_cons] at hi
  by_cases hy : y.id = e.id
  ·have h0 : delM (y :: l) e.id = l := by
    unfold delM
    rw [List.filter_cons_of_neg (by simpa using hy), List.filter_eq_self]
    intro x hx
    simp only [ne_eq, decide_eq_true_eq]
    intro e1
    exact hi.1 (by rw [hy, ← e1]; exact List.mem_map_of_mem hx)
   rw [h0, List.length_cons]
  ·have he2 : e ∈ l := by
    rcases List.mem_cons.1 he with rfl | he
    ·exact absurd rfl hy
    ·exact he
   have := ih (h.sub (List.sublist_cons_self _ _)) he2
   unfold delM at *
   rw [List.filter_cons_of_pos (by simpa using hy), List.length_cons, List.length_cons, this]
theorem del_head {e : Ent} {l : List Ent} (h : RkOk (e :: l)) : delM (e :: l) e.id = l := by
 have hi := h.ids
 rw [List.map_cons, List.nodup_cons] at hi
 unfold delM
 rw [List.filter_cons_of_neg (by simp), List.filter_eq_self]
 intro x hx
 simp only [ne_eq, decide_eq_true_eq]
 intro e1
 exact hi.1 (by rw [← e1]; exact List.mem_map_of_mem hx)
def lookR : List (List Int) → Option Int
 | [] => none
 | [] :: R => lookR R
 | (k :: _) :: _ => some k
def rowsM (M : List Ent) : List (List Int) := [rowP M 3, rowP M 2, rowP M 1, rowP M 0]
theorem look_first {M : List Ent} (h : RkOk M) : lookR (rowsM M) = M.head?.map (·.id) := by
 have e := congrArg (fun l => (List.head? l).map (·.id)) (by_rows h)
 rw [e]
 unfold rowsM rowP
 cases entP M 3 with
 | cons x l => simp [lookR]
 | nil =>
  cases entP M 2 with
  | cons x l => simp [lookR]
  | nil =>
   cases entP M 1 with
   | cons x l => simp [lookR]
   | nil => cases entP M 0 <;> simp [lookR]
structure IsWorst (M : List Ent) (e : Ent) : Prop where
 mem : e ∈ M
 le : ∀ x ∈ M, e.prio < x.prio ∨ e.prio = x.prio ∧ e.id ≤ x.id
theorem IsWorst.eq {M : List Ent} (h : RkOk M) {a b : Ent} (ha : IsWorst M a) (hb : IsWorst M b) : a = b := by
 have h1 := ha.le b hb.mem
 have h2 := hb.le a ha.mem
 exact h.inj ha.mem hb.mem (by omega)
theorem look_in {M : List Ent} {p k : Int} {r : List Int} (hr : rowP M p = k :: r) : ∃ e, e ∈ M ∧ e.prio = p ∧ e.id = k := by
 have : k ∈ rowP M p := by rw [hr]; exact List.mem_cons_self
 obtain ⟨x, hx, e⟩ := List.mem_map.1 this
 exact ⟨x, (mem_entP.1 hx).1, (mem_entP.1 hx).2, e⟩
theorem row_nil {M : List Ent} {p : Int} (hr : rowP M p = []) : ∀ x ∈ M, x.prio ≠ p := by
 intro x hx hp
 have : x.id ∈ rowP M p := List.mem_map_of_mem (mem_entP.2 ⟨hx, hp⟩)
 rw [hr] at this
 simp at this
theorem row_head {M : List Ent} (h : RkOk M) {p k : Int} {r : List Int} (hr : rowP M p = k :: r) : ∀ x ∈ M, x.prio = p → k ≤ x.id := by
 intro x hx hp
 have h1 : x.id ∈ rowP M p := List.mem_map_of_mem (mem_entP.2 ⟨hx, hp⟩)
 have h2 := row_up h p
 rw [hr] at h1 h2
 rcases List.mem_cons.1 h1 with h1 | h1
 ·omega
 ·have := (List.pairwise_cons.1 h2).1 _ h1
  omega
theorem look_worst {M : List Ent} (h : RkOk M) : match lookR (rowsM M).reverse with | none => M = [] | some k => ∃ e, e.id = k ∧ IsWorst M e := by
 have key : ∀ p k r, (∀ x ∈ M, p ≤ x.prio) → rowP M p = k :: r → ∃ e, e.id = k ∧ IsWorst M e := by
  intro p k r hp hr
  obtain ⟨e, he, h1, h2⟩ := look_in hr
  refine ⟨e, h2, he, fun x hx => ?_⟩
  have := hp x hx
  by_cases hq : x.prio = p
  ·have := row_head h hr x hx hq
   omega
  ·omega
 have hp := fun x hx => (h.prio x hx)
 unfold rowsM
 cases h0 : rowP M 0 with
 | cons k r =>
  simp
  exact key 0 k r (fun x hx => (hp x hx).1) h0
 | nil =>
  have n0 := row_nil h0
  cases h1 : rowP M 1 with
  | cons k r =>
   simp [lookR]
   exact key 1 k r (fun x hx => by have := (hp x hx).1; have := n0 x hx; omega) h1
  | nil =>
   have n1 := row_nil h1
   cases h2 : rowP M 2 with
   | cons k r =>
    simp [lookR]
    exact key 2 k r (fun x hx => by have := (hp x hx).1; have := n0 x hx; have := n1 x hx; omega) h2
   | nil =>
    have n2 := row_nil h2
    cases h3 : rowP M 3 with
    | cons k r =>
     simp [lookR]
     exact key 3 k r (fun x hx => by have := (hp x hx).1; have := n0 x hx; have := n1 x hx; have := n2 x hx; omega) h3
    | nil =>
     have n3 := row_nil h3
     simp [lookR]
     apply List.eq_nil_iff_forall_not_mem.2
     intro x hx
     have := hp x hx
     have := n0 x hx
     have := n1 x hx
     have := n2 x hx
     have := n3 x hx
     omega
theorem uStr6 : Tryz.prog.underlying 9 = some .string := by kernel_rfl
theorem uBytes6 : Tryz.prog.underlying 83 = some (.slice 5) := by kernel_rfl
theorem infU86 : (Tryz.prog.info? 5).map (fun i => (i.zero, i.size, i.bytes)) = some (some (.int .u8 0), 1, 1) := by kernel_rfl
def rowOf (l : List UInt8) : Obj := .cells (Lib.byteCells l).toArray 5
theorem mk_row (w : World) (n : Nat) (hn : n ≤ 140737488351232) :
  (Instr.makeSlice 83 (.int .i64 (n : Int)) (.int .i64 (n : Int))).run Tryz.prog w = .ok (.slice (some ⟨w.heap.size, 0, none⟩) n n) (w.alloc (rowOf (List.replicate n 0))) := by
 obtain ⟨i0, hi, hz0, hz1, hz2⟩ := info_parts infU86
 have h := run_make (P := Tryz.prog) w 83 5 i0 (.int .u8 0) uBytes6 hi hz0 .i64 .i64 n n (by omega) (Int.le_refl _) (by rw [hz2]; omega) (by omega)
 rw [h, Int.toNat_natCast]
 congr 2
 unfold rowOf
 congr 1
 apply Array.toList_inj.1
 rw [hz1, Nat.mul_one, show (Value.int .u8 0).cells = #[Value.int .u8 0] from rfl, toList_madeCells_one]
 simp [Lib.byteCells]
theorem drewN_below (w : World) (n : Nat) : Below w.heap.size w (w.drewN n) := ⟨rfl, rfl, rfl, Nat.le_refl _, fun _ _ => rfl⟩
theorem bel {a b c : World} (h : Below a.heap.size a b) (k : Below b.heap.size b c) : Below a.heap.size a c := h.trans (k.mono h.size)
end Go.Proofs.YtknjamfjonapiaaGreatDoor
