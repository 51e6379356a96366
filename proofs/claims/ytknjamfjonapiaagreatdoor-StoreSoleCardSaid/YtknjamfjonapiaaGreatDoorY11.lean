/- namespace Go.Proofs.YtknjamfjonapiaaGreatDoor, namespace Go.Proofs.YtknjamfjonapiaaGreatDoor, namespace Go.Proofs.YtknjamfjonapiaaGreatDoor, namespace Go.Proofs.YtknjamfjonapiaaGreatDoor, namespace Go.Proofs.YtknjamfjonapiaaGreatDoor, namespace Go.Proofs.YtknjamfjonapiaaGreatDoor, namespace Go.Proofs.YtknjamfjonapiaaGreatDoor, namespace Go.Proofs.YtknjamfjonapiaaGreatDoor. -/
import Derived.Test.YtknjamfjonapiaaGreatDoorY02
import Derived.Test.YtknjamfjonapiaaGreatDoorY10
import Derived.Test.YtknjamfjonapiaaGreatDoorChecked
import Derived.Test.YtknjamfjonapiaaGreatDoorY05
import Derived.WalkKit
import Derived.Deep.DeepCutAuto
import Derived.Deep.CutBlock
import Derived.StillTailTactics
import Derived.Lib.Hide
import Derived.Deep.QuietTactic
import Derived.BigQuiet
import Derived.Deep.LoopGhost
namespace Go.Proofs.YtknjamfjonapiaaGreatDoor
open Go.RowKit
set_option linter.unusedVariables false
def worseE (a b : Ent) : Bool := decide (a.prio < b.prio ∨ a.prio = b.prio ∧ a.id ≤ b.id)
def worstE : List Ent → Option Ent
  | [] => none
  | x :: l => match worstE l with
    | none => some x
    | some y => if worseE x y = true then some x else some y
theorem worse_iff {a b : Ent} : worseE a b = true ↔ (a.prio < b.prio ∨ a.prio = b.prio ∧ a.id ≤ b.id) := by simp [worseE]
theorem worst_none : ∀ {M : List Ent}, worstE M = none → M = []
  | [], _ => rfl
  | x :: l, h => by
    unfold worstE at h
    split at h
    · cases h
    · split at h <;> cases h
theorem worst_is : ∀ {M : List Ent} {x : Ent}, worstE M = some x → IsWorst M x
  | [], x, h => by cases h
  | y :: l, x, h => by
    unfold worstE at h
    cases hl : worstE l with
    | none =>
      rw [hl] at h
      obtain rfl := Option.some.inj h
      obtain rfl := worst_none hl
      exact ⟨List.mem_cons_self, fun z hz => by
        rw [List.mem_singleton] at hz
        subst hz
        exact .inr ⟨rfl, Int.le_refl _⟩⟩
    | some z =>
      have ih := worst_is hl
      rw [hl] at h
      simp only at h
      by_cases hw : worseE y z = true
      · rw [if_pos hw] at h
        obtain rfl := Option.some.inj h
        have hw' := worse_iff.1 hw
        refine ⟨List.mem_cons_self, fun u hu => ?_⟩
        rcases List.mem_cons.1 hu with rfl | hu
        · exact .inr ⟨rfl, Int.le_refl _⟩
        · have := ih.le u hu
          omega
      · rw [if_neg hw] at h
        obtain rfl := Option.some.inj h
        refine ⟨List.mem_cons_of_mem _ ih.mem, fun u hu => ?_⟩
        rcases List.mem_cons.1 hu with rfl | hu
        · have hw' : ¬ (u.prio < z.prio ∨ u.prio = z.prio ∧ u.id ≤ z.id) := fun h => hw (worse_iff.2 h)
          omega
        · exact ih.le u hu
theorem worst_of {M : List Ent} {x : Ent} (h : RkOk M) (hx : IsWorst M x) : worstE M = some x := by
  cases hw : worstE M with
  | none =>
    have := worst_none hw
    subst this
    exact absurd hx.mem (List.not_mem_nil)
  | some y => rw [(worst_is hw).eq h hx]
def shedF : Nat → List Ent → List Ent × List Ent
  | 0, M => ([], M)
  | n + 1, M => match worstE M with
    | none => ([], M)
    | some x => (x :: (shedF n (delM M x.id)).1, (shedF n (delM M x.id)).2)
theorem Sheds.front {M W N : List Ent} (h : Sheds M W N) : (W = [] ∧ N = M) ∨ ∃ x W', W = x :: W' ∧ IsWorst M x ∧ Sheds (delM M x.id) W' N := by
  induction h with
  | nil => exact .inl ⟨rfl, rfl⟩
  | snoc h1 hx ih =>
    rcases ih with ⟨rfl, rfl⟩ | ⟨y, W', rfl, hy, hs⟩
    · exact .inr ⟨_, [], rfl, hx, .nil⟩
    · exact .inr ⟨y, W' ++ [_], rfl, hy, .snoc hs hx⟩
theorem shed_eq : ∀ {W M N : List Ent}, RkOk M → Sheds M W N → shedF W.length M = (W, N)
  | [], M, N, hM, h => by
    rcases h.front with ⟨-, rfl⟩ | ⟨x, W', e, -, -⟩
    · rfl
    · cases e
  | x :: W, M, N, hM, h => by
    rcases h.front with ⟨e, -⟩ | ⟨y, W', e, hy, hs⟩
    · cases e
    · obtain ⟨rfl, rfl⟩ := List.cons.inj e
      rw [List.length_cons, shedF, worst_of hM hy]
      simp only
      rw [shed_eq (hM.del _) hs]
def putF (o : Opt) (M : List Ent) (e : Ent) : Bool × List Ent × List Ent :=
  if putOk M e = false then (false, [], M)
  else if (M.length : Int) < limitO o then (true, [], insM e M)
  else if rejO o = true then (false, [], M)
  else (true, (shedF (M.length + 1 - (limitO o).toNat) M).1, insM e (shedF (M.length + 1 - (limitO o).toNat) M).2)
theorem PutP.put {o : Opt} {M W N : List Ent} {e : Ent} {ok : Bool} (hM : RkOk M) (h : PutP o M e ok W N) : putF o M e = (ok, W, N) := by
  unfold putF
  rcases h with ⟨h1, rfl, rfl, rfl⟩ | ⟨h1, h2, rfl, rfl, rfl⟩ | ⟨h1, h2, h3, rfl, rfl, rfl⟩ | ⟨h1, h2, h3, rfl, N1, hs, hl, rfl⟩
  · rw [if_pos h1]
  · rw [if_neg (by rw [h1]; decide), if_pos h2]
  · rw [if_neg (by rw [h1]; decide), if_neg (by omega), if_pos h3]
  · have hlen := hs.len hM
    have e1 : M.length + 1 - (limitO o).toNat = W.length := by omega
    rw [if_neg (by rw [h1]; decide), if_neg (by omega), if_neg (by rw [h3]; decide), e1, shed_eq hM hs]
def sumE (f : Ent → Nat) (l : List Ent) : Nat := (l.map f).sum
theorem sumE_nil (f : Ent → Nat) : sumE f [] = 0 := rfl
theorem sumE_cons (f : Ent → Nat) (x : Ent) (l : List Ent) : sumE f (x :: l) = f x + sumE f l := by simp [sumE]
theorem sumE_ins (f : Ent → Nat) (e : Ent) (M : List Ent) : sumE f (insM e M) = f e + sumE f M := by
  have := ((ins_perm e M).map f).sum_nat
  unfold sumE
  rw [this]
  simp
theorem sumE_sub (f : Ent → Nat) {l m : List Ent} (h : l.Sublist m) : sumE f l ≤ sumE f m := by
  induction h with
  | slnil => exact Nat.le_refl _
  | cons a _ ih => rw [sumE_cons]; omega
  | cons_cons a _ ih => rw [sumE_cons, sumE_cons]; omega
theorem sumE_del (f : Ent → Nat) {M : List Ent} {x : Ent} (h : x ∈ M) : f x + sumE f (delM M x.id) ≤ sumE f M := by
  induction M with
  | nil => exact absurd h (List.not_mem_nil)
  | cons y l ih =>
    unfold delM
    rw [List.filter_cons, sumE_cons]
    by_cases hy : y = x
    · subst hy
      rw [if_neg (by simp)]
      have := sumE_sub f (List.filter_sublist (p := fun z : Ent => decide (z.id ≠ y.id)) (l := l))
      omega
    · have ih := ih ((List.mem_cons.1 h).resolve_left fun e => hy e.symm)
      unfold delM at ih
      split
      · rw [sumE_cons]; omega
      · omega
theorem shed_sum (f : Ent → Nat) : ∀ (n : Nat) (M : List Ent), sumE f (shedF n M).1 + sumE f (shedF n M).2 ≤ sumE f M
  | 0, M => by simp [shedF, sumE_nil]
  | n + 1, M => by
    unfold shedF
    cases hw : worstE M with
    | none => simp [sumE_nil]
    | some x =>
      have h1 := sumE_del f (worst_is hw).mem
      have h2 := shed_sum f n (delM M x.id)
      simp only [sumE_cons]
      omega
theorem put_sum (f : Ent → Nat) (o : Opt) (M : List Ent) (e : Ent) : sumE f (putF o M e).2.1 + sumE f (putF o M e).2.2 ≤ sumE f M + f e := by
  have h := shed_sum f (M.length + 1 - (limitO o).toNat) M
  unfold putF
  repeat' split
  all_goals simp only [sumE_nil, sumE_ins]; omega
theorem shed_len : ∀ (n : Nat) (M : List Ent), (shedF n M).2.length ≤ M.length ∧ (n ≤ M.length → 0 < n → (shedF n M).2.length + 1 ≤ M.length)
  | 0, M => ⟨Nat.le_refl _, fun _ h => absurd h (by omega)⟩
  | n + 1, M => by
    unfold shedF
    cases hw : worstE M with
    | none =>
      have := worst_none hw
      subst this
      exact ⟨Nat.le_refl _, fun h => by simp at h⟩
    | some x =>
      have h1 := (shed_len n (delM M x.id)).1
      have h2 : (delM M x.id).length + 1 ≤ M.length := by
        have := sumE_del (fun _ => 1) (worst_is hw).mem
        have e : ∀ l : List Ent, sumE (fun _ => 1) l = l.length := fun l => by induction l with | nil => rfl | cons a l ih => rw [sumE_cons, ih, List.length_cons]; omega
        rw [e, e] at this
        omega
      exact ⟨by simp only; omega, fun _ _ => by simp only; omega⟩
theorem put_len (o : Opt) (M : List Ent) (e : Ent) {k : Nat} (hk : 60 ≤ k) (h : M.length ≤ k) : (putF o M e).2.2.length ≤ k := by
  obtain ⟨l, h1, h2, h3⟩ := limit_nat o
  unfold putF
  rw [h1]
  have hs := shed_len (M.length + 1 - l) M
  repeat' split
  · exact h
  · simp only [ins_len]; omega
  · exact h
  · simp only [ins_len, Int.toNat_natCast]
    have := hs.2
    omega
theorem mem_shed : ∀ (n : Nat) (M : List Ent) {x : Ent}, x ∈ (shedF n M).1 ∨ x ∈ (shedF n M).2 → x ∈ M
  | 0, M, x, h => by simpa [shedF] using h
  | n + 1, M, x, h => by
    unfold shedF at h
    cases hw : worstE M with
    | none => rw [hw] at h; simpa using h
    | some y =>
      rw [hw] at h
      simp only [List.mem_cons] at h
      have ih := mem_shed n (delM M y.id) (x := x)
      have hd : ∀ {z : Ent}, z ∈ delM M y.id → z ∈ M := fun hz => (List.mem_filter.1 hz).1
      rcases h with (rfl | h) | h
      · exact (worst_is hw).mem
      · exact hd (ih (.inl h))
      · exact hd (ih (.inr h))
theorem mem_put {o : Opt} {M : List Ent} {e x : Ent} (h : x ∈ (putF o M e).2.1 ∨ x ∈ (putF o M e).2.2) : x = e ∨ x ∈ M := by
  have hs := mem_shed (M.length + 1 - (limitO o).toNat) M (x := x)
  unfold putF at h
  split at h
  · exact .inr (by simpa using h)
  · split at h
    · simpa [mem_ins] using h
    · split at h
      · exact .inr (by simpa using h)
      · simp only [mem_ins] at h
        rcases h with h | rfl | h
        · exact .inr (hs (.inl h))
        · exact .inl rfl
        · exact .inr (hs (.inr h))
end Go.Proofs.YtknjamfjonapiaaGreatDoor

namespace Go.Proofs.YtknjamfjonapiaaGreatDoor
open Go.RowKit
set_option linter.unusedVariables false
structure Plq where
  name : List UInt8
  num : Int
  conn : Int
  o : Opt
  M : List Ent
  G : List Gst
  T : Nat
structure Sto where
  sl : SV
  P : List Plc
  A : List Bnd
  L : List Plq
  num : Int
  last : Int
  now : Int
inductive Tsk where
  | mail (top : Bool) (e : Ent) (way : List Nat)
  | dead (i : Nat) (W : List Ent)
  | owed (b : Int)
structure Cf where
  S : Sto
  R : List Tsk
  r : Bool
def Sto.hold (S : Sto) (b : Int) : Sto := if 0 < b then { S with sl := (S.sl.hold b).2 } else S
def Sto.letGo (S : Sto) (b : Int) : Sto := if 0 < b then { S with sl := (S.sl.drop b).2 } else S
def Sto.setM (S : Sto) (i : Nat) (p : Plq) (N : List Ent) : Sto := { S with L := S.L.set i { p with M := N } }
def Sto.idx (S : Sto) (n : List UInt8) : Option Nat := S.L.findIdx? fun p => p.name == n
def Sto.tos (S : Sto) (ex key : List UInt8) : List Nat := (routeX S.P S.A ex key).1.filterMap S.idx
def Sto.letter (S : Sto) (o : Opt) (x : Ent) : Option Ent :=
  if (o.dead = [] ∧ o.deadKey = []) ∨ 3 ≤ x.hops ∨ hasX S.P o.dead = false then none
  else some { x with exch := o.dead, key := if o.deadKey = [] then x.key else o.deadKey, ttl := 0, again := false, hops := x.hops + 1 }
def Sto.born (S : Sto) : Sto := { S with last := S.last + 1 }
def Sto.mail (S : Sto) (top : Bool) (e : Ent) : Tsk := .mail top { e with id := S.last + 1 } (S.tos e.exch e.key)
def moreM (top : Bool) (e : Ent) (way : List Nat) (R : List Tsk) : List Tsk := if way = [] then R else .mail top e way :: R
def moreD (i : Nat) (W : List Ent) (R : List Tsk) : List Tsk := if W = [] then R else .dead i W :: R
def stepF : Cf → Cf
  | ⟨S, [], r⟩ => ⟨S, [], r⟩
  | ⟨S, .owed b :: R, r⟩ => ⟨S.letGo b, R, r⟩
  | ⟨S, .mail _ _ [] :: R, r⟩ => ⟨S, R, r⟩
  | ⟨S, .mail top e (i :: way) :: R, r⟩ => match S.L[i]? with
    | none => ⟨S, moreM top e way R, r⟩
    | some p =>
      let q := putF p.o p.M (forE e p.o S.now)
      ⟨if q.1 = true then (S.hold e.body).setM i p q.2.2 else ((S.hold e.body).setM i p q.2.2).letGo e.body, .dead i q.2.1 :: moreM top e way R, if top = true then r || !q.1 else r⟩
  | ⟨S, .dead _ [] :: R, r⟩ => ⟨S, R, r⟩
  | ⟨S, .dead i (x :: W) :: R, r⟩ => match (S.L[i]?).bind fun p => S.letter p.o x with
    | none => ⟨S, .owed x.body :: moreD i W R, r⟩
    | some y => ⟨S.born, S.mail false y :: .owed x.body :: moreD i W R, r⟩
def dnF : Nat → Nat
  | 0 => 2
  | n + 1 => 83 + 40 * dnF n
def dieF (e : Ent) : Nat := dnF (3 - e.hops).toNat
theorem dnF_two : ∀ n, 2 ≤ dnF n
  | 0 => Nat.le_refl _
  | n + 1 => by rw [dnF]; omega
theorem die_two (e : Ent) : 2 ≤ dieF e := dnF_two _
theorem die_for (e : Ent) (o : Opt) (now : Int) : dieF (forE e o now) = dieF e := rfl
def Sto.pot (S : Sto) : Nat := (S.L.map fun p => sumE dieF p.M).sum
def Tsk.pot : Tsk → Nat
  | .mail _ e way => 1 + way.length * (dieF e + 2)
  | .dead _ W => 1 + sumE dieF W
  | .owed _ => 1
def potR (R : List Tsk) : Nat := (R.map Tsk.pot).sum
def Cf.pot (c : Cf) : Nat := c.S.pot + potR c.R
theorem potR_cons (t : Tsk) (R : List Tsk) : potR (t :: R) = t.pot + potR R := by simp [potR]
theorem moreM_pot (top : Bool) (e : Ent) (way : List Nat) (R : List Tsk) : potR (moreM top e way R) ≤ way.length * (dieF e + 2) + 1 + potR R := by
  unfold moreM
  split
  · omega
  · rw [potR_cons, Tsk.pot]; omega
theorem moreD_pot (i : Nat) (W : List Ent) (R : List Tsk) : potR (moreD i W R) ≤ sumE dieF W + 1 + potR R := by
  unfold moreD
  split
  · omega
  · rw [potR_cons, Tsk.pot]; omega
theorem set_sum {l : List Plq} {i : Nat} {p q : Plq} (f : Plq → Nat) (h : l[i]? = some p) : ((l.set i q).map f).sum + f p = (l.map f).sum + f q := by
  induction l generalizing i with
  | nil => simp at h
  | cons x l ih =>
    cases i with
    | zero =>
      simp only [List.getElem?_cons_zero, Option.some.injEq] at h
      subst h
      simp only [List.set_cons_zero, List.map_cons, List.sum_cons]
      omega
    | succ i =>
      have ih := ih (i := i) (by simpa using h)
      simp only [List.set_cons_succ, List.map_cons, List.sum_cons]
      omega
theorem hold_L (S : Sto) (b : Int) : (S.hold b).L = S.L := by unfold Sto.hold; split <;> rfl
theorem letGo_L (S : Sto) (b : Int) : (S.letGo b).L = S.L := by unfold Sto.letGo; split <;> rfl
theorem hold_pot (S : Sto) (b : Int) : (S.hold b).pot = S.pot := by unfold Sto.pot; rw [hold_L]
theorem letGo_pot (S : Sto) (b : Int) : (S.letGo b).pot = S.pot := by unfold Sto.pot; rw [letGo_L]
theorem setM_pot {S : Sto} {i : Nat} {p : Plq} (N : List Ent) (h : S.L[i]? = some p) : (S.setM i p N).pot + sumE dieF p.M = S.pot + sumE dieF N :=
  set_sum (fun p => sumE dieF p.M) h
theorem once_lenS (a l : List (List UInt8)) : (onceL a l).length ≤ a.length + l.length := by
  induction l generalizing a with
  | nil => simp [onceL]
  | cons x l ih =>
    rw [onceL, List.length_cons]
    have h := ih (if x ∈ a then a else a ++ [x])
    split at h
    · rw [if_pos (by assumption)]; omega
    · rw [if_neg (by assumption)]
      simp only [List.length_append, List.length_singleton] at h
      omega
theorem route_len {P : List Plc} {A : List Bnd} (h : A.length ≤ 40) (ex key : List UInt8) : (routeX P A ex key).1.length ≤ 40 := by
  unfold routeX
  split
  · simp
  · split
    · simp
    · rename_i p _
      refine Nat.le_trans (once_lenS [] _) ?_
      rw [List.length_map]
      have h1 := List.length_filter_le (fitsK p.2.1 key) (ofB A ex)
      have h2 : (ofB A ex).length ≤ A.length := List.length_filter_le _ _
      simp only [List.length_nil]
      omega
theorem tos_len {S : Sto} (h : S.A.length ≤ 40) (ex key : List UInt8) : (S.tos ex key).length ≤ 40 :=
  Nat.le_trans (List.length_filterMap_le _ _) (route_len h ex key)
theorem letter_some {S : Sto} {o : Opt} {x y : Ent} (h : S.letter o x = some y) : x.hops < 3 ∧ y = { x with exch := o.dead, key := if o.deadKey = [] then x.key else o.deadKey, ttl := 0, again := false, hops := x.hops + 1 } := by
  unfold Sto.letter at h
  split at h
  · cases h
  · rename_i hn
    exact ⟨by omega, (Option.some.inj h).symm⟩
theorem letter_die {S : Sto} {o : Opt} {x y : Ent} (h : S.letter o x = some y) : dieF x = 83 + 40 * dieF y := by
  obtain ⟨h1, rfl⟩ := letter_some h
  unfold dieF
  simp only
  rw [show (3 - x.hops).toNat = (3 - (x.hops + 1)).toNat + 1 by omega, dnF]
theorem step_pot (c : Cf) (hA : c.S.A.length ≤ 40) (hR : c.R ≠ []) : (stepF c).pot < c.pot := by
  obtain ⟨S, R, r⟩ := c
  simp only at hA hR
  cases R with
  | nil => exact absurd rfl hR
  | cons t R =>
    cases t with
    | owed b =>
      simp only [stepF, Cf.pot, letGo_pot, potR_cons, Tsk.pot]
      omega
    | mail top e way =>
      cases way with
      | nil => simp only [stepF, Cf.pot, potR_cons, Tsk.pot]; omega
      | cons i way =>
        have hm := moreM_pot top e way R
        have hmul : (way.length + 1) * (dieF e + 2) = way.length * (dieF e + 2) + (dieF e + 2) := Nat.succ_mul _ _
        cases hp : S.L[i]? with
        | none =>
          simp only [stepF, hp, Cf.pot, potR_cons, Tsk.pot, List.length_cons, hmul]
          omega
        | some p =>
          have hs := put_sum dieF p.o p.M (forE e p.o S.now)
          have hN := setM_pot (S := S.hold e.body) (i := i) (p := p) (putF p.o p.M (forE e p.o S.now)).2.2 (by rw [hold_L]; exact hp)
          rw [hold_pot] at hN
          rw [die_for] at hs
          simp only [stepF, hp, Cf.pot, potR_cons, Tsk.pot, List.length_cons, hmul]
          split
          · omega
          · rw [letGo_pot]; omega
    | dead i W =>
      cases W with
      | nil => simp only [stepF, Cf.pot, potR_cons, Tsk.pot]; omega
      | cons x W =>
        have hm := moreD_pot i W R
        have hx := die_two x
        cases hl : (S.L[i]?).bind fun p => S.letter p.o x with
        | none =>
          simp only [stepF, hl, Cf.pot, potR_cons, Tsk.pot, sumE_cons]
          omega
        | some y =>
          obtain ⟨p, hp, hy⟩ := Option.bind_eq_some_iff.1 hl
          have hd := letter_die hy
          have ht := tos_len hA y.exch y.key
          have e1 : S.born.pot = S.pot := rfl
          have e2 : dieF { y with id := S.last + 1 } = dieF y := rfl
          have h3 : (S.tos y.exch y.key).length * (dieF y + 2) ≤ 40 * (dieF y + 2) := Nat.mul_le_mul_right _ ht
          simp only [stepF, hl, Cf.pot, potR_cons, Tsk.pot, Sto.mail, sumE_cons, e1, e2]
          omega
theorem step_A (c : Cf) : (stepF c).S.A = c.S.A := by
  obtain ⟨S, R, r⟩ := c
  have hh : ∀ (S : Sto) b, (S.hold b).A = S.A := fun S b => by unfold Sto.hold; split <;> rfl
  have hl : ∀ (S : Sto) b, (S.letGo b).A = S.A := fun S b => by unfold Sto.letGo; split <;> rfl
  cases R with
  | nil => rfl
  | cons t R =>
    cases t with
    | owed b => exact hl S b
    | mail top e way =>
      cases way with
      | nil => rfl
      | cons i way =>
        cases hp : S.L[i]? with
        | none => simp only [stepF, hp]
        | some p =>
          simp only [stepF, hp]
          split
          · exact hh S e.body
          · rw [hl]; exact hh S e.body
    | dead i W =>
      cases W with
      | nil => rfl
      | cons x W =>
        cases hy : (S.L[i]?).bind fun p => S.letter p.o x with
        | none => simp only [stepF, hy]
        | some y => simp only [stepF, hy]; rfl
def runF : Nat → Cf → Cf
  | 0, c => c
  | n + 1, c => if c.R = [] then c else runF n (stepF c)
def Cf.fin (c : Cf) : Cf := runF c.pot c
theorem run_enough : ∀ (n m : Nat) (c : Cf), c.S.A.length ≤ 40 → c.pot ≤ n → c.pot ≤ m → runF n c = runF m c
  | 0, 0, c, _, _, _ => rfl
  | 0, m + 1, c, hA, h, _ => by
    by_cases hR : c.R = []
    · simp [runF, hR]
    · have := step_pot c hA hR; omega
  | n + 1, 0, c, hA, _, h => by
    by_cases hR : c.R = []
    · simp [runF, hR]
    · have := step_pot c hA hR; omega
  | n + 1, m + 1, c, hA, h1, h2 => by
    by_cases hR : c.R = []
    · simp [runF, hR]
    · have hs := step_pot c hA hR
      simp only [runF, hR, if_false]
      exact run_enough n m (stepF c) (by rw [step_A]; exact hA) (by omega) (by omega)
theorem fin_nil {c : Cf} (h : c.R = []) : c.fin = c := by
  unfold Cf.fin
  cases c.pot <;> simp [runF, h]
theorem fin_step {c : Cf} (hA : c.S.A.length ≤ 40) (h : c.R ≠ []) : c.fin = (stepF c).fin := by
  have hs := step_pot c hA h
  unfold Cf.fin
  obtain ⟨n, hn⟩ : ∃ n, c.pot = n + 1 := ⟨c.pot - 1, by omega⟩
  rw [hn]
  simp only [runF, h, if_false]
  exact run_enough _ _ _ (by rw [step_A]; exact hA) (by omega) (by omega)
theorem fin_R : ∀ (n : Nat) (c : Cf), c.S.A.length ≤ 40 → c.pot ≤ n → c.fin.R = [] ∧ c.fin.S.A = c.S.A
  | n, c, hA, h => by
    by_cases hR : c.R = []
    · rw [fin_nil hR]; exact ⟨hR, rfl⟩
    · have hs := step_pot c hA hR
      rw [fin_step hA hR]
      cases n with
      | zero => omega
      | succ n =>
        have := fin_R n (stepF c) (by rw [step_A]; exact hA) (by omega)
        exact ⟨this.1, this.2.trans (step_A c)⟩
def Cf.over (c : Cf) (X : List Tsk) : Cf := ⟨c.S, c.R ++ X, c.r⟩
end Go.Proofs.YtknjamfjonapiaaGreatDoor

namespace Go.Proofs.YtknjamfjonapiaaGreatDoor
open Go.RowKit
set_option linter.unusedVariables false
structure FitE (e : Ent) : Prop where
  exch : e.exch.length ≤ 1000
  key : e.key.length ≤ 1000
  hops : -9223372036854775808 ≤ e.hops
structure FitO (o : Opt) : Prop where
  dead : o.dead.length ≤ 1000
  deadKey : o.deadKey.length ≤ 1000
theorem FitE.for_ {e : Ent} (h : FitE e) (o : Opt) (now : Int) : FitE (forE e o now) := ⟨h.exch, h.key, h.hops⟩
structure FitQ (k : Nat) (p : Plq) : Prop where
  opts : FitO p.o
  ents : ∀ e ∈ p.M, FitE e
  len : p.M.length ≤ k
  ok : RkOk p.M
def Tsk.Fit (n : Nat) : Tsk → Prop
  | .mail _ e way => FitE e ∧ ∀ i ∈ way, i < n
  | .dead i W => (∀ x ∈ W, FitE x) ∧ i < n
  | .owed _ => True
structure Cf.Ok (K : Int) (k : Nat) (c : Cf) : Prop where
  few : c.S.A.length ≤ 40
  k60 : 60 ≤ k
  last : c.S.last + c.pot ≤ K
  held : ∀ x ∈ c.S.sl.bs, x.2.1 + c.pot ≤ K
  qs : ∀ p ∈ c.S.L, FitQ k p
  ts : ∀ t ∈ c.R, t.Fit c.S.L.length
theorem moreM_mem {top : Bool} {e : Ent} {way : List Nat} {R : List Tsk} {t : Tsk} (h : t ∈ moreM top e way R) : t = .mail top e way ∨ t ∈ R := by
  unfold moreM at h
  split at h
  · exact .inr h
  · exact List.mem_cons.1 h
theorem moreD_mem {i : Nat} {W : List Ent} {R : List Tsk} {t : Tsk} (h : t ∈ moreD i W R) : t = .dead i W ∨ t ∈ R := by
  unfold moreD at h
  split at h
  · exact .inr h
  · exact List.mem_cons.1 h
theorem turn_held {V : SV} {k c : Int} {x : Int × Int × List UInt8} (h : x ∈ (V.turn k c).bs) : ∃ y ∈ V.bs, x.2.1 = y.2.1 ∨ x.2.1 = y.2.1 + c := by
  unfold SV.turn at h
  obtain ⟨y, hy, rfl⟩ := List.mem_map.1 h
  refine ⟨y, hy, ?_⟩
  split
  · exact .inr rfl
  · exact .inl rfl
theorem hold_held {S : Sto} {b : Int} {x : Int × Int × List UInt8} (h : x ∈ (S.hold b).sl.bs) : ∃ y ∈ S.sl.bs, x.2.1 ≤ y.2.1 + 1 := by
  unfold Sto.hold SV.hold at h
  split at h
  · split at h
    · exact ⟨x, h, by omega⟩
    · obtain ⟨y, hy, h⟩ := turn_held h
      exact ⟨y, hy, by omega⟩
  · exact ⟨x, h, by omega⟩
theorem drop_held {V : SV} {b : Int} {x : Int × Int × List UInt8} (h : x ∈ (V.drop b).2.bs) : ∃ y ∈ V.bs, x.2.1 ≤ y.2.1 := by
  unfold SV.drop at h
  split at h
  · exact ⟨x, h, Int.le_refl _⟩
  · split at h
    · obtain ⟨y, hy, h⟩ := turn_held h
      exact ⟨y, hy, by omega⟩
    · exact ⟨x, List.eraseP_sublist.subset h, Int.le_refl _⟩
theorem letGo_held {S : Sto} {b : Int} {x : Int × Int × List UInt8} (h : x ∈ (S.letGo b).sl.bs) : ∃ y ∈ S.sl.bs, x.2.1 ≤ y.2.1 := by
  unfold Sto.letGo at h
  split at h
  · exact drop_held h
  · exact ⟨x, h, Int.le_refl _⟩
theorem shed_ok : ∀ (n : Nat) {M : List Ent}, RkOk M → RkOk (shedF n M).2
  | 0, M, h => h
  | n + 1, M, h => by
    unfold shedF
    split
    · exact h
    · exact shed_ok n (h.del _)
theorem put_ok2 {o : Opt} {M : List Ent} {e : Ent} (h : RkOk M) : RkOk (putF o M e).2.2 := by
  unfold putF
  split
  · exact h
  · rename_i hn
    have hp : putOk M e = true := by simpa using hn
    unfold putOk at hp
    obtain ⟨h1, h2⟩ := of_decide_eq_true hp
    have h3 : ∀ x ∈ M, x.id ≠ e.id := fun x hx he => h1 (List.mem_map.2 ⟨x, hx, he⟩)
    split
    · exact h.ins h2 h3
    · split
      · exact h
      · exact (shed_ok _ h).ins h2 fun x hx => h3 x (mem_shed _ _ (.inr hx))
theorem FitQ.put {k : Nat} {p : Plq} {e : Ent} (h : FitQ k p) (hk : 60 ≤ k) (he : FitE e) : FitQ k { p with M := (putF p.o p.M e).2.2 } :=
  ⟨h.opts, fun x hx => by
    rcases mem_put (.inr hx) with rfl | hx
    · exact he
    · exact h.ents x hx, put_len _ _ _ hk h.len, put_ok2 h.ok⟩
theorem Tsk.Fit.len {n m : Nat} {t : Tsk} (h : t.Fit n) (e : n = m) : t.Fit m := e ▸ h
theorem tos_lt {S : Sto} {ex key : List UInt8} {i : Nat} (h : i ∈ S.tos ex key) : i < S.L.length := by
  obtain ⟨n, -, hn⟩ := List.mem_filterMap.1 h
  exact (List.findIdx?_eq_some_iff_getElem.1 hn).1
theorem letter_fit {S : Sto} {o : Opt} {x y : Ent} (h : S.letter o x = some y) (hx : FitE x) (ho : FitO o) : FitE y := by
  obtain ⟨h1, rfl⟩ := letter_some h
  have := hx.hops
  refine ⟨ho.dead, ?_, by simp only; omega⟩
  show (if o.deadKey = [] then x.key else o.deadKey).length ≤ 1000
  split
  · exact hx.key
  · exact ho.deadKey
theorem mem_set {l : List Plq} {i : Nat} {p q : Plq} (h : q ∈ l.set i p) : q = p ∨ q ∈ l := (List.mem_or_eq_of_mem_set h).symm
theorem Cf.Ok.step {K : Int} {k : Nat} {c : Cf} (h : c.Ok K k) (hR : c.R ≠ []) : (stepF c).Ok K k := by
  have hp := step_pot c h.few hR
  have hA := step_A c
  obtain ⟨S, R, r⟩ := c
  have hf := h.few
  have hl := h.last
  have hh := h.held
  have hq := h.qs
  have ht := h.ts
  simp only at hf hl hh hq ht
  cases R with
  | nil => exact absurd rfl hR
  | cons t R =>
    have hts : ∀ u ∈ R, u.Fit S.L.length := fun u hu => ht u (List.mem_cons_of_mem _ hu)
    have ht0 := ht t List.mem_cons_self
    cases t with
    | owed b =>
      simp only [stepF] at hp hA ⊢
      refine ⟨by rw [hA]; exact hf, h.k60, ?_, fun x hx => ?_, by rw [letGo_L]; exact hq, by rw [letGo_L]; exact hts⟩
      · have : (S.letGo b).last = S.last := by unfold Sto.letGo; split <;> rfl
        simp only [this]; omega
      · obtain ⟨y, hy, hle⟩ := letGo_held hx
        have := hh y hy
        omega
    | mail top e way =>
      cases way with
      | nil =>
        simp only [stepF] at hp hA ⊢
        exact ⟨hf, h.k60, by simp only; omega, fun x hx => by have := hh x hx; omega, hq, hts⟩
      | cons i way =>
        have hmore : ∀ u ∈ moreM top e way R, u.Fit S.L.length := fun u hu => by
          rcases moreM_mem hu with rfl | hu
          · exact ⟨ht0.1, fun j hj => ht0.2 j (List.mem_cons_of_mem _ hj)⟩
          · exact hts u hu
        cases hi : S.L[i]? with
        | none =>
          simp only [stepF, hi] at hp hA ⊢
          exact ⟨hf, h.k60, by simp only; omega, fun x hx => by have := hh x hx; omega, hq, hmore⟩
        | some p =>
          have hpm := List.mem_of_getElem? hi
          have hfit := hq p hpm
          simp only [stepF, hi] at hp hA ⊢
          have eL : ∀ N, ((S.hold e.body).setM i p N).L = S.L.set i { p with M := N } := fun N => by show (S.hold e.body).L.set i _ = _; rw [hold_L]
          have elast : ∀ N, ((S.hold e.body).setM i p N).last = S.last := fun N => by show (S.hold e.body).last = _; unfold Sto.hold; split <;> rfl
          have hheld : ∀ N, ∀ x ∈ ((S.hold e.body).setM i p N).sl.bs, ∃ y ∈ S.sl.bs, x.2.1 ≤ y.2.1 + 1 := fun N x hx => hold_held hx
          have hqs : ∀ q ∈ S.L.set i { p with M := (putF p.o p.M (forE e p.o S.now)).2.2 }, FitQ k q := fun q hq0 => by
            rcases mem_set hq0 with rfl | hq0
            · exact hfit.put h.k60 (ht0.1.for_ _ _)
            · exact hq q hq0
          have hdead : ∀ u ∈ Tsk.dead i (putF p.o p.M (forE e p.o S.now)).2.1 :: moreM top e way R, u.Fit S.L.length := fun u hu => by
            rcases List.mem_cons.1 hu with rfl | hu
            · refine ⟨fun x hx => ?_, ht0.2 i List.mem_cons_self⟩
              rcases mem_put (.inl hx) with rfl | hx
              · exact ht0.1.for_ _ _
              · exact hfit.ents x hx
            · exact hmore u hu
          generalize hpot : Cf.pot _ = pt at hp
          refine ⟨by rw [hA]; exact hf, h.k60, ?_, fun x hx => ?_, ?_, ?_⟩
          · rw [hpot]
            split
            · rw [elast]; omega
            · have : ∀ (S : Sto) b, (S.letGo b).last = S.last := fun S b => by unfold Sto.letGo; split <;> rfl
              rw [this, elast]; omega
          · rw [hpot]
            have : ∃ y ∈ S.sl.bs, x.2.1 ≤ y.2.1 + 1 := by
              simp only at hx
              split at hx
              · exact hheld _ x hx
              · obtain ⟨y, hy, hle⟩ := letGo_held hx
                obtain ⟨z, hz, hle2⟩ := hheld _ y hy
                exact ⟨z, hz, by omega⟩
            obtain ⟨y, hy, hle⟩ := this
            have := hh y hy
            omega
          · simp only
            split
            · rw [eL]; exact hqs
            · rw [letGo_L, eL]; exact hqs
          · simp only
            split
            · rw [eL, List.length_set]; exact hdead
            · rw [letGo_L, eL, List.length_set]; exact hdead
    | dead i W =>
      cases W with
      | nil =>
        simp only [stepF] at hp hA ⊢
        exact ⟨hf, h.k60, by simp only; omega, fun x hx => by have := hh x hx; omega, hq, hts⟩
      | cons x W =>
        have hmore : ∀ u ∈ Tsk.owed x.body :: moreD i W R, u.Fit S.L.length := fun u hu => by
          rcases List.mem_cons.1 hu with rfl | hu
          · trivial
          · rcases moreD_mem hu with rfl | hu
            · exact ⟨fun z hz => ht0.1 z (List.mem_cons_of_mem _ hz), ht0.2⟩
            · exact hts u hu
        cases hy : (S.L[i]?).bind fun p => S.letter p.o x with
        | none =>
          simp only [stepF, hy] at hp hA ⊢
          exact ⟨hf, h.k60, by simp only; omega, fun z hz => by have := hh z hz; omega, hq, hmore⟩
        | some y =>
          obtain ⟨p, hi, hl2⟩ := Option.bind_eq_some_iff.1 hy
          have hfy := letter_fit hl2 (ht0.1 x List.mem_cons_self) (hq p (List.mem_of_getElem? hi)).opts
          simp only [stepF, hy] at hp hA ⊢
          refine ⟨hf, h.k60, ?_, fun z hz => ?_, hq, fun u hu => ?_⟩
          · have : S.born.last = S.last + 1 := rfl
            simp only [this]; omega
          · have := hh z hz
            omega
          · rcases List.mem_cons.1 hu with rfl | hu
            · exact ⟨⟨hfy.exch, hfy.key, hfy.hops⟩, fun j hj => tos_lt hj⟩
            · exact hmore u hu
end Go.Proofs.YtknjamfjonapiaaGreatDoor

namespace Go.Proofs.YtknjamfjonapiaaGreatDoor
open Go.RowKit
open Go.ChangeMaps (setBlock)
set_option linter.unusedVariables false
set_option linter.unusedSectionVars false
set_option linter.unusedSimpArgs false
set_option maxRecDepth 100000
structure Tb (α : Type) where
  mv : Option Nat
  es : List (MapRow α)
  clk : Nat
  most : Nat
section
variable {α : Type} [DecidableEq α]
def Tb.new : Tb α := ⟨none, [], 0, 0⟩
def Tb.rows (t : Tb α) : List (α × Value) := t.es.map fun e => (e.1, e.2.1)
def tabH (enc : α → Value) (t : Tb α) : List (Nat × Obj) := match t.mv with
  | none => []
  | some b => [(b, .map (entsE enc t.es) t.clk)]
structure TbOk (t : Tb α) (n : Nat) : Prop where
  keys : (t.es.map (·.1)).Nodup
  born : Born t.es t.clk
  bare : t.mv = none → t.es = [] ∧ t.clk = 0
  len : t.es.length ≤ n
  most : t.most ≤ n
theorem TbOk.new (n : Nat) : TbOk (Tb.new : Tb α) n := ⟨by simp [Tb.new], ⟨by simp [Tb.new], by simp [Tb.new]⟩, fun _ => ⟨rfl, rfl⟩, Nat.zero_le _, Nat.zero_le _⟩
theorem TbOk.mono {t : Tb α} {n m : Nat} (h : TbOk t n) (hm : n ≤ m) : TbOk t m := ⟨h.keys, h.born, h.bare, Nat.le_trans h.len hm, Nat.le_trans h.most hm⟩
theorem keys_rows (t : Tb α) : t.rows.map (·.1) = t.es.map (·.1) := by simp [Tb.rows, Function.comp_def]
structure TbAt (w : World) (b o : Nat) (enc : α → Value) (t : Tb α) : Prop where
  c0 : w.cell? ⟨b, o, none⟩ = some (.map t.mv)
  c1 : w.cell? ⟨b, o + 1, none⟩ = some (.int .i64 t.most)
  map : ∀ mb, t.mv = some mb → w.heap[mb]? = some (.map (entsE enc t.es) t.clk)
end
theorem uMapI : Tryz.prog.underlying 314 = some (.map 3 322) := by kernel_rfl
section
variable {B : Nat} {w0 w : World} {F : List (Nat × Obj)} {b o : Nat} {c : Array Value} {T : TypeId} {t : Tb Int} {n : Nat} {k : Int}
theorem countI_any (h : TbAt w b o encI t) (hb : t.mv = none → t.es = []) : Calls Tryz.prog 303 #[.pointer (some ⟨b, o, none⟩)] w fun e w' => e = .returned (.int .i64 t.es.length) ∧ w' = w := by
  obtain ⟨c0, -, hm⟩ := h
  cases hmv : t.mv with
  | none =>
    rw [hmv] at c0
    have hl := fun ty => run_lenE_nil (P := Tryz.prog) (w := w) (ty := ty) uMapI
    rw [hb hmv]
    go_enter Tryz.func303, Tryz.ntmps303
    go_wp2_with fail
    go_ret
    exact ⟨rfl, rfl⟩
  | some mb =>
    rw [hmv] at c0
    have hl := fun ty => run_lenE (P := Tryz.prog) (ty := ty) uMapI (hm mb hmv)
    generalize t.es.length = L at *
    go_enter Tryz.func303, Tryz.ntmps303
    go_wp2_with fail
    go_ret
    exact ⟨rfl, rfl⟩
def Bare (t : Tb Int) : Prop := ∀ e ∈ t.es, e.2.1 = .agg #[]
theorem Bare.look (h : Bare t) (k : Int) : ((seek t.es k).map (·.2.1)).getD (.agg #[]) = .agg #[] := by
  cases hs : seek t.es k with
  | none => rfl
  | some e => exact h e (seek_mem hs).1
theorem TbOk.push {α : Type} [DecidableEq α] {t : Tb α} {n : Nat} {k : α} (h : TbOk t n) (hk : k ∉ t.es.map (·.1)) (v : Value) (mb : Nat) : TbOk (⟨some mb, t.es ++ [(k, v, t.clk)], t.clk + 1, max t.most (t.es.length + 1)⟩ : Tb α) (n + 1) := by
  refine ⟨?_, ⟨?_, ?_⟩, (fun e => nomatch e), ?_, ?_⟩
  · simp only [List.map_append, List.map_cons, List.map_nil]
    rw [List.nodup_append]
    exact ⟨h.keys, by simp, by rintro a ha b hb rfl; rw [List.mem_singleton] at hb; subst hb; exact hk ha⟩
  · simp only [List.map_append, List.map_cons, List.map_nil]
    rw [List.nodup_append]
    refine ⟨h.born.1, by simp, ?_⟩
    rintro a ha b hb rfl
    rw [List.mem_singleton] at hb
    subst hb
    obtain ⟨e, he, e1⟩ := List.mem_map.1 ha
    have := h.born.2 e he
    omega
  · intro e he
    rcases List.mem_append.1 he with he | he
    · have := h.born.2 e he
      show _ < t.clk + 1
      omega
    · rw [List.mem_singleton] at he
      subst he
      exact Nat.lt_succ_self _
  · have := h.len
    simp only [List.length_append, List.length_singleton]
    omega
  · have := h.len
    have := h.most
    show max _ _ ≤ _
    omega
end
end Go.Proofs.YtknjamfjonapiaaGreatDoor

namespace Go.Proofs.YtknjamfjonapiaaGreatDoor
open Go.RowKit
open Go.ChangeMaps (setBlock)
set_option linter.unusedVariables false
set_option linter.unusedSectionVars false
set_option linter.unusedSimpArgs false
set_option maxRecDepth 100000
section
variable {α : Type} [DecidableEq α]
theorem TbOk.rest {t : Tb α} {n : Nat} (h : TbOk t n) (hm : t.mv ≠ none) (k : α) : TbOk (⟨t.mv, restE t.es k, t.clk, t.most⟩ : Tb α) n :=
  ⟨((rest_sub t.es k).map _).nodup h.keys, ⟨((rest_sub t.es k).map _).nodup h.born.1, fun e he => h.born.2 e ((rest_sub t.es k).subset he)⟩, fun e => absurd e hm, Nat.le_trans (rest_sub t.es k).length_le h.len, h.most⟩
end
section
variable {B : Nat} {w0 w : World} {F : List (Nat × Obj)} {b o : Nat} {c : Array Value} {T : TypeId} {t : Tb Int} {n : Nat} {k : Int}
end
end Go.Proofs.YtknjamfjonapiaaGreatDoor

namespace Go.Proofs.YtknjamfjonapiaaGreatDoor
open Go.RowKit
set_option linter.unusedVariables false
set_option linter.unusedSectionVars false
set_option linter.unusedSimpArgs false
set_option maxRecDepth 100000
abbrev encS : List UInt8 → Value := fun l => tx l
theorem uStr12 : Tryz.prog.underlying 9 = some .string := by kernel_rfl
theorem tx_beq (a b : List UInt8) : ((⟨a.toArray⟩ : ByteArray) == ⟨b.toArray⟩) = decide (b = a) := by
  show (a.toArray == b.toArray) = _
  rw [Bool.eq_iff_iff, beq_iff_eq, decide_eq_true_iff]
  constructor
  · intro h
    have := congrArg Array.toList h
    simpa using this.symm
  · rintro rfl; rfl
theorem keyS : KeyBy Tryz.prog 9 encS (fun _ _ => True) := keyBy_now uStr12 (fun em n k w => by simp [Instr.checkKey, run_underlying uStr12])
  (fun a b => by
    have h : Instr.sameNow .string (encS a) (encS b) = some ((⟨a.toArray⟩ : ByteArray) == ⟨b.toArray⟩) := rfl
    rw [h, tx_beq]) (fun k => by
    have h : Instr.sameBits 10000 (encS k) (encS k) = ((⟨k.toArray⟩ : ByteArray) == ⟨k.toArray⟩) := rfl
    rw [h, tx_beq]
    simp)
end Go.Proofs.YtknjamfjonapiaaGreatDoor

namespace Go.Proofs.YtknjamfjonapiaaGreatDoor
open Go.RowKit
open Go.ChangeMaps (setBlock)
set_option linter.unusedVariables false
set_option linter.unusedSectionVars false
set_option linter.unusedSimpArgs false
set_option maxRecDepth 100000
abbrev np (b : Nat) : Value := .pointer (some ⟨b, 0, none⟩)
theorem uMapS : Tryz.prog.underlying 311 = some (.map 9 310) := by kernel_rfl
theorem zNode (w : World) : (zeroValue 310).run Tryz.prog w = .ok (.pointer none) w := Tryz.zeroValue310 w
section
variable {B : Nat} {w0 w : World} {F : List (Nat × Obj)} {b o : Nat} {c : Array Value} {T : TypeId} {t : Tb (List UInt8)} {n : Nat} {k : List UInt8} {v : Value}
theorem countS_any (h : TbAt w b o encS t) (hb : t.mv = none → t.es = []) : Calls Tryz.prog 304 #[.pointer (some ⟨b, o, none⟩)] w fun e w' => e = .returned (.int .i64 t.es.length) ∧ w' = w := by
  obtain ⟨c0, -, hm⟩ := h
  cases hmv : t.mv with
  | none =>
    rw [hmv] at c0
    have hl := fun ty => run_lenE_nil (P := Tryz.prog) (w := w) (ty := ty) uMapS
    rw [hb hmv]
    go_enter Tryz.func304, Tryz.ntmps304
    go_wp2_with fail
    go_ret
    exact ⟨rfl, rfl⟩
  | some mb =>
    rw [hmv] at c0
    have hl := fun ty => run_lenE (P := Tryz.prog) (ty := ty) uMapS (hm mb hmv)
    generalize t.es.length = L at *
    go_enter Tryz.func304, Tryz.ntmps304
    go_wp2_with fail
    go_ret
    exact ⟨rfl, rfl⟩
end
end Go.Proofs.YtknjamfjonapiaaGreatDoor

namespace Go.Proofs.YtknjamfjonapiaaGreatDoor
open Go.RowKit
open Go.ChangeMaps (setBlock)
set_option linter.unusedVariables false
set_option linter.unusedSectionVars false
set_option linter.unusedSimpArgs false
set_option maxRecDepth 100000
structure Nd where
  p : Wds
  b : Nat
  u : Option Nat
  s : Tb (List UInt8)
  i : Tb Int
  x : List Value
  y : TypeId
def lastW (p : Wds) : List UInt8 := p.getLastD []
theorem lastW_snoc (p : Wds) (w : List UInt8) : lastW (p ++ [w]) = w := by simp [lastW]
theorem snoc_inj {p q : Wds} {w v : List UInt8} (h : p ++ [w] = q ++ [v]) : p = q ∧ w = v := by
  have := List.append_inj' h rfl
  exact ⟨this.1, by simpa using this.2⟩
def upV (u : Option Nat) : Value := .pointer (u.map fun a => ⟨a, 0, none⟩)
def Nd.cells (n : Nd) : Array Value := ([upV n.u, tx (lastW n.p), .map n.s.mv, .int .i64 n.s.most, .map n.i.mv, .int .i64 n.i.most] ++ n.x).toArray
def Nd.objs (n : Nd) : List (Nat × Obj) := (n.b, .cells n.cells n.y) :: (tabH encS n.s ++ tabH encI n.i)
def objsL (L : List Nd) : List (Nat × Obj) := L.flatMap Nd.objs
structure TreeOk (L : List Nd) (tb c : Nat) : Prop where
  paths : (L.map Nd.p).Nodup
  blocks : (L.map Nd.b).Nodup
  root : ∃ n ∈ L, n.p = [] ∧ n.b = tb
  ups : ∀ n ∈ L, (n.p = [] ∧ n.u = none) ∨ ∃ q ∈ L, ∃ w, n.p = q.p ++ [w] ∧ n.u = some q.b ∧ (w, np n.b) ∈ q.s.rows
  downs : ∀ n ∈ L, ∀ r ∈ n.s.rows, ∃ m ∈ L, m.p = n.p ++ [r.1] ∧ r.2 = np m.b
  bare : ∀ n ∈ L, Bare n.i
  oks : ∀ n ∈ L, TbOk n.s c ∧ TbOk n.i c
  few : L.length ≤ c
theorem map_inj {α β : Type} {f : α → β} {L : List α} (h : (L.map f).Nodup) {m n : α} (hm : m ∈ L) (hn : n ∈ L) (e : f m = f n) : m = n := by
  obtain ⟨i, hi⟩ := List.getElem?_of_mem hm
  obtain ⟨j, hj⟩ := List.getElem?_of_mem hn
  have hil := (List.getElem?_eq_some_iff.1 hi).1
  have : i = j := (List.getElem?_inj (by simpa using hil) h).1 (by simp [hi, hj, e])
  subst this
  rw [hi] at hj; cases hj; rfl
def nd (L : List Nd) (p : Wds) : Option Nd := L.find? fun n => decide (n.p = p)
def ptrP (L : List Nd) (p : Wds) : Value := match nd L p with
  | some n => np n.b
  | none => .pointer none
def HasId (L : List Nd) (p : Wds) (k : Int) : Prop := ∃ n ∈ L, n.p = p ∧ k ∈ n.i.es.map (·.1)
section
variable {L : List Nd} {tb c : Nat} {n m : Nd} {p : Wds}
theorem nd_mem (h : nd L p = some n) : n ∈ L ∧ n.p = p := ⟨List.mem_of_find?_eq_some h, by simpa using List.find?_some h⟩
theorem nd_none : nd L p = none ↔ ∀ n ∈ L, n.p ≠ p := by
  unfold nd
  rw [List.find?_eq_none]
  simp
theorem TreeOk.nd_some (h : TreeOk L tb c) (hn : n ∈ L) : nd L n.p = some n := by
  cases hs : nd L n.p with
  | none => exact absurd rfl (nd_none.1 hs n hn)
  | some m =>
    obtain ⟨h1, h2⟩ := nd_mem hs
    rw [map_inj h.paths h1 hn h2]
theorem TreeOk.ptr (h : TreeOk L tb c) (hn : n ∈ L) : ptrP L n.p = np n.b := by
  unfold ptrP
  rw [h.nd_some hn]
theorem TreeOk.kid (h : TreeOk L tb c) (hn : n ∈ L) (w : List UInt8) : ((seek n.s.es w).map (·.2.1)).getD (.pointer none) = ptrP L (n.p ++ [w]) := by
  cases hs : seek n.s.es w with
  | none =>
    have : nd L (n.p ++ [w]) = none := by
      rw [nd_none]
      intro m hm e
      rcases h.ups m hm with ⟨h1, _⟩ | ⟨q, hq, w', h1, _, h2⟩
      · rw [h1] at e; simp at e
      · rw [h1] at e
        obtain ⟨e1, rfl⟩ := snoc_inj e
        obtain rfl := map_inj h.paths hq hn e1
        refine seek_none.1 hs ?_
        rw [← keys_rows]
        exact List.mem_map_of_mem (f := (·.1)) h2
    unfold ptrP
    rw [this]
    rfl
  | some e =>
    obtain ⟨h1, rfl⟩ := seek_mem hs
    obtain ⟨m, hm, h2, h3⟩ := h.downs n hn (e.1, e.2.1) (List.mem_map_of_mem (f := fun e => (e.1, e.2.1)) h1)
    rw [← h2, h.ptr hm]
    exact h3
theorem TreeOk.up (h : TreeOk L tb c) (hn : n ∈ L) : (n.p = [] ∧ upV n.u = .pointer none) ∨ ∃ q ∈ L, ∃ w, n.p = q.p ++ [w] ∧ upV n.u = np q.b := by
  rcases h.ups n hn with ⟨h1, h2⟩ | ⟨q, hq, w, h1, h2, _⟩
  · exact .inl ⟨h1, by rw [h2]; rfl⟩
  · exact .inr ⟨q, hq, w, h1, by rw [h2]; rfl⟩
theorem HasId.of (h : TreeOk L tb c) (hn : n ∈ L) (k : Int) : HasId L n.p k ↔ k ∈ n.i.es.map (·.1) := by
  constructor
  · rintro ⟨m, hm, e, hk⟩
    rwa [map_inj h.paths hm hn e] at hk
  · exact fun hk => ⟨n, hn, rfl, hk⟩
theorem TreeOk.sim {L' : List Nd} {c' : Nat} (h : TreeOk L tb c) (hf : ∀ m ∈ L, ∃ m' ∈ L', m'.p = m.p ∧ m'.b = m.b ∧ m'.u = m.u ∧ m'.s = m.s) (hg : ∀ m' ∈ L', ∃ m ∈ L, m'.p = m.p ∧ m'.b = m.b ∧ m'.u = m.u ∧ m'.s = m.s)
    (h1 : (L'.map Nd.p).Nodup) (h2 : (L'.map Nd.b).Nodup) (h3 : ∀ n ∈ L', Bare n.i) (h4 : ∀ n ∈ L', TbOk n.s c' ∧ TbOk n.i c') (h5 : L'.length ≤ c') : TreeOk L' tb c' := by
  refine ⟨h1, h2, ?_, ?_, ?_, h3, h4, h5⟩
  · obtain ⟨n, hn, e1, e2⟩ := h.root
    obtain ⟨m, hm, g1, g2, -⟩ := hf n hn
    exact ⟨m, hm, g1.trans e1, g2.trans e2⟩
  · intro m' hm'
    obtain ⟨m, hm, g1, g2, g3, g4⟩ := hg m' hm'
    rw [g1, g2, g3]
    rcases h.ups m hm with e | ⟨q, hq, w, e1, e2, e3⟩
    · exact .inl e
    · obtain ⟨q', hq', k1, k2, k3, k4⟩ := hf q hq
      exact .inr ⟨q', hq', w, by rw [e1, k1], by rw [e2, k2], by rw [k4]; exact e3⟩
  · intro m' hm' r hr
    obtain ⟨m, hm, g1, g2, g3, g4⟩ := hg m' hm'
    rw [g4] at hr
    obtain ⟨q, hq, e1, e2⟩ := h.downs m hm r hr
    obtain ⟨q', hq', k1, k2, k3, k4⟩ := hf q hq
    exact ⟨q', hq', by rw [k1, e1, g1], by rw [e2, k2]⟩
theorem TreeOk.perm {L' : List Nd} (h : TreeOk L tb c) (hp : L.Perm L') : TreeOk L' tb c :=
  h.sim (fun m hm => ⟨m, hp.mem_iff.1 hm, rfl, rfl, rfl, rfl⟩) (fun m hm => ⟨m, hp.mem_iff.2 hm, rfl, rfl, rfl, rfl⟩) ((hp.map _).nodup_iff.1 h.paths) ((hp.map _).nodup_iff.1 h.blocks)
    (fun m hm => h.bare m (hp.mem_iff.2 hm)) (fun m hm => h.oks m (hp.mem_iff.2 hm)) (by rw [← hp.length_eq]; exact h.few)
theorem TreeOk.mono {c' : Nat} (h : TreeOk L tb c) (hc : c ≤ c') : TreeOk L tb c' :=
  ⟨h.paths, h.blocks, h.root, h.ups, h.downs, h.bare, fun n hn => ⟨(h.oks n hn).1.mono hc, (h.oks n hn).2.mono hc⟩, Nat.le_trans h.few hc⟩
theorem TreeOk.ids {R : List Nd} {c' : Nat} {i' : Tb Int} {x' : List Value} (h : TreeOk (n :: R) tb c) (hb : Bare i') (hc : c ≤ c') (hok : TbOk i' c') : TreeOk ({ n with i := i', x := x' } :: R) tb c' := by
  refine h.sim ?_ ?_ h.paths h.blocks ?_ ?_ (Nat.le_trans h.few hc)
  · intro m hm
    rcases List.mem_cons.1 hm with rfl | hm
    · exact ⟨_, List.mem_cons_self, rfl, rfl, rfl, rfl⟩
    · exact ⟨m, List.mem_cons_of_mem _ hm, rfl, rfl, rfl, rfl⟩
  · intro m hm
    rcases List.mem_cons.1 hm with rfl | hm
    · exact ⟨n, List.mem_cons_self, rfl, rfl, rfl, rfl⟩
    · exact ⟨m, List.mem_cons_of_mem _ hm, rfl, rfl, rfl, rfl⟩
  · intro m hm
    rcases List.mem_cons.1 hm with rfl | hm
    · exact hb
    · exact h.bare m (List.mem_cons_of_mem _ hm)
  · intro m hm
    rcases List.mem_cons.1 hm with rfl | hm
    · exact ⟨(h.oks n List.mem_cons_self).1.mono hc, hok⟩
    · exact ⟨(h.oks m (List.mem_cons_of_mem _ hm)).1.mono hc, (h.oks m (List.mem_cons_of_mem _ hm)).2.mono hc⟩
abbrev newNd (n : Nd) (w : List UInt8) (nb : Nat) (y : TypeId) : Nd := ⟨n.p ++ [w], nb, some n.b, Tb.new, Tb.new, [], y⟩
theorem TreeOk.grow {R : List Nd} {w : List UInt8} {nb : Nat} {y : TypeId} {s' : Tb (List UInt8)} (h : TreeOk (n :: R) tb c) (hw : ∀ m ∈ n :: R, m.p ≠ n.p ++ [w]) (hnb : ∀ m ∈ n :: R, m.b ≠ nb)
    (hs : s'.rows = n.s.rows ++ [(w, np nb)]) (hok : TbOk s' (c + 1)) : TreeOk (newNd n w nb y :: { n with s := s' } :: R) tb (c + 1) := by
  have hf : ∀ m ∈ n :: R, ∃ m' ∈ newNd n w nb y :: { n with s := s' } :: R, m'.p = m.p ∧ m'.b = m.b ∧ m'.u = m.u ∧ (∀ r ∈ m.s.rows, r ∈ m'.s.rows) := by
    intro m hm
    rcases List.mem_cons.1 hm with rfl | hm
    · exact ⟨{ m with s := s' }, by simp, rfl, rfl, rfl, fun r hr => by show r ∈ s'.rows; rw [hs]; exact List.mem_append_left _ hr⟩
    · exact ⟨m, by simp [hm], rfl, rfl, rfl, fun r hr => hr⟩
  refine ⟨?_, ?_, ?_, ?_, ?_, ?_, ?_, by have := h.few; simpa using this⟩
  · show ((n.p ++ [w]) :: ((n :: R).map Nd.p)).Nodup
    rw [List.nodup_cons]
    refine ⟨fun hm => ?_, h.paths⟩
    obtain ⟨m, hm, e⟩ := List.mem_map.1 hm
    exact hw m hm e
  · show (nb :: ((n :: R).map Nd.b)).Nodup
    rw [List.nodup_cons]
    refine ⟨fun hm => ?_, h.blocks⟩
    obtain ⟨m, hm, e⟩ := List.mem_map.1 hm
    exact hnb m hm e
  · obtain ⟨r, hr, e1, e2⟩ := h.root
    obtain ⟨r', hr', g1, g2, -⟩ := hf r hr
    exact ⟨r', hr', g1.trans e1, g2.trans e2⟩
  · have key : ∀ m ∈ n :: R, (m.p = [] ∧ m.u = none) ∨ ∃ q ∈ newNd n w nb y :: { n with s := s' } :: R, ∃ w', m.p = q.p ++ [w'] ∧ m.u = some q.b ∧ (w', np m.b) ∈ q.s.rows := by
      intro m hm
      rcases h.ups m hm with e | ⟨q, hq, w', e1, e2, e3⟩
      · exact .inl e
      · obtain ⟨q', hq', k1, k2, k3, k4⟩ := hf q hq
        exact .inr ⟨q', hq', w', by rw [e1, k1], by rw [e2, k2], k4 _ e3⟩
    intro m hm
    rcases List.mem_cons.1 hm with rfl | hm
    · exact .inr ⟨{ n with s := s' }, by simp, w, rfl, rfl, by show _ ∈ s'.rows; rw [hs]; simp⟩
    rcases List.mem_cons.1 hm with rfl | hm
    · exact key n List.mem_cons_self
    · exact key m (List.mem_cons_of_mem _ hm)
  · have key : ∀ m ∈ n :: R, ∀ r ∈ m.s.rows, ∃ m' ∈ newNd n w nb y :: { n with s := s' } :: R, m'.p = m.p ++ [r.1] ∧ r.2 = np m'.b := by
      intro m hm r hr
      obtain ⟨q, hq, e1, e2⟩ := h.downs m hm r hr
      obtain ⟨q', hq', k1, k2, k3, k4⟩ := hf q hq
      exact ⟨q', hq', by rw [k1, e1], by rw [e2, k2]⟩
    intro m hm r hr
    rcases List.mem_cons.1 hm with rfl | hm
    · exact absurd hr (by show r ∉ (Tb.new : Tb (List UInt8)).rows; simp [Tb.new, Tb.rows])
    rcases List.mem_cons.1 hm with rfl | hm
    · have hr : r ∈ s'.rows := hr
      rw [hs] at hr
      rcases List.mem_append.1 hr with hr | hr
      · exact key n List.mem_cons_self r hr
      · rw [List.mem_singleton] at hr
        subst hr
        exact ⟨newNd n w nb y, by simp, rfl, rfl⟩
    · exact key m (List.mem_cons_of_mem _ hm) r hr
  · intro m hm
    rcases List.mem_cons.1 hm with rfl | hm
    · intro e he
      exact absurd he (by simp [Tb.new])
    rcases List.mem_cons.1 hm with rfl | hm
    · exact h.bare n List.mem_cons_self
    · exact h.bare m (List.mem_cons_of_mem _ hm)
  · intro m hm
    rcases List.mem_cons.1 hm with rfl | hm
    · exact ⟨TbOk.new _, TbOk.new _⟩
    rcases List.mem_cons.1 hm with rfl | hm
    · exact ⟨hok, (h.oks n List.mem_cons_self).2.mono (Nat.le_succ _)⟩
    · exact ⟨(h.oks m (List.mem_cons_of_mem _ hm)).1.mono (Nat.le_succ _), (h.oks m (List.mem_cons_of_mem _ hm)).2.mono (Nat.le_succ _)⟩
theorem TreeOk.cut {R : List Nd} {w : List UInt8} {s' : Tb (List UInt8)} (h : TreeOk (m :: n :: R) tb c) (hm : m.p = n.p ++ [w]) (h0 : m.s.rows = [])
    (hs : s'.rows.Perm (n.s.rows.filter fun x => decide (x.1 ≠ w))) (hok : TbOk s' c) : TreeOk ({ n with s := s' } :: R) tb c := by
  have hmp : m.p ≠ [] := by rw [hm]; simp
  have nm : ∀ k ∈ n :: R, k.p ≠ m.p := fun k hk e => by
    have := h.paths
    rw [List.map_cons, List.nodup_cons] at this
    exact this.1 (e ▸ List.mem_map_of_mem hk)
  have nn : ∀ k ∈ R, k.p ≠ n.p := fun k hk e => by
    have := h.paths
    rw [List.map_cons, List.nodup_cons, List.map_cons, List.nodup_cons] at this
    exact this.2.1 (e ▸ List.mem_map_of_mem hk)
  have hin : ∀ k ∈ m :: n :: R, k.p ≠ m.p → ∃ k' ∈ { n with s := s' } :: R, k'.p = k.p ∧ k'.b = k.b := by
    intro k hk hne
    rcases List.mem_cons.1 hk with rfl | hk
    · exact absurd rfl hne
    rcases List.mem_cons.1 hk with rfl | hk
    · exact ⟨_, List.mem_cons_self, rfl, rfl⟩
    · exact ⟨k, List.mem_cons_of_mem _ hk, rfl, rfl⟩
  have mem : ∀ r, r ∈ s'.rows ↔ r ∈ n.s.rows ∧ r.1 ≠ w := fun r => by rw [hs.mem_iff, List.mem_filter]; simp
  refine ⟨?_, ?_, ?_, ?_, ?_, ?_, ?_, ?_⟩
  · have := h.paths
    rw [List.map_cons, List.nodup_cons] at this
    exact this.2
  · have := h.blocks
    rw [List.map_cons, List.nodup_cons] at this
    exact this.2
  · obtain ⟨r, hr, e1, e2⟩ := h.root
    obtain ⟨r', hr', g1, g2⟩ := hin r hr (by rw [e1]; exact Ne.symm hmp)
    exact ⟨r', hr', g1.trans e1, g2.trans e2⟩
  · have key : ∀ k ∈ n :: R, (k.p = [] ∧ k.u = none) ∨ ∃ q ∈ { n with s := s' } :: R, ∃ w', k.p = q.p ++ [w'] ∧ k.u = some q.b ∧ (w', np k.b) ∈ q.s.rows := by
      intro k hk
      rcases h.ups k (List.mem_cons_of_mem _ hk) with e | ⟨q, hq, w', e1, e2, e3⟩
      · exact .inl e
      · refine .inr ?_
        rcases List.mem_cons.1 hq with rfl | hq
        · rw [h0] at e3
          exact absurd e3 (by simp)
        rcases List.mem_cons.1 hq with rfl | hq
        · refine ⟨_, List.mem_cons_self, w', e1, e2, (mem _).2 ⟨e3, fun e => ?_⟩⟩
          have e : w' = w := e
          rw [e, ← hm] at e1
          exact nm k hk e1
        · exact ⟨q, List.mem_cons_of_mem _ hq, w', e1, e2, e3⟩
    intro k hk
    rcases List.mem_cons.1 hk with rfl | hk
    · exact key n List.mem_cons_self
    · exact key k (List.mem_cons_of_mem _ hk)
  · intro k hk r hr
    rcases List.mem_cons.1 hk with rfl | hk
    · obtain ⟨h1, h2⟩ := (mem r).1 hr
      obtain ⟨q, hq, e1, e2⟩ := h.downs n (by simp) r h1
      obtain ⟨q', hq', k1, k2⟩ := hin q hq (by rw [e1, hm]; intro e; exact h2 (snoc_inj e).2)
      exact ⟨q', hq', by rw [k1, e1], by rw [e2, k2]⟩
    · obtain ⟨q, hq, e1, e2⟩ := h.downs k (by simp [hk]) r hr
      obtain ⟨q', hq', k1, k2⟩ := hin q hq (by rw [e1, hm]; intro e; exact nn k hk (snoc_inj e).1)
      exact ⟨q', hq', by rw [k1, e1], by rw [e2, k2]⟩
  · intro k hk
    rcases List.mem_cons.1 hk with rfl | hk
    · exact h.bare n (by simp)
    · exact h.bare k (by simp [hk])
  · intro k hk
    rcases List.mem_cons.1 hk with rfl | hk
    · exact ⟨hok, (h.oks n (by simp)).2⟩
    · exact h.oks k (by simp [hk])
  · have := h.few
    simp only [List.length_cons] at this ⊢
    omega
end
section
variable {B : Nat} {w0 w : World} {F : List (Nat × Obj)} {L : List Nd} {tb c : Nat} {n m : Nd}
theorem mem_cells (hn : n ∈ L) : (n.b, (.cells n.cells n.y : Obj)) ∈ objsL L ++ F := List.mem_append_left _ (List.mem_flatMap.2 ⟨n, hn, List.mem_cons_self⟩)
theorem St.node (h : St B w0 w (objsL L ++ F)) (hn : n ∈ L) {j : Nat} {v : Value} (hj : n.cells[j]? = some v) : w.cell? ⟨n.b, j, none⟩ = some v := h.cell (b := n.b) (mem_cells hn) hj
theorem St.nodeIn (h : St B w0 w (objsL L ++ F)) (hn : n ∈ L) : w.heap[n.b]? = some (.cells n.cells n.y) := h.get (b := n.b) (mem_cells hn)
theorem St.tabS (h : St B w0 w (objsL L ++ F)) (hn : n ∈ L) : TbAt w n.b 2 encS n.s :=
  ⟨h.node hn rfl, h.node hn rfl, fun mb e => h.get (b := mb) (List.mem_append_left _ (List.mem_flatMap.2 ⟨n, hn, by unfold Nd.objs tabH; rw [e]; simp⟩))⟩
theorem St.tabI (h : St B w0 w (objsL L ++ F)) (hn : n ∈ L) : TbAt w n.b 4 encI n.i :=
  ⟨h.node hn rfl, h.node hn rfl, fun mb e => h.get (b := mb) (List.mem_append_left _ (List.mem_flatMap.2 ⟨n, hn, by unfold Nd.objs; simp only [tabH, e]; simp⟩))⟩
theorem run_kid (h : St B w0 w (objsL L ++ F)) (ht : TreeOk L tb c) (hn : n ∈ L) (v : List UInt8) :
    (Instr.lookup 311 (.map n.s.mv) (tx v) false).run Tryz.prog w = .ok (ptrP L (n.p ++ [v])) w := by
  have hk := ht.kid hn v
  cases hmv : n.s.mv with
  | none =>
    have := run_lookE_nil (c := false) keyS uMapS (zNode w) (k := v) trivial
    rw [((ht.oks n hn).1.bare hmv).1] at hk
    rw [← hk]
    exact this
  | some mb =>
    have := run_lookE (c := false) keyS uMapS (zNode w) ((h.tabS hn).map mb hmv) (k := v) trivial (fun _ _ => trivial)
    rw [hk] at this
    exact this
end
end Go.Proofs.YtknjamfjonapiaaGreatDoor
