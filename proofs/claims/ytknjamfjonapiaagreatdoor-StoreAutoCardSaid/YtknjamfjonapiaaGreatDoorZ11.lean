import Derived.Test.YtknjamfjonapiaaGreatDoorZ02
import Derived.Test.YtknjamfjonapiaaGreatDoorZ10
import Derived.Test.YtknjamfjonapiaaGreatDoorChecked
import Derived.Test.YtknjamfjonapiaaGreatDoorZ05
import Derived.WalkKit
import Derived.Deep.DeepCutAuto
import Derived.Deep.CutBlock
import Derived.StillTailTactics
import Derived.Lib.Hide
import Derived.Deep.QuietTactic
import Derived.BigQuiet
import Derived.Deep.LoopGhost
namespace Go.Proofs.YtknjamfjonapiaaGreatDoor
open Go.RowKit
set_option linter.unusedVariables false
set_option linter.unusedSectionVars false
set_option linter.unusedSimpArgs false
set_option maxRecDepth 100000
def worseE (a b : Ent) : Bool := decide (a.prio < b.prio ∨ a.prio = b.prio ∧ a.id ≤ b.id)
def worstE : List Ent → Option Ent
 | [] => none
 | x :: l => match worstE l with
  | none => some x
  | some y => if worseE x y = true then some x else some y
theorem worse_iff {a b : Ent} : worseE a b = true ↔ (a.prio < b.prio ∨ a.prio = b.prio ∧ a.id ≤ b.id) := by simp [worseE]
theorem worst_none : ∀ {M : List Ent}, worstE M = none → M = []
 | [], _ => rfl
 | x :: l, h => by
  unfold worstE at h
  split at h
  ·cases h
  ·split at h <;> cases h
theorem worst_is : ∀ {M : List Ent} {x : Ent}, worstE M = some x → IsWorst M x
 | [], x, h => by cases h
 | y :: l, x, h => by
  unfold worstE at h
  cases hl : worstE l with
  | none =>
   rw [hl] at h
   obtain rfl := Option.some.inj h
   obtain rfl := worst_none hl
   exact ⟨List.mem_cons_self, fun z hz => by
    rw [List.mem_singleton] at hz
    subst hz
    exact .inr ⟨rfl, Int.le_refl _⟩⟩
  | some z =>
   have ih := worst_is hl
   rw [hl] at h
   simp only at h
   by_cases hw : worseE y z = true
   ·rw [if_pos hw] at h
    obtain rfl := Option.some.inj h
    have hw' := worse_iff.1 hw
    refine ⟨List.mem_cons_self, fun u hu => ?_⟩
    rcases List.mem_cons.1 hu with rfl | hu
    ·exact .inr ⟨rfl, Int.le_refl _⟩
    ·have := ih.le u hu
     omega
   ·rw [if_neg hw] at h
    obtain rfl := Option.some.inj h
    refine ⟨List.mem_cons_of_mem _ ih.mem, fun u hu => ?_⟩
    rcases List.mem_cons.1 hu with rfl | hu
    ·have hw' : ¬ (u.prio < z.prio ∨ u.prio = z.prio ∧ u.id ≤ z.id) := fun h => hw (worse_iff.2 h)
     omega
    ·exact ih.le u hu
theorem worst_of {M : List Ent} {x : Ent} (h : RkOk M) (hx : IsWorst M x) : worstE M = some x := by
 cases hw : worstE M with
 | none =>
  have := worst_none hw
  subst this
  exact absurd hx.mem (List.not_mem_nil)
 | some y => rw [(worst_is hw).eq h hx]
def shedF : Nat → List Ent → List Ent × List Ent
 | 0, M => ([], M)
 | n + 1, M => match worstE M with
  | none => ([], M)
  | some x => (x :: (shedF n (delM M x.id)).1, (shedF n (delM M x.id)).2)
theorem Sheds.front {M W N : List Ent} (h : Sheds M W N) : (W = [] ∧ N = M) ∨ ∃ x W', W = x :: W' ∧ IsWorst M x ∧ Sheds (delM M x.id) W' N := by
 induction h with
 | nil => exact .inl ⟨rfl, rfl⟩
 | snoc h1 hx ih =>
  rcases ih with ⟨rfl, rfl⟩ | ⟨y, W', rfl, hy, hs⟩
  ·exact .inr ⟨_, [], rfl, hx, .nil⟩
  ·exact .inr ⟨y, W' ++ [_], rfl, hy, .snoc hs hx⟩
theorem shed_eq : ∀ {W M N : List Ent}, RkOk M → Sheds M W N → shedF W.length M = (W, N)
 | [], M, N, hM, h => by
  rcases h.front with ⟨-, rfl⟩ | ⟨x, W', e, -, -⟩
  ·rfl
  ·cases e
 | x :: W, M, N, hM, h => by
  rcases h.front with ⟨e, -⟩ | ⟨y, W', e, hy, hs⟩
  ·cases e
  ·obtain ⟨rfl, rfl⟩ := List.cons.inj e
   rw [List.length_cons, shedF, worst_of hM hy]
   simp only
   rw [shed_eq (hM.del _) hs]
def putF (o : Opt) (M : List Ent) (e : Ent) : Bool × List Ent × List Ent :=
 if putOk M e = false then (false, [], M)
 else if (M.length : Int) < limitO o then (true, [], insM e M)
 else if rejO o = true then (false, [], M)
 else (true, (shedF (M.length + 1 - (limitO o).toNat) M).1, insM e (shedF (M.length + 1 - (limitO o).toNat) M).2)
theorem PutP.put {o : Opt} {M W N : List Ent} {e : Ent} {ok : Bool} (hM : RkOk M) (h : PutP o M e ok W N) : putF o M e = (ok, W, N) := by
 unfold putF
 rcases h with ⟨h1, rfl, rfl, rfl⟩ | ⟨h1, h2, rfl, rfl, rfl⟩ | ⟨h1, h2, h3, rfl, rfl, rfl⟩ | ⟨h1, h2, h3, rfl, N1, hs, hl, rfl⟩
 ·rw [if_pos h1]
 ·rw [if_neg (by rw [h1]; decide), if_pos h2]
 ·rw [if_neg (by rw [h1]; decide), if_neg (by omega), if_pos h3]
 ·have hlen := hs.len hM
  have e1 : M.length + 1 - (limitO o).toNat = W.length := by omega
  rw [if_neg (by rw [h1]; decide), if_neg (by omega), if_neg (by rw [h3]; decide), e1, shed_eq hM hs]
def sumE (f : Ent → Nat) (l : List Ent) : Nat := (l.map f).sum
theorem sumE_nil (f : Ent → Nat) : sumE f [] = 0 := rfl
theorem sumE_cons (f : Ent → Nat) (x : Ent) (l : List Ent) : sumE f (x :: l) = f x + sumE f l := by simp [sumE]
theorem sumE_ins (f : Ent → Nat) (e : Ent) (M : List Ent) : sumE f (insM e M) = f e + sumE f M := by
 have := ((ins_perm e M).map f).sum_nat
 unfold sumE
 rw [this]
 simp
theorem sumE_sub (f : Ent → Nat) {l m : List Ent} (h : l.Sublist m) : sumE f l ≤ sumE f m := by
 induction h with
 | slnil => exact Nat.le_refl _
 | cons a _ ih => rw [sumE_cons]; omega
 | cons_cons a _ ih => rw [sumE_cons, sumE_cons]; omega
theorem sumE_del (f : Ent → Nat) {M : List Ent} {x : Ent} (h : x ∈ M) : f x + sumE f (delM M x.id) ≤ sumE f M := by
 induction M with
 | nil => exact absurd h (List.not_mem_nil)
 | cons y l ih =>
  unfold delM
  rw [List.filter_cons, sumE_cons]
  by_cases hy : y = x
  ·subst hy
   rw [if_neg (by simp)]
   have := sumE_sub f (List.filter_sublist (p := fun z : Ent => decide (z.id ≠ y.id)) (l := l))
   omega
  ·have ih := ih ((List.mem_cons.1 h).resolve_left fun e => hy e.symm)
   unfold delM at ih
   split
   ·rw [sumE_cons]; omega
   ·omega
theorem shed_sum (f : Ent → Nat) : ∀ (n : Nat) (M : List Ent), sumE f (shedF n M).1 + sumE f (shedF n M).2 ≤ sumE f M
 | 0, M => by simp [shedF, sumE_nil]
 | n + 1, M => by
  unfold shedF
  cases hw : worstE M with
  | none => simp [sumE_nil]
  | some x =>
   have h1 := sumE_del f (worst_is hw).mem
   have h2 := shed_sum f n (delM M x.id)
   simp only [sumE_cons]
   omega
theorem put_sum (f : Ent → Nat) (o : Opt) (M : List Ent) (e : Ent) : sumE f (putF o M e).2.1 + sumE f (putF o M e).2.2 ≤ sumE f M + f e := by
 have h := shed_sum f (M.length + 1 - (limitO o).toNat) M
 unfold putF
 repeat' split
 all_goals simp only [sumE_nil, sumE_ins]; omega
theorem shed_len : ∀ (n : Nat) (M : List Ent), (shedF n M).2.length ≤ M.length ∧ (n ≤ M.length → 0 < n → (shedF n M).2.length + 1 ≤ M.length)
 | 0, M => ⟨Nat.le_refl _, fun _ h => absurd h (by omega)⟩
 | n + 1, M => by
  unfold shedF
  cases hw : worstE M with
  | none =>
   have := worst_none hw
   subst this
   exact ⟨Nat.le_refl _, fun h => by simp at h⟩
  | some x =>
   have h1 := (shed_len n (delM M x.id)).1
   have h2 : (delM M x.id).length + 1 ≤ M.length := by
    have := sumE_del (fun _ => 1) (worst_is hw).mem
    have e : ∀ l : List Ent, sumE (fun _ => 1) l = l.length := fun l => by induction l with | nil => rfl | cons a l ih => rw [sumE_cons, ih, List.length_cons]; omega
    rw [e, e] at this
    omega
   exact ⟨by simp only; omega, fun _ _ => by simp only; omega⟩
theorem put_len (o : Opt) (M : List Ent) (e : Ent) {k : Nat} (hk : 60 ≤ k) (h : M.length ≤ k) : (putF o M e).2.2.length ≤ k := by
 obtain ⟨l, h1, h2, h3⟩ := limit_nat o
 unfold putF
 rw [h1]
 have hs := shed_len (M.length + 1 - l) M
 repeat' split
 ·exact h
 ·simp only [ins_len]; omega
 ·exact h
 ·simp only [ins_len, Int.toNat_natCast]
  have := hs.2
  omega
theorem mem_shed : ∀ (n : Nat) (M : List Ent) {x : Ent}, x ∈ (shedF n M).1 ∨ x ∈ (shedF n M).2 → x ∈ M
 | 0, M, x, h => by simpa [shedF] using h
 | n + 1, M, x, h => by
  unfold shedF at h
  cases hw : worstE M with
  | none => rw [hw] at h; simpa using h
  | some y =>
   rw [hw] at h
   simp only [List.mem_cons] at h
   have ih := mem_shed n (delM M y.id) (x := x)
   have hd : ∀ {z : Ent}, z ∈ delM M y.id → z ∈ M := fun hz => (List.mem_filter.1 hz).1
   rcases h with (rfl | h) | h
   ·exact (worst_is hw).mem
   ·exact hd (ih (.inl h))
   ·exact hd (ih (.inr h))
theorem mem_put {o : Opt} {M : List Ent} {e x : Ent} (h : x ∈ (putF o M e).2.1 ∨ x ∈ (putF o M e).2.2) : x = e ∨ x ∈ M := by
 have hs := mem_shed (M.length + 1 - (limitO o).toNat) M (x := x)
 unfold putF at h
 split at h
 ·exact .inr (by simpa using h)
 ·split at h
  ·simpa [mem_ins] using h
  ·split at h
   ·exact .inr (by simpa using h)
   ·simp only [mem_ins] at h
    rcases h with h | rfl | h
    ·exact .inr (hs (.inl h))
    ·exact .inl rfl
    ·exact .inr (hs (.inr h))
structure Plq where
 name : List UInt8
 num : Int
 conn : Int
 o : Opt
 M : List Ent
 G : List Gst
 T : Nat
structure Sto where
 sl : SV
 P : List Plc
 A : List Bnd
 L : List Plq
 num : Int
 last : Int
 now : Int
inductive Tsk where
 | mail (top : Bool) (e : Ent) (way : List Nat)
 | dead (i : Nat) (W : List Ent)
 | owed (b : Int)
structure Cf where
 S : Sto
 R : List Tsk
 r : Bool
def Sto.hold (S : Sto) (b : Int) : Sto := if 0 < b then { S with sl := (S.sl.hold b).2 } else S
def Sto.letGo (S : Sto) (b : Int) : Sto := if 0 < b then { S with sl := (S.sl.drop b).2 } else S
def Sto.setM (S : Sto) (i : Nat) (p : Plq) (N : List Ent) : Sto := { S with L := S.L.set i { p with M := N } }
def Sto.idx (S : Sto) (n : List UInt8) : Option Nat := S.L.findIdx? fun p => p.name == n
def Sto.tos (S : Sto) (ex key : List UInt8) : List Nat := (routeX S.P S.A ex key).1.filterMap S.idx
def Sto.letter (S : Sto) (o : Opt) (x : Ent) : Option Ent :=
 if (o.dead = [] ∧ o.deadKey = []) ∨ 3 ≤ x.hops ∨ hasX S.P o.dead = false then none
 else some { x with exch := o.dead, key := if o.deadKey = [] then x.key else o.deadKey, ttl := 0, again := false, hops := x.hops + 1 }
def Sto.born (S : Sto) : Sto := { S with last := S.last + 1 }
def Sto.mail (S : Sto) (top : Bool) (e : Ent) : Tsk := .mail top { e with id := S.last + 1 } (S.tos e.exch e.key)
def moreM (top : Bool) (e : Ent) (way : List Nat) (R : List Tsk) : List Tsk := if way = [] then R else .mail top e way :: R
def moreD (i : Nat) (W : List Ent) (R : List Tsk) : List Tsk := if W = [] then R else .dead i W :: R
def stepF : Cf → Cf
 | ⟨S, [], r⟩ => ⟨S, [], r⟩
 | ⟨S, .owed b :: R, r⟩ => ⟨S.letGo b, R, r⟩
 | ⟨S, .mail _ _ [] :: R, r⟩ => ⟨S, R, r⟩
 | ⟨S, .mail top e (i :: way) :: R, r⟩ => match S.L[i]? with
  | none => ⟨S, moreM top e way R, r⟩
  | some p =>
   let q := putF p.o p.M (forE e p.o S.now)
   ⟨if q.1 = true then (S.hold e.body).setM i p q.2.2 else ((S.hold e.body).setM i p q.2.2).letGo e.body, .dead i q.2.1 :: moreM top e way R, if top = true then r || !q.1 else r⟩
 | ⟨S, .dead _ [] :: R, r⟩ => ⟨S, R, r⟩
 | ⟨S, .dead i (x :: W) :: R, r⟩ => match (S.L[i]?).bind fun p => S.letter p.o x with
  | none => ⟨S, .owed x.body :: moreD i W R, r⟩
  | some y => ⟨S.born, S.mail false y :: .owed x.body :: moreD i W R, r⟩
def dnF : Nat → Nat
 | 0 => 2
 | n + 1 => 83 + 40 * dnF n
def dieF (e : Ent) : Nat := dnF (3 - e.hops).toNat
theorem dnF_two : ∀ n, 2 ≤ dnF n
 | 0 => Nat.le_refl _
 | n + 1 => by rw [dnF]; omega
theorem die_two (e : Ent) : 2 ≤ dieF e := dnF_two _
theorem die_for (e : Ent) (o : Opt) (now : Int) : dieF (forE e o now) = dieF e := rfl
def Sto.pot (S : Sto) : Nat := (S.L.map fun p => sumE dieF p.M).sum
def Tsk.pot : Tsk → Nat
 | .mail _ e way => 1 + way.length * (dieF e + 2)
 | .dead _ W => 1 + sumE dieF W
 | .owed _ => 1
def potR (R : List Tsk) : Nat := (R.map Tsk.pot).sum
def Cf.pot (c : Cf) : Nat := c.S.pot + potR c.R
theorem potR_cons (t : Tsk) (R : List Tsk) : potR (t :: R) = t.pot + potR R := by simp [potR]
theorem moreM_pot (top : Bool) (e : Ent) (way : List Nat) (R : List Tsk) : potR (moreM top e way R) ≤ way.length * (dieF e + 2) + 1 + potR R := by
 unfold moreM
 split
 ·omega
 ·rw [potR_cons, Tsk.pot]; omega
theorem moreD_pot (i : Nat) (W : List Ent) (R : List Tsk) : potR (moreD i W R) ≤ sumE dieF W + 1 + potR R := by
 unfold moreD
 split
 ·omega
 ·rw [potR_cons, Tsk.pot]; omega
theorem set_sum {l : List Plq} {i : Nat} {p q : Plq} (f : Plq → Nat) (h : l[i]? = some p) : ((l.set i q).map f).sum + f p = (l.map f).sum + f q := by
 induction l generalizing i with
 | nil => simp at h
 | cons x l ih =>
  cases i with
  | zero =>
   simp only [List.getElem?_cons_zero, Option.some.injEq] at h
   subst h
   simp only [List.set_cons_zero, List.map_cons, List.sum_cons]
   omega
  | succ i =>
   have ih := ih (i := i) (by simpa using h)
   simp only [List.set_cons_succ, List.map_cons, List.sum_cons]
   omega
theorem hold_L (S : Sto) (b : Int) : (S.hold b).L = S.L := by unfold Sto.hold; split <;> rfl
theorem letGo_L (S : Sto) (b : Int) : (S.letGo b).L = S.L := by unfold Sto.letGo; split <;> rfl
theorem hold_pot (S : Sto) (b : Int) : (S.hold b).pot = S.pot := by unfold Sto.pot; rw [hold_L]
theorem letGo_pot (S : Sto) (b : Int) : (S.letGo b).pot = S.pot := by unfold Sto.pot; rw [letGo_L]
theorem setM_pot {S : Sto} {i : Nat} {p : Plq} (N : List Ent) (h : S.L[i]? = some p) : (S.setM i p N).pot + sumE dieF p.M = S.pot + sumE dieF N :=
 set_sum (fun p => sumE dieF p.M) h
theorem once_lenS (a l : List (List UInt8)) : (onceL a l).length ≤ a.length + l.length := by
 induction l generalizing a with
 | nil => simp [onceL]
 | cons x l ih =>
  rw [onceL, List.length_cons]
  have h := ih (if x ∈ a then a else a ++ [x])
  split at h
  ·rw [if_pos (by assumption)]; omega
  ·rw [if_neg (by assumption)]
   simp only [List.length_append, List.length_singleton] at h
   omega
theorem route_len {P : List Plc} {A : List Bnd} (h : A.length ≤ 40) (ex key : List UInt8) : (routeX P A ex key).1.length ≤ 40 := by
 unfold routeX
 split
 ·simp
 ·split
  ·simp
  ·rename_i p _
   refine Nat.le_trans (once_lenS [] _) ?_
   rw [List.length_map]
   have h1 := List.length_filter_le (fitsK p.2.1 key) (ofB A ex)
   have h2 : (ofB A ex).length ≤ A.length := List.length_filter_le _ _
   simp only [List.length_nil]
   omega
theorem tos_len {S : Sto} (h : S.A.length ≤ 40) (ex key : List UInt8) : (S.tos ex key).length ≤ 40 :=
 Nat.le_trans (List.length_filterMap_le _ _) (route_len h ex key)
theorem letter_some {S : Sto} {o : Opt} {x y : Ent} (h : S.letter o x = some y) : x.hops < 3 ∧ y = { x with exch := o.dead, key := if o.deadKey = [] then x.key else o.deadKey, ttl := 0, again := false, hops := x.hops + 1 } := by
 unfold Sto.letter at h
 split at h
 ·cases h
 ·rename_i hn
  exact ⟨by omega, (Option.some.inj h).symm⟩
theorem letter_die {S : Sto} {o : Opt} {x y : Ent} (h : S.letter o x = some y) : dieF x = 83 + 40 * dieF y := by
 obtain ⟨h1, rfl⟩ := letter_some h
 unfold dieF
 simp only
 rw [show (3 - x.hops).toNat = (3 - (x.hops + 1)).toNat + 1 by omega, dnF]
theorem step_pot (c : Cf) (hA : c.S.A.length ≤ 40) (hR : c.R ≠ []) : (stepF c).pot < c.pot := by
 obtain ⟨S, R, r⟩ := c
 simp only at hA hR
 cases R with
 | nil => exact absurd rfl hR
 | cons t R =>
  cases t with
  | owed b =>
   simp only [stepF, Cf.pot, letGo_pot, potR_cons, Tsk.pot]
   omega
  | mail top e way =>
   cases way with
   | nil => simp only [stepF, Cf.pot, potR_cons, Tsk.pot]; omega
   | cons i way =>
    have hm := moreM_pot top e way R
    have hmul : (way.length + 1) * (dieF e + 2) = way.length * (dieF e + 2) + (dieF e + 2) := Nat.succ_mul _ _
    cases hp : S.L[i]? with
    | none =>
     simp only [stepF, hp, Cf.pot, potR_cons, Tsk.pot, List.length_cons, hmul]
     omega
    | some p =>
     have hs := put_sum dieF p.o p.M (forE e p.o S.now)
     have hN := setM_pot (S := S.hold e.body) (i := i) (p := p) (putF p.o p.M (forE e p.o S.now)).2.2 (by rw [hold_L]; exact hp)
     rw [hold_pot] at hN
     rw [die_for] at hs
     simp only [stepF, hp, Cf.pot, potR_cons, Tsk.pot, List.length_cons, hmul]
     split
     ·omega
     ·rw [letGo_pot]; omega
  | dead i W =>
   cases W with
   | nil => simp only [stepF, Cf.pot, potR_cons, Tsk.pot]; omega
   | cons x W =>
    have hm := moreD_pot i W R
    have hx := die_two x
    cases hl : (S.L[i]?).bind fun p => S.letter p.o x with
    | none =>
     simp only [stepF, hl, Cf.pot, potR_cons, Tsk.pot, sumE_cons]
     omega
    | some y =>
     obtain ⟨p, hp, hy⟩ := Option.bind_eq_some_iff.1 hl
     have hd := letter_die hy
     have ht := tos_len hA y.exch y.key
     have e1 : S.born.pot = S.pot := rfl
     have e2 : dieF { y with id := S.last + 1 } = dieF y := rfl
     have h3 : (S.tos y.exch y.key).length * (dieF y + 2) ≤ 40 * (dieF y + 2) := Nat.mul_le_mul_right _ ht
     simp only [stepF, hl, Cf.pot, potR_cons, Tsk.pot, Sto.mail, sumE_cons, e1, e2]
     omega
theorem step_A (c : Cf) : (stepF c).S.A = c.S.A := by
 obtain ⟨S, R, r⟩ := c
 have hh : ∀ (S : Sto) b, (S.hold b).A = S.A := fun S b => by unfold Sto.hold; split <;> rfl
 have hl : ∀ (S : Sto) b, (S.letGo b).A = S.A := fun S b => by unfold Sto.letGo; split <;> rfl
 cases R with
 | nil => rfl
 | cons t R =>
  cases t with
  | owed b => exact hl S b
  | mail top e way =>
   cases way with
   | nil => rfl
   | cons i way =>
    cases hp : S.L[i]? with
    | none => simp only [stepF, hp]
    | some p =>
     simp only [stepF, hp]
     split
     ·exact hh S e.body
     ·rw [hl]; exact hh S e.body
  | dead i W =>
   cases W with
   | nil => rfl
   | cons x W =>
    cases hy : (S.L[i]?).bind fun p => S.letter p.o x with
    | none => simp only [stepF, hy]
    | some y => simp only [stepF, hy]; rfl
def runF : Nat → Cf → Cf
 | 0, c => c
 | n + 1, c => if c.R = [] then c else runF n (stepF c)
def Cf.fin (c : Cf) : Cf := runF c.pot c
theorem run_enough : ∀ (n m : Nat) (c : Cf), c.S.A.length ≤ 40 → c.pot ≤ n → c.pot ≤ m → runF n c = runF m c
 | 0, 0, c, _, _, _ => rfl
 | 0, m + 1, c, hA, h, _ => by
  by_cases hR : c.R = []
  ·simp [runF, hR]
  ·have := step_pot c hA hR; omega
 | n + 1, 0, c, hA, _, h => by
  by_cases hR : c.R = []
  ·simp [runF, hR]
  ·have := step_pot c hA hR; omega
 | n + 1, m + 1, c, hA, h1, h2 => by
  by_cases hR : c.R = []
  ·simp [runF, hR]
  ·have hs := step_pot c hA hR
   simp only [runF, hR, if_false]
   exact run_enough n m (stepF c) (by rw [step_A]; exact hA) (by omega) (by omega)
theorem fin_nil {c : Cf} (h : c.R = []) : c.fin = c := by
 unfold Cf.fin
 cases c.pot <;> simp [runF, h]
theorem fin_step {c : Cf} (hA : c.S.A.length ≤ 40) (h : c.R ≠ []) : c.fin = (stepF c).fin := by
 have hs := step_pot c hA h
 unfold Cf.fin
 obtain ⟨n, hn⟩ : ∃ n, c.pot = n + 1 := ⟨c.pot - 1, by omega⟩
 rw [hn]
 simp only [runF, h, if_false]
 exact run_enough _ _ _ (by rw [step_A]; exact hA) (by omega) (by omega)
theorem fin_R : ∀ (n : Nat) (c : Cf), c.S.A.length ≤ 40 → c.pot ≤ n → c.fin.R = [] ∧ c.fin.S.A = c.S.A
 | n, c, hA, h => by
  by_cases hR : c.R = []
  ·rw [fin_nil hR]; exact ⟨hR, rfl⟩
  ·have hs := step_pot c hA hR
   rw [fin_step hA hR]
   cases n with
   | zero => omega
   | succ n =>
    have := fin_R n (stepF c) (by rw [step_A]; exact hA) (by omega)
    exact ⟨this.1, this.2.trans (step_A c)⟩
def Cf.over (c : Cf) (X : List Tsk) : Cf := ⟨c.S, c.R ++ X, c.r⟩
structure FitE (e : Ent) : Prop where
 exch : e.exch.length ≤ 1000
 key : e.key.length ≤ 1000
 hops : -9223372036854775808 ≤ e.hops
structure FitO (o : Opt) : Prop where
 dead : o.dead.length ≤ 1000
 deadKey : o.deadKey.length ≤ 1000
theorem FitE.for_ {e : Ent} (h : FitE e) (o : Opt) (now : Int) : FitE (forE e o now) := ⟨h.exch, h.key, h.hops⟩
structure FitQ (k : Nat) (p : Plq) : Prop where
 opts : FitO p.o
 ents : ∀ e ∈ p.M, FitE e
 len : p.M.length ≤ k
 ok : RkOk p.M
def Tsk.Fit (n : Nat) : Tsk → Prop
 | .mail _ e way => FitE e ∧ ∀ i ∈ way, i < n
 | .dead i W => (∀ x ∈ W, FitE x) ∧ i < n
 | .owed _ => True
structure Cf.Ok (K : Int) (k : Nat) (c : Cf) : Prop where
 few : c.S.A.length ≤ 40
 k60 : 60 ≤ k
 last : c.S.last + c.pot ≤ K
 held : ∀ x ∈ c.S.sl.bs, x.2.1 + c.pot ≤ K
 qs : ∀ p ∈ c.S.L, FitQ k p
 ts : ∀ t ∈ c.R, t.Fit c.S.L.length
theorem moreM_mem {top : Bool} {e : Ent} {way : List Nat} {R : List Tsk} {t : Tsk} (h : t ∈ moreM top e way R) : t = .mail top e way ∨ t ∈ R := by
 unfold moreM at h
 split at h
 ·exact .inr h
 ·exact List.mem_cons.1 h
theorem moreD_mem {i : Nat} {W : List Ent} {R : List Tsk} {t : Tsk} (h : t ∈ moreD i W R) : t = .dead i W ∨ t ∈ R := by
 unfold moreD at h
 split at h
 ·exact .inr h
 ·exact List.mem_cons.1 h
theorem turn_held {V : SV} {k c : Int} {x : Int × Int × List UInt8} (h : x ∈ (V.turn k c).bs) : ∃ y ∈ V.bs, x.2.1 = y.2.1 ∨ x.2.1 = y.2.1 + c := by
 unfold SV.turn at h
 obtain ⟨y, hy, rfl⟩ := List.mem_map.1 h
 refine ⟨y, hy, ?_⟩
 split
 ·exact .inr rfl
 ·exact .inl rfl
theorem hold_held {S : Sto} {b : Int} {x : Int × Int × List UInt8} (h : x ∈ (S.hold b).sl.bs) : ∃ y ∈ S.sl.bs, x.2.1 ≤ y.2.1 + 1 := by
 unfold Sto.hold SV.hold at h
 split at h
 ·split at h
  ·exact ⟨x, h, by omega⟩
  ·obtain ⟨y, hy, h⟩ := turn_held h
   exact ⟨y, hy, by omega⟩
 ·exact ⟨x, h, by omega⟩
theorem drop_held {V : SV} {b : Int} {x : Int × Int × List UInt8} (h : x ∈ (V.drop b).2.bs) : ∃ y ∈ V.bs, x.2.1 ≤ y.2.1 := by
 unfold SV.drop at h
 split at h
 ·exact ⟨x, h, Int.le_refl _⟩
 ·split at h
  ·obtain ⟨y, hy, h⟩ := turn_held h
   exact ⟨y, hy, by omega⟩
  ·exact ⟨x, List.eraseP_sublist.subset h, Int.le_refl _⟩
theorem letGo_held {S : Sto} {b : Int} {x : Int × Int × List UInt8} (h : x ∈ (S.letGo b).sl.bs) : ∃ y ∈ S.sl.bs, x.2.1 ≤ y.2.1 := by
 unfold Sto.letGo at h
 split at h
 ·exact drop_held h
 ·exact ⟨x, h, Int.le_refl _⟩
theorem shed_ok : ∀ (n : Nat) {M : List Ent}, RkOk M → RkOk (shedF n M).2
 | 0, M, h => h
 | n + 1, M, h => by
  unfold shedF
  split
  ·exact h
  ·exact shed_ok n (h.del _)
theorem put_ok2 {o : Opt} {M : List Ent} {e : Ent} (h : RkOk M) : RkOk (putF o M e).2.2 := by
 unfold putF
 split
 ·exact h
 ·rename_i hn
  have hp : putOk M e = true := by simpa using hn
  unfold putOk at hp
  obtain ⟨h1, h2⟩ := of_decide_eq_true hp
  have h3 : ∀ x ∈ M, x.id ≠ e.id := fun x hx he => h1 (List.mem_map.2 ⟨x, hx, he⟩)
  split
  ·exact h.ins h2 h3
  ·split
   ·exact h
   ·exact (shed_ok _ h).ins h2 fun x hx => h3 x (mem_shed _ _ (.inr hx))
theorem FitQ.put {k : Nat} {p : Plq} {e : Ent} (h : FitQ k p) (hk : 60 ≤ k) (he : FitE e) : FitQ k { p with M := (putF p.o p.M e).2.2 } :=
 ⟨h.opts, fun x hx => by
  rcases mem_put (.inr hx) with rfl | hx
  ·exact he
  ·exact h.ents x hx, put_len _ _ _ hk h.len, put_ok2 h.ok⟩
theorem Tsk.Fit.len {n m : Nat} {t : Tsk} (h : t.Fit n) (e : n = m) : t.Fit m := e ▸ h
theorem tos_lt {S : Sto} {ex key : List UInt8} {i : Nat} (h : i ∈ S.tos ex key) : i < S.L.length := by
 obtain ⟨n, -, hn⟩ := List.mem_filterMap.1 h
 exact (List.findIdx?_eq_some_iff_getElem.1 hn).1
theorem letter_fit {S : Sto} {o : Opt} {x y : Ent} (h : S.letter o x = some y) (hx : FitE x) (ho : FitO o) : FitE y := by
 obtain ⟨h1, rfl⟩ := letter_some h
 have := hx.hops
 refine ⟨ho.dead, ?_, by simp only; omega⟩
 show (if o.deadKey = [] then x.key else o.deadKey).length ≤ 1000
 split
 ·exact hx.key
 ·exact ho.deadKey
theorem mem_set {l : List Plq} {i : Nat} {p q : Plq} (h : q ∈ l.set i p) : q = p ∨ q ∈ l := (List.mem_or_eq_of_mem_set h).symm
theorem Cf.Ok.step {K : Int} {k : Nat} {c : Cf} (h : c.Ok K k) (hR : c.R ≠ []) : (stepF c).Ok K k := by
 have hp := step_pot c h.few hR
 have hA := step_A c
 obtain ⟨S, R, r⟩ := c
 have hf := h.few
 have hl := h.last
 have hh := h.held
 have hq := h.qs
 have ht := h.ts
 simp only at hf hl hh hq ht
 cases R with
 | nil => exact absurd rfl hR
 | cons t R =>
  have hts : ∀ u ∈ R, u.Fit S.L.length := fun u hu => ht u (List.mem_cons_of_mem _ hu)
  have ht0 := ht t List.mem_cons_self
  cases t with
  | owed b =>
   simp only [stepF] at hp hA ⊢
   refine ⟨by rw [hA]; exact hf, h.k60, ?_, fun x hx => ?_, by rw [letGo_L]; exact hq, by rw [letGo_L]; exact hts⟩
   ·have : (S.letGo b).last = S.last := by unfold Sto.letGo; split <;> rfl
    simp only [this]; omega
   ·obtain ⟨y, hy, hle⟩ := letGo_held hx
    have := hh y hy
    omega
  | mail top e way =>
   cases way with
   | nil =>
    simp only [stepF] at hp hA ⊢
    exact ⟨hf, h.k60, by simp only; omega, fun x hx => by have := hh x hx; omega, hq, hts⟩
   | cons i way =>
    have hmore : ∀ u ∈ moreM top e way R, u.Fit S.L.length := fun u hu => by
     rcases moreM_mem hu with rfl | hu
     ·exact ⟨ht0.1, fun j hj => ht0.2 j (List.mem_cons_of_mem _ hj)⟩
     ·exact hts u hu
    cases hi : S.L[i]? with
    | none =>
     simp only [stepF, hi] at hp hA ⊢
     exact ⟨hf, h.k60, by simp only; omega, fun x hx => by have := hh x hx; omega, hq, hmore⟩
    | some p =>
     have hpm := List.mem_of_getElem? hi
     have hfit := hq p hpm
     simp only [stepF, hi] at hp hA ⊢
     have eL : ∀ N, ((S.hold e.body).setM i p N).L = S.L.set i { p with M := N } := fun N => by show (S.hold e.body).L.set i _ = _; rw [hold_L]
     have elast : ∀ N, ((S.hold e.body).setM i p N).last = S.last := fun N => by show (S.hold e.body).last = _; unfold Sto.hold; split <;> rfl
     have hheld : ∀ N, ∀ x ∈ ((S.hold e.body).setM i p N).sl.bs, ∃ y ∈ S.sl.bs, x.2.1 ≤ y.2.1 + 1 := fun N x hx => hold_held hx
     have hqs : ∀ q ∈ S.L.set i { p with M := (putF p.o p.M (forE e p.o S.now)).2.2 }, FitQ k q := fun q hq0 => by
      rcases mem_set hq0 with rfl | hq0
      ·exact hfit.put h.k60 (ht0.1.for_ _ _)
      ·exact hq q hq0
     have hdead : ∀ u ∈ Tsk.dead i (putF p.o p.M (forE e p.o S.now)).2.1 :: moreM top e way R, u.Fit S.L.length := fun u hu => by
      rcases List.mem_cons.1 hu with rfl | hu
      ·refine ⟨fun x hx => ?_, ht0.2 i List.mem_cons_self⟩
       rcases mem_put (.inl hx) with rfl | hx
       ·exact ht0.1.for_ _ _
       ·exact hfit.ents x hx
      ·exact hmore u hu
     generalize hpot : Cf.pot _ = pt at hp
     refine ⟨by rw [hA]; exact hf, h.k60, ?_, fun x hx => ?_, ?_, ?_⟩
     ·rw [hpot]
      split
      ·rw [elast]; omega
      ·have : ∀ (S : Sto) b, (S.letGo b).last = S.last := fun S b => by unfold Sto.letGo; split <;> rfl
       rw [this, elast]; omega
     ·rw [hpot]
      have : ∃ y ∈ S.sl.bs, x.2.1 ≤ y.2.1 + 1 := by
       simp only at hx
       split at hx
       ·exact hheld _ x hx
       ·obtain ⟨y, hy, hle⟩ := letGo_held hx
        obtain ⟨z, hz, hle2⟩ := hheld _ y hy
        exact ⟨z, hz, by omega⟩
      obtain ⟨y, hy, hle⟩ := this
      have := hh y hy
      omega
     ·simp only
      split
      ·rw [eL]; exact hqs
      ·rw [letGo_L, eL]; exact hqs
     ·simp only
      split
      ·rw [eL, List.length_set]; exact hdead
      ·rw [letGo_L, eL, List.length_set]; exact hdead
  | dead i W =>
   cases W with
   | nil =>
    simp only [stepF] at hp hA ⊢
    exact ⟨hf, h.k60, by simp only; omega, fun x hx => by have := hh x hx; omega, hq, hts⟩
   | cons x W =>
    have hmore : ∀ u ∈ Tsk.owed x.body :: moreD i W R, u.Fit S.L.length := fun u hu => by
     rcases List.mem_cons.1 hu with rfl | hu
     ·trivial
     ·rcases moreD_mem hu with rfl | hu
      ·exact ⟨fun z hz => ht0.1 z (List.mem_cons_of_mem _ hz), ht0.2⟩
      ·exact hts u hu
    cases hy : (S.L[i]?).bind fun p => S.letter p.o x with
    | none =>
     simp only [stepF, hy] at hp hA ⊢
     exact ⟨hf, h.k60, by simp only; omega, fun z hz => by have := hh z hz; omega, hq, hmore⟩
    | some y =>
     obtain ⟨p, hi, hl2⟩ := Option.bind_eq_some_iff.1 hy
     have hfy := letter_fit hl2 (ht0.1 x List.mem_cons_self) (hq p (List.mem_of_getElem? hi)).opts
     simp only [stepF, hy] at hp hA ⊢
     refine ⟨hf, h.k60, ?_, fun z hz => ?_, hq, fun u hu => ?_⟩
     ·have : S.born.last = S.last + 1 := rfl
      simp only [this]; omega
     ·have := hh z hz
      omega
     ·rcases List.mem_cons.1 hu with rfl | hu
      ·exact ⟨⟨hfy.exch, hfy.key, hfy.hops⟩, fun j hj => tos_lt hj⟩
      ·exact hmore u hu
section
open Go.ChangeMaps (setBlock)
structure Tb (α : Type) where
 mv : Option Nat
 es : List (MapRow α)
 clk : Nat
 most : Nat
section
variable {α : Type} [DecidableEq α]
def Tb.new : Tb α := ⟨none, [], 0, 0⟩
def Tb.rows (t : Tb α) : List (α × Value) := t.es.map fun e => (e.1, e.2.1)
def tabH (enc : α → Value) (t : Tb α) : List (Nat × Obj) := match t.mv with
 | none => []
 | some b => [(b, .map (entsE enc t.es) t.clk)]
structure TbOk (t : Tb α) (n : Nat) : Prop where
 keys : (t.es.map (·.1)).Nodup
 born : Born t.es t.clk
 bare : t.mv = none → t.es = [] ∧ t.clk = 0
 len : t.es.length ≤ n
 most : t.most ≤ n
theorem TbOk.new (n : Nat) : TbOk (Tb.new : Tb α) n := ⟨by simp [Tb.new], ⟨by simp [Tb.new], by simp [Tb.new]⟩, fun _ => ⟨rfl, rfl⟩, Nat.zero_le _, Nat.zero_le _⟩
theorem TbOk.mono {t : Tb α} {n m : Nat} (h : TbOk t n) (hm : n ≤ m) : TbOk t m := ⟨h.keys, h.born, h.bare, Nat.le_trans h.len hm, Nat.le_trans h.most hm⟩
theorem keys_rows (t : Tb α) : t.rows.map (·.1) = t.es.map (·.1) := by simp [Tb.rows, Function.comp_def]
structure TbAt (w : World) (b o : Nat) (enc : α → Value) (t : Tb α) : Prop where
 c0 : w.cell? ⟨b, o, none⟩ = some (.map t.mv)
 c1 : w.cell? ⟨b, o + 1, none⟩ = some (.int .i64 t.most)
 map : ∀ mb, t.mv = some mb → w.heap[mb]? = some (.map (entsE enc t.es) t.clk)
end
theorem uMapI : Tryz.prog.underlying 314 = some (.map 3 322) := by kernel_rfl
theorem zUnit (w : World) : (zeroValue 322).run Tryz.prog w = .ok (.agg #[]) w := Tryz.zeroValue322 w
section
variable {B : Nat} {w0 w : World} {F : List (Nat × Obj)} {b o : Nat} {c : Array Value} {T : TypeId} {t : Tb Int} {n : Nat} {k : Int}
theorem countI_any (h : TbAt w b o encI t) (hb : t.mv = none → t.es = []) : Calls Tryz.prog 303 #[.pointer (some ⟨b, o, none⟩)] w fun e w' => e = .returned (.int .i64 t.es.length) ∧ w' = w := by
 obtain ⟨c0, -, hm⟩ := h
 cases hmv : t.mv with
 | none =>
  rw [hmv] at c0
  have hl := fun ty => run_lenE_nil (P := Tryz.prog) (w := w) (ty := ty) uMapI
  rw [hb hmv]
  go_enter Tryz.func303, Tryz.ntmps303
  go_wp2_with fail
  go_ret
  exact ⟨rfl, rfl⟩
 | some mb =>
  rw [hmv] at c0
  have hl := fun ty => run_lenE (P := Tryz.prog) (ty := ty) uMapI (hm mb hmv)
  generalize t.es.length = L at *
  go_enter Tryz.func303, Tryz.ntmps303
  go_wp2_with fail
  go_ret
  exact ⟨rfl, rfl⟩
def Bare (t : Tb Int) : Prop := ∀ e ∈ t.es, e.2.1 = .agg #[]
theorem Bare.look (h : Bare t) (k : Int) : ((seek t.es k).map (·.2.1)).getD (.agg #[]) = .agg #[] := by
 cases hs : seek t.es k with
 | none => rfl
 | some e => exact h e (seek_mem hs).1
theorem hasI_any (h : TbAt w b o encI t) (hb : t.mv = none → t.es = []) (hv : Bare t) (k : Int) : Calls Tryz.prog 244 #[.pointer (some ⟨b, o, none⟩), .int .i64 k] w fun e w' => e = .returned (.bool (decide (k ∈ t.es.map (·.1)))) ∧ Below w.heap.size w w' := by
 obtain ⟨c0, -, hm⟩ := h
 have hnew := Lib.hid (new_below w (.cells #[] 322))
 cases hmv : t.mv with
 | none =>
  rw [hmv] at c0
  have hl := run_lookE_nil (c := true) keyI uMapI (zUnit w) (k := k) trivial
  rw [hb hmv]
  simp only [List.map_nil, List.not_mem_nil, decide_false]
  go_enter Tryz.func244, Tryz.ntmps244
  go_wp2_with fail
  go_ret
  exact ⟨rfl, hnew.out⟩
 | some mb =>
  rw [hmv] at c0
  have hl := run_lookE (c := true) keyI uMapI (zUnit w) (hm mb hmv) (k := k) trivial (fun _ _ => trivial)
  rw [hv.look, seek_isSome] at hl
  clear hm hv hb
  generalize decide (k ∈ t.es.map (·.1)) = r at *
  go_enter Tryz.func244, Tryz.ntmps244
  go_wp2_with fail
  go_ret
  exact ⟨rfl, hnew.out⟩
theorem uEqMapI (w : World) (m : Option Nat) : (binOp .eql 314 (.map m) (.map none)).run Tryz.prog w = .ok (.bool m.isNone) w := by
 simp only [binOp]
 simp [run_equal_map_nil w 314 _ _ m uMapI]
theorem TbOk.push {α : Type} [DecidableEq α] {t : Tb α} {n : Nat} {k : α} (h : TbOk t n) (hk : k ∉ t.es.map (·.1)) (v : Value) (mb : Nat) : TbOk (⟨some mb, t.es ++ [(k, v, t.clk)], t.clk + 1, max t.most (t.es.length + 1)⟩ : Tb α) (n + 1) := by
 refine ⟨?_, ⟨?_, ?_⟩, (fun e => nomatch e), ?_, ?_⟩
 ·simp only [List.map_append, List.map_cons, List.map_nil]
  rw [List.nodup_append]
  exact ⟨h.keys, by simp, by rintro a ha b hb rfl; rw [List.mem_singleton] at hb; subst hb; exact hk ha⟩
 ·simp only [List.map_append, List.map_cons, List.map_nil]
  rw [List.nodup_append]
  refine ⟨h.born.1, by simp, ?_⟩
  rintro a ha b hb rfl
  rw [List.mem_singleton] at hb
  subst hb
  obtain ⟨e, he, e1⟩ := List.mem_map.1 ha
  have := h.born.2 e he
  omega
 ·intro e he
  rcases List.mem_append.1 he with he | he
  ·have := h.born.2 e he
   show _ < t.clk + 1
   omega
  ·rw [List.mem_singleton] at he
   subst he
   exact Nat.lt_succ_self _
 ·have := h.len
  simp only [List.length_append, List.length_singleton]
  omega
 ·have := h.len
  have := h.most
  show max _ _ ≤ _
  omega
def tabC (c : Array Value) (o : Nat) (m : Option Nat) (q : Nat) : Array Value := (c.setIfInBounds o (.map m)).setIfInBounds (o + 1) (.int .i64 q)
theorem tabC_tabC (c : Array Value) (o : Nat) (m m' : Option Nat) (q q' : Nat) : tabC (tabC c o m q) o m' q' = tabC c o m' q' := by
 unfold tabC
 apply Array.ext_getElem?
 intro i
 simp only [Array.getElem?_setIfInBounds, Array.size_setIfInBounds]
 by_cases h1 : o + 1 = i
 ·simp [h1]
 ·by_cases h2 : o = i
  ·simp [h1, h2]
  ·simp [h1, h2]
theorem tabC_same {c : Array Value} {o : Nat} {m : Option Nat} {q : Nat} (h0 : c[o]? = some (.map m)) (h1 : c[o + 1]? = some (.int .i64 q)) : tabC c o m q = c := by
 unfold tabC
 apply Array.ext_getElem?
 intro i
 have l0 := (Array.getElem?_eq_some_iff.1 h0).1
 have l1 := (Array.getElem?_eq_some_iff.1 h1).1
 simp only [Array.getElem?_setIfInBounds, Array.size_setIfInBounds]
 by_cases e1 : o + 1 = i
 ·subst e1; rw [h1]; simp [l1]
 ·by_cases e2 : o = i
  ·subst e2; rw [h0]; simp [l0]
  ·simp [e1, e2]
theorem tabC_0 {c : Array Value} {o : Nat} (m : Option Nat) (q : Nat) (h : o < c.size) : (tabC c o m q)[o]? = some (.map m) := by
 unfold tabC
 simp [Array.getElem?_setIfInBounds, h]
theorem tabC_1 {c : Array Value} {o : Nat} (m : Option Nat) (q : Nat) (h : o + 1 < c.size) : (tabC c o m q)[o + 1]? = some (.int .i64 q) := by
 unfold tabC
 simp [Array.getElem?_setIfInBounds, h]
def TabR {α : Type} (enc : α → Value) (B : Nat) (w0 : World) (b o : Nat) (c : Array Value) (T : TypeId) (F : List (Nat × Obj)) (ok : Tb α → Prop) (e : Ending) (w' : World) : Prop :=
 e = .returned (.tuple #[]) ∧ ∃ t', ok t' ∧ St B w0 w' ((b, .cells (tabC c o t'.mv t'.most) T) :: (tabH enc t' ++ F))
def TPutR {α : Type} (enc : α → Value) (B : Nat) (w0 : World) (b o : Nat) (c : Array Value) (T : TypeId) (F : List (Nat × Obj)) (t : Tb α) (k : α) (v : Value) (n : Nat) (e : Ending) (w' : World) : Prop :=
 e = .returned (.tuple #[]) ∧ ∃ mb, St B w0 w' ((b, .cells ((c.setIfInBounds o (.map (some mb))).setIfInBounds (o + 1) (.int .i64 (max t.most (t.es.length + 1) : Nat))) T) :: ((mb, .map (entsE enc (t.es ++ [(k, v, t.clk)])) (t.clk + 1)) :: F))
set_option maxHeartbeats 1000000 in
theorem putI_any (hst : St B w0 w ((b, .cells c T) :: (tabH encI t ++ F))) (h0 : c[o]? = some (.map t.mv)) (h1 : c[o + 1]? = some (.int .i64 t.most)) (hok : TbOk t n) (hn : n ≤ 1000000) (hk : k ∉ t.es.map (·.1)) :
  Calls Tryz.prog 245 #[.pointer (some ⟨b, o, none⟩), .int .i64 k, .agg #[]] w (TPutR encI B w0 b o c T F t k (.agg #[]) n) := by
 have hmk := fun w : World => run_makeMap (P := Tryz.prog) 314 w
 have heq := uEqMapI
 have hnew : St B w0 (w.alloc (.cells #[] 322)) ((b, .cells c T) :: (tabH encI t ++ F)) := (hst.alloc _).sub (List.sublist_cons_self _ _)
 have hso : (w.alloc (.cells #[] 322)).cell? ⟨b, o, none⟩ = some (.map t.mv) := hnew.cell (b := b) List.mem_cons_self h0
 have hbx : (w.alloc (.cells #[] 322)).heap[w.heap.size]? = some (.cells #[] 322) := (MapKept.heap_alloc w _).1
 have hlen := hok.len
 have hmost := hok.most
 replace hok := Lib.hid hok
 replace hnew := Lib.hid hnew
 replace h0 := Lib.hid h0
 replace h1 := Lib.hid h1
 go_enter Tryz.func245, Tryz.ntmps245
 go_upto_if 10 with fail
 go_cut [] (fun wy => ∃ mb, Hid (St B w0 wy ((b, .cells (c.setIfInBounds o (.map (some mb))) T) :: ((mb, .map (entsE encI t.es) t.clk) :: F))) ∧ wy.heap[w.heap.size]? = some (.cells #[] 322))
 case first =>
  cases hmv : t.mv with
  | none =>
   rw [hmv] at hso
   obtain ⟨he, hclk⟩ := hok.out.bare hmv
   have hs2 := hnew.out.alloc (.map #[] 0)
   have hsz : (w.alloc (.cells #[] 322)).heap.size = w.heap.size + 1 := by simp
   rw [hsz] at hs2
   unfold tabH at hs2
   rw [hmv] at hs2
   have hs2' := hs2.perm (List.Perm.swap _ _ _)
   have f2 := hs2'.soft (b := b) List.mem_cons_self o
   have c2 := hs2'.cell (b := b) List.mem_cons_self h0.out
   have hs3 := hs2'.set0 o (.map (some (w.heap.size + 1)))
   have hbx2 : (((w.alloc (.cells #[] 322)).alloc (.map #[] 0)).setCell ⟨b, o, none⟩ (.map (some (w.heap.size + 1)))).heap[w.heap.size]? = some (.cells #[] 322) := by
    have hbl : b ≠ w.heap.size := by
     have := hst.lt (b := b) (o := .cells c T) List.mem_cons_self
     omega
    rw [Below.heap_setCell _ _ _ _ (by simpa using Ne.symm hbl), Below.heap_alloc _ _ _ (by simp)]
    exact hbx
   have fin : Hid (∃ mb, Hid (St B w0 (((w.alloc (.cells #[] 322)).alloc (.map #[] 0)).setCell ⟨b, o, none⟩ (.map (some (w.heap.size + 1)))) ((b, .cells (c.setIfInBounds o (.map (some mb))) T) :: ((mb, .map (entsE encI t.es) t.clk) :: F))) ∧ (((w.alloc (.cells #[] 322)).alloc (.map #[] 0)).setCell ⟨b, o, none⟩ (.map (some (w.heap.size + 1)))).heap[w.heap.size]? = some (.cells #[] 322)) := by
    refine Lib.hid ⟨w.heap.size + 1, Lib.hid ?_, hbx2⟩
    rw [he, hclk]
    exact hs3
   clear hs2 hs2' hs3 hbx2 hst
   go_wp2_with fail
   go_meet
   case rel => exact fin.out
  | some mb =>
   rw [hmv] at hso
   have hs2 := hnew.out
   unfold tabH at hs2
   rw [hmv] at hs2
   have hsame : c.setIfInBounds o (.map (some mb)) = c := by
    rw [hmv] at h0
    have := h0.out
    apply Array.ext_getElem?
    intro i
    rw [Array.getElem?_setIfInBounds]
    split
    ·rename_i e
     subst e
     rw [this, if_pos (Array.getElem?_eq_some_iff.1 this).1]
    ·rfl
   have fin : Hid (∃ mb, Hid (St B w0 (w.alloc (.cells #[] 322)) ((b, .cells (c.setIfInBounds o (.map (some mb))) T) :: ((mb, .map (entsE encI t.es) t.clk) :: F))) ∧ (w.alloc (.cells #[] 322)).heap[w.heap.size]? = some (.cells #[] 322)) := Lib.hid ⟨mb, Lib.hid (by rw [hsame]; exact hs2), hbx⟩
   clear hs2 hsame hst
   go_wp2_with fail
   go_meet
   case rel => exact fin.out
 case rest =>
  clear hst
  obtain ⟨mb, hst, hby⟩ := hcut
  clear hso hbx hnew heq hmk
  have hlt : o < c.size := (Array.getElem?_eq_some_iff.1 h0.out).1
  have e0 := hst.out.cell (b := b) (i := o) (v := .map (some mb)) List.mem_cons_self (by simp [hlt])
  have hg : wc.drew.heap[mb]? = some (.map (entsE encI t.es) t.clk) := hst.out.get (b := mb) (List.mem_cons_of_mem _ List.mem_cons_self)
  have hmu := run_mapE_new keyI uMapI hg (k := k) trivial (fun _ _ => trivial) (.agg #[]) (seek_none.2 hk)
  have hs2 := (hst.out.drew.perm (List.Perm.swap _ _ _)).block0 (o' := .map (entsE encI (t.es ++ [(k, .agg #[], t.clk)])) (t.clk + 1))
  generalize hW : setBlock wc.drew mb (.map (entsE encI (t.es ++ [(k, .agg #[], t.clk)])) (t.clk + 1)) = W at *
  replace hW := Lib.hid hW
  have g0 := hs2.cell (b := b) (i := o) (v := .map (some mb)) (List.mem_cons_of_mem _ List.mem_cons_self) (by simp [hlt])
  have g1 := hs2.cell (b := b) (i := o + 1) (v := .int .i64 t.most) (List.mem_cons_of_mem _ List.mem_cons_self) (by rw [Array.getElem?_setIfInBounds_ne (by omega)]; exact h1.out)
  have gf := hs2.soft (b := b) (List.mem_cons_of_mem _ List.mem_cons_self) (o + 1)
  have gl := fun ty => run_lenE (P := Tryz.prog) (ty := ty) uMapI (hs2.drew.get (b := mb) List.mem_cons_self)
  rw [List.length_append, List.length_singleton] at gl
  have hs3 := (hs2.perm (List.Perm.swap _ _ _)).set0 (o + 1) (.int .i64 (max t.most (t.es.length + 1) : Nat))
  have hs3d := (hs2.drew.perm (List.Perm.swap _ _ _)).set0 (o + 1) (.int .i64 (max t.most (t.es.length + 1) : Nat))
  have fin : Hid (TPutR encI B w0 b o c T F t k (.agg #[]) n (.returned (.tuple #[])) (W.drew.setCell ⟨b, o + 1, none⟩ (.int .i64 (max t.most (t.es.length + 1) : Nat)))) := Lib.hid ⟨rfl, mb, hs3d⟩
  have hL : (t.es.length + 1 : Nat) ≤ 1000001 := by omega
  generalize t.es.length + 1 = L at *
  generalize t.most = q at *
  clear hs2 hs3 hs3d hst
  go_upto_region 3 with fail
  go_still_tail 6, (by kernel_rfl)
  change wpList _ _ _ _ _ wc.drew
  go_wp2_with fail
  clear e0 hg hmu hby hW
  by_cases hm : q < L
  ·rw [Nat.max_eq_right (Nat.le_of_lt hm)] at fin
   have hm1 : (q : Int) < L := by omega
   go_still_tail 13, (by kernel_rfl)
   change wpList _ _ _ _ _ W.drew
   go_wp2_with fail
   exact bodyPost_end (results_none rfl _ _ _) rfl fin.out
  ·rw [Nat.max_eq_left (by omega)] at fin
   have hm1 : ¬ (q : Int) < L := by omega
   go_still_tail 13, (by kernel_rfl)
   change wpList _ _ _ _ _ W.drew
   go_wp2_with fail
   exact bodyPost_end (results_none rfl _ _ _) rfl fin.out
theorem putI_is (hst : St B w0 w ((b, .cells c T) :: (tabH encI t ++ F))) (h0 : c[o]? = some (.map t.mv)) (h1 : c[o + 1]? = some (.int .i64 t.most)) (hok : TbOk t n) (hn : n ≤ 1000000) (hk : k ∉ t.es.map (·.1)) :
  Calls Tryz.prog 245 #[.pointer (some ⟨b, o, none⟩), .int .i64 k, .agg #[]] w (TabR encI B w0 b o c T F (fun t' => t'.rows = t.rows ++ [(k, .agg #[])] ∧ TbOk t' (n + 1))) := by
 refine (putI_any hst h0 h1 hok hn hk).mono ?_
 rintro e w' ⟨rfl, mb, h⟩
 exact ⟨rfl, ⟨some mb, _, _, _⟩, ⟨by simp [Tb.rows], hok.push hk _ mb⟩, h⟩
end
end
section
open Go.ChangeMaps (setBlock)
section
variable {α : Type} [DecidableEq α]
theorem TbOk.rest {t : Tb α} {n : Nat} (h : TbOk t n) (hm : t.mv ≠ none) (k : α) : TbOk (⟨t.mv, restE t.es k, t.clk, t.most⟩ : Tb α) n :=
 ⟨((rest_sub t.es k).map _).nodup h.keys, ⟨((rest_sub t.es k).map _).nodup h.born.1, fun e he => h.born.2 e ((rest_sub t.es k).subset he)⟩, fun e => absurd e hm, Nat.le_trans (rest_sub t.es k).length_le h.len, h.most⟩
theorem rows_filter (t : Tb α) (k : α) : t.rows.filter (fun x => decide (x.1 ≠ k)) = (t.es.filter fun x => decide (x.1 ≠ k)).map fun e => (e.1, e.2.1) := by
 unfold Tb.rows
 rw [List.filter_map]
 rfl
end
section
variable {B : Nat} {w0 w : World} {F : List (Nat × Obj)} {b o : Nat} {c : Array Value} {T : TypeId} {t : Tb Int} {n : Nat} {k : Int}
def Moved (B : Nat) (w0 : World) (b o : Nat) (c : Array Value) (T : TypeId) (F : List (Nat × Obj)) (mb r : Nat) (es : List (MapRow Int)) (clk : Nat) (done laid : List (MapRow Int)) (w' : World) : Prop :=
 IterAt w' mb r encI es clk done ∧ ∃ seen t2, t2.rows = laid.map (fun e => (e.1, e.2.1)) ∧ TbOk t2 laid.length ∧ St B w0 w' ((b, .cells (tabC c o t2.mv t2.most) T) :: (tabH encI t2 ++ ((mb, .map (entsE encI es) clk) :: (r, .mapIter (some mb) clk seen clk) :: F)))
theorem perm_m {α : Type} (x y z : α) (A F : List α) : (x :: (A ++ (y :: z :: F))).Perm ((x :: A) ++ z :: (y :: F)) := by
 classical
 exact List.perm_iff_count.2 fun a => by simp only [List.count_append, List.count_cons]; omega
theorem Moved.next {mb r : Nat} {es : List (MapRow Int)} {clk : Nat} {done : List (MapRow Int)} (h : Moved B w0 b o c T F mb r es clk done done w) (hB : Born es clk) (hn : es.Nodup) (ty : TypeId) :
  (done.Perm es ∧ (Instr.next (.pointer (some ⟨r, 0, none⟩)) false ty).run Tryz.prog w = .ok (.tuple #[.bool false]) w) ∨
  ∃ e w', e ∈ es ∧ e ∉ done ∧ (Instr.next (.pointer (some ⟨r, 0, none⟩)) false ty).run Tryz.prog w = .ok (.tuple #[.bool true, encI e.1, e.2.1]) w' ∧ (Instr.entry (.pointer (some ⟨r, 0, none⟩))).run Tryz.prog w' = .ok (.tuple #[encI e.1, e.2.1]) w' ∧
   Moved B w0 b o c T F mb r es clk (done ++ [e]) done w' := by
 obtain ⟨hI, seen, t2, h1, h2, h3⟩ := h
 rcases hI.next (P := Tryz.prog) hB hn ty with ⟨hp, hr⟩ | ⟨e, he, hd, w', hr, hI', hk, hs, ho, ht, hu, hen⟩
 ·exact .inl ⟨hp, hr⟩
 ·obtain ⟨-, seen', hs', -⟩ := id hI'
  have h3' := h3.perm (perm_m _ _ _ _ _)
  have h4 := (h3'.write hs' hk hs ho ht hu).perm (perm_m _ _ _ _ _).symm
  exact .inr ⟨e, w', he, hd, hr, hen, hI', seen', t2, h1, h2, h4⟩
theorem Moved.laid {mb r : Nat} {es : List (MapRow Int)} {clk : Nat} {done : List (MapRow Int)} {e : MapRow Int} (h : Moved B w0 b o c T F mb r es clk (done ++ [e]) done w) (hv : e.2.1 = .agg #[]) (hk : (es.map (·.1)).Nodup) (he : e ∈ es) (hd : e ∉ done) (hl : done.length ≤ 1000000) (hc : o + 1 < c.size) {w1 : World} (hb : Below w.heap.size w w1) :
  Calls Tryz.prog 245 #[.pointer (some ⟨b, o, none⟩), .int .i64 e.1, .agg #[]] w1 fun e2 w' => e2 = .returned (.tuple #[]) ∧ Moved B w0 b o c T F mb r es clk (done ++ [e]) (done ++ [e]) w' := by
 obtain ⟨hI, seen, t2, h1, h2, h3o⟩ := h
 have h3 := h3o.grow hb
 have hnk : e.1 ∉ t2.es.map (·.1) := by
  rw [← keys_rows, h1]
  intro hm
  simp only [List.map_map, List.mem_map, Function.comp_apply] at hm
  obtain ⟨x, hx, e1⟩ := hm
  have hxe := hI.2.choose_spec.2.2.1 x (by simp [hx])
  have := (seek_some hk he).symm.trans (e1 ▸ seek_some hk hxe)
  rw [Option.some.inj this] at hd
  exact hd hx
 refine (putI_is h3 (tabC_0 _ _ (by omega)) (tabC_1 _ _ hc) h2 hl hnk).mono ?_
 rintro e2 w' ⟨rfl, t3, ⟨h4, h5⟩, h6⟩
 rw [tabC_tabC] at h6
 refine ⟨rfl, hI.kept ?_ ?_, seen, t3, ?_, by rw [List.length_append]; exact h5, h6⟩
 ·exact (h6.get (b := mb) (o := .map (entsE encI es) clk) (by simp)).trans hI.1.symm
 ·exact (h6.get (b := r) (o := .mapIter (some mb) clk seen clk) (by simp)).trans (h3o.get (b := r) (by simp)).symm
 ·rw [h4, h1, List.map_append]
  simp [hv]
set_option maxHeartbeats 1000000 in
theorem dropI_any (hst : St B w0 w ((b, .cells c T) :: (tabH encI t ++ F))) (h0 : c[o]? = some (.map t.mv)) (h1 : c[o + 1]? = some (.int .i64 t.most)) (hok : TbOk t n) (hv : Bare t) (hn : n ≤ 1000000) (hk : k ∈ t.es.map (·.1)) :
  Calls Tryz.prog 287 #[.pointer (some ⟨b, o, none⟩), .int .i64 k] w (TabR encI B w0 b o c T F (fun t' => t'.rows.Perm (t.rows.filter fun x => decide (x.1 ≠ k)) ∧ TbOk t' n)) := by
 obtain ⟨mb, hmv⟩ : ∃ mb, t.mv = some mb := by
  cases h : t.mv with
  | some mb => exact ⟨mb, rfl⟩
  | none => rw [(hok.bare h).1] at hk; simp at hk
 have hst' : St B w0 w ((b, .cells c T) :: ((mb, .map (entsE encI t.es) t.clk) :: F)) := by
  unfold tabH at hst; rw [hmv] at hst; exact hst
 have c0 : w.cell? ⟨b, o, none⟩ = some (.map (some mb)) := hst'.cell (b := b) List.mem_cons_self (hmv ▸ h0)
 have hg := hst'.get (b := mb) (List.mem_cons_of_mem _ List.mem_cons_self)
 have hs1 := ((hst'.perm (List.Perm.swap _ _ _)).block0 (o' := .map (entsE encI (restE t.es k)) t.clk)).perm (List.Perm.swap _ _ _)
 have hrest := hok.rest (by rw [hmv]; simp) k
 have hre := rest_eq hok.keys k
 have hmost := hok.most
 have hlt : (restE t.es k).length ≤ n := hrest.len
 have fin1 : ∀ w', St B w0 w' ((b, .cells c T) :: ((mb, .map (entsE encI (restE t.es k)) t.clk) :: F)) → TabR encI B w0 b o c T F (fun t' => t'.rows.Perm (t.rows.filter fun x => decide (x.1 ≠ k)) ∧ TbOk t' n) (.returned (.tuple #[])) w' := fun w' h => by
  refine ⟨rfl, ⟨t.mv, restE t.es k, t.clk, t.most⟩, ⟨?_, hrest⟩, ?_⟩
  ·rw [rows_filter, ← hre]
   exact List.Perm.refl _
  ·rw [tabC_same h0 h1]
   unfold tabH
   rw [hmv]
   exact h
 generalize hW : setBlock w mb (.map (entsE encI (restE t.es k)) t.clk) = W at *
 have d0 : W.cell? ⟨b, o, none⟩ = some (.map (some mb)) := hs1.cell (b := b) List.mem_cons_self (hmv ▸ h0)
 have d1 : W.cell? ⟨b, o + 1, none⟩ = some (.int .i64 t.most) := hs1.cell (b := b) List.mem_cons_self h1
 have gl := fun ty => run_lenE (P := Tryz.prog) (ty := ty) uMapI (hs1.drew.get (b := mb) (List.mem_cons_of_mem _ List.mem_cons_self))
 replace hs1 := Lib.hid hs1
 replace fin1 := Lib.hid fin1
 replace hW := Lib.hid hW
 go_enter Tryz.func287, Tryz.ntmps287
 go_wp2_with (at_delete; refine wpList_delE rfl (.tmp 10) (.tmp 11) rfl keyI uMapI rfl hg (k := k) trivial (fun _ _ => trivial) rfl ?_; intro w2 hw2; replace hw2 := Lib.hid (hw2.out.trans hW.out); rw [hw2.out])
 clear hst hst' h0 hg c0 gl
 replace hre := Lib.hid hre
 obtain ⟨L, hLn⟩ : ∃ L, L = (restE t.es k).length := ⟨_, rfl⟩
 obtain ⟨q, hqn⟩ : ∃ q, q = t.most := ⟨_, rfl⟩
 obtain ⟨d, hd⟩ : ∃ d, d = q / 4 := ⟨_, rfl⟩
 have gl2 := fun ty n => run_lenE (P := Tryz.prog) (ty := ty) uMapI ((hs1.out.drewN n).get (b := mb) (List.mem_cons_of_mem _ List.mem_cons_self))
 rw [← hLn] at gl2 hlt
 rw [← hqn] at d1 hmost
 have hL : (L : Int) ≤ 1000000 := by omega
 have hd1 : (q : Int) / 4 = d := by omega
 have hd2 : IntKind.i64.wrap (d : Int) = d := IntWalk.i64_in _ (by omega)
 have f0 : W.frozen? ⟨b, o, none⟩ = false := hs1.out.soft (b := b) List.mem_cons_self o
 have f1 : W.frozen? ⟨b, o + 1, none⟩ = false := hs1.out.soft (b := b) List.mem_cons_self (o + 1)
 have hq0 : (0 : Int) ≤ q := by omega
 replace hLn := Lib.hid hLn
 replace hqn := Lib.hid hqn
 replace hd := Lib.hid hd
 by_cases hc : (d : Int) < L
 ·have fin := Lib.hid (fun n => fin1.out _ (hs1.out.drewN n))
  go_quiet (fail)
  go_wp2_with fail
  exact bodyPost_end (results_none rfl _ _ _) rfl (fin.out _)
 ·have hs2 := Lib.hid (hs1.out.drewN 1)
  go_quiet (fail)
  go_upto_region 4 with fail
  have hs3 : St B w0 (((W.drewN nq).setCell ⟨b, o, none⟩ (.map none)).setCell ⟨b, o + 1, none⟩ (.int .i64 0)) ((b, .cells (tabC c o none 0) T) :: ((mb, .map (entsE encI (restE t.es k)) t.clk) :: F)) := ((hs1.out.drewN nq).set0 o (.map none)).set0 (o + 1) (.int .i64 0)
  generalize ((W.drewN nq).setCell ⟨b, o, none⟩ (.map none)).setCell ⟨b, o + 1, none⟩ (.int .i64 0) = W3 at *
  have hg3 := hs3.get (b := mb) (List.mem_cons_of_mem _ List.mem_cons_self)
  have hrg := run_range_map (P := Tryz.prog) W3 314 _ _ mb _ _ uMapI hg3
  have hs4 := (hs3.alloc (.mapIter (some mb) t.clk #[] t.clk)).perm ((List.Perm.swap _ _ _).trans ((List.Perm.swap _ _ _).cons _))
  have start : Hid (Moved B w0 b o c T F mb W3.heap.size (restE t.es k) t.clk [] [] (W3.alloc (.mapIter (some mb) t.clk #[] t.clk))) := Lib.hid ⟨⟨hs4.get (b := mb) (by simp), #[], hs4.get (b := W3.heap.size) (by simp), by simp, by simp, by simp⟩, #[], Tb.new, rfl, TbOk.new _, hs4⟩
  have hob := Lib.hid hrest.born
  have hkn := Lib.hid hrest.keys
  have hnd : (restE t.es k).Nodup := List.Pairwise.of_map (S := fun a b => a ≠ b) _ (fun a b h e => h (by rw [e])) hrest.keys
  have hva : Hid (∀ e ∈ restE t.es k, e.2.1 = .agg #[]) := Lib.hid fun e he => hv e ((rest_sub t.es k).subset he)
  have hcs : o + 1 < c.size := (Array.getElem?_eq_some_iff.1 h1).1
  have fin : Hid (∀ done w', Moved B w0 b o c T F mb W3.heap.size (restE t.es k) t.clk done done w' → done.Perm (restE t.es k) → TabR encI B w0 b o c T F (fun t' => t'.rows.Perm (t.rows.filter fun x => decide (x.1 ≠ k)) ∧ TbOk t' n) (.returned (.tuple #[])) w') := Lib.hid (by
   rintro done w' ⟨-, seen, t2, g1, g2, g3⟩ hp
   refine ⟨rfl, t2, ⟨?_, g2.mono ?_⟩, g3.sub ?_⟩
   ·rw [g1, rows_filter, ← hre.out]
    exact hp.map _
   ·rw [hp.length_eq]
    have := hLn.out
    omega
   ·refine List.Sublist.cons_cons _ ((List.Sublist.refl _).append ?_)
    exact (List.sublist_cons_self _ _).trans (List.sublist_cons_self _ _))
  replace hlt := Lib.hid (show (restE t.es k).length ≤ 1000000 by have := hLn.out; omega)
  replace hnd := Lib.hid hnd
  clear hs1 hs2 hs3 hs4 hg3 hrest fin1 hW gl2 d0 d1 f0 f1 h1 hok hv hk hLn hqn hd hre hd1 hd2 hc hL hq0 hmost
  generalize restE t.es k = es at *
  generalize t.clk = clk at *
  generalize W3.heap.size = r at *
  generalize W3.alloc (.mapIter (some mb) clk #[] clk) = W4 at *
  go_wp2_with fail
  go_loopg [5] es.length (fun g v5 wr => ∃ done, done.length + g = es.length ∧ Hid (Moved B w0 b o c T F mb r es clk done done wr))
  case atStart => exact ⟨[], by simp, start⟩
  case round =>
   obtain ⟨done, hg, hM⟩ := hrel
   rcases hM.out.next hob.out hnd.out 0 with ⟨hp, hnx⟩ | ⟨e, w', he, hd, hnx, hen, hM2⟩
   ·have fin := Lib.hid (fin.out _ _ hM.out hp)
    go_wp2_with fail
    exact bodyPost_end (results_none rfl _ _ _) rfl fin.out
   ·have hev := hva.out e he
    rw [hev] at hnx hen
    have hle : done.length + 1 ≤ es.length := by
     have := nodup_len (l := done ++ [e]) (m := es) (hM2.1.2.choose_spec.2.1) hM2.1.2.choose_spec.2.2.1
     simpa using this
    have cp := Lib.hid (fun w1 hb => hM2.laid hev hkn.out he hd (by have := hlt.out; omega) hcs (w1 := w1) hb)
    have hnew := Lib.hid (new_below w' (.cells #[] 322))
    clear hM hM2 hd he fin start
    go_wp2_with fail
    refine (cp.out _ hnew.out).mono ?_
    rintro e2 w5 ⟨rfl, hM3⟩
    go_wp2_with fail
    go_roundg (es.length - (done.length + 1))
    case measure => omega
    case rel => exact ⟨done ++ [e], by rw [List.length_append, List.length_singleton]; omega, Lib.hid hM3⟩
end
end
abbrev encS : List UInt8 → Value := fun l => tx l
theorem uStr12 : Tryz.prog.underlying 9 = some .string := by kernel_rfl
theorem tx_beq (a b : List UInt8) : ((⟨a.toArray⟩ : ByteArray) == ⟨b.toArray⟩) = decide (b = a) := by
 show (a.toArray == b.toArray) = _
 rw [Bool.eq_iff_iff, beq_iff_eq, decide_eq_true_iff]
 constructor
 ·intro h
  have := congrArg Array.toList h
  simpa using this.symm
 ·rintro rfl; rfl
theorem keyS : KeyBy Tryz.prog 9 encS (fun _ _ => True) := keyBy_now uStr12 (fun em n k w => by simp [Instr.checkKey, run_underlying uStr12])
 (fun a b => by
  have h : Instr.sameNow .string (encS a) (encS b) = some ((⟨a.toArray⟩ : ByteArray) == ⟨b.toArray⟩) := rfl
  rw [h, tx_beq]) (fun k => by
  have h : Instr.sameBits 10000 (encS k) (encS k) = ((⟨k.toArray⟩ : ByteArray) == ⟨k.toArray⟩) := rfl
  rw [h, tx_beq]
  simp)
end Go.Proofs.YtknjamfjonapiaaGreatDoor
