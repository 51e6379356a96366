import Derived.Test.YtknjamfjonapiaaGreatDoorY24
import Derived.Test.YtknjamfjonapiaaGreatDoorY01
import Derived.Test.YtknjamfjonapiaaGreatDoorY19
namespace Go.Proofs.YtknjamfjonapiaaGreatDoor
open Go.RowKit
set_option linter.unusedVariables false
set_option maxRecDepth 100000
def nuE (r : Nat) : Ent := if r = 1 then ⟨0, 0, 0, [], [110, 111, 110, 101], 0, 0, 0, false, 0⟩ else if r = 2 then ⟨0, 0, 0, [120], [], 0, 0, 0, false, 0⟩ else ⟨0, 0, 0, [], [97], 0, 0, 0, false, 0⟩
abbrev atI (e : Ent) (k : Int) : Ent := { e with id := k }
def nu1 : Sto := ((newS 1000).queue [97] oZ 0).1
theorem nu1_is : (newS 1000).queue [97] oZ 0 = (nu1, 0, 0, 0) := by kernel_rfl
def nu2 : Sto := (nu1.queue [98] oZ 0).1
theorem nu2_is : nu1.queue [98] oZ 0 = (nu2, 0, 0, 0) := by kernel_rfl
def nu3 : Sto := (nu2.exch [120] [102, 97, 110, 111, 117, 116] 0).1
theorem nu3_is : nu2.exch [120] [102, 97, 110, 111, 117, 116] 0 = (nu3, 0) := by kernel_rfl
def nu4 : Sto := (nu3.bind ([120], [97], []) 0).1
theorem nu4_is : nu3.bind ([120], [97], []) 0 = (nu4, 0) := by kernel_rfl
def nu5 : Sto := (nu4.bind ([120], [98], []) 0).1
theorem nu5_is : nu4.bind ([120], [98], []) 0 = (nu5, 0) := by kernel_rfl
def nuS (M1 M2 : List Ent) (k : Int) : Sto := { nu5 with last := k, L := [⟨[97], 1, 0, oZ, M1, [], 0⟩, ⟨[98], 2, 0, oZ, M2, [], 0⟩] }
theorem nu5_S : nu5 = nuS [] [] 0 := by kernel_rfl
theorem nuS_sl (M1 M2 : List Ent) (k : Int) : (nuS M1 M2 k).sl.bs = [] := by
 have : nu5.sl.bs = [] := by kernel_rfl
 exact this
theorem nuS_A (M1 M2 : List Ent) (k : Int) : (nuS M1 M2 k).A.length ≤ 40 := by
 have : nu5.A.length ≤ 40 := by decide +kernel
 exact this
theorem nu_tos0 (M1 M2 : List Ent) (k : Int) : (nuS M1 M2 k).tos [] [97] = [0] := by kernel_rfl
theorem nu_tos1 (M1 M2 : List Ent) (k : Int) : (nuS M1 M2 k).tos [] [110, 111, 110, 101] = [] := by kernel_rfl
theorem nu_tos2 (M1 M2 : List Ent) (k : Int) : (nuS M1 M2 k).tos [120] [] = [0, 1] := by kernel_rfl
theorem nu_readyA (M1 M2 : List Ent) (k : Int) : (nuS M1 M2 k).readyOf [97] = M1 := by kernel_rfl
theorem nu_readyB (M1 M2 : List Ent) (k : Int) : (nuS M1 M2 k).readyOf [98] = M2 := by kernel_rfl
structure NuOk (i : Nat) (M : List Ent) : Prop where
 len : M.length ≤ i
 ok : RkOk M
 each : ∀ e ∈ M, e.prio = 0 ∧ 1 ≤ e.id ∧ e.id ≤ i ∧ FitE e ∧ e.hops = 0
theorem NuOk.nil : NuOk 0 [] := ⟨Nat.le_refl _, RkOk.nil, fun e he => nomatch he⟩
theorem NuOk.up {i : Nat} {M : List Ent} (h : NuOk i M) : NuOk (i + 1) M := ⟨by have := h.len; omega, h.ok, fun e he => by
 obtain ⟨a, b, c, d, e⟩ := h.each e he
 exact ⟨a, b, by omega, d, e⟩⟩
theorem ins_last {M : List Ent} {e : Ent} (h : ∀ x ∈ M, lessE e x = false) : insM e M = M ++ [e] := by
 induction M with
 | nil => rfl
 | cons x l ih =>
  unfold insM
  rw [if_neg (by rw [h x List.mem_cons_self]; decide), ih fun y hy => h y (List.mem_cons_of_mem _ hy)]
  rfl
theorem NuOk.put {i : Nat} {M : List Ent} (h : NuOk i M) (hi : i < 60) {e : Ent} (h1 : e.id = i + 1) (h2 : e.prio = 0) (h3 : FitE e) (h4 : e.hops = 0) : putF oZ M e = (true, [], M ++ [e]) ∧ NuOk (i + 1) (M ++ [e]) := by
 have hno : ∀ x ∈ M, x.id ≠ e.id := fun x hx => by
  have := (h.each x hx).2.2.1
  omega
 have hins : insM e M = M ++ [e] := ins_last fun x hx => by
  have a := h.each x hx
  cases hl : lessE e x with
  | false => rfl
  | true => rw [less_iff] at hl; omega
 have hok : putOk M e = true := by
  unfold putOk
  refine decide_eq_true ⟨fun hm => ?_, by omega, by omega⟩
  obtain ⟨x, hx, he⟩ := List.mem_map.1 hm
  exact hno x hx he
 have hlim : limitO oZ = 60 := by kernel_rfl
 refine ⟨?_, ?_, ?_, ?_⟩
 ·unfold putF
  rw [if_neg (by rw [hok]; decide), if_pos (by rw [hlim]; have := h.len; omega), hins]
 ·rw [List.length_append, List.length_singleton]; have := h.len; omega
 ·rw [← hins]; exact h.ok.ins (by omega) hno
 ·intro x hx
  rcases List.mem_append.1 hx with hx | hx
  ·exact h.up.each x hx
  ·rw [List.mem_singleton] at hx
   subst hx
   exact ⟨h2, by omega, by omega, h3, h4⟩
theorem nu_pot {i : Nat} {M : List Ent} (h : NuOk i M) : sumE dieF M ≤ M.length * 264203 := by
 have hd : dnF 3 = 264203 := by kernel_rfl
 have hx : ∀ x ∈ M, dieF x = 264203 := fun x hx => by
  unfold dieF
  rw [(h.each x hx).2.2.2.2]
  exact hd
 clear h
 induction M with
 | nil => exact Nat.le_refl _
 | cons x l ih =>
  have := ih fun y hy => hx y (List.mem_cons_of_mem _ hy)
  have := hx x List.mem_cons_self
  rw [sumE_cons, List.length_cons]
  omega
theorem put_step {S : Sto} {i : Nat} {p : Plq} {e : Ent} {way : List Nat} {R : List Tsk} {top : Bool} {N : List Ent} (hi : S.L[i]? = some p) (hp : putF p.o p.M (forE e p.o S.now) = (true, [], N)) (hb : e.body = 0) :
  stepF ⟨S, .mail top e (i :: way) :: R, false⟩ = ⟨S.setM i p N, .dead i [] :: moreM top e way R, false⟩ := by
 have hh : S.hold e.body = S := by unfold Sto.hold; rw [hb]; rfl
 simp only [stepF, hi, hp, hh]
 cases top <;> rfl
theorem dead_none {S : Sto} {i : Nat} {R : List Tsk} {r : Bool} : stepF ⟨S, .dead i [] :: R, r⟩ = ⟨S, R, r⟩ := rfl
theorem nu_for (r : Nat) (k : Int) (hr : r < 3) : forE (atI (nuE r) (k)) oZ 0 = (atI (nuE r) (k)) := by
 obtain rfl | rfl | rfl : r = 0 ∨ r = 1 ∨ r = 2 := by omega
 all_goals kernel_rfl
theorem nu_fit (r : Nat) (k : Int) (hr : r < 3) : FitE (atI (nuE r) k) := by
 have h : FitE (nuE r) := by
  obtain rfl | rfl | rfl : r = 0 ∨ r = 1 ∨ r = 2 := by omega
  all_goals exact ⟨by decide, by decide, by decide⟩
 exact ⟨h.exch, h.key, h.hops⟩
def nuA (f : Nat → Nat) : Nat → List Ent
 | 0 => []
 | i + 1 => if f i = 1 then nuA f i else nuA f i ++ [(atI (nuE (f i)) ((i : Int) + 1))]
def nuB (f : Nat → Nat) : Nat → List Ent
 | 0 => []
 | i + 1 => if f i = 2 then nuB f i ++ [(atI (nuE (f i)) ((i : Int) + 1))] else nuB f i
theorem nu_put {f : Nat → Nat} {i : Nat} (hi : i < 60) (hf : f i < 3) {M : List Ent} (h : NuOk i M) :
  putF oZ M (forE (atI (nuE (f i)) ((i : Int) + 1)) oZ 0) = (true, [], M ++ [(atI (nuE (f i)) ((i : Int) + 1))]) ∧ NuOk (i + 1) (M ++ [(atI (nuE (f i)) ((i : Int) + 1))]) := by
 rw [nu_for (f i) _ hf]
 refine h.put hi rfl ?_ (nu_fit _ _ hf) ?_
 ·generalize f i = r at *
  obtain rfl | rfl | rfl : r = 0 ∨ r = 1 ∨ r = 2 := by omega
  all_goals rfl
 ·generalize f i = r at *
  obtain rfl | rfl | rfl : r = 0 ∨ r = 1 ∨ r = 2 := by omega
  all_goals rfl
theorem nuA_ok {f : Nat → Nat} : ∀ {i : Nat}, i < 60 → (∀ j < i, f j < 3) → NuOk i (nuA f i)
 | 0, _, _ => NuOk.nil
 | i + 1, hi, hf => by
  have ih := nuA_ok (f := f) (i := i) (by omega) fun j hj => hf j (by omega)
  rw [nuA]
  by_cases h : f i = 1
  ·rw [if_pos h]; exact ih.up
  ·rw [if_neg h]; exact (nu_put (by omega) (hf i (by omega)) ih).2
theorem nuB_ok {f : Nat → Nat} : ∀ {i : Nat}, i < 60 → (∀ j < i, f j < 3) → NuOk i (nuB f i)
 | 0, _, _ => NuOk.nil
 | i + 1, hi, hf => by
  have ih := nuB_ok (f := f) (i := i) (by omega) fun j hj => hf j (by omega)
  rw [nuB]
  by_cases h : f i = 2
  ·rw [if_pos h]; exact (nu_put (by omega) (hf i (by omega)) ih).2
  ·rw [if_neg h]; exact ih.up
def nuW (r : Nat) : Int := if r = 1 then 0 else if r = 2 then 2 else 1
theorem nu_pub {f : Nat → Nat} {i : Nat} (hi : i < 50) (hf : ∀ j ≤ i, f j < 3) :
  (nuS (nuA f i) (nuB f i) i).publish (nuE (f i)) = (nuS (nuA f (i + 1)) (nuB f (i + 1)) ((i + 1 : Nat) : Int), true, nuW (f i)) := by
 have hA := nuA_ok (f := f) (i := i) (by omega) fun j hj => hf j (by omega)
 have hB := nuB_ok (f := f) (i := i) (by omega) fun j hj => hf j (by omega)
 have hfi := hf i (Nat.le_refl _)
 have pA := (nu_put (by omega) hfi hA).1
 have pB := (nu_put (by omega) hfi hB).1
 have e1 : ((i + 1 : Nat) : Int) = (i : Int) + 1 := by omega
 rw [nuA, nuB, e1]
 generalize nuA f i = M1 at *
 generalize nuB f i = M2 at *
 generalize (i : Int) = k at *
 generalize f i = r at *
 clear hA hB hf hi e1
 have few : ∀ (M1 M2 : List Ent) k, (nuS M1 M2 k).A.length ≤ 40 := nuS_A
 obtain rfl | rfl | rfl : r = 0 ∨ r = 1 ∨ r = 2 := by omega
 ·have hc : (nuS M1 M2 k).pubC (nuE 0) = ⟨nuS (M1 ++ [(atI (nuE 0) (k + 1))]) M2 (k + 1), [], false⟩ := by
   have hm : (nuS M1 M2 k).mail true (nuE 0) = .mail true (atI (nuE 0) (k + 1)) [0] := by
    show Tsk.mail true _ ((nuS M1 M2 k).tos [] [97]) = _
    rw [nu_tos0]; rfl
   unfold Sto.pubC
   rw [hm, fin_step (few _ _ _) (by simp)]
   rw [put_step (S := (nuS M1 M2 k).born) (p := ⟨[97], 1, 0, oZ, M1, [], 0⟩) rfl pA rfl, fin_step (few _ _ _) (by simp), dead_none, fin_nil rfl]
   rfl
  unfold Sto.publish
  rw [hc]
  show (_, _, (((nuS M1 M2 k).tos [] [97]).length : Int)) = _
  rw [nu_tos0]
  rfl
 ·have hc : (nuS M1 M2 k).pubC (nuE 1) = ⟨nuS M1 M2 (k + 1), [], false⟩ := by
   have hm : (nuS M1 M2 k).mail true (nuE 1) = .mail true (atI (nuE 1) (k + 1)) [] := by
    show Tsk.mail true _ ((nuS M1 M2 k).tos [] [110, 111, 110, 101]) = _
    rw [nu_tos1]; rfl
   unfold Sto.pubC
   rw [hm, fin_step (few _ _ _) (by simp)]
   rw [show stepF ⟨(nuS M1 M2 k).born, [.mail true (atI (nuE 1) (k + 1)) []], false⟩ = ⟨(nuS M1 M2 k).born, [], false⟩ from rfl, fin_nil rfl]
   rfl
  unfold Sto.publish
  rw [hc]
  show (_, _, (((nuS M1 M2 k).tos [] [110, 111, 110, 101]).length : Int)) = _
  rw [nu_tos1]
  rfl
 ·have hc : (nuS M1 M2 k).pubC (nuE 2) = ⟨nuS (M1 ++ [(atI (nuE 2) (k + 1))]) (M2 ++ [(atI (nuE 2) (k + 1))]) (k + 1), [], false⟩ := by
   have hm : (nuS M1 M2 k).mail true (nuE 2) = .mail true (atI (nuE 2) (k + 1)) [0, 1] := by
    show Tsk.mail true _ ((nuS M1 M2 k).tos [120] []) = _
    rw [nu_tos2]; rfl
   unfold Sto.pubC
   rw [hm, fin_step (few _ _ _) (by simp)]
   rw [put_step (S := (nuS M1 M2 k).born) (p := ⟨[97], 1, 0, oZ, M1, [], 0⟩) rfl pA rfl, fin_step (few _ _ _) (by simp), dead_none]
   rw [show moreM true (atI (nuE 2) (k + 1)) [1] [] = [.mail true (atI (nuE 2) (k + 1)) [1]] from rfl, fin_step (few _ _ _) (by simp)]
   rw [put_step (S := ((nuS M1 M2 k).born).setM 0 ⟨[97], 1, 0, oZ, M1, [], 0⟩ (M1 ++ [(atI (nuE 2) (k + 1))])) (p := ⟨[98], 2, 0, oZ, M2, [], 0⟩) rfl pB rfl, fin_step (few _ _ _) (by simp), dead_none, fin_nil rfl]
   rfl
  unfold Sto.publish
  rw [hc]
  show (_, _, (((nuS M1 M2 k).tos [120] []).length : Int)) = _
  rw [nu_tos2]
  rfl
theorem nu_run {f : Nat → Nat} {i : Nat} (hi : i < 50) (hf : ∀ j ≤ i, f j < 3) :
  RunOk 4611686018427387903 60 ⟨(nuS (nuA f i) (nuB f i) i).born, [(nuS (nuA f i) (nuB f i) i).mail true (nuE (f i))], false⟩ := by
 have hA := nuA_ok (f := f) (i := i) (by omega) fun j hj => hf j (by omega)
 have hB := nuB_ok (f := f) (i := i) (by omega) fun j hj => hf j (by omega)
 have hfi := hf i (Nat.le_refl _)
 generalize nuA f i = M1 at *
 generalize nuB f i = M2 at *
 generalize f i = r at *
 have hway : ((nuS M1 M2 i).tos (nuE r).exch (nuE r).key).length ≤ 40 := tos_len (nuS_A _ _ _) _ _
 have hlt : ∀ j ∈ (nuS M1 M2 i).tos (nuE r).exch (nuE r).key, j < 2 := fun j hj => tos_lt hj
 have hdie : dieF (atI (nuE r) ((i : Int) + 1)) = 264203 := by
  obtain rfl | rfl | rfl : r = 0 ∨ r = 1 ∨ r = 2 := by omega
  all_goals kernel_rfl
 have hp : Cf.pot ⟨(nuS M1 M2 i).born, [(nuS M1 M2 i).mail true (nuE r)], false⟩ ≤ 40000000 := by
  have a := nu_pot hA
  have b := nu_pot hB
  have a1 := hA.len
  have b1 := hB.len
  have e : Cf.pot ⟨(nuS M1 M2 i).born, [(nuS M1 M2 i).mail true (nuE r)], false⟩ = (sumE dieF M1 + (sumE dieF M2 + 0)) + ((1 + ((nuS M1 M2 i).tos (nuE r).exch (nuE r).key).length * (dieF (atI (nuE r) ((i : Int) + 1)) + 2)) + 0) := rfl
  rw [e, hdie]
  omega
 refine ⟨⟨nuS_A _ _ _, Nat.le_refl _, ?_, ?_, ?_, ?_⟩, by omega, ?_⟩
 ·show ((i : Int) + 1) + _ ≤ _
  omega
 ·intro x hx
  have hx' : x ∈ (nuS M1 M2 i).sl.bs := hx
  rw [nuS_sl] at hx'
  exact nomatch hx'
 ·intro p hp
  have hp' : p ∈ [(⟨[97], 1, 0, oZ, M1, [], 0⟩ : Plq), ⟨[98], 2, 0, oZ, M2, [], 0⟩] := hp
  simp only [List.mem_cons, List.not_mem_nil, or_false] at hp'
  rcases hp' with rfl | rfl
  ·exact ⟨⟨(by decide : ([] : List UInt8).length ≤ 1000), (by decide : ([] : List UInt8).length ≤ 1000)⟩, fun e he => (hA.each e he).2.2.2.1, by have := hA.len; show M1.length ≤ 60; omega, hA.ok⟩
  ·exact ⟨⟨(by decide : ([] : List UInt8).length ≤ 1000), (by decide : ([] : List UInt8).length ≤ 1000)⟩, fun e he => (hB.each e he).2.2.2.1, by have := hB.len; show M2.length ≤ 60; omega, hB.ok⟩
 ·intro t ht
  rw [List.mem_singleton] at ht
  subst ht
  exact ⟨nu_fit r _ hfi, hlt⟩
 ·show (-1 : Int) ≤ (i : Int) + 1
  omega
def nuCA (f : Nat → Nat) (i : Nat) : Nat := (nuA f i).length
def nuCB (f : Nat → Nat) (i : Nat) : Nat := (nuB f i).length
theorem nuA_pre (f : Nat → Nat) (i : Nat) : ∀ d : Nat, ∃ t, nuA f (i + d) = nuA f i ++ t
 | 0 => ⟨[], by simp⟩
 | d + 1 => by
  obtain ⟨t, ht⟩ := nuA_pre f i d
  rw [← Nat.add_assoc, nuA]
  split
  ·exact ⟨t, ht⟩
  ·exact ⟨t ++ [_], by rw [ht, List.append_assoc]⟩
theorem nuB_pre (f : Nat → Nat) (i : Nat) : ∀ d : Nat, ∃ t, nuB f (i + d) = nuB f i ++ t
 | 0 => ⟨[], by simp⟩
 | d + 1 => by
  obtain ⟨t, ht⟩ := nuB_pre f i d
  rw [← Nat.add_assoc, nuB]
  split
  ·exact ⟨t ++ [_], by rw [ht, List.append_assoc]⟩
  ·exact ⟨t, ht⟩
theorem nuA_at {f : Nat → Nat} {i n : Nat} (hi : i < n) (h : f i ≠ 1) : (nuA f n)[nuCA f i]? = some (atI (nuE (f i)) ((i : Int) + 1)) ∧ nuCA f (i + 1) = nuCA f i + 1 ∧ nuCA f i < nuCA f n := by
 obtain ⟨t, ht⟩ := nuA_pre f (i + 1) (n - (i + 1))
 rw [show i + 1 + (n - (i + 1)) = n by omega] at ht
 have hs : nuA f (i + 1) = nuA f i ++ [(atI (nuE (f i)) ((i : Int) + 1))] := by rw [nuA, if_neg h]
 refine ⟨?_, ?_, ?_⟩
 ·rw [ht, hs, List.append_assoc]
  unfold nuCA
  rw [List.getElem?_append_right (Nat.le_refl _), Nat.sub_self]
  rfl
 ·unfold nuCA; rw [hs]; simp
 ·unfold nuCA; rw [ht, hs]; simp
theorem nuA_no {f : Nat → Nat} {i : Nat} (h : f i = 1) : nuCA f (i + 1) = nuCA f i := by unfold nuCA; rw [nuA, if_pos h]
theorem nuB_at {f : Nat → Nat} {i n : Nat} (hi : i < n) (h : f i = 2) : (nuB f n)[nuCB f i]? = some (atI (nuE (f i)) ((i : Int) + 1)) ∧ nuCB f (i + 1) = nuCB f i + 1 ∧ nuCB f i < nuCB f n := by
 obtain ⟨t, ht⟩ := nuB_pre f (i + 1) (n - (i + 1))
 rw [show i + 1 + (n - (i + 1)) = n by omega] at ht
 have hs : nuB f (i + 1) = nuB f i ++ [(atI (nuE (f i)) ((i : Int) + 1))] := by rw [nuB, if_pos h]
 refine ⟨?_, ?_, ?_⟩
 ·rw [ht, hs, List.append_assoc]
  unfold nuCB
  rw [List.getElem?_append_right (Nat.le_refl _), Nat.sub_self]
  rfl
 ·unfold nuCB; rw [hs]; simp
 ·unfold nuCB; rw [ht, hs]; simp
theorem nuB_no {f : Nat → Nat} {i : Nat} (h : f i ≠ 2) : nuCB f (i + 1) = nuCB f i := by unfold nuCB; rw [nuB, if_neg h]
end Go.Proofs.YtknjamfjonapiaaGreatDoor
namespace Go.Proofs.YtknjamfjonapiaaGreatDoor
open Go.RowKit
set_option maxRecDepth 100000
theorem IntsAt.rows {P : Program} {k : IntKind} {w : World} {e : TypeId} {a : Option Addr} {len : Nat} {rd : Nat → List Value} (he : P.underlying e = some (.int k)) (hco : P.cellsOf e = 1) (h : RowsAt P w e a len rd) : ∃ zs, IntsAt k w a len zs := by
 have key : ∀ i, ∃ z : Int, i < len → rd i = [.int k z] ∧ (Lit.int k z).wf = true := by
  intro i
  by_cases hi : i < len
  ·obtain ⟨z, h1, h2⟩ := (h.at_ i hi).1.int he
   exact ⟨z, fun _ => ⟨h1, h2⟩⟩
  ·exact ⟨0, fun h => absurd h hi⟩
 refine ⟨(List.range len).map fun i => (key i).choose, by simp, h.top, fun z hz => ?_, fun i z hz => ?_⟩
 ·obtain ⟨i, hi, rfl⟩ := List.mem_map.1 hz
  exact ((key i).choose_spec (List.mem_range.1 hi)).2
 ·have hi : i < len := by
   have := (List.getElem?_eq_some_iff.1 hz).1
   simpa using this
  rw [List.getElem?_map, List.getElem?_range hi, Option.map_some, Option.some.injEq] at hz
  obtain ⟨h1, -⟩ := (key i).choose_spec hi
  rw [hz] at h1
  obtain ⟨_, _, b, off, ha, hc⟩ := h.at_ i hi
  refine ⟨b, off, ha, ?_⟩
  have := hc 0 (.int k z) (by rw [h1]; rfl)
  rwa [hco, Nat.mul_one] at this
end Go.Proofs.YtknjamfjonapiaaGreatDoor
namespace Go.Proofs.YtknjamfjonapiaaGreatDoor
open Go.RowKit
set_option linter.unusedVariables false
set_option linter.unusedSectionVars false
set_option maxRecDepth 100000
abbrev nuZ : Ent := ⟨0, 0, 0, [], [97], 0, 0, 0, false, 0⟩
abbrev nuN : Ent := ⟨0, 0, 0, [], [110, 111, 110, 101], 0, 0, 0, false, 0⟩
abbrev nuX : Ent := ⟨0, 0, 0, [120], [], 0, 0, 0, false, 0⟩
def NuSt (B : Nat) (w0 w : World) (sb : Nat) (bs : List Nat) (f : Nat → Nat) (i : Nat) : Prop := StoIs false B w0 w sb bs (nuS (nuA f i) (nuB f i) i) [] 101
theorem nu_send {B : Nat} {w0 w : World} {sb i : Nat} {bs : List Nat} {f : Nat → Nat} {F : List (Nat × Obj)} (h : StoIs false B w0 w sb bs (nuS (nuA f i) (nuB f i) i) F 101) (hi : i < 50) (hf : ∀ j ≤ i, f j < 3) {r : Nat} (hr : f i = r) :
  Calls Tryz.prog 30 #[bpt sb, enV (nuE r)] w fun e w' => e = .returned (.tuple #[.bool true, .int .i64 (nuW r)]) ∧ Hid (NuSt B w0 w' sb bs f (i + 1)) := by
 subst hr
 have hfi := hf i (Nat.le_refl _)
 have hk : (nuE (f i)).key.length ≤ 1000 := by
  generalize f i = r at *
  obtain rfl | rfl | rfl : r = 0 ∨ r = 1 ∨ r = 2 := by omega
  all_goals decide
 have hp := nu_pub hi hf
 refine (st_publish h (nuE (f i)) (by show (-1 : Int) ≤ (i : Int); omega) (by show (i : Int) < 4611686018427387904; omega) hk (nu_run hi hf) (by decide) (by decide) (by decide)).mono ?_
 rintro e w' ⟨rfl, h'⟩
 rw [hp] at h'
 rw [hp]
 exact ⟨rfl, Lib.hid (h'.sub (List.nil_sublist _))⟩
set_option maxHeartbeats 8000000 in
theorem numbers19_walk {w : World} {a : Option Addr} {n cap : Nat} {zs : List Int} (hz : IntsAt .u8 w a n zs) (hM : Most w.heap.size w) :
  Calls Tryz.prog 10 #[.slice a n cap] w fun e w' => e = .returned (.bool true) ∧ Below w.heap.size w w' := by
 have ck := Lib.hid (known19_true w hM)
 have hlen := hz.size
 replace hz := Lib.hid hz
 go_enter Tryz.func10, Tryz.ntmps10
 go_wp2_with fail
 refine ck.out.mono ?_
 rintro e w1 ⟨rfl, hb⟩
 by_cases hn : (n : Int) > 50
 ·replace hb := Lib.hid hb
  clear ck hM
  go_wp2_with fail
  go_ret
  exact ⟨rfl, hb.out⟩
 have hn5 : (n : Int) ≤ 50 := by omega
 have c2 := Lib.hid (st_new (qT := false) (fun h => nomatch h) hM ((St.start w).grow hb) 1000)
 clear ck hb hM hn
 go_wp2_with fail
 refine c2.out.mono ?_
 rintro r w2 ⟨sb, rfl, h1⟩
 have c3 := Lib.hid (st_queue h1 [97] oZ 0 (by decide +kernel) nu1_is)
 clear c2 h1
 go_wp2_with fail
 refine c3.out.mono ?_
 rintro r w3 ⟨rfl, bs1, h2⟩
 have c4 := Lib.hid (st_queue h2 [98] oZ 0 (by decide +kernel) nu2_is)
 clear c3 h2
 go_wp2_with fail
 refine c4.out.mono ?_
 rintro r w4 ⟨rfl, bs, h3⟩
 have c5 := Lib.hid (st_exch h3 [120] [102, 97, 110, 111, 117, 116] 0 nu3_is)
 clear c4 h3
 go_wp2_with fail
 refine c5.out.mono ?_
 rintro r w5 ⟨rfl, h4⟩
 have c6 := Lib.hid (st_bind h4 (b1 := [120]) (b2 := [97]) (b3 := []) ⟨by decide, by decide, by decide⟩ (by decide) 0 nu4_is)
 clear c5 h4
 go_wp2_with fail
 refine c6.out.mono ?_
 rintro r w6 ⟨rfl, h5⟩
 have c7 := Lib.hid (st_bind h5 (b1 := [120]) (b2 := [98]) (b3 := []) ⟨by decide, by decide, by decide⟩ (by decide) 0 nu5_is)
 clear c6 h5
 go_wp2_with fail
 refine c7.out.mono ?_
 rintro r w7 ⟨rfl, h6⟩
 rw [nu5_S] at h6
 obtain ⟨f, hf⟩ : ∃ f : Nat → Nat, f = fun k => (zs.getD k 0 % 3).toNat := ⟨_, rfl⟩
 have hf3 : Hid (∀ k, f k < 3) := Lib.hid fun k => by
  subst hf
  show (zs.getD k 0 % 3).toNat < 3
  omega
 have hfz : Hid (∀ (k : Nat) (z : Int), zs[k]? = some z → 0 ≤ z → z % 3 = f k ∧ z.tmod 3 = f k) := Lib.hid fun k z hk h0 => by
  have : z % 3 = f k := by
   rw [hf]
   simp [hk]
   omega
  exact ⟨this, by rw [Int.tmod_eq_emod_of_nonneg h0]; exact this⟩
 have h7 : Hid (NuSt w.heap.size w w7 sb bs f 0) := Lib.hid h6
 clear hf c7 h6
 go_wp2_with fail
 go_loopg [4] n (fun g v4 wr => ∃ i : Nat, v4 = .int .i64 i ∧ i + g = n ∧ Hid (NuSt w.heap.size w wr sb bs f i))
 case atStart => exact ⟨0, rfl, by omega, h7⟩
 case round =>
  clear h7
  obtain ⟨i, rfl, hi, h⟩ := hrel
  have hi0 : (0 : Int) ≤ i := by omega
  by_cases hlt : i < n
  ·have hi1 : (i : Int) < n := by omega
   have hx : zs[i]? = some zs[i] := List.getElem?_eq_getElem (by omega)
   generalize zs[i]'(by omega) = z at hx
   have h' : StoIs false w.heap.size w wr sb bs (nuS (nuA f i) (nuB f i) i) [] 101 := h.out
   have hA := h'.alloc (enO nuZ)
   obtain ⟨z0, z1⟩ := bounds_u8 (hz.out.wf z (List.mem_of_getElem? hx))
   obtain ⟨e1, e2⟩ := hfz.out i z hx z0
   obtain ⟨ba, oa, rfl, cz⟩ := (hz.out.below hA.below).at_ i z hx
   obtain ⟨⟨y0, y1, y2, y3, y4, y5, y6, y7, y8, y9⟩, ys⟩ := hA.enAt (k := wr.heap.size) (e := nuZ) List.mem_cons_self
   have hr3 := hf3.out i
   have hf3' : ∀ j ≤ i, f j < 3 := fun j _ => hf3.out j
   rcases (by omega : f i = 0 ∨ f i = 1 ∨ f i = 2) with hr | hr | hr
   ·have cp : Hid (Calls Tryz.prog 30 #[bpt sb, enV nuZ] (wr.alloc (enO nuZ)) fun e w' => e = .returned (.tuple #[.bool true, .int .i64 1]) ∧ Hid (NuSt w.heap.size w w' sb bs f (i + 1))) := Lib.hid (nu_send hA (by omega) hf3' hr)
    have e3 : z % 3 = 0 := by rw [e1, hr]; rfl
    have e4 : z.tmod 3 = 0 := by rw [e2, hr]; rfl
    clear hA h' h hx e1 e2 hf3' hr hr3
    go_wp2_with fail
    refine cp.out.mono ?_
    rintro r w8 ⟨rfl, h8⟩
    clear cp cz y0 y1 y2 y3 y4 y5 y6 y7 y8 y9 ys
    go_wp2_with fail
    go_roundg (n - (i + 1))
    case measure => omega
    case rel => exact ⟨i + 1, by go_num, by omega, h8⟩
   ·have hB := h'.alloc (enO nuN)
    obtain ⟨⟨x0, x1, x2, x3, x4, x5, x6, x7, x8, x9⟩, -⟩ := hB.enAt (k := wr.heap.size) (e := nuN) List.mem_cons_self
    have cp : Hid (Calls Tryz.prog 30 #[bpt sb, enV nuN] (wr.alloc (enO nuN)) fun e w' => e = .returned (.tuple #[.bool true, .int .i64 0]) ∧ Hid (NuSt w.heap.size w w' sb bs f (i + 1))) := Lib.hid (nu_send hB (by omega) hf3' hr)
    have e3 : z % 3 = 1 := by rw [e1, hr]; rfl
    have e4 : z.tmod 3 = 1 := by rw [e2, hr]; rfl
    clear hA hB h' h hx e1 e2 hf3' hr hr3
    go_wp2_with fail
    refine cp.out.mono ?_
    rintro r w8 ⟨rfl, h8⟩
    clear cp cz y0 y1 y2 y3 y4 y5 y6 y7 y8 y9 ys x0 x1 x2 x3 x4 x5 x6 x7 x8 x9
    go_wp2_with fail
    go_roundg (n - (i + 1))
    case measure => omega
    case rel => exact ⟨i + 1, by go_num, by omega, h8⟩
   ·have hB := h'.alloc (enO nuX)
    obtain ⟨⟨x0, x1, x2, x3, x4, x5, x6, x7, x8, x9⟩, -⟩ := hB.enAt (k := wr.heap.size) (e := nuX) List.mem_cons_self
    have cp : Hid (Calls Tryz.prog 30 #[bpt sb, enV nuX] (wr.alloc (enO nuX)) fun e w' => e = .returned (.tuple #[.bool true, .int .i64 2]) ∧ Hid (NuSt w.heap.size w w' sb bs f (i + 1))) := Lib.hid (nu_send hB (by omega) hf3' hr)
    have e3 : z % 3 = 2 := by rw [e1, hr]; rfl
    have e4 : z.tmod 3 = 2 := by rw [e2, hr]; rfl
    clear hA hB h' h hx e1 e2 hf3' hr hr3
    go_wp2_with fail
    refine cp.out.mono ?_
    rintro r w8 ⟨rfl, h8⟩
    clear cp cz y0 y1 y2 y3 y4 y5 y6 y7 y8 y9 ys x0 x1 x2 x3 x4 x5 x6 x7 x8 x9
    go_wp2_with fail
    go_roundg (n - (i + 1))
    case measure => omega
    case rel => exact ⟨i + 1, by go_num, by omega, h8⟩
  ·obtain rfl : i = n := by omega
   have h' : StoIs false w.heap.size w wr sb bs (nuS (nuA f i) (nuB f i) i) [] 101 := h.out
   have ca := Lib.hid (st_ready h' [97])
   rw [nu_readyA] at ca
   clear h h'
   go_wp2_with fail
   refine ca.out.mono ?_
   rintro r w8 ⟨aa, ac, Y1, rfl, hy1, h8⟩
   have cb := Lib.hid (st_ready h8 [98])
   rw [nu_readyB] at cb
   clear ca h8
   go_wp2_with fail
   refine cb.out.mono ?_
   rintro r w9 ⟨ab, bc, Y2, rfl, hy2, h9⟩
   replace hy1 := Lib.hid hy1
   replace hy2 := Lib.hid hy2
   obtain ⟨la, hla⟩ : ∃ la, la = (nuA f i).length := ⟨_, rfl⟩
   obtain ⟨lb, hlb⟩ : ∃ lb, lb = (nuB f i).length := ⟨_, rfl⟩
   have hA1 : Hid (∀ W, StoIs false w.heap.size w W sb bs (nuS (nuA f i) (nuB f i) i) (Y2 ++ (Y1 ++ [])) 101 → ∀ (j : Nat), j < i → f j ≠ 1 → (nuCA f (j + 1) = nuCA f j + 1 ∧ nuCA f j < la) ∧ ∃ g off, aa = some ⟨g, off, none⟩ ∧ W.cell? ⟨g, off + nuCA f j * 10, none⟩ = some (.int .i64 ((j : Int) + 1))) := Lib.hid fun W hW j hj hfj => by
    obtain ⟨n1, n2, n3⟩ := nuA_at hj hfj
    obtain ⟨g, off, e, q0, -⟩ := hW.reads (M := nuA f i) (Y := Y1) (F' := Y2) hy1.out (perm_by fun a => by simp only [List.count_append, List.count_nil]; omega) _ _ n1
    exact ⟨⟨n2, by rw [hla]; exact n3⟩, g, off, e, q0⟩
   have hB1 : Hid (∀ W, StoIs false w.heap.size w W sb bs (nuS (nuA f i) (nuB f i) i) (Y2 ++ (Y1 ++ [])) 101 → ∀ (j : Nat), j < i → f j = 2 → (nuCB f (j + 1) = nuCB f j + 1 ∧ nuCB f j < lb) ∧ ∃ g off, ab = some ⟨g, off, none⟩ ∧ W.cell? ⟨g, off + nuCB f j * 10, none⟩ = some (.int .i64 ((j : Int) + 1))) := Lib.hid fun W hW j hj hfj => by
    obtain ⟨n1, n2, n3⟩ := nuB_at hj hfj
    obtain ⟨g, off, e, q0, -⟩ := hW.reads (M := nuB f i) (Y := Y2) (F' := Y1) hy2.out (perm_by fun a => by simp only [List.count_append, List.count_nil]; omega) _ _ n1
    exact ⟨⟨n2, by rw [hlb]; exact n3⟩, g, off, e, q0⟩
   have hE : Hid (nuCA f i = la ∧ nuCB f i = lb) := Lib.hid ⟨hla.symm, hlb.symm⟩
   rw [← hla, ← hlb]
   have hbd : Hid (la ≤ i ∧ lb ≤ i) := Lib.hid ⟨by rw [hla]; exact (nuA_ok (by omega) fun j _ => hf3.out j).len, by rw [hlb]; exact (nuB_ok (by omega) fun j _ => hf3.out j).len⟩
   replace h9 := Lib.hid h9
   clear cb hla hlb hy1 hy2
   go_wp2_with fail
   go_loopg [11, 12, 13] i (fun g v11 v12 v13 wq => ∃ j : Nat, v11 = .int .i64 (nuCA f j) ∧ v12 = .int .i64 (nuCB f j) ∧ v13 = .int .i64 j ∧ j + g = i ∧ Hid (StoIs false w.heap.size w wq sb bs (nuS (nuA f i) (nuB f i) i) (Y2 ++ (Y1 ++ [])) 101))
   case atStart => exact ⟨0, rfl, rfl, rfl, by omega, h9⟩
   case round =>
    clear h9
    obtain ⟨j, rfl, rfl, rfl, hj, h⟩ := hrel
    have hj0 : (0 : Int) ≤ j := by omega
    obtain ⟨hbd1, hbd2⟩ := hbd.out
    have la50 : (la : Int) ≤ 50 := by omega
    have lb50 : (lb : Int) ≤ 50 := by omega
    by_cases hlt : j < i
    ·have hj1 : (j : Int) < i := by omega
     have hx : zs[j]? = some zs[j] := List.getElem?_eq_getElem (by omega)
     generalize zs[j]'(by omega) = z at hx
     obtain ⟨z0, z1⟩ := bounds_u8 (hz.out.wf z (List.mem_of_getElem? hx))
     obtain ⟨e1, e2⟩ := hfz.out j z hx z0
     obtain ⟨ba, oa, rfl, cz⟩ := (hz.out.below h.out.below).at_ j z hx
     have hr3 := hf3.out j
     obtain ⟨p, hp⟩ : ∃ p, p = nuCA f j := ⟨_, rfl⟩
     obtain ⟨q, hq⟩ : ∃ q, q = nuCB f j := ⟨_, rfl⟩
     rw [← hp, ← hq]
     have p0 : (0 : Int) ≤ p := by omega
     have q0 : (0 : Int) ≤ q := by omega
     rcases (by omega : f j = 0 ∨ f j = 1 ∨ f j = 2) with hr | hr | hr
     ·obtain ⟨⟨n2, n3⟩, g, off, rfl, c1⟩ := hA1.out _ h.out j hlt (by omega)
      have m2 := nuB_no (f := f) (i := j) (by omega)
      rw [← hp] at n2 n3 c1
      rw [← hq] at m2
      have p1 : (p : Int) < la := by omega
      have e3 : z % 3 = 0 := by rw [e1, hr]; rfl
      have e4 : z.tmod 3 = 0 := by rw [e2, hr]; rfl
      replace n2 := Lib.hid n2
      replace m2 := Lib.hid m2
      clear hx e1 e2 hr hr3 hA1 hB1 hp hq n3 hE hbd
      go_wp2_with fail
      go_roundg (i - (j + 1))
      case measure => omega
      case rel => exact ⟨j + 1, by rw [n2.out]; go_num, by rw [m2.out], by go_num, by omega, h⟩
     ·have n2 := nuA_no (f := f) (i := j) hr
      have m2 := nuB_no (f := f) (i := j) (by omega)
      rw [← hp] at n2
      rw [← hq] at m2
      have e3 : z % 3 = 1 := by rw [e1, hr]; rfl
      have e4 : z.tmod 3 = 1 := by rw [e2, hr]; rfl
      replace n2 := Lib.hid n2
      replace m2 := Lib.hid m2
      clear hx e1 e2 hr hr3 hA1 hB1 hp hq hE hbd
      go_wp2_with fail
      go_roundg (i - (j + 1))
      case measure => omega
      case rel => exact ⟨j + 1, by rw [n2.out], by rw [m2.out], by go_num, by omega, h⟩
     ·obtain ⟨⟨n2, n3⟩, g, off, rfl, c1⟩ := hA1.out _ h.out j hlt (by omega)
      obtain ⟨⟨m2, m3⟩, g2, off2, rfl, c2⟩ := hB1.out _ h.out j hlt hr
      rw [← hp] at n2 n3 c1
      rw [← hq] at m2 m3 c2
      have p1 : (p : Int) < la := by omega
      have q1 : (q : Int) < lb := by omega
      have e3 : z % 3 = 2 := by rw [e1, hr]; rfl
      have e4 : z.tmod 3 = 2 := by rw [e2, hr]; rfl
      replace n2 := Lib.hid n2
      replace m2 := Lib.hid m2
      clear hx e1 e2 hr hr3 hA1 hB1 hp hq n3 m3 hE hbd
      go_wp2_with fail
      go_roundg (i - (j + 1))
      case measure => omega
      case rel => exact ⟨j + 1, by rw [n2.out]; go_num, by rw [m2.out]; go_num, by go_num, by omega, h⟩
    ·obtain rfl : j = i := by omega
     have fin := Lib.hid h.out.below
     obtain ⟨E1, E2⟩ := hE.out
     rw [E1, E2]
     clear hA1 hB1 hE h E1 E2 hbd
     go_wp2_with fail
     go_ret
     exact ⟨rfl, fin.out⟩
theorem uBytes19 : Tryz.prog.underlying 83 = some (.slice 5) := by kernel_rfl
theorem uU819 : Tryz.prog.underlying 5 = some (.int .u8) := by kernel_rfl
theorem numbers19_row {a0 : Option Addr} {n cap : Nat} {w : World} (hM : Most w.heap.size w) (r0 : Read Tryz.prog w 83 [.slice a0 n cap]) :
  Calls Tryz.prog 10 #[.slice a0 n cap] w fun e w' => e = .returned (.bool true) ∧ Below w.heap.size w w' := by
 obtain ⟨rd, hr⟩ := r0.slice uBytes19 (by decide +kernel)
 obtain ⟨zs, hz⟩ := IntsAt.rows uU819 (by kernel_rfl) hr
 exact numbers19_walk hz hM
end Go.Proofs.YtknjamfjonapiaaGreatDoor
namespace Go.Proofs.YtknjamfjonapiaaGreatDoor
open Go.RowKit
theorem door_met19 (os : Os) (args : Array Value) : laidMetH Tryz.prog laidT ((World.doorLaid Tryz.prog 19 os).forCall (fun _ _ => 0) ⟨#[], args, []⟩).memory :=
 laidMetH_of_parts3 (fuel := 8) (laidMet_of_run' 8 (by kernel_rfl) (by kernel_rfl)) (by kernel_rfl) (by kernel_rfl)
end Go.Proofs.YtknjamfjonapiaaGreatDoor
namespace Go.Proofs.YtknjamfjonapiaaGreatDoor
open Go.RowKit
set_option linter.unusedVariables false
set_option linter.unusedSectionVars false
set_option linter.unusedSimpArgs false
set_option maxRecDepth 100000
abbrev boxO (sb : Nat) : Obj := .cells #[bpt sb] 26
def Sto.tickC (S : Sto) (i : Nat) (d : Plq) : Cf := ⟨S.setM i d (d.M.filter fun x => !goneE x S.now), [.dead i (d.M.filter fun x => goneE x S.now)], false⟩
def tickN (S : Sto) : Nat → Sto
 | 0 => { S with now := S.now + 1 }
 | i + 1 => (tickN S i).tick1 i
theorem tick1_is {S : Sto} {i : Nat} {d : Plq} (hi : S.L[i]? = some d) : S.tick1 i = (S.tickC i d).fin.S := by
 unfold Sto.tick1 Sto.tickC
 rw [hi]
section
variable {qT : Bool} {B : Nat} {w0 w w' : World} {sb slb xb pb qb gb c c' i k b bx : Nat} {bs : List Nat} {S S' : Sto} {L : List Pq} {xv v : Value} {d d' : Plq} {F F' Z Y : List (Nat × Obj)} {o : Opt} {M : List Ent} {G : List Gst} {T : Nat} {n : List UInt8} {q z bt : Int} {e e0 : Ent} {a : Int} {K : Int}
theorem StoIs.nowS (h : StoIs qT B w0 w sb bs S F c) (z : Int) : StoIs qT B w0 (w.setCell ⟨sb, 5, none⟩ (.int .i64 z)) sb bs { S with now := z } F c := by
 obtain ⟨L, slb, xv, v, R, SX, SS, h1, h2⟩ := h
 exact ⟨L, slb, xv, v, R, SX, SS, { h1 with fine := ⟨h1.fine.few, h1.fine.once, h1.fine.nums, h1.fine.top, h1.fine.num0, h1.fine.each, h1.fine.fine⟩ }, St.set0 h2 5 _⟩
set_option maxHeartbeats 4000000 in
theorem tickl_any (h : StoIs qT B w0 w sb bs S F c) (hbx : (bx, boxO sb) ∈ F) (hi : S.L[i]? = some d) (hb : bs[i]? = some pb) (ok : RunOk K k (S.tickC i d)) (hK : K < 4611686018427387904) (hk : k < 90000) (hc : c ≤ 100000) :
  Calls Tryz.prog 81 #[bpt pb, bpt bx] w fun e w' => e = noneV ∧ StoIs qT B w0 w' sb bs (S.tickC i d).fin.S F c := by
 have h1 := h.grow (drew_b w)
 obtain ⟨pb', qb, gb, k1, k2, ⟨Zp, k3, k4⟩, -⟩ := h1.place hi
 rw [hb] at k1
 obtain rfl := Option.some.inj k1
 have c3 := k2.c3
 obtain ⟨slb, xv, v, hs⟩ := h1.see
 have c5 := hs.c5
 have hs0 : w.drew.cell? ⟨bx, 0, none⟩ = some (bpt sb) := h1.cell hbx rfl
 have e1 : (S.setM i d (d.M.filter fun x => !goneE x S.now)) = (S.tickC i d).S := rfl
 obtain ⟨D, hD⟩ : ∃ D, D = d.M.filter fun x => goneE x S.now := ⟨_, rfl⟩
 have cg : Hid (Calls Tryz.prog 82 #[rptr qb, .int .i64 S.now] w.drew fun r w1 => ∃ a cp, r = .returned (.slice a D.length cp) ∧ (∃ Z, EnsIs (.slice a D.length cp) D Z ∧ StoIs qT B w0 w1 sb bs (S.tickC i d).S (Z ++ F) c) ∧ w1.cell? ⟨bx, 0, none⟩ = some (bpt sb) ∧ (w1.alloc (deadO pb (.slice a D.length cp))).cell? ⟨bx, 0, none⟩ = some (bpt sb)) := Lib.hid ((qu_gone k3 S.now).mono (by
  rintro r w1 ⟨a, cp, Z, rfl, hz, hq⟩
  have h2 := (k4 w1 _ (Z ++ F) (hq.permF (perm_by fun a => by simp only [List.count_append]; omega))).2
  rw [e1] at h2
  have kb := h2.cell (List.mem_append_right _ hbx) (cs := #[bpt sb]) (i := 0) rfl
  exact ⟨a, cp, by rw [hD], ⟨Z, by rw [hD]; exact hz, h2⟩, kb, cellUp kb (new_below _ _)⟩))
 have cr : Hid (∀ a cp w1, (∃ Z, EnsIs (.slice a D.length cp) D Z ∧ StoIs qT B w0 w1 sb bs (S.tickC i d).S (Z ++ F) c) →
   Calls Tryz.prog 80 #[bpt sb, deadI w1.heap.size] (w1.alloc (deadO pb (.slice a D.length cp))) fun r w2 => r = noneV ∧ StoIs qT B w0 w2 sb bs (S.tickC i d).fin.S F c ∧ w2.cell? ⟨bx, 0, none⟩ = some (bpt sb)) := Lib.hid fun a cp w1 ⟨Z, hz, h2⟩ => by
  have h3 := h2.alloc (deadO pb (.slice a D.length cp))
  have hst := run_start (tm := ⟨.dead i D, deadI w1.heap.size, (w1.heap.size, deadO pb (.slice a D.length cp)) :: Z⟩) (top := none) (r := false) (OT := []) (F := F) h3
   ⟨w1.heap.size, _, _, pb, hb, rfl, rfl, hz⟩ ⟨rfl, rfl⟩
  have eC : (⟨(S.tickC i d).S, [.dead i D], false⟩ : Cf) = S.tickC i d := by rw [hD]; rfl
  have hst' : CfIs qT B w0 ((w1.alloc (deadO pb (.slice a D.length cp))).alloc (.cells #[deadI w1.heap.size] 221)) sb bs none (S.tickC i d) (.slice (some ⟨(w1.alloc (deadO pb (.slice a D.length cp))).heap.size, 0, none⟩) 1 1) F c := eC ▸ hst
  refine (run_any (b := w1.heap.size) rfl hst' ok hK hk hc).mono ?_
  rintro r w2 ⟨rfl, v, h4⟩
  have h5 := run_done h4
  exact ⟨rfl, h5, h5.cell hbx rfl⟩
 generalize S.tickC i d = C at *
 generalize D.length = m at *
 generalize S.now = now at *
 clear h h1 k1 k2 k3 k4 hs e1 hD ok hi hb hK hk hc hbx
 go_enter Tryz.func81, Tryz.ntmps81
 go_wp2_with fail
 go_region_with (first
  | (go_at_call 82; refine cg.out.mono ?_; rintro r w1 ⟨a, cp, rfl, hG, kS, kA⟩)
  | (go_at_call 80; refine (cr.out _ _ _ (by assumption)).mono ?_; rintro r w2 ⟨rfl, h2, kS2⟩))
 all_goals
  replace h2 := Lib.hid h2
  clear hG kS kA kS2 hs0 cg cr
  go_wp2_with fail
  exact bodyPost_end (results_none rfl _ _ _) rfl ⟨rfl, h2.out⟩
def TickJ (qT : Bool) (B : Nat) (w0 : World) (sb : Nat) (bs : List Nat) (S : Sto) (F : List (Nat × Obj)) (c bx : Nat) (Y : List (Nat × Obj)) (i : Nat) (w' : World) : Prop := StoIs qT B w0 w' sb bs (tickN S i) (Y ++ ((bx, boxO sb) :: F)) c
set_option maxHeartbeats 2000000 in
theorem st_tick (h : StoIs qT B w0 w sb bs S F c) (hn0 : -1 ≤ S.now) (hn1 : S.now < 4611686018427387904) (ok : ∀ i d, (tickN S i).L[i]? = some d → RunOk K k ((tickN S i).tickC i d)) (hK : K < 4611686018427387904) (hk : k < 90000) (hc : c ≤ 100000) (hS : tickN S S.L.length = S') :
  Calls Tryz.prog 31 #[bpt sb] w fun e w' => e = noneV ∧ StoIs qT B w0 w' sb bs S' F c := by
 have h1 := h.alloc (boxO sb)
 have hlen := h.len
 obtain ⟨bx, hbx⟩ : ∃ bx, bx = w.heap.size := ⟨_, rfl⟩
 rw [← hbx] at h1
 obtain ⟨slb, xv, v, hs⟩ := h1.see
 have c5 := hs.c5
 have f5 := hs.soft 5
 have h2 := h1.nowS (S.now + 1)
 have cbx : (w.alloc (boxO sb)).cell? ⟨bx, 0, none⟩ = some (bpt sb) := h1.cell List.mem_cons_self rfl
 have cbx2 : ((w.alloc (boxO sb)).setCell ⟨sb, 5, none⟩ (.int .i64 (S.now + 1))).cell? ⟨bx, 0, none⟩ = some (bpt sb) := h2.cell List.mem_cons_self rfl
 have hgo : ∀ (args : Array Value) (w : World), (callFunc 81 args).run Tryz.prog w = .ok (.enter 81 args) w := fun args w => by kernel_rfl
 have h0 : ∀ Y w', StoIs qT B w0 w' sb bs { S with now := S.now + 1 } (Y ++ ((bx, boxO sb) :: F)) c → TickJ qT B w0 sb bs S F c bx Y 0 w' := fun Y w' h' => h'
 have hr : ∀ Y i w', TickJ qT B w0 sb bs S F c bx Y i w' → ∃ O, St B w0 w' (O ++ Y) := by
  intro Y i w' h'
  obtain ⟨O, o1, -⟩ := h'.beside
  exact ⟨O ++ ((bx, boxO sb) :: F), o1.perm (perm_by fun a => by simp only [List.count_append, List.count_cons]; omega)⟩
 have hst : ∀ Y (i b : Nat) w', bs[i]? = some b → TickJ qT B w0 sb bs S F c bx Y i w' → Calls Tryz.prog 81 (#[bpt b] ++ #[bpt bx]) w' fun e w2 => e = noneV ∧ TickJ qT B w0 sb bs S F c bx Y (i + 1) w2 := fun Y i b w' hb hJ => by
  have hl := (List.getElem?_eq_some_iff.1 hb).1
  have hJ' : StoIs qT B w0 w' sb bs (tickN S i) (Y ++ ((bx, boxO sb) :: F)) c := hJ
  rw [hJ'.len] at hl
  have hi := List.getElem?_eq_getElem hl
  generalize (tickN S i).L[i] = d at hi
  refine (tickl_any hJ' (List.mem_append_right _ List.mem_cons_self) hi hb (ok i d hi) hK hk hc).mono ?_
  rintro e w2 ⟨rfl, h'⟩
  refine ⟨rfl, ?_⟩
  rw [← tick1_is hi] at h'
  exact h'
 have ce0 := seach_any (g := 81) (cb := #[bpt bx]) (J := TickJ qT B w0 sb bs S F c bx) hgo h2 h0 hr hst
 have ce : Hid (Calls Tryz.prog 66 #[bpt sb, .func (.func 81) #[] #[bpt bx]] ((w.alloc (boxO sb)).setCell ⟨sb, 5, none⟩ (.int .i64 (S.now + 1))) fun e w' => e = noneV ∧ StoIs qT B w0 w' sb bs S' F c) := by
  refine Lib.hid (ce0.mono ?_)
  rintro e w' ⟨rfl, Y, h'⟩
  have h'' : StoIs qT B w0 w' sb bs (tickN S bs.length) (Y ++ ((bx, boxO sb) :: F)) c := h'
  rw [hlen, hS] at h''
  exact ⟨rfl, h''.sub ((List.sublist_cons_self _ F).trans (List.sublist_append_right Y _))⟩
 have hw1 : IntKind.i64.wrap (S.now + 1) = S.now + 1 := by rw [IntKind.wrap_i64]; omega
 have hw2 : wrap64 (S.now + 1) = S.now + 1 := by unfold wrap64; omega
 subst hbx
 clear h h1 h2 hs hlen ce0 h0 hr hst hgo hS ok hK hk hc hn0 hn1
 go_enter Tryz.func31, Tryz.ntmps31
 go_wp2_with fail
 refine ce.out.mono ?_
 rintro e w1 ⟨rfl, h3⟩
 replace h3 := Lib.hid h3
 clear ce cbx cbx2 c5 f5
 go_wp2_with fail
 exact bodyPost_end (results_none rfl _ _ _) rfl ⟨rfl, h3.out⟩
end
end Go.Proofs.YtknjamfjonapiaaGreatDoor
namespace Go.Proofs.YtknjamfjonapiaaGreatDoor
open Go.RowKit
set_option linter.unusedVariables false
set_option maxRecDepth 100000
abbrev oT (u : Nat) : Opt := ⟨[], [], 0, u, 0, 0⟩
def atF (t u : Nat) : Nat := if 0 < t then (if 0 < u ∧ u < t then u else t) else u
def tiE (t u : Nat) : Ent := ⟨1, 0, 0, [], [113], 0, t, atF t u, false, 0⟩
def tiS (u : Nat) (M : List Ent) (last now : Int) : Sto := ⟨SV.new 1000, [], [], [⟨[113], 1, 0, oT u, M, [], 0⟩], 1, last, now⟩
theorem ti_queue (u : Nat) (h : u < 20) : (newS 1000).queue [113] (oT u) 0 = (tiS u [] 0 0, 0, 0, 0) := by
 obtain rfl | rfl | rfl | rfl | rfl | rfl | rfl | rfl | rfl | rfl | rfl | rfl | rfl | rfl | rfl | rfl | rfl | rfl | rfl | rfl : u = 0 ∨ u = 1 ∨ u = 2 ∨ u = 3 ∨ u = 4 ∨ u = 5 ∨ u = 6 ∨ u = 7 ∨ u = 8 ∨ u = 9 ∨ u = 10 ∨ u = 11 ∨ u = 12 ∨ u = 13 ∨ u = 14 ∨ u = 15 ∨ u = 16 ∨ u = 17 ∨ u = 18 ∨ u = 19 := by omega
 all_goals kernel_rfl
abbrev tiX (t : Nat) : Ent := ⟨0, 0, 0, [], [113], 0, t, 0, false, 0⟩
theorem ti_for (t u : Nat) (ht : t < 20) (hu : u < 20) : forE (atI (tiX t) 1) (oT u) 0 = tiE t u := by
 have h1 : shorter (t : Int) (u : Int) = atF t u := by
  unfold shorter atF
  by_cases a : 0 < t
  ·rw [if_pos (by omega), if_pos a]
   by_cases b : 0 < u ∧ u < t
   ·rw [if_pos (by omega), if_pos b]
   ·rw [if_neg (by omega), if_neg b]
  ·rw [if_neg (by omega), if_neg a]
   by_cases b : 0 < u
   ·rw [if_pos (by omega)]
   ·rw [if_neg (by omega)]; omega
 have h2 : atF t u < 20 := by unfold atF; split <;> (try split) <;> omega
 unfold forE
 show (⟨1, 0, 0, [], [113], max (min 0 0) 0, (t : Int), if 0 < shorter (t : Int) (u : Int) then IntKind.i64.wrap (0 + shorter (t : Int) (u : Int)) else 0, false, 0⟩ : Ent) = tiE t u
 rw [h1]
 unfold tiE
 by_cases b : 0 < atF t u
 ·rw [if_pos (by omega), show IntKind.i64.wrap (0 + (atF t u : Int)) = atF t u by rw [IntKind.wrap_i64]; omega]
  rfl
 ·have : atF t u = 0 := by omega
  rw [this]
  rfl
theorem tiS_A (u : Nat) (M : List Ent) (l k : Int) : (tiS u M l k).A.length ≤ 40 := Nat.zero_le _
theorem ti_tos (u : Nat) (M : List Ent) (l k : Int) : (tiS u M l k).tos [] [113] = [0] := by kernel_rfl
theorem ti_ready (u : Nat) (M : List Ent) (l k : Int) : (tiS u M l k).readyOf [113] = M := by kernel_rfl
theorem ti_put (t u : Nat) (ht : t < 20) (hu : u < 20) : putF (oT u) [] (forE (atI (tiX t) 1) (oT u) 0) = (true, [], [tiE t u]) := by
 rw [ti_for t u ht hu]
 have hok : putOk [] (tiE t u) = true := by
  unfold putOk
  exact decide_eq_true ⟨(fun h => nomatch h), (by show (0 : Int) ≤ 0; omega), (by show (0 : Int) ≤ 3; omega)⟩
 have hlim : limitO (oT u) = 60 := by
  unfold limitO
  rw [if_neg (by show ¬ ((1 : Int) ≤ 0 ∧ _); omega)]
 unfold putF
 rw [if_neg (by rw [hok]; decide), if_pos (by rw [hlim]; decide)]
 rfl
theorem ti_pub (t u : Nat) (ht : t < 20) (hu : u < 20) : (tiS u [] 0 0).publish (tiX t) = (tiS u [tiE t u] 1 0, true, 1) := by
 have hc : (tiS u [] 0 0).pubC (tiX t) = ⟨tiS u [tiE t u] 1 0, [], false⟩ := by
  have hm : (tiS u [] 0 0).mail true (tiX t) = .mail true (atI (tiX t) 1) [0] := by
   show Tsk.mail true _ ((tiS u [] 0 0).tos [] [113]) = _
   rw [ti_tos]; rfl
  unfold Sto.pubC
  rw [hm, fin_step (tiS_A _ _ _ _) (by simp)]
  rw [put_step (S := (tiS u [] 0 0).born) (p := ⟨[113], 1, 0, oT u, [], [], 0⟩) rfl (ti_put t u ht hu) rfl, fin_step (tiS_A u [tiE t u] 1 0) (by simp), dead_none, fin_nil rfl]
  rfl
 unfold Sto.publish
 rw [hc]
 show (_, _, (((tiS u [] 0 0).tos [] [113]).length : Int)) = _
 rw [ti_tos]
 rfl
theorem ti_die (t u : Nat) : dieF (tiE t u) = 264203 := by
 have : dnF 3 = 264203 := by kernel_rfl
 exact this
theorem ti_fit (t u : Nat) : FitE (tiE t u) := ⟨(by decide : ([] : List UInt8).length ≤ 1000), (by decide : ([113] : List UInt8).length ≤ 1000), (by decide : (-9223372036854775808 : Int) ≤ 0)⟩
theorem ti_row (t u : Nat) : RkOk [tiE t u] := by
 have := RkOk.nil.ins (e := tiE t u) ⟨(by decide : (0 : Int) ≤ 0), (by decide : (0 : Int) ≤ 3)⟩ (fun x hx => nomatch hx)
 exact this
theorem ti_fitq {t u : Nat} {M : List Ent} (h : M = [] ∨ M = [tiE t u]) : FitQ 60 ⟨[113], 1, 0, oT u, M, [], 0⟩ := by
 refine ⟨⟨(by decide : ([] : List UInt8).length ≤ 1000), (by decide : ([] : List UInt8).length ≤ 1000)⟩, fun e he => ?_, ?_, ?_⟩
 ·rcases h with rfl | rfl
  ·exact nomatch he
  ·have he' : e ∈ [tiE t u] := he
   rw [List.mem_singleton] at he'
   subst he'
   exact ti_fit t u
 ·rcases h with rfl | rfl
  ·exact Nat.zero_le _
  ·show 1 ≤ 60; omega
 ·rcases h with rfl | rfl
  ·exact RkOk.nil
  ·exact ti_row t u
theorem ti_run (t u : Nat) : RunOk 4611686018427387903 60 ⟨(tiS u [] 0 0).born, [(tiS u [] 0 0).mail true (tiX t)], false⟩ := by
 have hm : (tiS u [] 0 0).mail true (tiX t) = .mail true (atI (tiX t) 1) [0] := by
  show Tsk.mail true _ ((tiS u [] 0 0).tos [] [113]) = _
  rw [ti_tos]; rfl
 rw [hm]
 have hd : dieF (atI (tiX t) 1) = 264203 := by
  have : dnF 3 = 264203 := by kernel_rfl
  exact this
 have hp : Cf.pot ⟨(tiS u [] 0 0).born, [.mail true (atI (tiX t) 1) [0]], false⟩ ≤ 40000000 := by
  have e : Cf.pot ⟨(tiS u [] 0 0).born, [.mail true (atI (tiX t) 1) [0]], false⟩ = (0 + 0) + ((1 + 1 * (dieF (atI (tiX t) 1) + 2)) + 0) := rfl
  rw [e, hd]
  omega
 refine ⟨⟨Nat.zero_le _, Nat.le_refl _, ?_, (fun x hx => nomatch hx), ?_, ?_⟩, by omega, ?_⟩
 ·show (1 : Int) + _ ≤ _
  omega
 ·intro p hp
  have hp' : p ∈ [(⟨[113], 1, 0, oT u, [], [], 0⟩ : Plq)] := hp
  rw [List.mem_singleton] at hp'
  subst hp'
  exact ti_fitq (t := t) (.inl rfl)
 ·intro x hx
  rw [List.mem_singleton] at hx
  subst hx
  refine ⟨⟨(by decide : ([] : List UInt8).length ≤ 1000), (by decide : ([113] : List UInt8).length ≤ 1000), (by decide : (-9223372036854775808 : Int) ≤ 0)⟩, fun i hi => ?_⟩
  rw [List.mem_singleton] at hi
  subst hi
  show 0 < 1
  omega
 ·show (-1 : Int) ≤ 1
  omega
def Sto.tickN0 (S : Sto) : Sto := { S with now := S.now + 1 }
def tiM (t u i : Nat) : List Ent := if atF t u = 0 ∨ i < atF t u then [tiE t u] else []
def tiN (t u i : Nat) : Sto := tiS u (tiM t u i) 1 i
theorem ti_gone (t u i : Nat) : goneE (tiE t u) i = !decide (atF t u = 0 ∨ i < atF t u) := by
 unfold goneE
 show decide (0 < (atF t u : Int) ∧ (atF t u : Int) ≤ i) = _
 by_cases h : atF t u = 0 ∨ i < atF t u
 ·rw [decide_eq_true h, decide_eq_false (by omega)]; rfl
 ·rw [decide_eq_false h, decide_eq_true (by omega)]; rfl
abbrev tiD (t u i : Nat) : Plq := ⟨[113], 1, 0, oT u, tiM t u i, [], 0⟩
theorem ti_tickC (t u i : Nat) : ((tiN t u i).tickN0).tickC 0 (tiD t u i) = ⟨tiN t u (i + 1), [.dead 0 (if (atF t u = 0 ∨ i < atF t u) ∧ ¬ (atF t u = 0 ∨ i + 1 < atF t u) then [tiE t u] else [])], false⟩ := by
 have e : ((i + 1 : Nat) : Int) = (i : Int) + 1 := by omega
 have hg := ti_gone t u (i + 1)
 rw [e] at hg
 have hL : ∀ M, ((tiN t u i).tickN0).setM 0 (tiD t u i) M = tiS u M 1 ((i : Int) + 1) := fun M => rfl
 unfold Sto.tickC
 rw [hL]
 show (⟨tiS u ((tiM t u i).filter fun x => !goneE x ((i : Int) + 1)) 1 ((i : Int) + 1), [.dead 0 ((tiM t u i).filter fun x => goneE x ((i : Int) + 1))], false⟩ : Cf) = _
 unfold tiN
 rw [e]
 by_cases h1 : atF t u = 0 ∨ i < atF t u
 ·by_cases h2 : atF t u = 0 ∨ i + 1 < atF t u
  ·rw [decide_eq_true h2] at hg
   unfold tiM
   rw [if_pos h1, if_pos h2, if_neg (by omega)]
   simp [List.filter, hg]
  ·rw [decide_eq_false h2] at hg
   unfold tiM
   rw [if_pos h1, if_neg h2, if_pos ⟨h1, h2⟩]
   simp [List.filter, hg]
 ·unfold tiM
  rw [if_neg h1, if_neg (by omega), if_neg (by omega)]
  rfl
theorem ti_fin (t u : Nat) (S : Sto) (hS : S.A.length ≤ 40) (hL : S.L[0]? = some (tiD t u 0) ∨ ∃ M, S.L[0]? = some ⟨[113], 1, 0, oT u, M, [], 0⟩) (W : List Ent) (hW : W = [] ∨ W = [tiE t u]) : (Cf.mk S [.dead 0 W] false).fin.S = S := by
 rcases hW with rfl | rfl
 ·rw [fin_step hS (by simp), dead_none, fin_nil rfl]
 ·obtain ⟨M, hM⟩ : ∃ M, S.L[0]? = some ⟨[113], 1, 0, oT u, M, [], 0⟩ := hL.elim (fun h => ⟨_, h⟩) id
  have h1 : stepF ⟨S, [.dead 0 [tiE t u]], false⟩ = ⟨S, [.owed 0], false⟩ := by
   have hl : (S.L[0]?).bind (fun p => S.letter p.o (tiE t u)) = none := by
    rw [hM]
    show S.letter (oT u) (tiE t u) = none
    unfold Sto.letter
    rw [if_pos (.inl ⟨rfl, rfl⟩)]
   simp only [stepF, hl]
   rfl
  rw [fin_step hS (by simp), h1, fin_step hS (by simp)]
  show (Cf.mk (S.letGo 0) [] false).fin.S = S
  rw [fin_nil rfl]
  rfl
theorem ti_tick (t u i : Nat) : tickN (tiN t u i) (tiN t u i).L.length = tiN t u (i + 1) := by
 show ((tiN t u i).tickN0).tick1 0 = _
 rw [tick1_is (d := tiD t u i) rfl, ti_tickC]
 refine ti_fin t u _ (Nat.zero_le _) (.inr ⟨_, rfl⟩) _ ?_
 split
 ·exact .inr rfl
 ·exact .inl rfl
theorem ti_tickok (t u i : Nat) (hi : i < 1000) : ∀ j d, (tickN (tiN t u i) j).L[j]? = some d → RunOk 4611686018427387903 60 ((tickN (tiN t u i) j).tickC j d) := by
 intro j d hd
 have hlen : ∀ j, (tickN (tiN t u i) j).L.length = 1 := by
  intro j
  induction j with
  | zero => rfl
  | succ j ih =>
   show ((tickN (tiN t u i) j).tick1 j).L.length = 1
   unfold Sto.tick1
   cases hj : (tickN (tiN t u i) j).L[j]? with
   | none => exact ih
   | some d =>
    cases j with
    | succ j => rw [List.getElem?_eq_none (by omega)] at hj; cases hj
    | zero =>
     have hd : d = tiD t u i := by
      have h2 : some (tiD t u i) = some d := hj
      exact (Option.some.inj h2).symm
     subst hd
     have := ti_tickC t u i
     have h3 : (((tiN t u i).tickN0).tickC 0 (tiD t u i)).fin.S.L.length = 1 := by
      rw [this, ti_fin t u _ (Nat.zero_le _) (.inr ⟨_, rfl⟩) _ (by split; exact .inr rfl; exact .inl rfl)]
      rfl
     exact h3
 cases j with
 | succ j => rw [List.getElem?_eq_none (by rw [hlen]; omega)] at hd; cases hd
 | zero =>
  have hd' : d = tiD t u i := by
   have h2 : some (tiD t u i) = some d := hd
   exact (Option.some.inj h2).symm
  subst hd'
  have hC := ti_tickC t u i
  show RunOk _ _ (((tiN t u i).tickN0).tickC 0 (tiD t u i))
  rw [hC]
  have hW : ∃ W, W = (if (atF t u = 0 ∨ i < atF t u) ∧ ¬ (atF t u = 0 ∨ i + 1 < atF t u) then [tiE t u] else []) := ⟨_, rfl⟩
  obtain ⟨W, hW⟩ := hW
  rw [← hW]
  have hW2 : W = [] ∨ W = [tiE t u] := by
   rw [hW]
   split
   ·exact .inr rfl
   ·exact .inl rfl
  have hM2 : tiM t u (i + 1) = [] ∨ tiM t u (i + 1) = [tiE t u] := by
   unfold tiM
   split
   ·exact .inr rfl
   ·exact .inl rfl
  have hone : ∀ M : List Ent, M = [] ∨ M = [tiE t u] → sumE dieF M ≤ 264203 := by
   rintro M (rfl | rfl)
   ·exact Nat.zero_le _
   ·rw [sumE_cons, ti_die, sumE_nil]
    omega
  have hp : Cf.pot ⟨tiN t u (i + 1), [.dead 0 W], false⟩ ≤ 40000000 := by
   have e : Cf.pot ⟨tiN t u (i + 1), [.dead 0 W], false⟩ = (sumE dieF (tiM t u (i + 1)) + 0) + ((1 + sumE dieF W) + 0) := rfl
   have := hone _ hM2
   have := hone _ hW2
   rw [e]
   omega
  refine ⟨⟨Nat.zero_le _, Nat.le_refl _, ?_, (fun x hx => nomatch hx), ?_, ?_⟩, by omega, ?_⟩
  ·show (1 : Int) + _ ≤ _
   omega
  ·intro p hp
   have hp' : p ∈ [tiD t u (i + 1)] := hp
   rw [List.mem_singleton] at hp'
   subst hp'
   exact ti_fitq hM2
  ·intro x hx
   rw [List.mem_singleton] at hx
   subst hx
   refine ⟨fun y hy => ?_, by show 0 < 1; omega⟩
   rcases hW2 with rfl | rfl
   ·exact nomatch hy
   ·rw [List.mem_singleton] at hy
    subst hy
    exact ti_fit t u
  ·show (-1 : Int) ≤ 1
   omega
end Go.Proofs.YtknjamfjonapiaaGreatDoor
