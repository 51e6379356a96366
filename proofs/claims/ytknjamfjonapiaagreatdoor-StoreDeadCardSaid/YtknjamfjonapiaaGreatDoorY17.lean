import Derived.Test.YtknjamfjonapiaaGreatDoorY16
import Derived.Test.YtknjamfjonapiaaGreatDoorY07
import Derived.Test.YtknjamfjonapiaaGreatDoorY01
import Derived.LaidEqlPtr
import Derived.Test.YtknjamfjonapiaaGreatDoorY05
import Derived.Test.YtknjamfjonapiaaGreatDoorY12
import Derived.Deep.LoopGhost
import Derived.RegionTactic
import Derived.Test.YtknjamfjonapiaaGreatDoorY15
namespace Go.Proofs.YtknjamfjonapiaaGreatDoor
open Go.RowKit
set_option linter.unusedVariables false
set_option maxRecDepth 100000
section
variable {B : Nat} {w0 w w' : World} {F T R Q S : List (Nat × Obj)} {tb xb c c' pb : Nat} {M : Prs} {L X Y : List Pl} {p p' : Pl} {k : Ky} {A : List Bnd} {P : List Plc} {v tv : Value} {n : List UInt8} {keys : List (List UInt8)}
theorem findL_here {i : Nat} (h : ∀ q ∈ L.take i, q.d.1 ≠ n) (hx : L[i]? = some p) (hp : p.d.1 = n) : findL L n = some p := by
 have hl := (List.getElem?_eq_some_iff.1 hx).1
 have e : L = L.take i ++ p :: L.drop (i + 1) := by
  have h1 := (List.take_append_drop i L).symm
  have h2 : L.drop i = p :: L.drop (i + 1) := by
   rw [List.drop_eq_getElem_cons hl]
   congr 1
   exact (List.getElem?_eq_some_iff.1 hx).2
  rw [h2] at h1
  exact h1
 unfold findL
 rw [e, List.find?_append, List.find?_eq_none.2 (by simpa using h)]
 simp [hp]
theorem not_here {i : Nat} (h : ∀ q ∈ L.take i, q.d.1 ≠ n) (hx : L[i]? = some p) (hp : p.d.1 ≠ n) : ∀ q ∈ L.take (i + 1), q.d.1 ≠ n := by
 rw [List.take_add_one, hx]
 intro q hq
 rcases List.mem_append.1 hq with hq | hq
 ·exact h q hq
 ·simp at hq
  subst hq
  exact hp
def XFindAt (w : World) (xb : Nat) (L : List Pl) (n : List UInt8) (g : Nat) (a' : Act) (w' : World) : Prop :=
 ∃ i : Nat, i + g = L.length ∧ (∀ q ∈ L.take i, q.d.1 ≠ n) ∧ Fr 34 [(0, bpt xb), (1, tx n), (5, .int .i64 i)] a' ∧ w' = w
set_option maxHeartbeats 1000000 in
theorem xfind_any (h : ExIn L v tv R Q A c) (hst : St B w0 w (exO xb v tv L R Q ++ F)) (n : List UInt8) : Calls Tryz.prog 124 #[bpt xb, tx n] w fun e w' => e = .returned (ptrF L n) ∧ w' = w := by
 obtain ⟨c0, -, -, -⟩ := hst.ex
 obtain ⟨a, cap, rfl, hrows⟩ := h.form hst
 have hpl := Lib.hid (fun p hp => (hst.place (p := p) hp).1)
 replace hrows := Lib.hid hrows
 have few := h.fine.few
 rw [List.length_map] at few
 obtain ⟨ans, ha⟩ : ∃ ans, ans = ptrF L n := ⟨_, rfl⟩
 rw [← ha]
 replace ha := Lib.hid ha
 clear h hst
 go_enter Tryz.func124, Tryz.ntmps124
 go_wp2_with fail
 refine wp_scope_ghost 0 (XFindAt w xb L n) rfl ?_ ?_
 ·rintro g a' w' ⟨i, hi, hno, hfr, rfl⟩
  obtain ⟨q, rfl, hl'⟩ := hfr.lit
  clear hfr
  simp only [List.mem_cons, List.not_mem_nil, or_false, forall_eq_or_imp, forall_eq] at hl'
  obtain ⟨f0, f1, f5⟩ := hl'
  simp only [List.range, List.range.loop, List.map, f0, f1, f5]
  clear f0 f1 f5
  have hi0 : (0 : Int) ≤ i := by omega
  by_cases hlt : i < L.length
  ·have hx : L[i]? = some L[i] := List.getElem?_eq_getElem hlt
   have hi1 : (i : Int) < L.length := by omega
   have hne : ((i : Int) == L.length) = false := by rw [beq_eq_false_iff_ne]; omega
   generalize L[i] = p at hx
   obtain ⟨g1, o1, rfl, k1⟩ := hrows.out i p hx
   have k2 := hpl.out p (List.mem_of_getElem? hx)
   by_cases hp : p.d.1 = n
   ·obtain rfl : ans = bpt p.b := by rw [ha.out, ptrF, findL_here hno hx hp]; rfl
    rw [hp] at k2
    clear hno hx hp hpl hrows ha
    go_wp2_with fail
    simp only [Exit.jump]
    go_ret
    exact ⟨rfl, rfl⟩
   ·have hpb : (p.d.1 == n) = false := by simpa using hp
    have nxt := Lib.hid (not_here hno hx hp)
    generalize p.d.1 = m at *
    clear hno hx hp hpl hrows ha
    go_wp2_with fail
    refine wp_goto ?_
    exact ⟨rfl, g - 1, by omega, i + 1, by omega, nxt.out, ⟨rfl, rfl, by simp⟩, rfl⟩
  ·obtain rfl : i = L.length := by omega
   rw [List.take_of_length_le (Nat.le_refl _)] at hno
   obtain rfl : ans = .pointer none := by rw [ha.out, ptrF, findL_none.2 hno]; rfl
   clear hno hpl hrows ha
   go_wp2_with fail
   simp only [Exit.jump]
   go_ret
   exact ⟨rfl, rfl⟩
 ·intro H
  clear hpl hrows ha
  go_wp2_with fail
  refine wp_label ?_
  go_step
  go_step
  exact H L.length _ _ ⟨0, by omega, by simp, ⟨rfl, rfl, by simp⟩, rfl⟩
def declaredR (L : List Pl) (n : List UInt8) : Value × Int := if n = [] then (.pointer none, 403) else match findL L n with | none => (.pointer none, 404) | some p => (bpt p.b, 0)
theorem xdeclared_any (h : ExIn L v tv R Q A c) (hst : St B w0 w (exO xb v tv L R Q ++ F)) (n : List UInt8) :
  Calls Tryz.prog 143 #[bpt xb, tx n] w fun e w' => e = .returned (.tuple #[(declaredR L n).1, .int .i64 (declaredR L n).2]) ∧ w' = w := by
 have c1 := Lib.hid (xfind_any h hst n)
 clear h hst
 by_cases hn : n = []
 ·subst hn
  rw [declaredR, if_pos rfl]
  go_enter Tryz.func143, Tryz.ntmps143
  go_wp2_with fail
  go_ret2
  exact ⟨rfl, rfl⟩
 have h0B : (n == []) = false := by simpa using hn
 have h0C : n.isEmpty = false := by simpa using hn
 rw [declaredR, if_neg hn]
 unfold ptrF at c1
 cases hf : findL L n with
 | none =>
  rw [hf] at c1
  simp only [Option.map_none] at c1
  go_enter Tryz.func143, Tryz.ntmps143
  go_wp2_with fail
  refine c1.out.mono ?_
  rintro e w1 ⟨rfl, rfl⟩
  go_wp2_with fail
  go_ret2
  exact ⟨rfl, rfl⟩
 | some p =>
  rw [hf] at c1
  simp only [Option.map_some] at c1
  dsimp only
  generalize p.b = pb at *
  go_enter Tryz.func143, Tryz.ntmps143
  go_wp2_with fail
  refine c1.out.mono ?_
  rintro e w1 ⟨rfl, rfl⟩
  go_wp2_with fail
  go_ret2
  exact ⟨rfl, rfl⟩
theorem xhas_any (h : ExIn L v tv R Q A c) (hst : St B w0 w (exO xb v tv L R Q ++ F)) (n : List UInt8) :
  Calls Tryz.prog 64 #[bpt xb, tx n] w fun e w' => e = .returned (.bool (hasX (L.map Pl.d) n)) ∧ w' = w := by
 have c1 := Lib.hid (xfind_any h hst n)
 clear h hst
 rw [hasX, findL_d]
 by_cases hn : n = []
 ·subst hn
  go_enter Tryz.func64, Tryz.ntmps64
  go_wp2_with fail
  go_ret
  exact ⟨rfl, rfl⟩
 have h0B : (n == []) = false := by simpa using hn
 have h0C : n.isEmpty = false := by simpa using hn
 rw [h0B, Bool.false_or]
 unfold ptrF at c1
 cases hf : findL L n with
 | none =>
  rw [hf] at c1
  simp only [Option.map_none] at c1
  go_enter Tryz.func64, Tryz.ntmps64
  go_wp2_with fail
  refine c1.out.mono ?_
  rintro e w1 ⟨rfl, rfl⟩
  go_wp2_with fail
  go_ret
  exact ⟨rfl, rfl⟩
 | some p =>
  rw [hf] at c1
  simp only [Option.map_some] at c1
  generalize p.b = pb at *
  go_enter Tryz.func64, Tryz.ntmps64
  go_wp2_with fail
  refine c1.out.mono ?_
  rintro e w1 ⟨rfl, rfl⟩
  go_wp2_with fail
  go_ret
  exact ⟨rfl, rfl⟩
end
end Go.Proofs.YtknjamfjonapiaaGreatDoor
namespace Go.Proofs.YtknjamfjonapiaaGreatDoor
open Go.RowKit
set_option linter.unusedVariables false
set_option maxRecDepth 100000
section
variable {B : Nat} {w0 w w' : World} {F T R Q S : List (Nat × Obj)} {tb xb c c' pb : Nat} {M : Prs} {L X Y : List Pl} {p p' : Pl} {k : Ky} {A : List Bnd} {P : List Plc} {v tv u : Value} {n : List UInt8} {keys : List (List UInt8)}
def QueuesAt (w : World) (rv : Value) (L : List Bnd) (g : Nat) (a' : Act) (w' : World) : Prop :=
 ∃ (i : Nat) (u : Value) (S : List (Nat × Obj)), Fr 28 [(0, rv), (3, u), (4, .int .i64 i)] a' ∧ i + g = L.length ∧ TssIs u (onceL [] ((L.take i).map (·.2.1))) S ∧ St w.heap.size w w' S
set_option maxHeartbeats 4000000 in
theorem queues_any {L : List Bnd} (hv : ReadBs w v L) (hL : L.length ≤ 10000) (hf : ∀ b ∈ L, b.2.1.length ≤ maxLen) : Calls Tryz.prog 208 #[v] w (OnceR w (onceL [] (L.map (·.2.1)))) := by
 obtain ⟨a, cap, rfl, -⟩ := id hv
 have hr := Lib.hid (fun w' hb => hv.below (w' := w') hb)
 replace hf := Lib.hid hf
 clear hv
 go_enter Tryz.func208, Tryz.ntmps208
 go_wp2_with fail
 refine wp_scope_ghost 0 (QueuesAt w (.slice a L.length cap) L) rfl ?_ ?_
 ·rintro n a' w' ⟨i, u, S, hfr, hi, hs, hst⟩
  obtain ⟨q, rfl, hl'⟩ := hfr.lit
  clear hfr
  simp only [List.mem_cons, List.not_mem_nil, or_false, forall_eq_or_imp, forall_eq] at hl'
  obtain ⟨f0, f3, f4⟩ := hl'
  simp only [List.range, List.range.loop, List.map, f0, f3, f4]
  clear f0 f3 f4
  have hi0 : (0 : Int) ≤ i := by omega
  have hlen : (onceL [] ((L.take i).map (·.2.1))).length ≤ 10000 := by
   have := onceL_len [] ((L.take i).map (·.2.1))
   rw [List.length_map, List.length_take, List.length_nil] at this
   omega
  by_cases hlt : i < L.length
  ·have hi1 : (i : Int) < L.length := by omega
   have hiB : ((i : Int) == L.length) = false := by rw [beq_eq_false_iff_ne]; omega
   have hx : L[i]? = some L[i] := List.getElem?_eq_getElem hlt
   generalize L[i] = x at hx
   have stp : onceL [] ((L.take (i + 1)).map (·.2.1)) = onceS (onceL [] ((L.take i).map (·.2.1))) x.2.1 := by rw [map_step hx, onceL_snoc]
   obtain ⟨a1, c1, e, hcells⟩ := hr.out w' hst.below
   cases e
   obtain ⟨b1, o1, rfl, k1, k2, k3⟩ := hcells i x hx
   have hml : ∀ y ∈ onceL [] ((L.take i).map (·.2.1)), y.length ≤ maxLen := by
    intro y hy
    rcases (onceL_mem _ _ _).1 hy with h | h
    ·simp at h
    ·obtain ⟨b, hb, rfl⟩ := List.mem_map.1 h
     exact hf.out b (List.mem_of_mem_take hb)
   generalize onceL [] ((L.take i).map (·.2.1)) = m at *
   have cn := Lib.hid (containsS_any (TssIs.read (X := []) hs hst hml) (by omega) x.2.1)
   by_cases hin : x.2.1 ∈ m
   ·rw [decide_eq_true hin] at cn
    rw [onceS, if_pos hin] at stp
    have fin : Hid (∀ a', Fr 28 [(0, .slice (some ⟨b1, o1, none⟩) L.length cap), (3, u), (4, .int .i64 ((i + 1 : Nat) : Int))] a' → ∃ m, m < n ∧ QueuesAt w (.slice (some ⟨b1, o1, none⟩) L.length cap) L m a' w') :=
     Lib.hid fun a' hf => ⟨n - 1, by omega, i + 1, _, S, hf, by omega, by rw [stp]; exact hs, hst⟩
    obtain ⟨au, cu, rfl⟩ := hs.form
    obtain ⟨x1, x2, x3⟩ := x
    simp only at k1 k2 k3
    generalize m.length = q0 at *
    clear hs hst hx stp hlen hr hml hin
    go_wp2_with fail
    refine cn.out.mono ?_
    rintro e w3 ⟨rfl, rfl⟩
    go_wp2_with fail
    refine wp_goto ?_
    exact ⟨rfl, fin.out _ ⟨rfl, rfl, by simp⟩⟩
   ·rw [decide_eq_false hin] at cn
    rw [onceS, if_neg hin] at stp
    obtain ⟨a2, cap2, W2, F2, hrun, hs2, hst2⟩ := TssIs.append (X := []) hs hst x.2.1 (by omega)
    have fin : Hid (∀ a', Fr 28 [(0, .slice (some ⟨b1, o1, none⟩) L.length cap), (3, .slice a2 (m.length + 1) cap2), (4, .int .i64 ((i + 1 : Nat) : Int))] a' → ∃ m, m < n ∧ QueuesAt w (.slice (some ⟨b1, o1, none⟩) L.length cap) L m a' W2) :=
     Lib.hid fun a' hf => ⟨n - 1, by omega, i + 1, _, F2, hf, by omega, by rw [stp]; exact hs2, hst2⟩
    obtain ⟨au, cu, rfl⟩ := hs.form
    obtain ⟨x1, x2, x3⟩ := x
    simp only at k1 k2 k3 hrun
    generalize m.length = q0 at *
    clear hs hst hx stp hlen hr hml hin hs2 hst2
    go_wp2_with fail
    refine cn.out.mono ?_
    rintro e w3 ⟨rfl, rfl⟩
    go_wp2_with (at_builtin; refine wpList_append_go rfl (.tmp 18) (.tmp 24) 47 47 rfl _ _ rfl rfl hrun ?_)
    refine wp_goto ?_
    exact ⟨rfl, fin.out _ ⟨rfl, rfl, by simp⟩⟩
  ·obtain rfl : i = L.length := by omega
   rw [List.take_of_length_le (Nat.le_refl _)] at hs
   have fin : Hid (OnceR w (onceL [] (L.map (·.2.1))) (.returned u) w') := Lib.hid ⟨u, S, rfl, hs, hst⟩
   obtain ⟨au, cu, rfl⟩ := hs.form
   clear hs hst hr hlen
   go_wp2_with fail
   simp only [Exit.jump]
   go_ret
   exact fin.out
 ·intro H
  go_wp2_with fail
  refine wp_label ?_
  go_step
  go_step
  exact H L.length _ _ ⟨0, _, [], ⟨rfl, rfl, by simp⟩, by omega, TssIs.nil, St.start w⟩
theorem newkeys_any (hst : St B w0 w F) : Calls Tryz.prog 202 #[] w fun e w' => ∃ k, e = .returned (bpt k.kb) ∧ KyOk k [] 1 ∧ St B w0 w' (k.objs ++ F) := by
 have c1 := Lib.hid (trnew_any hst)
 clear hst
 go_enter Tryz.func202, Tryz.ntmps202
 go_wp2_with fail
 refine c1.out.mono ?_
 rintro e w1 ⟨tb, rfl, h⟩
 obtain ⟨T, hT, hst⟩ := TrIn.of h
 have fin : Hid (∃ k : Ky, Ending.returned (bpt w1.heap.size) = .returned (bpt k.kb) ∧ KyOk k [] 1 ∧ St B w0 (w1.alloc (.cells #[bpt tb, .slice none 0 0] 277)) (k.objs ++ F)) :=
  Lib.hid ⟨⟨w1.heap.size, tb, .slice none 0 0, [], [], T⟩, rfl, ⟨SlIs.nil, rfl, List.Pairwise.nil, by simp, hT⟩, by
   have := hst.alloc (.cells #[bpt tb, .slice none 0 0] 277)
   exact this⟩
 clear hT hst h c1
 go_wp2_with fail
 go_ret
 exact fin.out
theorem xnew_any (hst : St B w0 w F) : Calls Tryz.prog 123 #[] w fun e w' => e = .returned (bpt w.heap.size) ∧ ExIs B w0 w' w.heap.size [] [] F 1 := by
 have fin : Hid (ExIs B w0 (w.alloc (.cells #[.slice none 0 0, .pointer none] 209)) w.heap.size [] [] F 1) := Lib.hid
  ⟨[], .slice none 0 0, .pointer none, [], [], rfl, ⟨FineX.nil, SlIs.nil, .inl ⟨rfl, rfl, rfl⟩, by simp⟩, hst.alloc _⟩
 clear hst
 go_enter Tryz.func123, Tryz.ntmps123
 go_wp2_with fail
 go_ret
 exact ⟨rfl, fin.out⟩
structure NewPl (p : Pl) (x : Plc) : Prop where
 dat : p.d = x
 has : p.k.isSome = (x.2.1 == 3)
 ky : ∀ k, p.k = some k → KyOk k [] 1
set_option maxHeartbeats 1000000 in
theorem newplace_any (hst : St B w0 w F) (n : List UInt8) (hn : n.length ≤ 140737488351232) (kd bt : Int) :
  Calls Tryz.prog 142 #[tx n, .int .i64 kd, .int .i64 bt] w fun e w' => ∃ p, e = .returned (bpt p.b) ∧ NewPl p (n, kd, autoB bt) ∧ St B w0 w' (p.objs ++ F) := by
 have c1 := Lib.hid (clone_any n w hn)
 have ca := Lib.hid (fun w => auto_any bt w)
 replace hst := Lib.hid hst
 generalize autoB bt = ab at *
 clear hn
 by_cases hk : kd = 3
 ·subst hk
  go_enter Tryz.func142, Tryz.ntmps142
  go_wp2_with fail
  refine c1.out.mono ?_
  rintro e w1 ⟨rfl, hb⟩
  replace hst := Lib.hid (hst.out.grow hb)
  clear c1 hb
  go_wp2_with fail
  refine (ca.out _).mono ?_
  rintro e w2 ⟨rfl, rfl⟩
  have h1 := hst.out.alloc (.cells #[tx n, .int .i64 3, .bool ab, .pointer none] 217)
  have c2 := Lib.hid (newkeys_any h1)
  clear h1 hst
  go_wp2_with fail
  generalize w2.heap.size = pb at *
  refine c2.out.mono ?_
  rintro e w3 ⟨k, rfl, hky, hs3⟩
  have c3 := hs3.cell (b := pb) (i := 3) (List.mem_append_right _ List.mem_cons_self) rfl
  have f3 := hs3.soft (b := pb) (List.mem_append_right _ List.mem_cons_self) 3
  have h4 := hs3.set 3 (bpt k.kb)
  have fin : Hid (∃ p, Ending.returned (bpt pb) = .returned (bpt p.b) ∧ NewPl p (n, 3, ab) ∧ St B w0 (w3.setCell ⟨pb, 3, none⟩ (bpt k.kb)) (p.objs ++ F)) :=
   Lib.hid ⟨⟨pb, (n, 3, ab), some k⟩, rfl, ⟨rfl, rfl, fun k' hk' => by cases hk'; exact hky⟩, by
    refine h4.perm ?_
    exact List.perm_middle⟩
  clear hky hs3 h4 c2
  go_wp2_with fail
  go_ret
  exact fin.out
 ·have hkb : (kd == 3) = false := by simpa using hk
  go_enter Tryz.func142, Tryz.ntmps142
  go_wp2_with fail
  refine c1.out.mono ?_
  rintro e w1 ⟨rfl, hb⟩
  replace hst := Lib.hid (hst.out.grow hb)
  clear c1 hb
  go_wp2_with fail
  refine (ca.out _).mono ?_
  rintro e w2 ⟨rfl, rfl⟩
  have h1 := hst.out.alloc (.cells #[tx n, .int .i64 kd, .bool ab, .pointer none] 217)
  have fin : Hid (∃ p, Ending.returned (bpt w2.heap.size) = .returned (bpt p.b) ∧ NewPl p (n, kd, ab) ∧ St B w0 (w2.alloc (.cells #[tx n, .int .i64 kd, .bool ab, .pointer none] 217)) (p.objs ++ F)) :=
   Lib.hid ⟨⟨w2.heap.size, (n, kd, ab), none⟩, rfl, ⟨rfl, hkb.symm, fun k' hk' => by cases hk'⟩, h1⟩
  clear h1 hst
  go_wp2_with fail
  go_ret
  exact fin.out
theorem St.exSet0 (h : St B w0 w (exO xb v tv L R Q ++ F)) (v' : Value) : St B w0 (w.setCell ⟨xb, 0, none⟩ v') (exO xb v' tv L R Q ++ F) := h.set0 0 v'
theorem St.exSet1 (h : St B w0 w (exO xb v tv L R Q ++ F)) (tv' : Value) : St B w0 (w.setCell ⟨xb, 1, none⟩ tv') (exO xb v tv' L R Q ++ F) := h.set0 1 tv'
theorem exO_tab (Q' : List (Nat × Obj)) : ((exO xb v tv L R Q ++ F) ++ Q').Perm (exO xb v tv L R (Q ++ Q') ++ F) := by
 refine perm_by fun a => ?_
 unfold exO
 simp only [List.count_append, List.count_cons, List.append_assoc, List.cons_append]
 omega
theorem ExIn.retab (h : ExIn L v tv R Q A c) {tv' : Value} {Q' : List (Nat × Obj)} (ht : TaIn tv' A Q') : ExIn L v tv' R Q' A c := ⟨h.fine, h.sl, ht, h.pls⟩
theorem xtable_any (ht : TaIn tv A Q) (hst : St B w0 w (exO xb v tv L R Q ++ F)) :
  Calls Tryz.prog 145 #[bpt xb] w fun e w' => ∃ tb u S, e = .returned (bpt tb) ∧ BnsIs u A S ∧ St B w0 w' (exO xb v (bpt tb) L R ((tb, .cells #[u] 273) :: S) ++ F) := by
 obtain ⟨-, e1, -, f1⟩ := hst.ex
 rcases ht with ⟨rfl, rfl, rfl⟩ | ⟨tb, u, S, rfl, rfl, hu⟩
 ·have c1 := Lib.hid (new_any hst)
  go_enter Tryz.func145, Tryz.ntmps145
  go_wp2_with fail
  generalize w.heap.size = tb at *
  refine c1.out.mono ?_
  rintro e w1 ⟨rfl, u, S, hu, hs1⟩
  have h2 := hs1.perm (exO_tab _)
  obtain ⟨-, e2, -, f2⟩ := h2.ex
  have fin := Lib.hid (h2.exSet1 (bpt tb))
  replace hu := Lib.hid hu
  clear h2 hs1 c1 hst e1 f1
  go_wp2_with fail
  go_ret
  exact ⟨tb, u, S, rfl, hu.out, fin.out⟩
 ·have fin := Lib.hid hst
  replace hu := Lib.hid hu
  clear hst
  go_enter Tryz.func145, Tryz.ntmps145
  go_wp2_with fail
  go_ret
  exact ⟨tb, u, S, rfl, hu.out, fin.out⟩
set_option maxHeartbeats 1000000 in
theorem of_own {L : List Bnd} (h : OneAt 273 w tb v) (hv : ReadBs w v L) (hL : L.length ≤ 10000) (x : List UInt8) : Calls Tryz.prog 216 #[bpt tb, tx x] w (ThoseR w (L.filter fun b => b.1 == x)) := by
 have hb := Lib.hid (new_below w (.cells #[tx x] 9))
 have hq : (w.alloc (.cells #[tx x] 9)).cell? ⟨w.heap.size, 0, none⟩ = some (tx x) := by simp
 have c1 := Lib.hid (those_any (h.below hb.out) (hv.below hb.out) hL (tells_of hq))
 have hmf : ∀ (fn : Fn) (first cap : Array Value) (w : World), (Instr.makeFunc fn first cap).run Tryz.prog w = .ok (.func fn first cap) w := fun _ _ _ _ => rfl
 clear h hv hq
 go_enter Tryz.func216, Tryz.ntmps216
 go_wp2_with fail
 refine c1.out.mono ?_
 rintro e w1 ⟨u, S, rfl, hs, hst⟩
 have fin : Hid (ThoseR w (L.filter fun b => b.1 == x) (.returned u) w1) := Lib.hid ⟨u, S, rfl, hs, St.under hb.out hst⟩
 clear hs hst c1
 go_wp2_with fail
 go_ret
 exact fin.out
theorem mem_tab : (tb, .cells #[u] 273) ∈ exO xb v (bpt tb) L R ((tb, .cells #[u] 273) :: S) ++ F := by
 unfold exO
 simp
theorem St.tabOne (hs : St B w0 w (exO xb v (bpt tb) L R ((tb, .cells #[u] 273) :: S) ++ F)) : OneAt 273 w tb u := hs.get (b := tb) mem_tab
theorem St.tabRead (hs : St B w0 w (exO xb v (bpt tb) L R ((tb, .cells #[u] 273) :: S) ++ F)) (hu : BnsIs u A S) : ReadBs w u A := by
 refine hu.read (A := exO xb v (bpt tb) L R [(tb, .cells #[u] 273)] ++ F) (hs.perm ?_)
 refine perm_by fun a => ?_
 unfold exO
 simp only [List.count_append, List.count_cons, List.append_assoc, List.cons_append, List.count_nil]
 omega
theorem xof_any (ht : TaIn tv A Q) (few : A.length ≤ 40) (hst : St B w0 w (exO xb v tv L R Q ++ F)) (n : List UInt8) :
  Calls Tryz.prog 162 #[bpt xb, tx n] w fun e w' => ∃ u S tv' Q', e = .returned u ∧ BnsIs u (ofB A n) S ∧ TaIn tv' A Q' ∧ St B w0 w' (exO xb v tv' L R Q' ++ (S ++ F)) := by
 have c1 := Lib.hid (xtable_any ht hst)
 clear hst ht
 go_enter Tryz.func162, Tryz.ntmps162
 go_wp2_with fail
 refine c1.out.mono ?_
 rintro e w1 ⟨tb, u, S, rfl, hu, hs1⟩
 have c2 := Lib.hid (of_own hs1.tabOne (hs1.tabRead hu) (by omega) n)
 have fin : Hid (∀ e w', ThoseR w1 (ofB A n) e w' → ∃ u S tv' Q', e = .returned u ∧ BnsIs u (ofB A n) S ∧ TaIn tv' A Q' ∧ St B w0 w' (exO xb v tv' L R Q' ++ (S ++ F))) := Lib.hid fun e w' hT => by
  obtain ⟨u2, S2, rfl, hu2, hs2⟩ := hT
  refine ⟨u2, S2, _, _, rfl, hu2, .inr ⟨tb, u, S, rfl, rfl, hu⟩, (hs1.join hs2).perm ?_⟩
  rw [List.append_assoc]
  exact List.Perm.append_left _ List.perm_append_comm
 clear hu hs1 c1
 go_wp2_with fail
 refine c2.out.mono ?_
 rintro e w2 hT
 obtain ⟨u2, S2, tv2, Q2, rfl, g1, g2, g3⟩ := fin.out _ _ hT
 replace g1 := Lib.hid g1
 replace g2 := Lib.hid g2
 replace g3 := Lib.hid g3
 clear hT fin c2
 go_wp2_with fail
 go_ret
 exact ⟨u2, S2, tv2, Q2, rfl, g1.out, g2.out, g3.out⟩
end
end Go.Proofs.YtknjamfjonapiaaGreatDoor
namespace Go.Proofs.YtknjamfjonapiaaGreatDoor
open Go.RowKit
section
variable {P : Program} (w : World)
end
end Go.Proofs.YtknjamfjonapiaaGreatDoor
namespace Go.Proofs.YtknjamfjonapiaaGreatDoor
open Go.RowKit
set_option linter.unusedVariables false
set_option maxRecDepth 100000
theorem uPls : Tryz.prog.underlying 206 = some (.slice 188) := by kernel_rfl
theorem infPls : (Tryz.prog.info? 188).map (fun i => (i.zero, i.size, i.bytes)) = some (some (.pointer none), 1, 8) := by kernel_rfl
section
variable {B : Nat} {w0 w w' : World} {F T R Q S X : List (Nat × Obj)} {g off n cap i j : Nat} {L : List Pl} {p : Pl} {v : Value} {xs : List Value}
end
end Go.Proofs.YtknjamfjonapiaaGreatDoor
namespace Go.Proofs.YtknjamfjonapiaaGreatDoor
open Go.RowKit
set_option linter.unusedVariables false
set_option maxRecDepth 100000
section
variable {B : Nat} {w0 w w' : World} {F T R Q S : List (Nat × Obj)} {tb xb c c' pb : Nat} {M : Prs} {L X Y : List Pl} {p p' : Pl} {k : Ky} {A : List Bnd} {P : List Plc} {v tv u : Value} {n : List UInt8} {keys : List (List UInt8)}
theorem exO_row (R' : List (Nat × Obj)) : (exO xb v tv L R' Q ++ F).Perm ((((xb, .cells #[v, tv] 209) :: (Q ++ plsO L)) ++ F) ++ R') := by
 refine perm_by fun a => ?_
 unfold exO
 simp only [List.count_append, List.count_cons, List.append_assoc, List.cons_append]
 omega
def nextId (l : List Int) : Int := match l.getLast? with | none => 0 | some i => i + 1
theorem nextId_top {l : List Int} (h : l.Pairwise (· < ·)) (ht : ∀ i ∈ l, 0 ≤ i ∧ i < (c : Int)) : 0 ≤ nextId l ∧ nextId l ≤ c ∧ (∀ i ∈ l, i < nextId l) := by
 unfold nextId
 cases hl : l.getLast? with
 | none =>
  rw [List.getLast?_eq_none_iff] at hl
  subst hl
  exact ⟨by simp, by simp, by simp⟩
 | some x =>
  obtain ⟨ys, rfl⟩ := List.getLast?_eq_some_iff.1 hl
  have h1 := ht x (by simp)
  dsimp only
  refine ⟨by omega, by omega, fun i hi => ?_⟩
  rcases List.mem_append.1 hi with hi | hi
  ·have := (List.pairwise_append.1 h).2.2 i hi x (by simp)
   omega
  ·rw [List.mem_singleton] at hi
   omega
theorem Ky.cells (hst : St B w0 w (k.objs ++ F)) : w.cell? ⟨k.kb, 0, none⟩ = some (bpt k.tb) ∧ w.cell? ⟨k.kb, 1, none⟩ = some k.v ∧ w.frozen? ⟨k.kb, 0, none⟩ = false ∧ w.frozen? ⟨k.kb, 1, none⟩ = false := by
 have hm : (k.kb, .cells #[bpt k.tb, k.v] 277) ∈ k.objs ++ F := List.mem_append_left _ List.mem_cons_self
 exact ⟨hst.cell (b := k.kb) (i := 0) hm rfl, hst.cell (b := k.kb) (i := 1) hm rfl, hst.soft (b := k.kb) hm 0, hst.soft (b := k.kb) hm 1⟩
theorem Ky.idsP : (k.objs ++ F).Perm ((((k.kb, .cells #[bpt k.tb, k.v] 277) :: k.T) ++ F) ++ k.S) := by
 refine perm_by fun a => ?_
 unfold Ky.objs
 simp only [List.count_append, List.count_cons, List.append_assoc, List.cons_append]
 omega
theorem Ky.treeP : (k.objs ++ F).Perm (k.T ++ (((k.kb, .cells #[bpt k.tb, k.v] 277) :: k.S) ++ F)) := by
 refine perm_by fun a => ?_
 unfold Ky.objs
 simp only [List.count_append, List.count_cons, List.append_assoc, List.cons_append]
 omega
theorem KyOk.form (h : KyOk k keys c) (hst : St B w0 w (k.objs ++ F)) : ∃ a cap, k.v = .slice a k.ids.length cap ∧ ∀ (i : Nat) x, k.ids[i]? = some x → ∃ g off, a = some ⟨g, off, none⟩ ∧ w.cell? ⟨g, off + i, none⟩ = some (.int .i64 x) := by
 have h2 := hst.perm Ky.idsP
 have h1 := h.ids
 obtain ⟨a, cap, e, -, -, ha⟩ := h1.form
 refine ⟨a, cap, e, fun i x hx => ?_⟩
 obtain ⟨g, off, rfl⟩ := ha i (List.getElem?_eq_some_iff.1 hx).1
 rw [e] at h1
 exact ⟨g, off, rfl, h1.cellAt h2 (by rw [List.getElem?_map, hx]; rfl)⟩
def KyR (B : Nat) (w0 : World) (kb : Nat) (keys : List (List UInt8)) (c : Nat) (F : List (Nat × Obj)) (w' : World) : Prop := ∃ k', k'.kb = kb ∧ KyOk k' keys c ∧ St B w0 w' (k'.objs ++ F)
set_option maxHeartbeats 2000000 in
theorem kadd_any (h : KyOk k keys c) (hst : St B w0 w (k.objs ++ F)) (l : List UInt8) (hl : l.length ≤ 40) (hc : c ≤ 100000) (hk : keys.length ≤ 1000) :
  Calls Tryz.prog 147 #[bpt k.kb, tx l] w fun e w' => e = .returned (.tuple #[]) ∧ KyR B w0 k.kb (keys ++ [l]) (c + 50) F w' := by
 obtain ⟨k0, k1, -, -⟩ := Ky.cells hst
 obtain ⟨a, cap, ev, hat⟩ := h.form hst
 obtain ⟨i0, i1, i2⟩ := nextId_top h.rise h.top
 have hlen := h.len
 have hnew : (wordsL l, nextId k.ids) ∉ (keys.map wordsL).zip k.ids := fun hm => by
  have := i2 _ (List.of_mem_zip hm).2
  omega
 have hM : addM ((keys.map wordsL).zip k.ids) (wordsL l, nextId k.ids) = ((keys ++ [l]).map wordsL).zip (k.ids ++ [nextId k.ids]) := by
  unfold addM
  rw [if_neg hnew, List.map_append, List.zip_append (by rw [List.length_map]; exact hlen)]
  rfl
 have hwl := words_len l
 have ct := Lib.hid (tradd_is (P := wordsL l) rfl hM (c' := c + 50) (by omega) (h.tree.is (hst.perm Ky.treeP)) (by omega) (by omega) (by rw [List.length_zip]; omega))
 have fin : Hid (∀ w1 T', TrIn k.tb (((keys ++ [l]).map wordsL).zip (k.ids ++ [nextId k.ids])) (c + 50) T' → St B w0 w1 (T' ++ (((k.kb, .cells #[bpt k.tb, .slice a k.ids.length cap] 277) :: k.S) ++ F)) →
   w1.cell? ⟨k.kb, 1, none⟩ = some (.slice a k.ids.length cap) ∧ ∃ a' cap' W2, (Builtin.append_ #[259, 259] 0 #[.slice a k.ids.length cap, .slice (some ⟨w1.heap.size, 0, none⟩) 1 1]).run Tryz.prog (w1.alloc (.cells #[.int .i64 (nextId k.ids)] 3)) = .ok (.slice a' (k.ids.length + 1) cap') W2 ∧
    W2.cell? ⟨k.kb, 1, none⟩ = some (.slice a k.ids.length cap) ∧ W2.frozen? ⟨k.kb, 1, none⟩ = false ∧ KyR B w0 k.kb (keys ++ [l]) (c + 50) F (W2.setCell ⟨k.kb, 1, none⟩ (.slice a' (k.ids.length + 1) cap'))) := Lib.hid fun w1 T' hT h1 => by
  have h2 : St B w0 w1 (((T' ++ [(k.kb, .cells #[bpt k.tb, .slice a k.ids.length cap] 277)]) ++ F) ++ k.S) := h1.perm (by
   refine perm_by fun a => ?_
   simp only [List.count_append, List.count_cons, List.append_assoc, List.cons_append, List.count_nil]
   omega)
  have hi := h.ids
  rw [ev] at hi
  refine ⟨h1.cell (b := k.kb) (i := 1) (List.mem_append_right _ (List.mem_append_left _ List.mem_cons_self)) rfl, ?_⟩
  obtain ⟨a0, cap0, e0, a', cap', W2, S2, hr, s2, hst2⟩ := ints_push hi h2 (nextId k.ids) (by omega)
  cases e0
  have h3 : St B w0 W2 ((k.kb, .cells #[bpt k.tb, .slice a k.ids.length cap] 277) :: (S2 ++ T' ++ F)) := hst2.perm (by
   refine perm_by fun a => ?_
   simp only [List.count_append, List.count_cons, List.append_assoc, List.cons_append, List.count_nil]
   omega)
  refine ⟨a', cap', W2, hr, h3.cell (b := k.kb) (i := 1) List.mem_cons_self rfl, h3.soft (b := k.kb) List.mem_cons_self 1, ⟨k.kb, k.tb, .slice a' (k.ids.length + 1) cap', k.ids ++ [nextId k.ids], S2, T'⟩, rfl, ?_, ?_⟩
  ·refine ⟨?_, by rw [List.length_append, List.length_append, hlen]; rfl, ?_, ?_, hT⟩
   ·show SlIs _ _ _ (k.ids ++ [nextId k.ids]).length _ _
    rw [List.length_append, List.length_singleton]
    rw [List.length_append, List.length_singleton] at s2
    exact s2
   ·rw [List.pairwise_append]
    exact ⟨h.rise, by simp, fun x hx y hy => by rw [List.mem_singleton] at hy; subst hy; exact i2 x hx⟩
   ·intro i hi
    rcases List.mem_append.1 hi with hi | hi
    ·have := h.top i hi
     omega
    ·rw [List.mem_singleton] at hi
     subst hi
     omega
  ·have := h3.set0 1 (.slice a' (k.ids.length + 1) cap')
   exact this
 obtain ⟨kb, tb, v, ids, S, T⟩ := k
 simp only at k0 k1 ev hat ct fin i0 i1 hlen
 subst ev
 have few : ids.length ≤ 1000 := by omega
 by_cases h0 : ids = []
 ·subst h0
  rw [show nextId [] = 0 from rfl] at ct fin
  clear h hst hat i0 i1 i2 hnew hM hwl hlen few
  go_enter Tryz.func147, Tryz.ntmps147
  go_wp2_with fail
  refine ct.out.mono ?_
  rintro e w1 ⟨rfl, ht⟩
  obtain ⟨T', hT, h1⟩ := TrIn.of ht
  obtain ⟨k2, a', cap', W2, hrun, k3, k4, fin⟩ := fin.out _ _ hT h1
  replace fin := Lib.hid fin
  clear hT h1 ht ct
  go_wp2_with (at_builtin; refine wpList_append_go rfl (.tmp 33) (.tmp 35) 259 259 rfl _ _ rfl rfl hrun ?_)
  exact bodyPost_end (results_none rfl _ _ _) rfl ⟨rfl, fin.out⟩
 ·obtain ⟨x, hx⟩ : ∃ x, ids.getLast? = some x := by
   cases hl : ids.getLast? with
   | none => rw [List.getLast?_eq_none_iff] at hl; exact absurd hl h0
   | some x => exact ⟨x, rfl⟩
  have en : nextId ids = x + 1 := by rw [nextId, hx]
  have hx2 : ids[ids.length - 1]? = some x := by rw [← List.getLast?_eq_getElem?]; exact hx
  obtain ⟨g, off, rfl, k5⟩ := hat _ _ hx2
  have hpos : 0 < ids.length := List.length_pos_iff.2 h0
  obtain ⟨m, hm⟩ : ∃ m, ids.length = m + 1 := ⟨ids.length - 1, by omega⟩
  rw [hm, Nat.add_sub_cancel] at k5
  rw [en] at ct fin i0 i1
  rw [hm] at k1 fin few ct
  have hx0 : 0 ≤ x := (h.top x (List.mem_of_getElem? hx2)).1
  clear h hst hat i2 hnew hM hwl hlen hx hx2 hpos hm h0 en
  go_enter Tryz.func147, Tryz.ntmps147
  go_wp2_with fail
  refine ct.out.mono ?_
  rintro e w1 ⟨rfl, ht⟩
  obtain ⟨T', hT, h1⟩ := TrIn.of ht
  obtain ⟨k2, a', cap', W2, hrun, k3, k4, fin⟩ := fin.out _ _ hT h1
  replace fin := Lib.hid fin
  clear hT h1 ht ct
  go_wp2_with (at_builtin; refine wpList_append_go rfl (.tmp 33) (.tmp 35) 259 259 rfl _ _ rfl rfl hrun ?_)
  exact bodyPost_end (results_none rfl _ _ _) rfl ⟨rfl, fin.out⟩
end
end Go.Proofs.YtknjamfjonapiaaGreatDoor
namespace Go.Proofs.YtknjamfjonapiaaGreatDoor
open Go.RowKit
set_option linter.unusedVariables false
set_option maxRecDepth 100000
def wp (x : Bnd × Int) : Wds × Int := (wordsL x.1.2.2, x.2)
theorem zip_wp (rows : List Bnd) (ids : List Int) : ((rows.map (·.2.2)).map wordsL).zip ids = (rows.zip ids).map wp := by
 rw [List.map_map, List.zip_map_left]
 rfl
theorem split_at {α : Type} {zs : List α} {i : Nat} {x : α} (hx : zs[i]? = some x) : zs.drop i = x :: zs.drop (i + 1) := by
 have hl := (List.getElem?_eq_some_iff.1 hx).1
 rw [List.drop_eq_getElem_cons hl]
 congr 1
 exact (List.getElem?_eq_some_iff.1 hx).2
theorem nodup_ids {zs : List (Bnd × Int)} {i : Nat} {x : Bnd × Int} (hn : (zs.map (·.2)).Nodup) (hx : zs[i]? = some x) : x.2 ∉ (zs.take i).map (·.2) ∧ x.2 ∉ (zs.drop (i + 1)).map (·.2) := by
 have e : zs = zs.take i ++ x :: zs.drop (i + 1) := by
  have := (List.take_append_drop i zs).symm
  rwa [split_at hx] at this
 rw [e, List.map_append, List.map_cons, List.nodup_append, List.nodup_cons] at hn
 exact ⟨fun h => hn.2.2 _ h _ List.mem_cons_self rfl, hn.2.1.1⟩
theorem zip_filter {rows : List Bnd} {ids : List Int} (h : rows.length = ids.length) (q : Bnd → Bool) : ((rows.zip ids).filter fun x => q x.1).map (·.1) = rows.filter q := by
 have e : (rows.zip ids).map (fun x => x.1) = rows := List.map_fst_zip (by omega)
 have h2 := List.filter_map (p := q) (f := fun x : Bnd × Int => x.1) (l := rows.zip ids)
 rw [e] at h2
 rw [h2]
 rfl
theorem zip_at {rows : List Bnd} {ids : List Int} {i : Nat} {b : Bnd} {x : Int} (h1 : rows[i]? = some b) (h2 : ids[i]? = some x) : (rows.zip ids)[i]? = some (b, x) := by
 rw [List.getElem?_zip_eq_some]
 exact ⟨h1, h2⟩
section
variable {B : Nat} {w0 w w' : World} {F T R Q S : List (Nat × Obj)} {tb xb c c' pb : Nat} {M : Prs} {L X Y : List Pl} {p' : Pl} {k : Ky} {A rows : List Bnd} {P : List Plc} {v tv u : Value} {n : List UInt8} {keys : List (List UInt8)} {p : Bnd → Bool}
end
end Go.Proofs.YtknjamfjonapiaaGreatDoor
namespace Go.Proofs.YtknjamfjonapiaaGreatDoor
open Go.RowKit
set_option linter.unusedVariables false
set_option maxRecDepth 100000
theorem take_zip' (rows : List Bnd) (ids : List Int) (i : Nat) : (rows.zip ids).take i = (rows.take i).zip (ids.take i) := List.take_zipWith
theorem drop_zip' (rows : List Bnd) (ids : List Int) (i : Nat) : (rows.zip ids).drop i = (rows.drop i).zip (ids.drop i) := List.drop_zipWith
def hitL (g : Bnd → Bool) (zs : List (Bnd × Int)) (i : Nat) : List Int := ((zs.take i).filter fun x => g x.1).map (·.2)
theorem hit_all (g : Bnd → Bool) (zs : List (Bnd × Int)) (i : Nat) : hitL g zs zs.length = hitL g zs i ++ ((zs.drop i).filter fun x => g x.1).map (·.2) := by
 unfold hitL
 rw [List.take_of_length_le (Nat.le_refl _), ← List.map_append, ← List.filter_append, List.take_append_drop]
theorem hit_is {g : Bnd → Bool} {zs : List (Bnd × Int)} {i : Nat} {x : Bnd × Int} {y : Int} (hn : (zs.map (·.2)).Nodup) (hx : zs[i]? = some x) (hy : (hitL g zs zs.length)[(hitL g zs i).length]? = some y) : (x.2 == y) = g x.1 := by
 obtain ⟨-, h2⟩ := nodup_ids hn hx
 rw [hit_all g zs i, List.getElem?_append_right (Nat.le_refl _), Nat.sub_self, split_at hx, List.filter_cons] at hy
 split at hy
 ·rename_i hg
  rw [List.map_cons, List.getElem?_cons_zero, Option.some.injEq] at hy
  rw [hg, hy, beq_self_eq_true]
 ·rename_i hg
  have hm := List.mem_of_getElem? hy
  obtain ⟨z, hz, rfl⟩ := List.mem_map.1 hm
  have hne : x.2 ≠ z.2 := fun e => h2 (e ▸ List.mem_map_of_mem (List.mem_filter.1 hz).1)
  rw [beq_eq_false_iff_ne.2 hne]
  simpa using hg
theorem hit_end {g : Bnd → Bool} {rows : List Bnd} {ids : List Int} {i : Nat} (hl : rows.length = ids.length) (h : (hitL g (rows.zip ids) (rows.zip ids).length).length ≤ (hitL g (rows.zip ids) i).length) : (rows.take i).filter g = rows.filter g := by
 rw [hit_all g (rows.zip ids) i, List.length_append, List.length_map] at h
 have h0 : ((rows.zip ids).drop i).filter (fun x => g x.1) = [] := List.eq_nil_of_length_eq_zero (by omega)
 have e : ((rows.drop i).zip (ids.drop i)).filter (fun x => g x.1) = [] := by rw [← drop_zip']; exact h0
 have e2 := zip_filter (rows := rows.drop i) (ids := ids.drop i) (by rw [List.length_drop, List.length_drop, hl]) g
 rw [e, List.map_nil] at e2
 have e3 : rows.filter g = (rows.take i).filter g ++ (rows.drop i).filter g := by rw [← List.filter_append, List.take_append_drop]
 rw [e3, ← e2, List.append_nil]
theorem hit_len {g : Bnd → Bool} {rows : List Bnd} {ids : List Int} {i : Nat} (hl : rows.length = ids.length) : (hitL g (rows.zip ids) i).length = ((rows.take i).filter g).length := by
 unfold hitL
 rw [List.length_map, take_zip', ← zip_filter (rows := rows.take i) (ids := ids.take i) (by rw [List.length_take, List.length_take, hl]) g, List.length_map]
theorem hits_wp (zs : List (Bnd × Int)) (P : Wds) : hits (zs.map wp) P = hitL (fun b => gl (wordsL b.2.2) P) zs zs.length := by
 unfold hits hitL
 rw [List.take_of_length_le (Nat.le_refl _), List.filter_map, List.map_map]
 rfl
section
variable {B : Nat} {w0 w w' : World} {F T R Q S : List (Nat × Obj)} {tb xb c c' pb : Nat} {M : Prs} {L X Y : List Pl} {p' : Pl} {k : Ky} {A rows : List Bnd} {P : List Plc} {v tv u : Value} {n : List UInt8} {keys : List (List UInt8)} {p : Bnd → Bool}
structure Mtch (k : Ky) (M : Prs) (c : Nat) (l2 : List Int) (iv : Value) (T' Si : List (Nat × Obj)) : Prop where
 tree : TrIn k.tb M c T'
 ids : SlIs 3 1 iv l2.length (l2.map encI) Si
def MatAt (B : Nat) (w0 : World) (k : Ky) (u : Value) (rows : List Bnd) (l2 : List Int) (E : List (Nat × Obj)) (c : Nat) (m : Bnd → Bool) (g : Nat) (a' : Act) (w' : World) : Prop :=
 ∃ (i : Nat) (iv z : Value) (T' Si Z : List (Nat × Obj)), Mtch k (((rows.map (·.2.2)).map wordsL).zip k.ids) c l2 iv T' Si ∧ Fr 51 [(0, bpt k.kb), (1, u), (7, iv), (8, z), (9, .int .i64 i), (10, .int .i64 ((rows.take i).filter m).length)] a' ∧ i + g = rows.length ∧
  BnsIs z ((rows.take i).filter m) Z ∧ St B w0 w' ((T' ++ (Si ++ (((k.kb, .cells #[bpt k.tb, k.v] 277) :: k.S) ++ E))) ++ Z)
def MatR (B : Nat) (w0 : World) (kb : Nat) (keys : List (List UInt8)) (l : List Bnd) (c : Nat) (F : List (Nat × Obj)) (e : Ending) (w' : World) : Prop :=
 ∃ k' z Z, e = .returned z ∧ k'.kb = kb ∧ KyOk k' keys c ∧ BnsIs z l Z ∧ St B w0 w' (k'.objs ++ (Z ++ F))
set_option maxHeartbeats 4000000 in
theorem matching_any {Sr : List (Nat × Obj)} (h : KyOk k (rows.map (·.2.2)) c) (hst : St B w0 w (k.objs ++ (Sr ++ F))) (hu : BnsIs u rows Sr) (key : List UInt8) (hk : key.length ≤ 1000) (hc : c ≤ 100000) (hr : rows.length ≤ 1000) :
  Calls Tryz.prog 209 #[bpt k.kb, u, tx key] w (MatR B w0 k.kb (rows.map (·.2.2)) (rows.filter fun b => gl (wordsL b.2.2) (wordsL key)) c F) := by
 obtain ⟨m, hm⟩ : ∃ m, m = fun b : Bnd => gl (wordsL b.2.2) (wordsL key) := ⟨_, rfl⟩
 have hlen : rows.length = k.ids.length := by have := h.len; rwa [List.length_map] at this
 have hz : (rows.zip k.ids).map (·.2) = k.ids := List.map_snd_zip (by omega)
 have hnd : ((rows.zip k.ids).map (·.2)).Nodup := by rw [hz]; exact h.rise.imp (fun h => by omega)
 have hsub : (hitL m (rows.zip k.ids) (rows.zip k.ids).length).Sublist k.ids := by
  unfold hitL
  rw [List.take_of_length_le (Nat.le_refl _)]
  have := (List.filter_sublist (p := fun x : Bnd × Int => m x.1) (l := rows.zip k.ids)).map (fun x => x.2)
  rwa [hz] at this
 obtain ⟨k0, -, -, -⟩ := Ky.cells hst
 have ct := Lib.hid (trmatch_is (P := wordsL key) rfl (h.rise.sublist hsub) (fun i => by rw [zip_wp, hits_wp, ← hm]) (h.tree.is (hst.perm Ky.treeP)) hk (by omega))
 have hl2 : (hitL m (rows.zip k.ids) (rows.zip k.ids).length).length ≤ 1000 := by
  have := hsub.length_le
  omega
 rw [← hm]
 obtain ⟨au, cu, eu⟩ := hu.form
 subst eu
 obtain ⟨ai, capi, ev, -⟩ := h.form hst
 have facts : Hid (∀ (T' Si : List (Nat × Obj)) a2 cap2, SlIs 3 1 (.slice a2 (hitL m (rows.zip k.ids) (rows.zip k.ids).length).length cap2) (hitL m (rows.zip k.ids) (rows.zip k.ids).length).length ((hitL m (rows.zip k.ids) (rows.zip k.ids).length).map encI) Si → ∀ w' Z, St B w0 w' ((T' ++ (Si ++ (((k.kb, .cells #[bpt k.tb, k.v] 277) :: k.S) ++ (Sr ++ F)))) ++ Z) →
   w'.cell? ⟨k.kb, 1, none⟩ = some k.v ∧ ∀ (i : Nat) b, rows[i]? = some b → ((rows.take i).filter m).length < (hitL m (rows.zip k.ids) (rows.zip k.ids).length).length →
    ∃ b1 o1 g2 o2 g3 o3 x y, au = some ⟨b1, o1, none⟩ ∧ ai = some ⟨g2, o2, none⟩ ∧ a2 = some ⟨g3, o3, none⟩ ∧ (x == y) = m b ∧ w'.cell? ⟨b1, o1 + i * 3, none⟩ = some (tx b.1) ∧ w'.cell? ⟨b1, o1 + i * 3 + 1, none⟩ = some (tx b.2.1) ∧ w'.cell? ⟨b1, o1 + i * 3 + 2, none⟩ = some (tx b.2.2) ∧
     w'.cell? ⟨g2, o2 + i, none⟩ = some (.int .i64 x) ∧ w'.cell? ⟨g3, o3 + ((rows.take i).filter m).length, none⟩ = some (.int .i64 y)) :=
  Lib.hid fun T' Si a2 cap2 hs2 w' Z h1 => by
   have hmm : (k.kb, .cells #[bpt k.tb, k.v] 277) ∈ (T' ++ (Si ++ (((k.kb, .cells #[bpt k.tb, k.v] 277) :: k.S) ++ (Sr ++ F)))) ++ Z := by simp
   refine ⟨h1.cell (b := k.kb) (i := 1) hmm rfl, fun i b hb hlt => ?_⟩
   have hil : i < k.ids.length := by have := (List.getElem?_eq_some_iff.1 hb).1; omega
   have hx : k.ids[i]? = some (k.ids[i]'hil) := List.getElem?_eq_getElem hil
   have hy : (hitL m (rows.zip k.ids) (rows.zip k.ids).length)[((rows.take i).filter m).length]? = some ((hitL m (rows.zip k.ids) (rows.zip k.ids).length)[((rows.take i).filter m).length]'hlt) := List.getElem?_eq_getElem hlt
   have hru := hu.read (A := T' ++ (Si ++ (((k.kb, .cells #[bpt k.tb, k.v] 277) :: k.S) ++ F)) ++ Z) (h1.perm (by
    refine perm_by fun a => ?_
    simp only [List.count_append, List.count_cons, List.append_assoc, List.cons_append]
    omega))
   obtain ⟨a', cap', e, hcc⟩ := hru
   cases e
   obtain ⟨b1, o1, e1, q1, q2, q3⟩ := hcc i b hb
   have h2 : St B w0 w' ((T' ++ (Si ++ ((k.kb, .cells #[bpt k.tb, k.v] 277) :: (Sr ++ F))) ++ Z) ++ k.S) := h1.perm (by
    refine perm_by fun a => ?_
    simp only [List.count_append, List.count_cons, List.append_assoc, List.cons_append]
    omega)
   have h3 : St B w0 w' ((T' ++ ((((k.kb, .cells #[bpt k.tb, k.v] 277) :: k.S) ++ (Sr ++ F))) ++ Z) ++ Si) := h1.perm (by
    refine perm_by fun a => ?_
    simp only [List.count_append, List.count_cons, List.append_assoc, List.cons_append]
    omega)
   have hi := h.ids
   obtain ⟨a3, cap3, e2, -, -, ha3⟩ := hi.form
   rw [ev] at e2
   cases e2
   obtain ⟨g2, o2, e3⟩ := ha3 i hil
   rw [ev, e3] at hi
   obtain ⟨a4, cap4, e4, -, -, ha4⟩ := hs2.form
   cases e4
   obtain ⟨g3, o3, rfl⟩ := ha4 _ hlt
   refine ⟨b1, o1, g2, o2, g3, o3, _, _, e1, e3, rfl, ?_, q1, q2, q3, hi.cellAt h2 (by rw [List.getElem?_map, hx]; rfl), hs2.cellAt h3 (by rw [List.getElem?_map, hy]; rfl)⟩
   refine hit_is (g := m) hnd (zip_at hb hx) ?_
   rw [hit_len hlen]
   exact hy
 have fin : Hid (∀ (T' Si : List (Nat × Obj)) w' z Z, TrIn k.tb (((rows.map (·.2.2)).map wordsL).zip k.ids) c T' → BnsIs z (rows.filter m) Z → St B w0 w' ((T' ++ (Si ++ (((k.kb, .cells #[bpt k.tb, k.v] 277) :: k.S) ++ (Sr ++ F)))) ++ Z) →
   MatR B w0 k.kb (rows.map (·.2.2)) (rows.filter m) c F (.returned z) w') := Lib.hid fun T' Si w' z Z hT hz h1 => by
  refine ⟨⟨k.kb, k.tb, k.v, k.ids, k.S, T'⟩, z, Z, rfl, rfl, ⟨h.ids, h.len, h.rise, h.top, hT⟩, hz, ?_⟩
  have h2 : St B w0 w' ((((k.kb, .cells #[bpt k.tb, k.v] 277) :: (k.S ++ T')) ++ (Z ++ F)) ++ (Si ++ Sr)) := h1.perm (by
   refine perm_by fun a => ?_
   simp only [List.count_append, List.count_cons, List.append_assoc, List.cons_append]
   omega)
  exact h2.sub (List.sublist_append_left _ _)
 have he : Hid (∀ i, (hitL m (rows.zip k.ids) (rows.zip k.ids).length).length ≤ ((rows.take i).filter m).length → (rows.take i).filter m = rows.filter m) := Lib.hid fun i hi => hit_end hlen (by rw [hit_len hlen (i := i)]; exact hi)
 have hle : Hid (∀ i, ((rows.take i).filter m).length ≤ (hitL m (rows.zip k.ids) (rows.zip k.ids).length).length) := Lib.hid fun i => by
  rw [← hit_len hlen, hit_all m (rows.zip k.ids) i, List.length_append]
  omega
 obtain ⟨kb, tb, v, ids, S, T⟩ := k
 simp only at ev hlen facts fin k0 ct he hl2 hle
 subst ev
 generalize hitL m (rows.zip ids) (rows.zip ids).length = l2 at *
 replace hlen := Lib.hid hlen
 clear h hst hu hz hnd hk hc hsub
 replace hm := Lib.hid hm
 go_enter Tryz.func209, Tryz.ntmps209
 go_wp2_with fail
 refine wp_scope_ghost 0 (MatAt B w0 ⟨kb, tb, .slice ai ids.length capi, ids, S, T⟩ (.slice au rows.length cu) rows l2 (Sr ++ F) c m) rfl ?_ ?_
 ·clear ct
  rintro g a' w' ⟨i, iv, z, T', Si, Z, hM, hfr, hi, hzl, hst⟩
  simp only at hM hfr hst
  obtain ⟨a2, cap2, rfl, -⟩ := hM.ids.form
  replace facts := Lib.hid (facts.out T' Si a2 cap2 hM.ids)
  replace fin := Lib.hid (fun w' z Z => fin.out T' Si w' z Z hM.tree)
  replace hM := Lib.hid hM
  obtain ⟨O, hO⟩ : ∃ O, O = (T' ++ (Si ++ (((kb, .cells #[bpt tb, .slice ai ids.length capi] 277) :: S) ++ (Sr ++ F)))) := ⟨_, rfl⟩
  rw [← hO] at hst facts fin
  replace hO := Lib.hid hO
  obtain ⟨q, rfl, hl'⟩ := hfr.lit
  clear hfr
  simp only [List.mem_cons, List.not_mem_nil, or_false, forall_eq_or_imp, forall_eq] at hl'
  obtain ⟨f0, f1, f7, f8, f9, f10⟩ := hl'
  simp only [List.range, List.range.loop, List.map, f0, f1, f7, f8, f9, f10]
  clear f0 f1 f7 f8 f9 f10
  have hi0 : (0 : Int) ≤ i := by omega
  obtain ⟨k1, hrows⟩ := facts.out w' Z hst
  have hq0 : (0 : Int) ≤ ((rows.take i).filter m).length := by omega
  have hqi : ((rows.take i).filter m).length ≤ i := filter_len_take _ _
  by_cases hlt : i < rows.length
  ·have hi1 : (i : Int) < rows.length := by omega
   have hiB : ((i : Int) == rows.length) = false := by rw [beq_eq_false_iff_ne]; omega
   by_cases hq : ((rows.take i).filter m).length < l2.length
   ·have hqB : ((((rows.take i).filter m).length : Int) == l2.length) = false := by rw [beq_eq_false_iff_ne]; omega
    have hq1 : (((rows.take i).filter m).length : Int) < l2.length := by omega
    have hx : rows[i]? = some rows[i] := List.getElem?_eq_getElem hlt
    generalize rows[i] = b at hx
    obtain ⟨b1, o1, g2, o2, g3, o3, x, y, rfl, rfl, rfl, hxy, q1, q2, q3, q4, q5⟩ := hrows i b hx hq
    have stp := filter_step (p := m) hx
    have hlti : i < ids.length := by have := hlen.out; omega
    have hi2 : (i : Int) < ids.length := by omega
    have dr : Hid (∀ n, St B w0 (w'.drewN n) (O ++ Z)) := Lib.hid fun n => hst.drewN n
    cases hmx : m b with
    | true =>
     rw [hmx] at stp hxy
     rw [if_pos rfl] at stp
     obtain rfl := beq_iff_eq.1 hxy
     have ap : Hid (∀ n, ∃ au' cu', z = .slice au' ((rows.take i).filter m).length cu' ∧ ∃ a4 cap4 W2, (Builtin.append_ #[95, 95] 0 #[z, .slice (some ⟨w'.heap.size, 0, none⟩) 1 1]).run Tryz.prog ((w'.drewN n).alloc (bO b)) = .ok (.slice a4 (((rows.take i).filter m).length + 1) cap4) W2 ∧
       ∀ a', Fr 51 [(0, bpt kb), (1, .slice (some ⟨b1, o1, none⟩) rows.length cu), (7, .slice (some ⟨g3, o3, none⟩) l2.length cap2), (8, .slice a4 (((rows.take i).filter m).length + 1) cap4), (9, .int .i64 ((i + 1 : Nat) : Int)), (10, .int .i64 ((((rows.take i).filter m).length + 1 : Nat) : Int))] a' →
        ∃ m', m' < g ∧ MatAt B w0 ⟨kb, tb, .slice (some ⟨g2, o2, none⟩) ids.length capi, ids, S, T⟩ (.slice (some ⟨b1, o1, none⟩) rows.length cu) rows l2 (Sr ++ F) c m m' a' W2) := Lib.hid fun n => by
      obtain ⟨a5, c5, e5⟩ := hzl.form
      obtain ⟨a4, cap4, W2, F2, hrun, hs4, hst4⟩ := bnd_append (X := O) hzl (dr.out n) b (by omega)
      refine ⟨a5, c5, e5, a4, cap4, W2, hrun, fun a' hf => ⟨g - 1, by omega, i + 1, _, _, T', Si, F2, hM.out, ?_, by omega, by rw [stp]; exact hs4, by rw [hO.out] at hst4; exact hst4⟩⟩
      rw [stp, List.length_append, List.length_singleton]
      exact hf
     obtain ⟨x1, x2, x3⟩ := b
     simp only at q1 q2 q3 ap
     clear hzl hst hrows hx hxy hmx stp facts fin he hle dr
     generalize ((rows.take i).filter m).length = q0 at *
     obtain ⟨au', cu', rfl, -⟩ := ap.out 0
     go_wp2_with fail
     go_quiet (fail)
     obtain ⟨_, _, _, a4, cap4, W2, hrun, nx⟩ := ap.out nq
     replace nx := Lib.hid nx
     clear ap
     go_wp2_with (at_builtin; refine wpList_append_go rfl (.tmp 40) (.tmp 45) 95 95 rfl _ _ rfl rfl hrun ?_)
     refine wp_goto ?_
     exact ⟨rfl, nx.out _ ⟨rfl, rfl, by simp⟩⟩
    | false =>
     rw [hmx] at stp hxy
     rw [if_neg (by decide), List.append_nil] at stp
     have nx : Hid (∀ n a', Fr 51 [(0, bpt kb), (1, .slice (some ⟨b1, o1, none⟩) rows.length cu), (7, .slice (some ⟨g3, o3, none⟩) l2.length cap2), (8, z), (9, .int .i64 ((i + 1 : Nat) : Int)), (10, .int .i64 ((rows.take i).filter m).length)] a' →
        ∃ m', m' < g ∧ MatAt B w0 ⟨kb, tb, .slice (some ⟨g2, o2, none⟩) ids.length capi, ids, S, T⟩ (.slice (some ⟨b1, o1, none⟩) rows.length cu) rows l2 (Sr ++ F) c m m' a' (w'.drewN n)) := Lib.hid fun n a' hf =>
      ⟨g - 1, by omega, i + 1, _, _, T', Si, Z, hM.out, by rw [stp]; exact hf, by omega, by rw [stp]; exact hzl, by have := dr.out n; rw [hO.out] at this; exact this⟩
     obtain ⟨au', cu', rfl⟩ := hzl.form
     obtain ⟨x1, x2, x3⟩ := b
     simp only at q1 q2 q3
     clear hzl hst hrows hx hmx stp facts fin he hle dr
     generalize ((rows.take i).filter m).length = q0 at *
     go_wp2_with fail
     go_quiet (fail)
     go_wp2_with fail
     refine wp_goto ?_
     exact ⟨rfl, nx.out _ _ ⟨rfl, rfl, by simp⟩⟩
   ·have hqB : (((rows.take i).filter m).length : Int) = l2.length := by have := hle.out i; omega
    have e := he.out i (by omega)
    have hzl' := hzl
    rw [e] at hzl'
    have f := Lib.hid (fin.out _ _ _ hzl' hst)
    rw [hqB]
    obtain ⟨au', cu', rfl⟩ := hzl.form
    clear hzl hzl' hst hrows facts fin he hle e hqB hq0 hqi hq
    generalize ((rows.take i).filter m).length = q0 at *
    go_wp2_with fail
    simp only [Exit.jump]
    go_ret
    exact f.out
  ·obtain rfl : i = rows.length := by omega
   rw [List.take_of_length_le (Nat.le_refl _)] at hzl
   rw [List.take_of_length_le (Nat.le_refl _)]
   have f := Lib.hid (fin.out _ _ _ hzl hst)
   obtain ⟨au', cu', rfl⟩ := hzl.form
   clear hzl hst hrows facts fin he hle hq0 hqi
   generalize (rows.filter m).length = q0 at *
   go_wp2_with fail
   simp only [Exit.jump]
   go_ret
   exact f.out
 ·intro H
  clear facts fin he hle
  go_wp2_with fail
  refine ct.out.mono ?_
  rintro e w1 ⟨iv, Si, rfl, hs2, ht⟩
  obtain ⟨T', hT, h1⟩ := TrIn.of ht
  have start : Hid (∀ a', Fr 51 [(0, bpt kb), (1, .slice au rows.length cu), (7, iv), (8, .slice none 0 0), (9, .int .i64 ((0 : Nat) : Int)), (10, .int .i64 (([].filter m : List Bnd).length : Nat))] a' → MatAt B w0 ⟨kb, tb, .slice ai ids.length capi, ids, S, T⟩ (.slice au rows.length cu) rows l2 (Sr ++ F) c m rows.length a' w1) :=
   Lib.hid fun a' hf => ⟨0, iv, _, T', Si, [], ⟨hT, hs2⟩, hf, by omega, BnsIs.nil, by rw [List.append_nil]; exact h1⟩
  obtain ⟨a2, cap2, rfl, -⟩ := hs2.form
  clear hs2 ht ct hT h1
  go_wp2_with fail
  refine wp_label ?_
  go_step
  go_step
  exact H rows.length _ _ (start.out _ ⟨rfl, rfl, by simp⟩)
end
end Go.Proofs.YtknjamfjonapiaaGreatDoor
namespace Go.Proofs.YtknjamfjonapiaaGreatDoor
open Go.RowKit
set_option linter.unusedVariables false
set_option maxRecDepth 100000
section
variable {B : Nat} {w0 w w' : World} {F T R Q S : List (Nat × Obj)} {tb xb c c' pb : Nat} {M : Prs} {L X Y : List Pl} {p p' : Pl} {k : Ky} {A rows : List Bnd} {P : List Plc} {v tv u : Value} {n : List UInt8} {keys : List (List UInt8)} {q : Bnd → Bool}
def OfM (B : Nat) (w0 : World) (xb : Nat) (v : Value) (L : List Pl) (R F : List (Nat × Obj)) (A rows : List Bnd) (u : Value) (w : World) : Prop :=
 ∃ S tv Q, BnsIs u rows S ∧ TaIn tv A Q ∧ St B w0 w (exO xb v tv L R Q ++ (S ++ F))
theorem kobjs_split (hk : p.k = some k) : (exO xb v tv (X ++ p :: Y) R Q ++ F).Perm (k.objs ++ ((exO xb v tv (X ++ Y) R Q ++ F) ++ [(p.b, .cells #[tx p.d.1, .int .i64 p.d.2.1, .bool p.d.2.2, kpt p.k] 217)])) := by
 refine exO_split.trans ?_
 refine perm_by fun a => ?_
 unfold Pl.objs kobjs
 rw [hk]
 simp only [List.count_append, List.count_cons, List.append_assoc, List.cons_append, List.count_nil]
 omega
end
end Go.Proofs.YtknjamfjonapiaaGreatDoor
namespace Go.Proofs.YtknjamfjonapiaaGreatDoor
open Go.RowKit
set_option linter.unusedVariables false
set_option maxRecDepth 100000
end Go.Proofs.YtknjamfjonapiaaGreatDoor
namespace Go.Proofs.YtknjamfjonapiaaGreatDoor
open Go.RowKit
set_option linter.unusedVariables false
set_option maxRecDepth 100000
def rowB (r : Nat → Bool) (m : Nat) : Obj := .cells ((List.range m).map fun i => Value.bool (r i)).toArray 4
def part (r : Nat → Bool) (k : Nat) : Nat → Bool := fun i => decide (i < k) && r i
theorem rowB_congr {r s : Nat → Bool} {m : Nat} (h : ∀ i, i < m → r i = s i) : rowB r m = rowB s m := by
 unfold rowB
 congr 2
 apply List.map_congr_left
 intro i hi
 rw [h i (List.mem_range.1 hi)]
theorem part_all (r : Nat → Bool) (m : Nat) : rowB (part r m) m = rowB r m := rowB_congr fun i hi => by simp [part, hi]
section
variable {w wr : World} {b2 b m : Nat} {s r : Nat → Bool}
end
end Go.Proofs.YtknjamfjonapiaaGreatDoor
namespace Go.Proofs.YtknjamfjonapiaaGreatDoor
open Go.RowKit
set_option linter.unusedVariables false
theorem inname_any (c : UInt8) (w : World) : Calls Tryz.prog 196 #[.int .u8 c.toNat] w fun e w' => e = .returned (.bool (inNm c)) ∧ w' = w := by
 unfold inNm
 generalize c.toNat = n at *
 go_enter Tryz.func196, Tryz.ntmps196
 go_wp2_with fail
 all_goals
  go_ret
  refine ⟨ret_bool ?_, rfl⟩
  apply Bool.eq_iff_iff.2
  simp only [Bool.or_eq_true, Bool.and_eq_true, decide_eq_true_eq, beq_iff_eq]
  constructor
  all_goals
   intro _
   first | trivial | omega
theorem all_take {l : List UInt8} {i : Nat} {c : UInt8} (h : (l.take i).all inNm = true) (hc : l[i]? = some c) : (l.take (i + 1)).all inNm = inNm c := by
 rw [List.take_add_one, hc, List.all_append, h]
 simp
theorem isNm_bad {l : List UInt8} {i : Nat} {c : UInt8} (hc : l[i]? = some c) (h : inNm c = false) : isNm l = false := by
 have : l.all inNm = false := by
  apply Bool.eq_false_iff.2
  intro ha
  rw [List.all_eq_true] at ha
  rw [ha c (List.mem_of_getElem? hc)] at h
  cases h
 rw [isNm, this, Bool.and_false]
def NameAt (w : World) (l : List UInt8) (g : Nat) (a' : Act) (w' : World) : Prop := ∃ i : Nat, i + g = l.length ∧ 0 < l.length ∧ l.length ≤ 12 ∧ (l.take i).all inNm = true ∧ Fr 22 [(0, tx l), (3, .int .i64 i)] a' ∧ w' = w
set_option maxHeartbeats 1000000 in
theorem isname_any (l : List UInt8) (w : World) : Calls Tryz.prog 135 #[tx l] w fun e w' => e = .returned (.bool (isNm l)) ∧ w' = w := by
 have hIn := Lib.hid (fun c => inname_any c w)
 go_enter Tryz.func135, Tryz.ntmps135
 go_wp2_with fail
 refine wp_scope_ghost 0 (NameAt w l) rfl ?_ ?_
 ·rintro g a' w' ⟨i, hi, hl0, hl12, ha, hfr, rfl⟩
  obtain ⟨q, rfl, hl'⟩ := hfr.lit
  clear hfr
  simp only [List.mem_cons, List.not_mem_nil, or_false, forall_eq_or_imp, forall_eq] at hl'
  obtain ⟨f0, f3⟩ := hl'
  simp only [List.range, List.range.loop, List.map, f0, f3]
  clear f0 f3
  have hi0 : (0 : Int) ≤ i := by omega
  by_cases hlt : i < l.length
  ·have hx : l[i]? = some l[i] := List.getElem?_eq_getElem hlt
   have hi1 : (i : Int) < l.length := by omega
   have hne : ((i : Int) == l.length) = false := by rw [beq_eq_false_iff_ne]; omega
   have c1 := Lib.hid (hIn.out l[i])
   clear hIn
   have hg : (((⟨l.toArray⟩ : ByteArray)[i]'(show i < l.length from hlt)).toNat : Int) = (l[i].toNat : Int) := rfl
   cases hb : inNm l[i] with
   | true =>
    rw [hb] at c1
    have ha2 := all_take ha hx
    rw [hb] at ha2
    replace ha2 := Lib.hid ha2
    clear ha hx hb
    go_wp2_with fail
    refine c1.out.mono ?_
    rintro e w1 ⟨rfl, rfl⟩
    go_wp2_with fail
    refine wp_goto ?_
    refine ⟨rfl, g - 1, by omega, i + 1, by omega, hl0, hl12, ha2.out, ⟨rfl, rfl, ?_⟩, rfl⟩
    simp
   | false =>
    rw [hb] at c1
    have hf := isNm_bad hx hb
    replace hf := Lib.hid hf
    clear ha hx hb
    go_wp2_with fail
    refine c1.out.mono ?_
    rintro e w1 ⟨rfl, rfl⟩
    go_wp2_with fail
    simp only [Exit.jump]
    go_ret
    exact ⟨ret_bool hf.out.symm, rfl⟩
  ·obtain rfl : i = l.length := by omega
   rw [List.take_of_length_le (Nat.le_refl _)] at ha
   have hf : isNm l = true := by rw [isNm, ha, decide_eq_true (show 1 ≤ l.length by omega), decide_eq_true hl12]; rfl
   clear hIn
   go_wp2_with fail
   simp only [Exit.jump]
   go_ret
   exact ⟨ret_bool hf.symm, rfl⟩
 ·intro H
  by_cases h0 : l = []
  ·subst h0
   clear H
   go_wp2_with fail
   simp only [Exit.jump]
   go_ret
   exact ⟨rfl, rfl⟩
  ·have hpos : 0 < l.length := List.length_pos_iff.2 h0
   have h0B : (l == []) = false := by simpa using h0
   have h0C : l.isEmpty = false := by simpa using h0
   by_cases h12 : 12 < l.length
   ·have h12' : (12 : Int) < l.length := by omega
    have hf : isNm l = false := by rw [isNm, decide_eq_false (show ¬ l.length ≤ 12 by omega), Bool.and_false, Bool.false_and]
    clear H
    go_wp2_with fail
    simp only [Exit.jump]
    go_ret
    exact ⟨ret_bool hf.symm, rfl⟩
   ·have h12' : ¬ (12 : Int) < l.length := by omega
    go_wp2_with fail
    refine wp_label ?_
    go_step
    go_step
    exact H l.length _ _ ⟨0, by omega, by omega, by omega, by simp, ⟨rfl, rfl, by simp⟩, rfl⟩
theorem iskey_any (l : List UInt8) (w : World) : Calls Tryz.prog 144 #[tx l] w fun e w' => e = .returned (.bool (decide (l.length ≤ 40))) ∧ w' = w := by
 go_enter Tryz.func144, Tryz.ntmps144
 go_wp2_with fail
 go_ret
 exact ⟨ret_bool (decide_eq_decide.2 (by omega)), rfl⟩
end Go.Proofs.YtknjamfjonapiaaGreatDoor
