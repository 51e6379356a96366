import Derived.Test.YtknjamfjonapiaaGreatDoorY20
import Derived.Test.YtknjamfjonapiaaGreatDoorY10
import Derived.Test.YtknjamfjonapiaaGreatDoorY19
import Derived.Test.YtknjamfjonapiaaGreatDoorY09
import Derived.Test.YtknjamfjonapiaaGreatDoorY17
namespace Go.Proofs.YtknjamfjonapiaaGreatDoor
open Go.RowKit
set_option linter.unusedVariables false
set_option linter.unusedSectionVars false
set_option linter.unusedSimpArgs false
set_option maxRecDepth 100000
def EachJ (sb : Nat) (fv : Value) (bs : List Nat) (J : List (Nat × Obj) → Nat → World → Prop) (g : Nat) (a' : Act) (w' : World) : Prop :=
 ∃ (i cp : Nat) (a : Option Addr) (Y : List (Nat × Obj)), i + g = bs.length ∧ Fr 23 [(0, bpt sb), (1, fv), (4, .slice a bs.length cp), (5, .int .i64 i)] a' ∧ SlIs 131 1 (.slice a bs.length cp) bs.length (bs.map bpt) Y ∧ J Y i w'
section
variable {qT : Bool} {B : Nat} {w0 w w' : World} {sb slb xb pb qb gb c c' i k b : Nat} {bs : List Nat} {S S' : Sto} {L : List Pq} {xv v : Value} {d d' : Plq} {R SX SS F F' Z : List (Nat × Obj)} {o : Opt} {M : List Ent} {G : List Gst} {T : Nat} {n : List UInt8} {q z bt : Int} {e e0 : Ent} {g : Gst}
set_option maxHeartbeats 2000000 in
theorem seach_any {g : Nat} {cb : Array Value} {J : List (Nat × Obj) → Nat → World → Prop} (hgo : ∀ args w, (callFunc g args).run Tryz.prog w = .ok (.enter g args) w) (h : StoIs qT B w0 w sb bs S F c)
  (h0 : ∀ Y w', StoIs qT B w0 w' sb bs S (Y ++ F) c → J Y 0 w')
  (hr : ∀ Y i w', J Y i w' → ∃ O, St B w0 w' (O ++ Y))
  (hs : ∀ Y (i b : Nat) w', bs[i]? = some b → J Y i w' → Calls Tryz.prog g (#[bpt b] ++ cb) w' fun e w2 => e = noneV ∧ J Y (i + 1) w2) :
  Calls Tryz.prog 66 #[bpt sb, .func (.func g) #[] cb] w fun e w' => e = noneV ∧ ∃ Y, J Y bs.length w' := by
 have hlen : bs.length ≤ 8 := by rw [h.len]; exact h.fine.few
 obtain ⟨L, slb, xv, v, R, SX, SS, h1, h2⟩ := h
 have hp : ∀ Y, ((stoO sb slb xv v S L R SX SS ++ F) ++ Y).Perm (stoO sb slb xv v S L R SX SS ++ (Y ++ F)) := fun Y => perm_by fun a => by simp only [List.count_append]; omega
 have h3 : St B w0 w ((((sb, soO slb xv v S) :: (SX ++ (SS ++ pqsO L))) ++ F) ++ R) := h2.perm (perm_by fun a => by simp only [stoO, List.count_append, List.count_cons]; omega)
 have c2 := (h2.seeS (List.mem_append_left _ List.mem_cons_self)).c2
 have cc : Hid (Calls Tryz.prog 125 #[v] w fun e w' => ∃ a cp Y, e = .returned (.slice a bs.length cp) ∧ SlIs 131 1 (.slice a bs.length cp) bs.length (bs.map bpt) Y ∧ J Y 0 w') := Lib.hid ((cloneq_any h1.sl h3 (by omega)).mono (by
  rintro e w' ⟨a, cp, Y, rfl, hsl, hst⟩
  refine ⟨a, cp, Y, rfl, hsl, h0 Y w' ⟨L, slb, xv, v, R, SX, SS, h1, hst.perm (perm_by fun a => ?_)⟩⟩
  simp only [stoO, List.count_append, List.count_cons]; omega))
 obtain ⟨av, cv, rfl, -⟩ := h1.sl.form
 replace hs := Lib.hid hs
 replace hr := Lib.hid hr
 clear h0 h1 h2 h3 hp
 go_enter Tryz.func66, Tryz.ntmps66
 go_wp2_with fail
 refine wp_scope_ghost 0 (EachJ sb (.func (.func g) #[] cb) bs J) rfl ?_ ?_
 ·clear cc c2
  rintro m a' w' ⟨i, cp, a, Y, hi, hfr, hsl, hJ⟩
  obtain ⟨q, rfl, hl'⟩ := hfr.lit
  clear hfr
  simp only [List.mem_cons, List.not_mem_nil, or_false, forall_eq_or_imp, forall_eq] at hl'
  obtain ⟨f0, f1, f4, f5⟩ := hl'
  simp only [List.range, List.range.loop, List.map, f0, f1, f4, f5]
  clear f0 f1 f4 f5
  have hrow : ∀ (j : Nat) b, bs[j]? = some b → ∃ g off, a = some ⟨g, off, none⟩ ∧ w'.cell? ⟨g, off + j, none⟩ = some (bpt b) := fun j b hb => by
   obtain ⟨O, hO⟩ := hr.out Y i w' hJ
   obtain ⟨a', cap', e, -, -, ha⟩ := hsl.form
   cases e
   have hl := (List.getElem?_eq_some_iff.1 hb).1
   obtain ⟨g, off, rfl⟩ := ha j hl
   exact ⟨g, off, rfl, hsl.cellAt hO (by rw [List.getElem?_map, hb]; rfl)⟩
  have hi0 : (0 : Int) ≤ i := by omega
  by_cases hlt : i < bs.length
  ·have hx : bs[i]? = some bs[i] := List.getElem?_eq_getElem hlt
   generalize bs[i] = b at hx
   have hi1 : (i : Int) < bs.length := by omega
   have hne : ((i : Int) == bs.length) = false := by rw [beq_eq_false_iff_ne]; omega
   obtain ⟨g1, o1, rfl, k1⟩ := hrow i b hx
   have cc := Lib.hid (hs.out Y i b w' hx hJ)
   have nxt : Hid (∀ w2 a', J Y (i + 1) w2 → Fr 23 [(0, bpt sb), (1, .func (.func g) #[] cb), (4, .slice (some ⟨g1, o1, none⟩) bs.length cp), (5, .int .i64 ((i + 1 : Nat) : Int))] a' → ∃ k, k < m ∧ EachJ sb (.func (.func g) #[] cb) bs J k a' w2) :=
    Lib.hid fun w2 a' hJ2 hf => ⟨m - 1, by omega, i + 1, cp, _, Y, by omega, hf, hsl, hJ2⟩
   clear hx hrow hs hJ hsl hr
   go_wp2_with fail
   refine cc.out.mono ?_
   rintro e w2 ⟨rfl, hJ2⟩
   replace nxt := Lib.hid (fun a' => nxt.out w2 a' hJ2)
   clear cc hJ2 k1
   go_wp2_with fail
   refine wp_goto ?_
   exact ⟨rfl, nxt.out _ ⟨rfl, rfl, by simp⟩⟩
  ·obtain rfl : i = bs.length := by omega
   have fin : Hid (∃ Y, J Y bs.length w') := Lib.hid ⟨Y, hJ⟩
   clear hrow hs hJ hsl hr
   go_wp2_with fail
   simp only [Exit.jump]
   exact bodyPost_ret (results_none rfl _ _ _) rfl ⟨rfl, fin.out⟩
 ·intro H
  clear hs hr
  go_wp2_with fail
  refine cc.out.mono ?_
  rintro e w1 ⟨a, cp, Y, rfl, hsl, hJ⟩
  replace hJ := Lib.hid hJ
  replace hsl := Lib.hid hsl
  clear cc c2
  go_wp2_with fail
  refine wp_label ?_
  go_step
  go_step
  exact H bs.length _ _ ⟨0, cp, a, Y, by omega, ⟨rfl, rfl, by simp⟩, hsl.out, hJ.out⟩
def EnsR (qT : Bool) (B : Nat) (w0 : World) (sb : Nat) (bs : List Nat) (S : Sto) (F : List (Nat × Obj)) (c : Nat) (l : List Ent) (r : Ending) (w' : World) : Prop :=
 ∃ a cp Y, r = .returned (.slice a l.length cp) ∧ EnsIs (.slice a l.length cp) l Y ∧ StoIs qT B w0 w' sb bs S (Y ++ F) c
set_option maxHeartbeats 1000000 in
theorem st_ready (h : StoIs qT B w0 w sb bs S F c) (n : List UInt8) : Calls Tryz.prog 20 #[bpt sb, tx n] w (EnsR qT B w0 sb bs S F c (S.readyOf n)) := by
 have cn := Lib.hid (named_any h n)
 unfold Sto.readyOf
 rcases idx_at S n with ⟨e1, e2⟩ | ⟨i, d, e1, hi, e2, -⟩
 ·rw [e2]
  rw [e1, ptrQ_none] at cn
  have fin : Hid (∀ w', Below w.heap.size w w' → EnsR qT B w0 sb bs S F c [] (.returned (.slice none 0 0)) w') := Lib.hid fun w' hb => ⟨none, 0, [], rfl, EnsIs.nil, h.grow hb⟩
  simp only
  clear e1 e2 h
  go_enter Tryz.func20, Tryz.ntmps20
  go_wp2_with fail
  refine cn.out.mono ?_
  rintro e w1 ⟨rfl, hb⟩
  replace fin := Lib.hid (fin.out w1 hb)
  clear cn hb
  go_wp2_with fail
  go_ret
  exact fin.out
 ·rw [e2]
  obtain ⟨pb, hpb⟩ := h.blk hi
  rw [e1, ptrQ_some hpb] at cn
  have see : Hid (∀ w1, Below w.heap.size w w1 → ∃ qb, w1.cell? ⟨pb, 3, none⟩ = some (rptr qb) ∧ Calls Tryz.prog 69 #[rptr qb] w1 (EnsR qT B w0 sb bs S F c d.M)) := Lib.hid fun w1 hb => by
   obtain ⟨pb', qb, gb, h1, h2, ⟨Z, h3, h4⟩, -⟩ := (h.grow hb).place hi
   rw [hpb] at h1
   obtain rfl := Option.some.inj h1
   refine ⟨qb, h2.c3, (qu_all h3).mono ?_⟩
   rintro r w' ⟨a, cp, Y, rfl, hs, h5⟩
   have h6 := (h4 _ _ (Y ++ F) (h5.permF (perm_by fun a => by simp only [List.count_append]; omega))).2
   rw [setM_same hi] at h6
   exact ⟨a, cp, Y, rfl, hs, h6⟩
  simp only
  generalize d.M = M at *
  clear e1 e2 h hi hpb
  go_enter Tryz.func20, Tryz.ntmps20
  go_wp2_with fail
  refine cn.out.mono ?_
  rintro e w1 ⟨rfl, hb⟩
  obtain ⟨qb, k3, ca⟩ := see.out w1 hb
  replace ca := Lib.hid ca
  clear cn hb see
  go_wp2_with fail
  refine ca.out.mono ?_
  rintro e w2 ⟨a, cp, Y, rfl, hs, h2⟩
  have fin : Hid (EnsR qT B w0 sb bs S F c M (.returned (.slice a M.length cp)) w2) := Lib.hid ⟨a, cp, Y, rfl, hs, h2⟩
  clear ca hs h2
  go_wp2_with fail
  go_ret
  exact fin.out
def GssR (qT : Bool) (B : Nat) (w0 : World) (sb : Nat) (bs : List Nat) (S : Sto) (F : List (Nat × Obj)) (c : Nat) (l : List Gst) (r : Ending) (w' : World) : Prop :=
 ∃ a cp Y, r = .returned (.slice a l.length cp) ∧ GssIs (.slice a l.length cp) l Y ∧ StoIs qT B w0 w' sb bs S (Y ++ F) c
set_option maxHeartbeats 1000000 in
theorem st_guests (h : StoIs qT B w0 w sb bs S F c) (n : List UInt8) : Calls Tryz.prog 40 #[bpt sb, tx n] w (GssR qT B w0 sb bs S F c (S.guestsOf n)) := by
 have cn := Lib.hid (named_any h n)
 unfold Sto.guestsOf
 rcases idx_at S n with ⟨e1, e2⟩ | ⟨i, d, e1, hi, e2, -⟩
 ·rw [e2]
  rw [e1, ptrQ_none] at cn
  have fin : Hid (∀ w', Below w.heap.size w w' → GssR qT B w0 sb bs S F c [] (.returned (.slice none 0 0)) w') := Lib.hid fun w' hb => ⟨none, 0, [], rfl, SlIs.nil, h.grow hb⟩
  simp only
  clear e1 e2 h
  go_enter Tryz.func40, Tryz.ntmps40
  go_wp2_with fail
  refine cn.out.mono ?_
  rintro e w1 ⟨rfl, hb⟩
  replace fin := Lib.hid (fin.out w1 hb)
  clear cn hb
  go_wp2_with fail
  go_ret
  exact fin.out
 ·rw [e2]
  obtain ⟨pb, hpb⟩ := h.blk hi
  rw [e1, ptrQ_some hpb] at cn
  have see : Hid (∀ w1, Below w.heap.size w w1 → ∃ gb, w1.cell? ⟨pb, 4, none⟩ = some (gup gb) ∧ Calls Tryz.prog 97 #[gup gb] w1 (GssR qT B w0 sb bs S F c d.G)) := Lib.hid fun w1 hb => by
   obtain ⟨gb, Z, h1, h2, h3⟩ := (h.grow hb).placeG hi hpb
   refine ⟨gb, h1, (gu_all h2).mono ?_⟩
   rintro r w' ⟨a, cp, Y, rfl, hs, h5⟩
   have h6 := (h3 _ _ _ (Y ++ F) (h5.permF (perm_by fun a => by simp only [List.count_append]; omega))).2
   rw [setG_same hi] at h6
   exact ⟨a, cp, Y, rfl, hs, h6⟩
  simp only
  generalize d.G = M at *
  clear e1 e2 h hi hpb
  go_enter Tryz.func40, Tryz.ntmps40
  go_wp2_with fail
  refine cn.out.mono ?_
  rintro e w1 ⟨rfl, hb⟩
  obtain ⟨qb, k3, ca⟩ := see.out w1 hb
  replace ca := Lib.hid ca
  clear cn hb see
  go_wp2_with fail
  refine ca.out.mono ?_
  rintro e w2 ⟨a, cp, Y, rfl, hs, h2⟩
  have fin : Hid (GssR qT B w0 sb bs S F c M (.returned (.slice a M.length cp)) w2) := Lib.hid ⟨a, cp, Y, rfl, hs, h2⟩
  clear ca hs h2
  go_wp2_with fail
  go_ret
  exact fin.out
theorem StoIs.setB {cs : Array Value} {U : TypeId} {fr : Nat × Nat} {X Y : List (Nat × Obj)} (h : StoIs qT B w0 w sb bs S (X ++ (b, .cells cs U fr) :: Y) c) (i : Nat) (u : Value) : StoIs qT B w0 (w.setCell ⟨b, i, none⟩ u) sb bs S (X ++ (b, .cells (cs.setIfInBounds i u) U fr) :: Y) c :=
 ((h.permF List.perm_middle).setF i u).permF List.perm_middle.symm
def NamesJ (qT : Bool) (B : Nat) (w0 : World) (sb : Nat) (bs : List Nat) (S : Sto) (F : List (Nat × Obj)) (c nb : Nat) (Y : List (Nat × Obj)) (i : Nat) (w' : World) : Prop :=
 ∃ u Z, TssIs u ((S.L.take i).map (·.name)) Z ∧ StoIs qT B w0 w' sb bs S ((nb, .cells #[u] 47) :: (Z ++ (Y ++ F))) c
set_option maxHeartbeats 2000000 in
theorem names_one {nb : Nat} {Y : List (Nat × Obj)} (hb : bs[i]? = some pb) (hlen : bs.length = S.L.length) (h : NamesJ qT B w0 sb bs S F c nb Y i w) :
  Calls Tryz.prog 67 #[bpt pb, bpt nb] w fun e w2 => e = noneV ∧ NamesJ qT B w0 sb bs S F c nb Y (i + 1) w2 := by
 obtain ⟨u, Z, hu, h1⟩ := h
 have hil : i < S.L.length := by have := (List.getElem?_eq_some_iff.1 hb).1; omega
 have hd : S.L[i]? = some S.L[i] := List.getElem?_eq_getElem hil
 generalize S.L[i] = d at hd
 have hfew := h1.fine.few
 obtain ⟨qb, gb, hs⟩ := h1.seeP hb hd
 have k0 := hs.c0
 have kn : w.cell? ⟨nb, 0, none⟩ = some u := h1.cell List.mem_cons_self rfl
 have h2 := h1.grow (drew_b w)
 obtain ⟨O, o1, -, o2⟩ := h2.beside
 have hpm : ∀ (v : Value) Z, (O ++ ((nb, Obj.cells #[v] 47 (0, 0)) :: (Z ++ (Y ++ F)))).Perm ((O ++ ((nb, .cells #[v] 47) :: (Y ++ F))) ++ Z) := fun v Z => perm_by fun a => by
  simp only [List.count_append, List.count_cons]; omega
 have e1 : ((S.L.take i).map (·.name)) ++ [d.name] = (S.L.take (i + 1)).map (·.name) := by
  rw [List.take_add_one, hd, List.map_append]; rfl
 obtain ⟨a2, c2, W2, Z2, hrun, hu2, hst2⟩ := TssIs.append (X := O ++ ((nb, .cells #[u] 47) :: (Y ++ F))) hu (o1.perm (hpm u Z)) d.name (by rw [List.length_map, List.length_take]; omega)
 rw [e1] at hu2
 have hst3 := hst2.perm (hpm u Z2).symm
 have hS := o2 _ _ hst3
 have f1 := hS.soft (b := nb) List.mem_cons_self 0
 have k1 : W2.cell? ⟨nb, 0, none⟩ = some u := hS.cell List.mem_cons_self rfl
 have fin : Hid (NamesJ qT B w0 sb bs S F c nb Y (i + 1) (W2.setCell ⟨nb, 0, none⟩ (.slice a2 (((S.L.take i).map (·.name)).length + 1) c2))) := Lib.hid ⟨_, Z2, hu2, hS.setF 0 _⟩
 obtain ⟨au, cu, rfl⟩ := hu.form
 have d2 : (w.alloc (.cells #[tx d.name] 9)).drew.cell? ⟨nb, 0, none⟩ = some (.slice au (((S.L.take i).map (·.name)).length) cu) := (h2.alloc (.cells #[tx d.name] 9)).cell (b := nb) (List.mem_cons_of_mem _ List.mem_cons_self) rfl
 have run2 : AppRun Tryz.prog 47 (.slice au (((S.L.take i).map (·.name)).length) cu) (.slice (some ⟨w.heap.size, 0, none⟩) 1 1) ((w.alloc (.cells #[tx d.name] 9)).drew) (.slice a2 (((S.L.take i).map (·.name)).length + 1) c2) W2 := ⟨hrun⟩
 have d0 : w.drew.cell? ⟨pb, 0, none⟩ = some (tx d.name) := k0
 have dn : w.drew.cell? ⟨nb, 0, none⟩ = some (.slice au (((S.L.take i).map (·.name)).length) cu) := kn
 generalize ((S.L.take i).map (·.name)).length = q0 at *
 generalize d.name = m at *
 generalize q0 + 1 = q1 at *
 clear hrun k0 kn hS hst3 hst2 hu2 hpm o1 o2 h2 h1 hs hu e1 hfew hd hil hlen hb
 go_enter Tryz.func67, Tryz.ntmps67
 go_wp2_with fail
 go_region_law (refine step_app (.tmp 3) (.tmp 8) 47 run2 rfl rfl (by simp [Act.eval]) (by simp [Act.eval]) ?_)
 all_goals
  clear run2 d0 dn d2 f1 k1
  go_wp2_with fail
  exact bodyPost_end (results_none rfl _ _ _) rfl ⟨rfl, fin.out⟩
set_option maxHeartbeats 2000000 in
theorem st_names (h : StoIs qT B w0 w sb bs S F c) : Calls Tryz.prog 19 #[bpt sb] w fun e w' => ∃ u Z, e = .returned u ∧ TssIs u (S.L.map (·.name)) Z ∧ StoIs qT B w0 w' sb bs S (Z ++ F) c := by
 have h1 := h.alloc (.cells #[.slice none 0 0] 47)
 have hlen := h.len
 have hgo : ∀ (args : Array Value) (w : World), (callFunc 67 args).run Tryz.prog w = .ok (.enter 67 args) w := fun args w => by kernel_rfl
 have h0 : ∀ Y w', StoIs qT B w0 w' sb bs S (Y ++ ((w.heap.size, .cells #[.slice none 0 0] 47) :: F)) c → NamesJ qT B w0 sb bs S F c w.heap.size Y 0 w' := fun Y w' h' => ⟨_, [], TssIs.nil, h'.permF List.perm_middle⟩
 have hr : ∀ Y i w', NamesJ qT B w0 sb bs S F c w.heap.size Y i w' → ∃ O, St B w0 w' (O ++ Y) := by
  rintro Y i w' ⟨u, Z, hu, h'⟩
  obtain ⟨O, o1, -⟩ := h'.beside
  have hp : (O ++ ((w.heap.size, Obj.cells #[u] 47 (0, 0)) :: (Z ++ (Y ++ F)))).Perm ((O ++ ((w.heap.size, .cells #[u] 47) :: (Z ++ F))) ++ Y) := perm_by fun a => by simp only [List.count_append, List.count_cons]; omega
  exact ⟨_, o1.perm hp⟩
 have hs : ∀ Y (i b : Nat) w', bs[i]? = some b → NamesJ qT B w0 sb bs S F c w.heap.size Y i w' → Calls Tryz.prog 67 (#[bpt b] ++ #[bpt w.heap.size]) w' fun e w2 => e = noneV ∧ NamesJ qT B w0 sb bs S F c w.heap.size Y (i + 1) w2 := fun Y i b w' hb hJ => names_one hb hlen hJ
 have ce0 := seach_any (g := 67) (cb := #[bpt w.heap.size]) (J := NamesJ qT B w0 sb bs S F c w.heap.size) hgo h1 h0 hr hs
 have ce : Hid (Calls Tryz.prog 66 #[bpt sb, .func (.func 67) #[] #[bpt w.heap.size]] (w.alloc (.cells #[.slice none 0 0] 47)) fun e w' => e = noneV ∧ ∃ u Z, w'.cell? ⟨w.heap.size, 0, none⟩ = some u ∧ TssIs u (S.L.map (·.name)) Z ∧ StoIs qT B w0 w' sb bs S (Z ++ F) c) := by
  refine Lib.hid (ce0.mono ?_)
  rintro e w' ⟨rfl, Y, u, Z, hu, h'⟩
  rw [hlen, List.take_of_length_le (Nat.le_refl _)] at hu
  exact ⟨rfl, u, Z, h'.cell List.mem_cons_self rfl, hu, h'.sub ((List.Sublist.append (List.Sublist.refl Z) (List.sublist_append_right Y F)).cons _)⟩
 clear h h1 hlen ce0 h0 hr hs hgo
 generalize S.L.map (·.name) = l at *
 go_enter Tryz.func19, Tryz.ntmps19
 go_wp2_with fail
 refine ce.out.mono ?_
 rintro e w1 ⟨rfl, u, Z, k0, hu, h1⟩
 have fin : Hid (∃ u' Z, Ending.returned u = .returned u' ∧ TssIs u' l Z ∧ StoIs qT B w0 w1 sb bs S (Z ++ F) c) := Lib.hid ⟨u, Z, rfl, hu, h1⟩
 obtain ⟨au, cu, rfl⟩ := hu.form
 clear ce hu h1
 go_wp2_with fail
 go_ret
 exact fin.out
end
end Go.Proofs.YtknjamfjonapiaaGreatDoor
namespace Go.Proofs.YtknjamfjonapiaaGreatDoor
open Go.RowKit
set_option linter.unusedVariables false
set_option linter.unusedSectionVars false
set_option linter.unusedSimpArgs false
set_option maxRecDepth 100000
section
variable {qT : Bool} {B : Nat} {w0 w w' : World} {sb slb xb pb qb gb c c' i k b : Nat} {bs : List Nat} {S S' : Sto} {L : List Pq} {xv v : Value} {d d' : Plq} {R SX SS F F' Z : List (Nat × Obj)} {o : Opt} {M : List Ent} {G : List Gst} {T : Nat} {n : List UInt8} {q z bt : Int} {e e0 : Ent} {g : Gst}
theorem StoIs.reads {a : Option Addr} {cp : Nat} {Y : List (Nat × Obj)} (h : StoIs qT B w0 w sb bs S F c) (hs : EnsIs (.slice a M.length cp) M Y) (hp : F.Perm (F' ++ Y)) : ReadEs w a M := by
 obtain ⟨O, o1, -⟩ := h.beside
 refine hs.read (X := O ++ F') (o1.perm ?_)
 rw [List.append_assoc]
 exact hp.append_left O
end
end Go.Proofs.YtknjamfjonapiaaGreatDoor
namespace Go.Proofs.YtknjamfjonapiaaGreatDoor
open Go.RowKit
set_option linter.unusedVariables false
set_option maxRecDepth 100000
def measL (o : Opt) : List Int := [o.maxLen, o.ttl, o.prio, o.bits, (o.dead.length : Int), (o.deadKey.length : Int)]
theorem measures_any (o : Opt) (w : World) : Calls Tryz.prog 197 #[opV o] w fun r w' => r = .returned (.agg #[.int .i64 o.maxLen, .int .i64 o.ttl, .int .i64 o.prio, .int .i64 o.bits, .int .i64 o.dead.length, .int .i64 o.deadKey.length]) ∧ Below w.heap.size w w' := by
 go_enter Tryz.func197, Tryz.ntmps197
 go_wp2_with fail
 refine bodyPost_ret (v := .agg #[.int .i64 o.maxLen, .int .i64 o.ttl, .int .i64 o.prio, .int .i64 o.bits, .int .i64 o.dead.length, .int .i64 o.deadKey.length]) (by simp [results, Tryz.results197, go_sem]) rfl ⟨rfl, by repeat (first | exact Below.refl _ _ | refine bel ?_ (new_below _ _))⟩
def restOk (o : Opt) (j : Nat) : Bool := (((measL o).zip mostL).drop j).all fun p => decide (0 ≤ p.1) && decide (p.1 ≤ p.2)
theorem restOk_all (o : Opt) : restOk o 0 = isO o := by
 unfold restOk isO measL mostL
 simp only [List.zip_cons_cons, List.zip_nil_right, List.drop_zero, List.all_cons, List.all_nil, Bool.and_true]
 rw [Bool.eq_iff_iff]
 simp only [Bool.and_eq_true, decide_eq_true_eq]
 omega
theorem restOk_step (o : Opt) {j : Nat} (h : j < 6) : restOk o j = (decide (0 ≤ (measL o).getD j 0) && decide ((measL o).getD j 0 ≤ mostL.getD j 0) && restOk o (j + 1)) := by
 obtain rfl | rfl | rfl | rfl | rfl | rfl : j = 0 ∨ j = 1 ∨ j = 2 ∨ j = 3 ∨ j = 4 ∨ j = 5 := by omega
 all_goals rfl
def OptsJ (w : World) (o : Opt) (g : Nat) (a' : Act) (wr : World) : Prop :=
 ∃ (j nb : Nat), j + g = 6 ∧ Fr 24 [(3, .pointer (some ⟨nb, 0, none⟩)), (4, .int .i64 j)] a' ∧ restOk o j = isO o ∧ Below w.heap.size w wr ∧ ∀ k, k < 6 → wr.cell? ⟨nb, k, none⟩ = some (.int .i64 ((measL o).getD k 0))
set_option maxHeartbeats 1000000 in
theorem isopts_any (o : Opt) (w : World) (hT : Most w.heap.size w) : Calls Tryz.prog 136 #[opV o] w fun r w' => r = .returned (.bool (isO o)) ∧ Below w.heap.size w w' := by
 have hW : Hid (∀ w', Below w.heap.size w w' → Most w'.heap.size w') := Lib.hid fun w' hb => hT.on hb
 have c1 := Lib.hid (measures_any o)
 have h0 := Lib.hid (new_below w (opO o))
 clear hT
 go_enter Tryz.func136, Tryz.ntmps136
 go_wp2_with fail
 refine wp_scope_ghost 0 (OptsJ w o) rfl ?_ ?_
 ·rintro g a' wr ⟨j, nb, hj, hfr, hacc, hB, hc⟩
  obtain ⟨f, rfl, hl'⟩ := hfr.lit
  clear hfr c1 h0
  simp only [List.mem_cons, List.not_mem_nil, or_false, forall_eq_or_imp, forall_eq] at hl'
  obtain ⟨f3, f4⟩ := hl'
  simp only [List.range, List.range.loop, List.map, f3, f4]
  clear f3 f4
  have fin := Lib.hid hB
  have finN := Lib.hid (fun n => bel hB (drewN_below _ n))
  by_cases h6 : j = 6
  ·subst h6
   have e : Hid (true = isO o) := Lib.hid hacc
   clear hacc hc hW
   go_wp2_with fail
   simp only [Exit.jump]
   go_ret
   exact ⟨ret_bool e.out, fin.out⟩
  ·have hlt : j < 6 := by omega
   have q0 := hc j hlt
   have q1 := (hW.out _ hB).2 j hlt
   have hst := restOk_step o hlt
   have hcN := Lib.hid hc
   generalize (measL o).getD j 0 = x at *
   generalize mostL.getD j 0 = y at *
   have hj0 : (0 : Int) ≤ j := by omega
   have hj6 : (j : Int) < 6 := by omega
   have hne : ((j : Int) == 6) = false := by rw [beq_eq_false_iff_ne]; omega
   clear hc hW hB
   by_cases h1 : x < 0
   ·have e : Hid (false = isO o) := Lib.hid (by rw [← hacc, hst, decide_eq_false (show ¬ 0 ≤ x by omega)]; rfl)
    clear hacc hst
    go_wp2_with fail
    go_quiet (fail)
    go_wp2_with fail
    simp only [Exit.jump]
    go_ret
    exact ⟨ret_bool e.out, finN.out _⟩
   ·by_cases h2 : x > y
    ·have e : Hid (false = isO o) := Lib.hid (by rw [← hacc, hst, decide_eq_false (show ¬ x ≤ y by omega), Bool.and_false]; rfl)
     clear hacc hst
     go_wp2_with fail
     go_quiet (fail)
     go_wp2_with fail
     simp only [Exit.jump]
     go_ret
     exact ⟨ret_bool e.out, finN.out _⟩
    ·have e : Hid (restOk o (j + 1) = isO o) := Lib.hid (by rw [← hacc, hst, decide_eq_true (show x ≤ y by omega), decide_eq_true (show 0 ≤ x by omega)]; rfl)
     clear hacc hst
     go_wp2_with fail
     go_quiet (fail)
     go_wp2_with fail
     refine wp_goto ?_
     exact ⟨rfl, g - 1, by omega, j + 1, nb, by omega, ⟨rfl, rfl, by simp⟩, e.out, finN.out _, hcN.out⟩
 ·intro H
  go_wp2_with fail
  refine (c1.out _).mono ?_
  rintro r w1 ⟨rfl, hb⟩
  have hb1 := Lib.hid (bel h0.out hb)
  clear hb
  go_wp2_with fail
  refine wp_label ?_
  go_step
  go_step
  refine H _ _ _ ⟨0, _, Nat.zero_add 6, ⟨rfl, rfl, by simp; rfl⟩, restOk_all o, bel hb1.out (new_below _ _), fun k hk => ?_⟩
  obtain rfl | rfl | rfl | rfl | rfl | rfl : k = 0 ∨ k = 1 ∨ k = 2 ∨ k = 3 ∨ k = 4 ∨ k = 5 := by omega
  all_goals simp [measL]
end Go.Proofs.YtknjamfjonapiaaGreatDoor
namespace Go.Proofs.YtknjamfjonapiaaGreatDoor
open Go.RowKit
set_option linter.unusedVariables false
set_option maxRecDepth 100000
theorem lasting_any (o : Opt) (w : World) : Calls Tryz.prog 198 #[opV o] w fun r w' => r = .returned (opV (lastO o)) ∧ Below w.heap.size w w' := by
 have hb := Lib.hid (bel (new_below w (opO (lastO o))) (new_below _ (opO (lastO o))))
 go_enter Tryz.func198, Tryz.ntmps198
 go_wp2_with fail
 exact bodyPost_ret (v := opV (lastO o)) (by simp [results, Tryz.results198, go_sem, lastO, lastB]) rfl ⟨rfl, hb.out⟩
end Go.Proofs.YtknjamfjonapiaaGreatDoor
namespace Go.Proofs.YtknjamfjonapiaaGreatDoor
open Go.RowKit
set_option linter.unusedVariables false
set_option maxRecDepth 100000
abbrev OpAt (wr : World) (b : Nat) (e : Opt) : Prop := wr.cell? ⟨b, 0, none⟩ = some (tx e.dead) ∧ wr.cell? ⟨b, 1, none⟩ = some (tx e.deadKey) ∧ wr.cell? ⟨b, 2, none⟩ = some (.int .i64 e.maxLen) ∧ wr.cell? ⟨b, 3, none⟩ = some (.int .i64 e.ttl) ∧ wr.cell? ⟨b, 4, none⟩ = some (.int .i64 e.prio) ∧ wr.cell? ⟨b, 5, none⟩ = some (.int .i64 e.bits)
theorem OpAt.step {w wr : World} {b : Nat} {e : Opt} (h : OpAt w b e) (hb : Below w.heap.size w wr) : OpAt wr b e := by
 obtain ⟨h0, h1, h2, h3, h4, h5⟩ := h
 have lt := World.block_lt_of_cell? w _ h0
 exact ⟨(hb.cell (p := ⟨b, 0, none⟩) lt).trans h0, (hb.cell (p := ⟨b, 1, none⟩) lt).trans h1, (hb.cell (p := ⟨b, 2, none⟩) lt).trans h2, (hb.cell (p := ⟨b, 3, none⟩) lt).trans h3, (hb.cell (p := ⟨b, 4, none⟩) lt).trans h4, (hb.cell (p := ⟨b, 5, none⟩) lt).trans h5⟩
theorem OpAt.start (w : World) (e : Opt) : OpAt (w.alloc (opO e)) w.heap.size e := by
 refine ⟨?_, ?_, ?_, ?_, ?_, ?_⟩ <;> simp
abbrev Op2 (w wr : World) (x y : Nat) (a b : Opt) : Prop := Below w.heap.size w wr ∧ OpAt wr x a ∧ OpAt wr y b
theorem op2Hold {w wa wb : World} {x y : Nat} {a b : Opt} (h : Op2 w wa x y a b) (hb : Below wa.heap.size wa wb) : Op2 w wb x y a b := ⟨bel h.1 hb, h.2.1.step hb, h.2.2.step hb⟩
theorem op2Start (w : World) (a b : Opt) : Op2 w ((w.alloc (opO a)).alloc (opO b)) w.heap.size (w.heap.size + 1) a b := by
 have h2 := OpAt.start (w.alloc (opO a)) b
 rw [World.size_alloc] at h2
 exact ⟨two_new _ _ _, (OpAt.start w a).step (new_below _ _), h2⟩
abbrev Parts (r : Bool) (d1 k1 : List UInt8) (m1 t1 p1 q1 : Int) (d2 k2 : List UInt8) (m2 t2 p2 q2 : Int) : Prop :=
 (r = false ∧ (d1 == d2) = false) ∨ (r = false ∧ d1 = d2 ∧ (k1 == k2) = false) ∨ (r = false ∧ d1 = d2 ∧ k1 = k2 ∧ (m1 == m2) = false) ∨ (r = false ∧ d1 = d2 ∧ k1 = k2 ∧ m1 = m2 ∧ (t1 == t2) = false) ∨ (r = false ∧ d1 = d2 ∧ k1 = k2 ∧ m1 = m2 ∧ t1 = t2 ∧ (p1 == p2) = false) ∨ (r = false ∧ d1 = d2 ∧ k1 = k2 ∧ m1 = m2 ∧ t1 = t2 ∧ p1 = p2 ∧ (q1 == q2) = false) ∨ (r = true ∧ d1 = d2 ∧ k1 = k2 ∧ m1 = m2 ∧ t1 = t2 ∧ p1 = p2 ∧ q1 = q2)
abbrev LastC (a : Opt) (d k : List UInt8) (m t p q : Int) : Prop := ∀ w, Calls Tryz.prog 198 #[opV a] w fun r w' => r = .returned (.agg #[tx d, tx k, .int .i64 m, .int .i64 t, .int .i64 p, .int .i64 q]) ∧ Below w.heap.size w w'
set_option maxHeartbeats 2000000 in
theorem same_parts {a b : Opt} {r : Bool} {d1 k1 : List UInt8} {m1 t1 p1 q1 : Int} {d2 k2 : List UInt8} {m2 t2 p2 q2 : Int} (hc1 : LastC a d1 k1 m1 t1 p1 q1) (hc2 : LastC b d2 k2 m2 t2 p2 q2) (h : Parts r d1 k1 m1 t1 p1 q1 d2 k2 m2 t2 p2 q2) (w : World) :
  Calls Tryz.prog 137 #[opV a, opV b] w fun x w' => x = .returned (.bool r) ∧ Below w.heap.size w w' := by
 have c1 := Lib.hid hc1
 have c2 := Lib.hid hc2
 have hS0 := Lib.hid (op2Hold (op2Start w a b) (drew_b _))
 clear hc1 hc2
 rcases h with ⟨rfl, hc⟩ | ⟨rfl, rfl, hc⟩ | ⟨rfl, rfl, rfl, hc⟩ | ⟨rfl, rfl, rfl, rfl, hc⟩ | ⟨rfl, rfl, rfl, rfl, rfl, hc⟩ | ⟨rfl, rfl, rfl, rfl, rfl, rfl, hc⟩ | ⟨rfl, rfl, rfl, rfl, rfl, rfl, rfl⟩
 all_goals
  go_enter Tryz.func137, Tryz.ntmps137
  go_wp2_with fail
  go_region_held3 (fun wr => Below w.heap.size w wr ∧ (wr.cell? ⟨w.heap.size, 0, none⟩ = some (tx a.dead) ∧ wr.cell? ⟨w.heap.size, 1, none⟩ = some (tx a.deadKey) ∧ wr.cell? ⟨w.heap.size, 2, none⟩ = some (.int .i64 a.maxLen) ∧ wr.cell? ⟨w.heap.size, 3, none⟩ = some (.int .i64 a.ttl) ∧ wr.cell? ⟨w.heap.size, 4, none⟩ = some (.int .i64 a.prio) ∧ wr.cell? ⟨w.heap.size, 5, none⟩ = some (.int .i64 a.bits)) ∧ (wr.cell? ⟨w.heap.size + 1, 0, none⟩ = some (tx b.dead) ∧ wr.cell? ⟨w.heap.size + 1, 1, none⟩ = some (tx b.deadKey) ∧ wr.cell? ⟨w.heap.size + 1, 2, none⟩ = some (.int .i64 b.maxLen) ∧ wr.cell? ⟨w.heap.size + 1, 3, none⟩ = some (.int .i64 b.ttl) ∧ wr.cell? ⟨w.heap.size + 1, 4, none⟩ = some (.int .i64 b.prio) ∧ wr.cell? ⟨w.heap.size + 1, 5, none⟩ = some (.int .i64 b.bits))) (first | exact hS0.out | exact op2Hold (by assumption) hb) (first
   | (go_at_call 198; refine (c1.out _).mono ?_; rintro e w'' ⟨rfl, hb⟩)
   | (go_at_call 198; refine (c2.out _).mono ?_; rintro e w'' ⟨rfl, hb⟩))
  rename_i hHeld
  have fin := Lib.hid hHeld.1
  clear hHeld
  go_wp2_with fail
  go_ret
  exact ⟨rfl, fin.out⟩
theorem parts_of (a b : Opt) : Parts (sameO a b) a.dead a.deadKey a.maxLen a.ttl a.prio (lastB a.bits) b.dead b.deadKey b.maxLen b.ttl b.prio (lastB b.bits) := by
 unfold sameO
 by_cases h0 : a.dead = b.dead
 rotate_left
 ·exact .inl ⟨by simp [h0], by simpa using h0⟩
 by_cases h1 : a.deadKey = b.deadKey
 rotate_left
 ·exact .inr (.inl ⟨by simp [h1], h0, by simpa using h1⟩)
 by_cases h2 : a.maxLen = b.maxLen
 rotate_left
 ·exact .inr (.inr (.inl ⟨by simp [h2], h0, h1, by simpa using h2⟩))
 by_cases h3 : a.ttl = b.ttl
 rotate_left
 ·exact .inr (.inr (.inr (.inl ⟨by simp [h3], h0, h1, h2, by simpa using h3⟩)))
 by_cases h4 : a.prio = b.prio
 rotate_left
 ·exact .inr (.inr (.inr (.inr (.inl ⟨by simp [h4], h0, h1, h2, h3, by simpa using h4⟩))))
 by_cases h5 : lastB a.bits = lastB b.bits
 rotate_left
 ·exact .inr (.inr (.inr (.inr (.inr (.inl ⟨by simp [h5], h0, h1, h2, h3, h4, by simpa using h5⟩)))))
 exact .inr (.inr (.inr (.inr (.inr (.inr ⟨by simp [h0, h1, h2, h3, h4, h5], h0, h1, h2, h3, h4, h5⟩)))))
theorem same_any (a b : Opt) (w : World) : Calls Tryz.prog 137 #[opV a, opV b] w fun x w' => x = .returned (.bool (sameO a b)) ∧ Below w.heap.size w w' :=
 same_parts (lasting_any a) (lasting_any b) (parts_of a b) w
end Go.Proofs.YtknjamfjonapiaaGreatDoor
namespace Go.Proofs.YtknjamfjonapiaaGreatDoor
open Go.RowKit
set_option linter.unusedVariables false
set_option linter.unusedSectionVars false
set_option linter.unusedSimpArgs false
set_option maxRecDepth 100000
section
variable {qT : Bool} {B : Nat} {w0 w w' : World} {sb slb xb pb qb gb c c' i k b : Nat} {bs : List Nat} {S S' : Sto} {L : List Pq} {xv v : Value} {d d' : Plq} {R SX SS F F' Z : List (Nat × Obj)} {o : Opt} {M : List Ent} {G : List Gst} {T : Nat} {n : List UInt8} {q z bt : Int} {e e0 : Ent} {g : Gst}
theorem QuIs.opC (h : QuIs B w0 w qb o M F) {b : Nat} {x : Opt} (hm : (b, opO x) ∈ F) : OpC w b x := by
 obtain ⟨Z, z1, -⟩ := h.beside
 exact z1.opC (List.mem_append_right _ hm)
set_option maxHeartbeats 4000000 in
theorem newplaceS_any (hT : qT = true → Tab B w0) (hst : St B w0 w F) (n : List UInt8) (k q : Int) (o : Opt) (hn : n.length ≤ 140737488351232) (h1 : o.dead.length ≤ 140737488351232) (h2 : o.deadKey.length ≤ 140737488351232) :
  Calls Tryz.prog 139 #[tx n, .int .i64 k, .int .i64 q, opV o] w fun e w' => ∃ p : Pq, e = .returned (bpt p.b) ∧ p.d = ⟨n, k, q, o, [], [], 0⟩ ∧ PqOk qT B w0 p ∧ St B w0 w' (p.objs ++ F) := by
 have hs1 := hst.alloc (opO o)
 have hs2 : St B w0 (w.alloc (opO o)).drew ((w.heap.size, opO o) :: F) := hs1.drew
 have hs0 : Hid (OpC (w.alloc (opO o)).drew w.heap.size o) := Lib.hid (hs2.opC List.mem_cons_self)
 have c1 : Hid (∀ W, St B w0 W ((w.heap.size, opO o) :: F) → Calls Tryz.prog 154 #[tx n] W fun e w' => e = .returned (tx n) ∧ St B w0 w' ((w.heap.size, opO o) :: F) ∧ OpC w' w.heap.size o) := Lib.hid fun W h => (clone_any n W hn).mono (by
  rintro e w' ⟨rfl, hb⟩
  have h3 := h.grow hb
  exact ⟨rfl, h3, h3.opC List.mem_cons_self⟩)
 have c2 : Hid (∀ W, St B w0 W ((w.heap.size, opO o) :: F) → Calls Tryz.prog 199 #[opV o] W fun e w' => ∃ qb, e = .returned (rptr qb) ∧ QuIs B w0 w' qb o [] ((w.heap.size, opO o) :: F) ∧ OpC w' w.heap.size o) := Lib.hid fun W h => (qu_new h h1 h2).mono (by
  rintro e w' ⟨qb, rfl, h3⟩
  exact ⟨qb, rfl, h3, h3.opC List.mem_cons_self⟩)
 have c3 : Hid (∀ W qb, QuIs B w0 W qb o [] ((w.heap.size, opO o) :: F) → Calls Tryz.prog 200 #[] W fun e w' => ∃ gb, e = .returned (gup gb) ∧ (∃ SQ SG, QuIn B w0 qb o [] SQ ∧ GuIn qT B w0 gb [] 0 SG ∧ St B w0 w' (SG ++ (SQ ++ ((w.heap.size, opO o) :: F)))) ∧ OpC w' w.heap.size o) := Lib.hid fun W qb h => by
  obtain ⟨SQ, q1, q2⟩ := h.in_
  refine (gu_new hT q1).mono ?_
  rintro e w' ⟨gb, rfl, h4⟩
  obtain ⟨SG, g1, g2⟩ := h4.in_
  exact ⟨gb, rfl, ⟨SQ, SG, q2, g2, g1⟩, g1.opC (List.mem_append_right _ (List.mem_append_right _ List.mem_cons_self))⟩
 have fin : Hid (∀ W qb gb, (∃ SQ SG, QuIn B w0 qb o [] SQ ∧ GuIn qT B w0 gb [] 0 SG ∧ St B w0 W (SG ++ (SQ ++ ((w.heap.size, opO o) :: F)))) → ∃ p : Pq, Ending.returned (bpt W.heap.size) = .returned (bpt p.b) ∧ p.d = ⟨n, k, q, o, [], [], 0⟩ ∧ PqOk qT B w0 p ∧ St B w0 (W.alloc (pqO ⟨n, k, q, o, [], [], 0⟩ qb gb)) (p.objs ++ F)) := Lib.hid fun W qb gb ⟨SQ, SG, a1, a2, a3⟩ => by
  refine ⟨⟨W.heap.size, qb, gb, ⟨n, k, q, o, [], [], 0⟩, SQ, SG⟩, rfl, rfl, ⟨a1, a2⟩, ?_⟩
  have hp : ((W.heap.size, pqO ⟨n, k, q, o, [], [], 0⟩ qb gb) :: (SG ++ (SQ ++ ((w.heap.size, opO o) :: F)))).Perm ((w.heap.size, opO o) :: ((⟨W.heap.size, qb, gb, ⟨n, k, q, o, [], [], 0⟩, SQ, SG⟩ : Pq).objs ++ F)) := perm_by fun a => by
   simp only [Pq.objs, List.count_append, List.count_cons]; omega
  exact ((a3.alloc _).perm hp).sub (List.sublist_cons_self _ _)
 obtain ⟨W0, hW⟩ : ∃ W0, W0 = w.alloc (opO o) := ⟨_, rfl⟩
 rw [← hW] at hs2 hs0
 replace hW := Lib.hid hW
 clear hs1 hst hn h1 h2 hT
 go_enter Tryz.func139, Tryz.ntmps139
 go_upto_region 1 with fail
 rw [← hW.out]
 clear hW
 generalize w.heap.size = nb at *
 go_wp2_with fail
 go_region_held3 (fun x => x.cell? ⟨nb, 0, none⟩ = some (tx o.dead) ∧ x.cell? ⟨nb, 1, none⟩ = some (tx o.deadKey) ∧ x.cell? ⟨nb, 2, none⟩ = some (.int .i64 o.maxLen) ∧ x.cell? ⟨nb, 3, none⟩ = some (.int .i64 o.ttl) ∧ x.cell? ⟨nb, 4, none⟩ = some (.int .i64 o.prio) ∧ x.cell? ⟨nb, 5, none⟩ = some (.int .i64 o.bits))
  (first | with_reducible exact kS | with_reducible exact hs0.out | go_keep) (first
  | (go_at_call 154; refine (c1.out _ (by assumption)).mono ?_; rintro r w2 ⟨rfl, hA, kS⟩)
  | (go_at_call 199; refine (c2.out _ (by assumption)).mono ?_; rintro r w2 ⟨qb, rfl, hQ, kS⟩)
  | (go_at_call 200; refine (c3.out _ _ (by assumption)).mono ?_; rintro r w2 ⟨gb, rfl, hG, kS⟩))
 have f := Lib.hid (fin.out _ _ _ hG)
 clear hG hQ hA hs2 hs0 kS c1 c2 c3 fin
 go_wp2_with fail
 go_ret
 exact f.out
theorem StoIs.mostW (h : StoIs qT B w0 w sb bs S F c) : Most w.heap.size w := by
 obtain ⟨O, o1, -⟩ := h.beside
 exact (h.tab.2.below h.below).mono o1.base
theorem push_st {p : Pq} {a : Option Addr} {cap : Nat} (h1 : StoIn qT B w0 bs S L slb xv (.slice a bs.length cap) R SX SS c) (h2 : St B w0 w (p.objs ++ (stoO sb slb xv (.slice a bs.length cap) S L R SX SS ++ F))) (ok : PqOk qT B w0 p) (hf : FineS { S with L := S.L ++ [p.d] }) :
  (w.cell? ⟨sb, 2, none⟩ = some (.slice a bs.length cap) ∧ w.cell? ⟨sb, 3, none⟩ = some (.int .i64 S.num) ∧ (w.alloc (.cells #[bpt p.b] 131)).cell? ⟨sb, 2, none⟩ = some (.slice a bs.length cap)) ∧
  ∃ a2 cap2 W3, AppRun Tryz.prog 90 (.slice a bs.length cap) (.slice (some ⟨w.heap.size, 0, none⟩) 1 1) (w.alloc (.cells #[bpt p.b] 131)) (.slice a2 (bs.length + 1) cap2) W3 ∧
   (W3.cell? ⟨sb, 2, none⟩ = some (.slice a bs.length cap) ∧ W3.frozen? ⟨sb, 2, none⟩ = false) ∧
   StoIs qT B w0 (W3.setCell ⟨sb, 2, none⟩ (.slice a2 (bs.length + 1) cap2)) sb (bs ++ [p.b]) { S with L := S.L ++ [p.d] } F c := by
 have hbl : bs.length ≤ 8 := by
  have : bs.length = S.L.length := by rw [← h1.data, ← h1.blks, List.length_map, List.length_map]
  have := h1.fine.few
  omega
 have m0 : (sb, soO slb xv (.slice a bs.length cap) S) ∈ p.objs ++ (stoO sb slb xv (.slice a bs.length cap) S L R SX SS ++ F) := List.mem_append_right _ (List.mem_append_left _ List.mem_cons_self)
 have hsee := h2.seeS m0
 have h3 := h2.alloc (.cells #[bpt p.b] 131)
 have hpm : ∀ (v : Value) R, ((w.heap.size, Obj.cells #[bpt p.b] 131 (0, 0)) :: (p.objs ++ (stoO sb slb xv v S L R SX SS ++ F))).Perm (((sb, soO slb xv v S) :: ((w.heap.size, Obj.cells #[bpt p.b] 131 (0, 0)) :: (p.objs ++ (SX ++ (SS ++ pqsO L) ++ F)))) ++ R) := fun v R => perm_by fun a => by
  simp only [stoO, List.count_append, List.count_cons]; omega
 obtain ⟨a2, cap2, W3, R', hrun, hsl, hst⟩ := apQ.append h1.sl (h3.perm (hpm _ R)) (Reads.one w (bpt p.b) 131) (fun u hu => by rw [List.mem_singleton] at hu; subst hu; rfl) (by unfold maxLen; omega) (by omega)
 have hst' : St B w0 W3 ((sb, soO slb xv (.slice a bs.length cap) S) :: (((w.heap.size, Obj.cells #[bpt p.b] 131 (0, 0)) :: (p.objs ++ (SX ++ (SS ++ pqsO L) ++ F))) ++ R')) := hst
 refine ⟨⟨hsee.c2, hsee.c3, (h3.seeS (List.mem_cons_of_mem _ m0)).c2⟩, a2, cap2, W3, ⟨hrun⟩, ⟨hst'.cell List.mem_cons_self rfl, hst'.soft List.mem_cons_self 2⟩, ?_⟩
 have hst4 : St B w0 (W3.setCell ⟨sb, 2, none⟩ (.slice a2 (bs.length + 1) cap2)) ((sb, soO slb xv (.slice a2 (bs.length + 1) cap2) S) :: (((w.heap.size, Obj.cells #[bpt p.b] 131 (0, 0)) :: (p.objs ++ (SX ++ (SS ++ pqsO L) ++ F))) ++ R')) := hst'.set0 2 _
 have e : stoO sb slb xv (.slice a2 (bs.length + 1) cap2) { S with L := S.L ++ [p.d] } (L ++ [p]) R' SX SS = (sb, soO slb xv (.slice a2 (bs.length + 1) cap2) S) :: (R' ++ (SX ++ (SS ++ pqsO (L ++ [p])))) := rfl
 have hpp : ((sb, soO slb xv (.slice a2 (bs.length + 1) cap2) S) :: (((w.heap.size, Obj.cells #[bpt p.b] 131 (0, 0)) :: (p.objs ++ (SX ++ (SS ++ pqsO L) ++ F))) ++ R')).Perm ((w.heap.size, Obj.cells #[bpt p.b] 131 (0, 0)) :: (stoO sb slb xv (.slice a2 (bs.length + 1) cap2) { S with L := S.L ++ [p.d] } (L ++ [p]) R' SX SS ++ F)) := perm_by fun a => by
  rw [e]
  simp only [pqsO, List.flatMap_append, List.flatMap_cons, List.flatMap_nil, List.append_nil, List.count_append, List.count_cons]; omega
 refine ⟨L ++ [p], slb, xv, _, R', SX, SS, ⟨by rw [List.map_append, h1.data]; rfl, by rw [List.map_append, h1.blks]; rfl, ?_, h1.slab, h1.ways, fun x hx => ?_, hf, h1.tab, h1.most, h1.c1⟩, (hst4.perm hpp).sub (List.sublist_cons_self _ _)⟩
 ·rw [List.length_append, List.map_append]; exact hsl
 ·rcases List.mem_append.1 hx with hx | hx
  ·exact h1.pls x hx
  ·rw [List.mem_singleton] at hx; subst hx; exact ok
theorem FineS.push (h : FineS S) (hn : isNm n = true) (ho : isO o = true) (hi : S.idx n = none) (hl : S.L.length < 8) : FineS { S with num := S.num + 1, L := S.L ++ [⟨n, S.num + 1, q, o, [], [], 0⟩] } := by
 have hno : ∀ p ∈ S.L, p.name ≠ n := fun p hp => by
  have := List.findIdx?_eq_none_iff.1 hi p hp
  simpa using this
 have h0 := h.num0
 refine ⟨by simp only [List.length_append, List.length_singleton]; omega, ?_, ?_, fun p hp => ?_, by simp only; omega, fun p hp => ?_, h.fine⟩
 ·simp only [List.map_append, List.map_cons, List.map_nil]
  refine List.nodup_append.2 ⟨h.once, by simp, fun x hx y hy => ?_⟩
  obtain ⟨p, hp, rfl⟩ := List.mem_map.1 hx
  rw [List.mem_singleton] at hy
  subst hy
  exact hno p hp
 ·simp only [List.map_append, List.map_cons, List.map_nil]
  refine List.nodup_append.2 ⟨h.nums, by simp, fun x hx y hy => ?_⟩
  obtain ⟨p, hp, rfl⟩ := List.mem_map.1 hx
  rw [List.mem_singleton] at hy
  subst hy
  have := h.top p hp
  omega
 ·rcases List.mem_append.1 hp with hp | hp
  ·have := h.top p hp
   simp only; omega
  ·rw [List.mem_singleton] at hp; subst hp; exact Int.le_refl _
 ·rcases List.mem_append.1 hp with hp | hp
  ·exact h.each p hp
  ·rw [List.mem_singleton] at hp; subst hp; exact ⟨hn, ho⟩
end
end Go.Proofs.YtknjamfjonapiaaGreatDoor
namespace Go.Proofs.YtknjamfjonapiaaGreatDoor
open Go.RowKit
set_option linter.unusedVariables false
set_option linter.unusedSectionVars false
set_option linter.unusedSimpArgs false
set_option maxRecDepth 100000
section
variable {qT : Bool} {B : Nat} {w0 w w' : World} {sb slb xb pb qb gb c c' i k b : Nat} {bs : List Nat} {S S' : Sto} {L : List Pq} {xv v : Value} {d d' : Plq} {R SX SS F F' Z : List (Nat × Obj)} {o : Opt} {M : List Ent} {G : List Gst} {T : Nat} {n : List UInt8} {q z bt : Int} {e e0 : Ent} {g : Gst}
theorem StoIs.opC (h : StoIs qT B w0 w sb bs S F c) {b : Nat} {x : Opt} (hm : (b, opO x) ∈ F) : OpC w b x := by
 obtain ⟨O, z1, -⟩ := h.beside
 exact z1.opC (List.mem_append_right _ hm)
def DeclR (qT : Bool) (B : Nat) (w0 : World) (sb : Nat) (S' : Sto) (F : List (Nat × Obj)) (c : Nat) (z : Int) (e : Ending) (w' : World) : Prop := e = .returned (.int .i64 z) ∧ ∃ bs', StoIs qT B w0 w' sb bs' S' F c
set_option maxHeartbeats 4000000 in
theorem st_declare (h : StoIs qT B w0 w sb bs S F c) (n : List UInt8) (o : Opt) (q : Int) (hnum : S.num < 4611686018427387904) {S' : Sto} {z : Int} (hS : S.declare n o q = (S', z)) :
  Calls Tryz.prog 75 #[bpt sb, tx n, opV o, .int .i64 q] w (DeclR qT B w0 sb S' F c z) := by
 have h0 := h.alloc (opO o)
 have hsub : Hid (∀ w' bs', StoIs qT B w0 w' sb bs' S ((w.heap.size, opO o) :: F) c → ∃ bs', StoIs qT B w0 w' sb bs' S F c) := Lib.hid fun w' bs' h' => ⟨bs', h'.sub (List.sublist_cons_self _ _)⟩
 have cn := Lib.hid (fun w => isname_any n w)
 have hcell := Lib.hid (fun w1 (h' : StoIs qT B w0 w1 sb bs S ((w.heap.size, opO o) :: F) c) => h'.opC (x := o) List.mem_cons_self)
 have cio : Hid (∀ w1, StoIs qT B w0 w1 sb bs S ((w.heap.size, opO o) :: F) c → Calls Tryz.prog 136 #[opV o] w1 fun x w' => x = .returned (.bool (isO o)) ∧ StoIs qT B w0 w' sb bs S ((w.heap.size, opO o) :: F) c) := Lib.hid fun w1 h' => (isopts_any o w1 h'.mostW).mono (by
  rintro x w' ⟨rfl, hb⟩
  exact ⟨rfl, h'.grow hb⟩)
 unfold Sto.declare at hS
 have hdn := Lib.hid (h.fine)
 by_cases hbad : isNm n = false ∨ isO o = false
 ·rw [if_pos hbad] at hS
  obtain ⟨rfl, rfl⟩ := Prod.mk.inj hS
  have co := Lib.hid (st_open h0 n q)
  obtain ⟨pv, hpv⟩ : ∃ pv : Option Nat, ptrQ bs ((S.open_ n q).2.map (·.1)) = ptrO pv := ⟨_, rfl⟩
  rw [hpv] at co
  generalize (S.open_ n q).1 = y at *
  cases hnm : isNm n with
  | false =>
   rw [hnm] at cn
   clear h h0 hS hbad hnm hpv cio hcell hdn hnum
   unfold DeclR
   go_enter Tryz.func75, Tryz.ntmps75
   go_wp2_with fail
   refine co.out.mono ?_
   rintro r w1 ⟨rfl, hx⟩
   have fin := Lib.hid (hsub.out _ _ hx)
   clear co hx hsub
   go_wp2_with fail
   refine (cn.out w1).mono ?_
   rintro r w2 ⟨rfl, rfl⟩
   clear cn
   go_wp2_with fail
   go_ret
   exact ⟨rfl, fin.out⟩
  | true =>
   have ho : isO o = false := by rcases hbad with h | h; (rw [hnm] at h; cases h); exact h
   rw [hnm] at cn
   rw [ho] at cio
   clear h h0 hS hbad hnm hpv hdn hnum ho
   unfold DeclR
   go_enter Tryz.func75, Tryz.ntmps75
   go_wp2_with fail
   refine co.out.mono ?_
   rintro r w1 ⟨rfl, hx⟩
   obtain ⟨j0, j1, j2, j3, j4, j5⟩ := hcell.out _ hx
   have ci := Lib.hid (cio.out _ hx)
   clear co hx hcell cio
   go_wp2_with fail
   refine (cn.out w1).mono ?_
   rintro r w2 ⟨rfl, rfl⟩
   clear cn
   go_wp2_with fail
   refine ci.out.mono ?_
   rintro r w3 ⟨rfl, hx⟩
   have fin := Lib.hid (hsub.out _ _ hx)
   clear ci hx hsub
   go_wp2_with fail
   go_ret
   exact ⟨rfl, fin.out⟩
 rw [if_neg hbad] at hS
 have hnm : isNm n = true := by cases h : isNm n; exact absurd (.inl h) hbad; rfl
 have hio : isO o = true := by cases h : isO o; exact absurd (.inr h) hbad; rfl
 rw [hnm] at cn
 rw [hio] at cio
 clear hbad
 rcases open_ways S n q with ⟨y, ho, hy⟩ | ⟨i, d, ho, e1, hi, e2, -⟩
 ·rw [ho] at hS
  have co := Lib.hid (st_open_no h0 ho)
  simp only at hS
  by_cases hy5 : y = 405
  ·subst hy5
   rw [if_pos rfl] at hS
   obtain ⟨rfl, rfl⟩ := Prod.mk.inj hS
   clear h h0 hS ho hy hnm hio hdn hnum
   unfold DeclR
   go_enter Tryz.func75, Tryz.ntmps75
   go_wp2_with fail
   refine co.out.mono ?_
   rintro r w1 ⟨rfl, hx⟩
   obtain ⟨j0, j1, j2, j3, j4, j5⟩ := hcell.out _ hx
   have ci := Lib.hid (cio.out _ hx)
   clear co hx cio
   go_wp2_with fail
   refine (cn.out w1).mono ?_
   rintro r w2 ⟨rfl, rfl⟩
   clear cn
   go_wp2_with fail
   refine ci.out.mono ?_
   rintro r w3 ⟨rfl, hx⟩
   have fin := Lib.hid (fun k => hsub.out _ _ (hx.grow (drewN_below w3 k)))
   clear ci hx hsub hcell j0 j1 j2 j3 j4 j5
   go_wp2_with fail
   go_quiet (fail)
   go_wp2_with fail
   go_ret
   exact ⟨rfl, fin.out _⟩
  ·obtain rfl : y = 404 := by omega
   rw [if_neg (by decide)] at hS
   have hidx : S.idx n = none := by
    rcases idx_at S n with ⟨h1, -⟩ | ⟨i, d, h1, h2, h3, -⟩
    ·exact h1
    ·exfalso
     unfold Sto.open_ at ho
     rw [h3] at ho
     simp only at ho
     split at ho <;> cases ho
   have see : Hid (∀ w1, StoIs qT B w0 w1 sb bs S ((w.heap.size, opO o) :: F) c → ∃ a cap, ∀ k, (w1.drewN k).cell? ⟨sb, 2, none⟩ = some (.slice a bs.length cap)) := Lib.hid fun w1 h' => by
    obtain ⟨a, cap, k2, -⟩ := h'.rows
    exact ⟨a, cap, fun k => k2⟩
   have hbl := h.len
   by_cases h8 : 8 ≤ S.L.length
   ·rw [if_pos h8] at hS
    obtain ⟨rfl, rfl⟩ := Prod.mk.inj hS
    have h8b : (8 : Int) ≤ bs.length := by omega
    clear h h0 hS ho hy hnm hio hdn hnum hidx hbl h8 hy5
    unfold DeclR
    go_enter Tryz.func75, Tryz.ntmps75
    go_wp2_with fail
    refine co.out.mono ?_
    rintro r w1 ⟨rfl, hx⟩
    obtain ⟨j0, j1, j2, j3, j4, j5⟩ := hcell.out _ hx
    have ci := Lib.hid (cio.out _ hx)
    clear co hx cio
    go_wp2_with fail
    refine (cn.out w1).mono ?_
    rintro r w2 ⟨rfl, rfl⟩
    clear cn
    go_wp2_with fail
    refine ci.out.mono ?_
    rintro r w3 ⟨rfl, hx⟩
    obtain ⟨a, cap, k2⟩ := see.out _ hx
    have fin := Lib.hid (fun k => hsub.out _ _ (hx.grow (drewN_below w3 k)))
    clear ci hx hsub hcell see j0 j1 j2 j3 j4 j5
    go_wp2_with fail
    go_quiet (fail)
    go_wp2_with fail
    go_ret
    exact ⟨rfl, fin.out _⟩
   ·rw [if_neg h8] at hS
    obtain ⟨rfl, rfl⟩ := Prod.mk.inj hS
    have h8b : ¬ (8 : Int) ≤ bs.length := by omega
    have hnl : n.length ≤ 140737488351232 := by have := (isNm_len hnm).2; omega
    have hol : o.dead.length ≤ 140737488351232 ∧ o.deadKey.length ≤ 140737488351232 := by
     unfold isO at hio
     have := of_decide_eq_true hio
     omega
    have hn0 := hdn.out.num0
    have hfp := FineS.push (q := q) hdn.out hnm hio hidx (by omega)
    have stp : Hid (∀ w1, StoIs qT B w0 w1 sb bs S ((w.heap.size, opO o) :: F) c → ∃ a cap, (∀ k, (w1.drewN k).cell? ⟨sb, 2, none⟩ = some (.slice a bs.length cap)) ∧ (∀ k, (w1.drewN k).cell? ⟨sb, 3, none⟩ = some (.int .i64 S.num)) ∧ (∀ k, (w1.drewN k).frozen? ⟨sb, 3, none⟩ = false) ∧
      ∀ k W, W = (w1.drewN k).setCell ⟨sb, 3, none⟩ (.int .i64 (S.num + 1)) → (W.drew.cell? ⟨sb, 2, none⟩ = some (.slice a bs.length cap) ∧ W.drew.cell? ⟨sb, 3, none⟩ = some (.int .i64 (S.num + 1)) ∧ OpC W.drew w.heap.size o) ∧
       Calls Tryz.prog 139 #[tx n, .int .i64 (S.num + 1), .int .i64 q, opV o] W.drew fun e w3 => ∃ p, e = .returned (bpt p) ∧ (w3.cell? ⟨sb, 2, none⟩ = some (.slice a bs.length cap) ∧ w3.cell? ⟨sb, 3, none⟩ = some (.int .i64 (S.num + 1)) ∧ (w3.alloc (.cells #[bpt p] 131)).cell? ⟨sb, 2, none⟩ = some (.slice a bs.length cap)) ∧ OpC w3 w.heap.size o ∧
        ∃ a2 cap2 W3, AppRun Tryz.prog 90 (.slice a bs.length cap) (.slice (some ⟨w3.heap.size, 0, none⟩) 1 1) (w3.alloc (.cells #[bpt p] 131)) (.slice a2 (bs.length + 1) cap2) W3 ∧
         (W3.cell? ⟨sb, 2, none⟩ = some (.slice a bs.length cap) ∧ W3.frozen? ⟨sb, 2, none⟩ = false) ∧
         ∃ bs', StoIs qT B w0 (W3.setCell ⟨sb, 2, none⟩ (.slice a2 (bs.length + 1) cap2)) sb bs' { S with num := S.num + 1, L := S.L ++ [⟨n, S.num + 1, q, o, [], [], 0⟩] } F c) := Lib.hid fun w1 h' => by
     obtain ⟨L, slb, xv, v, R, SX, SS, h1, h2⟩ := h'
     obtain ⟨a, cap, rfl, -⟩ := h1.sl.form
     have m0 : (sb, soO slb xv (.slice a bs.length cap) S) ∈ stoO sb slb xv (.slice a bs.length cap) S L R SX SS ++ ((w.heap.size, opO o) :: F) := List.mem_append_left _ List.mem_cons_self
     have hsee := h2.seeS m0
     refine ⟨a, cap, fun k => hsee.c2, fun k => hsee.c3, fun k => hsee.soft 3, ?_⟩
     rintro k W rfl
     have h3 : St B w0 ((w1.drewN k).setCell ⟨sb, 3, none⟩ (.int .i64 (S.num + 1))).drew (stoO sb slb xv (.slice a bs.length cap) { S with num := S.num + 1 } L R SX SS ++ ((w.heap.size, opO o) :: F)) := St.drew (St.set0 (h2.drewN k) 3 (.int .i64 (S.num + 1)))
     have h1' : StoIn qT B w0 bs { S with num := S.num + 1 } L slb xv (.slice a bs.length cap) R SX SS c := { h1 with fine := ⟨h1.fine.few, h1.fine.once, h1.fine.nums, fun p hp => by have := h1.fine.top p hp; simp only; omega, by simp only; omega, h1.fine.each, h1.fine.fine⟩ }
     have hsee3 := h3.seeS (List.mem_append_left _ List.mem_cons_self)
     refine ⟨⟨hsee3.c2, hsee3.c3, h3.opC (List.mem_append_right _ List.mem_cons_self)⟩, (newplaceS_any h1.tab h3 n (S.num + 1) q o hnl hol.1 hol.2).mono ?_⟩
     rintro e w3 ⟨p, rfl, hpd, ok, h4⟩
     have hf : FineS { ({ S with num := S.num + 1 } : Sto) with L := S.L ++ [p.d] } := by rw [hpd]; exact hfp
     obtain ⟨⟨k1, k2, k3⟩, a2, cap2, W3, hrun, hk, h5⟩ := push_st h1' h4 ok hf
     rw [hpd] at h5
     exact ⟨p.b, rfl, ⟨k1, k2, k3⟩, h4.opC (List.mem_append_right _ (List.mem_append_right _ List.mem_cons_self)), a2, cap2, W3, hrun, hk, _, h5.sub (List.sublist_cons_self _ _)⟩
    have hw1 : IntKind.i64.wrap (S.num + 1) = S.num + 1 := by rw [IntKind.wrap_i64]; omega
    have hw2 : wrap64 (S.num + 1) = S.num + 1 := by unfold wrap64; omega
    generalize ({ S with num := S.num + 1, L := S.L ++ [⟨n, S.num + 1, q, o, [], [], 0⟩] } : Sto) = S2 at *
    clear h h0 ho hy hnm hio hidx hbl h8 hy5 hfp hnl hol see hsub
    unfold DeclR
    go_enter Tryz.func75, Tryz.ntmps75
    go_wp2_with fail
    refine co.out.mono ?_
    rintro r w1 ⟨rfl, hx⟩
    obtain ⟨j0, j1, j2, j3, j4, j5⟩ := hcell.out _ hx
    have ci := Lib.hid (cio.out _ hx)
    clear co hx cio
    go_wp2_with fail
    refine (cn.out w1).mono ?_
    rintro r w2 ⟨rfl, rfl⟩
    clear cn
    go_wp2_with fail
    refine ci.out.mono ?_
    rintro r w3 ⟨rfl, hx⟩
    obtain ⟨a, cap, k2, k3, ks, stp2⟩ := stp.out _ hx
    replace stp2 := Lib.hid stp2
    clear ci hx hcell stp j0 j1 j2 j3 j4 j5
    clear hdn
    go_wp2_with fail
    go_quiet (fail)
    obtain ⟨W, hW⟩ : ∃ W, W = (w3.drewN nq).setCell ⟨sb, 3, none⟩ (.int .i64 (S.num + 1)) := ⟨_, rfl⟩
    obtain ⟨⟨k4, k5, ⟨j0, j1, j2, j3, j4, j5⟩⟩, cp⟩ := stp2.out nq W hW
    replace cp := Lib.hid cp
    clear stp2
    go_upto_region 13 with fail
    rw [← hW]
    clear hW k2 k3 ks
    generalize S.num + 1 = nm at *
    clear hw1 hw2 hn0 hnum
    generalize w.heap.size = nb at *
    go_wp2_with fail
    go_region_law (first
     | (refine step_app (.tmp 64) (.tmp 73) 90 hrun rfl rfl (by simp [Act.eval]) (by simp [Act.eval]) ?_)
     | (go_simp; go_at_call 139; refine cp.out.mono ?_; rintro e w4 ⟨p, rfl, ⟨m0, m1, m2⟩, ⟨l0, l1, l2, l3, l4, l5⟩, a2, cap2, W3, hrun, ⟨v0, v1⟩, fin⟩; replace fin := Lib.hid fin))
    all_goals
     clear cp k4 k5 j0 j1 j2 j3 j4 j5 m0 m1 m2 l0 l1 l2 l3 l4 l5 v0 v1 hrun
     go_wp2_with fail
     go_ret
     exact ⟨rfl, fin.out⟩
 ·rw [ho] at hS
  obtain ⟨pb, hpb⟩ := h.blk hi
  have co := Lib.hid (st_open_yes h0 ho hpb)
  simp only at hS
  have see : Hid (∀ w1, StoIs qT B w0 w1 sb bs S ((w.heap.size, opO o) :: F) c → ∃ qb, StoIs qT B w0 w1.drew sb bs S ((w.heap.size, opO o) :: F) c ∧ Hid (w1.drew.cell? ⟨pb, 3, none⟩ = some (rptr qb) ∧ OpC w1.drew w.heap.size o)) := Lib.hid fun w1 h' => by
   have h2 := h'.grow (drew_b w1)
   obtain ⟨qb, gb, hs⟩ := h2.seeP hpb hi
   exact ⟨qb, h2, Lib.hid ⟨hs.c3, h2.opC List.mem_cons_self⟩⟩
  have cop : Hid (∀ w1 qb, w1.cell? ⟨pb, 3, none⟩ = some (rptr qb) → StoIs qT B w0 w1 sb bs S ((w.heap.size, opO o) :: F) c → Calls Tryz.prog 138 #[rptr qb] w1 fun r w' => r = .returned (opV d.o) ∧ StoIs qT B w0 w' sb bs S ((w.heap.size, opO o) :: F) c ∧ (w'.cell? ⟨pb, 3, none⟩ = some (rptr qb) ∧ OpC w' w.heap.size o)) := Lib.hid fun w1 qb h3 h' => by
   obtain ⟨pb', qb', gb, k1, k2, ⟨Z, k3, k4⟩, -⟩ := h'.place hi
   rw [hpb] at k1
   obtain rfl := Option.some.inj k1
   have e := k2.c3
   rw [h3] at e
   cases e
   refine (qu_opts k3).mono ?_
   rintro r w' ⟨rfl, h5⟩
   obtain ⟨h6, h7⟩ := k4 _ _ _ h5
   rw [setM_same hi] at h7
   exact ⟨rfl, h7, h6.c3, h7.opC List.mem_cons_self⟩
  have csa : Hid (∀ w1 qb, w1.cell? ⟨pb, 3, none⟩ = some (rptr qb) → StoIs qT B w0 w1 sb bs S ((w.heap.size, opO o) :: F) c → Calls Tryz.prog 137 #[opV d.o, opV o] w1 fun x w' => x = .returned (.bool (sameO d.o o)) ∧ StoIs qT B w0 w' sb bs S ((w.heap.size, opO o) :: F) c ∧ (w'.cell? ⟨pb, 3, none⟩ = some (rptr qb) ∧ OpC w' w.heap.size o)) := Lib.hid fun w1 qb h3 h' => (same_any d.o o w1).mono (by
   rintro x w' ⟨rfl, hb⟩
   have h2 := h'.grow hb
   exact ⟨rfl, h2, cellUp h3 hb, h2.opC List.mem_cons_self⟩)
  obtain ⟨sm, hsm⟩ : ∃ sm, sm = sameO d.o o := ⟨_, rfl⟩
  rw [← hsm] at hS csa
  obtain ⟨rfl, hz⟩ : S = S' ∧ z = (if sm = true then 0 else 406) := by
   cases sm
   ·rw [if_neg (by decide)] at hS
    obtain ⟨rfl, rfl⟩ := Prod.mk.inj hS
    exact ⟨rfl, rfl⟩
   ·rw [if_pos rfl] at hS
    obtain ⟨rfl, rfl⟩ := Prod.mk.inj hS
    exact ⟨rfl, rfl⟩
  clear h h0 hS ho e1 e2 hnm hio hdn hnum hsm hpb hi
  generalize d.o = o2 at *
  cases sm with
  | false =>
   obtain rfl : z = 406 := hz
   unfold DeclR
   go_enter Tryz.func75, Tryz.ntmps75
   go_wp2_with fail
   refine co.out.mono ?_
   rintro r w1 ⟨rfl, hx⟩
   obtain ⟨j0, j1, j2, j3, j4, j5⟩ := hcell.out _ hx
   have ci := Lib.hid (cio.out _ hx)
   clear co hx cio
   go_wp2_with fail
   refine (cn.out w1).mono ?_
   rintro r w2 ⟨rfl, rfl⟩
   clear cn
   go_wp2_with fail
   refine ci.out.mono ?_
   rintro r w3 ⟨rfl, hx⟩
   obtain ⟨qb, h2, hs0⟩ := see.out _ hx
   replace cop := Lib.hid (fun w1 => cop.out w1 qb)
   replace csa := Lib.hid (fun w1 => csa.out w1 qb)
   clear ci hx hcell see j0 j1 j2 j3 j4 j5
   generalize w.heap.size = nb at *
   go_wp2_with fail
   go_region_held3 (fun x => x.cell? ⟨pb, 3, none⟩ = some (rptr qb) ∧ x.cell? ⟨nb, 0, none⟩ = some (tx o.dead) ∧ x.cell? ⟨nb, 1, none⟩ = some (tx o.deadKey) ∧ x.cell? ⟨nb, 2, none⟩ = some (.int .i64 o.maxLen) ∧ x.cell? ⟨nb, 3, none⟩ = some (.int .i64 o.ttl) ∧ x.cell? ⟨nb, 4, none⟩ = some (.int .i64 o.prio) ∧ x.cell? ⟨nb, 5, none⟩ = some (.int .i64 o.bits)) (first | with_reducible exact kS | with_reducible exact hs0.out) (first
    | (go_at_call 138; refine (cop.out _ hs0.out.1 (by assumption)).mono ?_; rintro r w'' ⟨rfl, hA, kS⟩)
    | (go_at_call 137; refine (csa.out _ kS.1 (by assumption)).mono ?_; rintro r w'' ⟨rfl, hB, kS⟩))
   have fin := Lib.hid (hsub.out _ _ hB)
   clear hA hB h2 kS hs0 cop csa hsub
   go_wp2_with fail
   go_ret
   exact ⟨rfl, fin.out⟩
  | true =>
   obtain rfl : z = 0 := hz
   unfold DeclR
   go_enter Tryz.func75, Tryz.ntmps75
   go_wp2_with fail
   refine co.out.mono ?_
   rintro r w1 ⟨rfl, hx⟩
   obtain ⟨j0, j1, j2, j3, j4, j5⟩ := hcell.out _ hx
   have ci := Lib.hid (cio.out _ hx)
   clear co hx cio
   go_wp2_with fail
   refine (cn.out w1).mono ?_
   rintro r w2 ⟨rfl, rfl⟩
   clear cn
   go_wp2_with fail
   refine ci.out.mono ?_
   rintro r w3 ⟨rfl, hx⟩
   obtain ⟨qb, h2, hs0⟩ := see.out _ hx
   replace cop := Lib.hid (fun w1 => cop.out w1 qb)
   replace csa := Lib.hid (fun w1 => csa.out w1 qb)
   clear ci hx hcell see j0 j1 j2 j3 j4 j5
   generalize w.heap.size = nb at *
   go_wp2_with fail
   go_region_held3 (fun x => x.cell? ⟨pb, 3, none⟩ = some (rptr qb) ∧ x.cell? ⟨nb, 0, none⟩ = some (tx o.dead) ∧ x.cell? ⟨nb, 1, none⟩ = some (tx o.deadKey) ∧ x.cell? ⟨nb, 2, none⟩ = some (.int .i64 o.maxLen) ∧ x.cell? ⟨nb, 3, none⟩ = some (.int .i64 o.ttl) ∧ x.cell? ⟨nb, 4, none⟩ = some (.int .i64 o.prio) ∧ x.cell? ⟨nb, 5, none⟩ = some (.int .i64 o.bits)) (first | with_reducible exact kS | with_reducible exact hs0.out) (first
    | (go_at_call 138; refine (cop.out _ hs0.out.1 (by assumption)).mono ?_; rintro r w'' ⟨rfl, hA, kS⟩)
    | (go_at_call 137; refine (csa.out _ kS.1 (by assumption)).mono ?_; rintro r w'' ⟨rfl, hB, kS⟩))
   have fin := Lib.hid (hsub.out _ _ hB)
   clear hA hB h2 kS hs0 cop csa hsub
   go_wp2_with fail
   go_ret
   exact ⟨rfl, fin.out⟩
end
end Go.Proofs.YtknjamfjonapiaaGreatDoor
