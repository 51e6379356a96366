import Derived.Test.YtknjamfjonapiaaGreatDoorZ20
import Derived.Test.YtknjamfjonapiaaGreatDoorZ10
import Derived.Test.YtknjamfjonapiaaGreatDoorZ05
import Derived.Test.YtknjamfjonapiaaGreatDoorZ07
import Derived.Test.YtknjamfjonapiaaGreatDoorRows
import Derived.Deep.QuietTactic
import Derived.BigQuiet
import Derived.Deep.RegionHeld3
import Derived.Laws.MakeOwn
import Derived.IntWalk
import Derived.Lib.Hide
import Derived.Laws.Bits64b
import Derived.StillTailTactics
import Derived.Deep.RegionLaw
import Derived.OpenShut
import Derived.Laws.ComplexArith
namespace Go.Proofs.YtknjamfjonapiaaGreatDoor
open Go.RowKit
set_option linter.unusedVariables false
set_option linter.unusedSectionVars false
set_option linter.unusedSimpArgs false
set_option maxRecDepth 100000
section
variable {B : Nat} {w0 w w' : World} {F F' T R Q S : List (Nat × Obj)} {tb xb c c' pb qb : Nat} {M : Prs} {L X Y : List Pl} {p p' : Pl} {k : Ky} {A A' rows : List Bnd} {P : List Plc} {v tv u : Value} {n x : List UInt8} {keys l : List (List UInt8)} {q : Bnd → Bool} {b : Bnd}
theorem ExIs.sub (h : ExIs B w0 w xb P A F c) (hs : F'.Sublist F) : ExIs B w0 w xb P A F' c := by
 obtain ⟨L, v, tv, R, Q, e, h1, h2⟩ := h
 exact ⟨L, v, tv, R, Q, e, h1, h2.sub ((List.Sublist.refl _).append hs)⟩
theorem ExIs.permF (h : ExIs B w0 w xb P A F c) (hs : F.Perm F') : ExIs B w0 w xb P A F' c := by
 obtain ⟨L, v, tv, R, Q, e, h1, h2⟩ := h
 exact ⟨L, v, tv, R, Q, e, h1, h2.perm (hs.append_left _)⟩
theorem ExIs.grow (h : ExIs B w0 w xb P A F c) (hb : Below w.heap.size w w') : ExIs B w0 w' xb P A F c := by
 obtain ⟨L, v, tv, R, Q, e, h1, h2⟩ := h
 exact ⟨L, v, tv, R, Q, e, h1, h2.grow hb⟩
theorem ExIs.mono (h : ExIs B w0 w xb P A F c) (hc : c ≤ c') : ExIs B w0 w xb P A F c' := by
 obtain ⟨L, v, tv, R, Q, e, h1, h2⟩ := h
 exact ⟨L, v, tv, R, Q, e, h1.mono hc, h2⟩
theorem ExIs.below (h : ExIs B w0 w xb P A F c) : Below B w0 w := by
 obtain ⟨L, v, tv, R, Q, e, h1, h2⟩ := h
 exact h2.below
theorem ExIs.fine (h : ExIs B w0 w xb P A F c) : FineX P A := by
 obtain ⟨L, v, tv, R, Q, e, h1, h2⟩ := h
 rw [← e]
 exact h1.fine
theorem ExIs.cell {cs : Array Value} {U : TypeId} {g : Nat} (h : ExIs B w0 w xb P A F c) (hm : (g, .cells cs U) ∈ F) {i : Nat} {u : Value} (hi : cs[i]? = some u) : w.cell? ⟨g, i, none⟩ = some u := by
 obtain ⟨L, v, tv, R, Q, e, h1, h2⟩ := h
 exact h2.cell (b := g) (List.mem_append_right _ hm) hi
theorem ExIs.alloc (h : ExIs B w0 w xb P A F c) (o : Obj) : ExIs B w0 (w.alloc o) xb P A ((w.heap.size, o) :: F) c := by
 obtain ⟨L, v, tv, R, Q, e, h1, h2⟩ := h
 exact ⟨L, v, tv, R, Q, e, h1, (h2.alloc o).perm List.perm_middle.symm⟩
theorem ExIs.beside (h : ExIs B w0 w xb P A F c) : ∃ O, St B w0 w (O ++ F) ∧ ∀ w' F', St B w0 w' (O ++ F') → ExIs B w0 w' xb P A F' c := by
 obtain ⟨L, v, tv, R, Q, e, h1, h2⟩ := h
 exact ⟨_, h2, fun w' F' h3 => ⟨L, v, tv, R, Q, e, h1, h3⟩⟩
theorem has_is (h : ExIs B w0 w xb P A F c) (n : List UInt8) : Calls Tryz.prog 64 #[bpt xb, tx n] w fun e w' => e = .returned (.bool (hasX P n)) ∧ w' = w := by
 obtain ⟨L, v, tv, R, Q, rfl, h1, h2⟩ := h
 exact xhas_any h1 h2 n
theorem exof_is (h : ExIs B w0 w xb P A F c) (n : List UInt8) : Calls Tryz.prog 162 #[bpt xb, tx n] w fun e w' => ∃ u S, e = .returned u ∧ BnsIs u (ofB A n) S ∧ ExIs B w0 w' xb P A (S ++ F) c := by
 obtain ⟨L, v, tv, R, Q, rfl, h1, h2⟩ := h
 refine (xof_any h1.tab h1.fine.rows.few h2 n).mono ?_
 rintro e w' ⟨u, S, tv', Q', rfl, hu, ht, h3⟩
 exact ⟨u, S, rfl, hu, L, v, tv', R, Q', rfl, h1.retab ht, h3⟩
theorem fits1 (key : List UInt8) : fitsK 1 key = fun b => b.2.2 == key := by funext b; simp [fitsK]
theorem fits2 (key : List UInt8) : fitsK 2 key = fun b => true := by funext b; simp [fitsK]
theorem fits3 (key : List UInt8) : fitsK 3 key = fun b => gl (wordsL b.2.2) (wordsL key) := by funext b; simp [fitsK]
theorem route1 (A : List Bnd) (n key : List UInt8) : routeL 1 A n key = onceL [] ((A.filter fun b => b.1 == n && b.2.2 == key).map (·.2.1)) := by
 rw [routeL, fits1, ← filter_and]
 rfl
theorem route2 (A : List Bnd) (n key : List UInt8) : routeL 2 A n key = onceL [] ((ofB A n).map (·.2.1)) := by
 rw [routeL, fits2]
 congr 2
 exact List.filter_eq_self.2 fun _ _ => rfl
theorem route3 (A : List Bnd) (n key : List UInt8) : routeL 3 A n key = onceL [] (((ofB A n).filter fun b => gl (wordsL b.2.2) (wordsL key)).map (·.2.1)) := by rw [routeL, fits3]
def RouR (B : Nat) (w0 : World) (xb : Nat) (P : List Plc) (A : List Bnd) (F : List (Nat × Obj)) (c : Nat) (l : List (List UInt8)) (u : Value) (w' : World) : Prop := ∃ S, TssIs u l S ∧ ExIs B w0 w' xb P A (S ++ F) c
def MatM (B : Nat) (w0 : World) (xb : Nat) (P : List Plc) (A : List Bnd) (F : List (Nat × Obj)) (c : Nat) (rows : List Bnd) (u : Value) (w' : World) : Prop := ∃ S, BnsIs u rows S ∧ ExIs B w0 w' xb P A (S ++ F) c
theorem MatM.queues (h : MatM B w0 xb P A F c rows u w) (hr : ∀ b ∈ rows, b ∈ A) (hl : rows.length ≤ 40) : Calls Tryz.prog 208 #[u] w fun e w' => ∃ u, e = .returned u ∧ RouR B w0 xb P A F c (onceL [] (rows.map (·.2.1))) u w' ∧ Below w.heap.size w w' := by
 obtain ⟨S, hu, hE⟩ := h
 have hf := hE.fine.rows.fit
 obtain ⟨O, h1, back⟩ := hE.beside
 have hrd := hu.read (A := O ++ F) (h1.perm (by
  refine perm_by fun a => ?_
  simp only [List.count_append]
  omega))
 refine (queues_any hrd (by omega) (fun b hb => (hf b (hr b hb)).max.2.1)).mono ?_
 rintro e w' ⟨u2, S2, rfl, hu2, h2⟩
 refine ⟨u2, rfl, ⟨S2, hu2, back _ _ (((h1.join h2).sub (H' := O ++ F ++ S2) ?_).perm ?_)⟩, h2.below⟩
 ·exact List.Sublist.append (List.Sublist.append (List.Sublist.refl _) (List.sublist_append_right _ _)) (List.Sublist.refl _)
 ·refine perm_by fun a => ?_
  simp only [List.count_append]
  omega
set_option maxHeartbeats 4000000 in
theorem route_is (h : ExIs B w0 w xb P A F c) (ex key : List UInt8) (hk : key.length ≤ 1000) (hc : c ≤ 100000) :
  Calls Tryz.prog 148 #[bpt xb, tx ex, tx key] w fun e w' => ∃ u, e = .returned (.tuple #[u, .bool (routeX P A ex key).2]) ∧ RouR B w0 xb P A F c (routeX P A ex key).1 u w' := by
 have hall := Lib.hid h
 obtain ⟨L, v, tv, R, Q, rfl, h, hst⟩ := h
 have few := h.fine.few
 rw [List.length_map] at few
 by_cases hn : ex = []
 ·have e : routeX (L.map Pl.d) A ex key = ([key], true) := by rw [routeX, if_pos hn]
  rw [e]
  subst hn
  have c1 := Lib.hid (clone_any key w (by omega))
  have fin : Hid (∀ w1, Below w.heap.size w w1 → RouR B w0 xb (L.map Pl.d) A F c [key] (.slice (some ⟨w1.heap.size, 0, none⟩) 1 1) (w1.alloc (.cells #[tx key] 9))) := Lib.hid fun w1 hb =>
   ⟨[(w1.heap.size, .cells #[tx key] 9)], SlIs.made (cs := [tx key]) rfl (by unfold maxLen; omega), (hall.out.grow hb).alloc _⟩
  clear h hst e
  go_enter Tryz.func148, Tryz.ntmps148
  go_wp2_with fail
  refine c1.out.mono ?_
  rintro e w1 ⟨rfl, hb⟩
  replace fin := Lib.hid (fin.out _ hb)
  clear hb
  go_wp2_with fail
  go_ret2
  exact ⟨_, rfl, fin.out⟩
 have h0B : (ex == []) = false := by simpa using hn
 have h0C : ex.isEmpty = false := by simpa using hn
 have c1 := Lib.hid (xfind_any h hst ex)
 unfold ptrF at c1
 cases hp : findL L ex with
 | none =>
  have e : routeX (L.map Pl.d) A ex key = ([], false) := by rw [routeX, if_neg hn, findL_d, hp]; rfl
  rw [e]
  rw [hp] at c1
  simp only [Option.map_none] at c1
  have fin : Hid (RouR B w0 xb (L.map Pl.d) A F c [] (.slice none 0 0) w) := Lib.hid ⟨[], TssIs.nil, hall.out⟩
  clear h hst e hall
  go_enter Tryz.func148, Tryz.ntmps148
  go_wp2_with fail
  refine c1.out.mono ?_
  rintro e w1 ⟨rfl, rfl⟩
  go_wp2_with fail
  go_ret2
  exact ⟨_, rfl, fin.out⟩
 | some p =>
  rw [hp] at c1
  simp only [Option.map_some] at c1
  obtain ⟨hm, hpn⟩ := findL_mem hp
  obtain ⟨-, p1, -, p3⟩ := hst.place hm
  have e : routeX (L.map Pl.d) A ex key = (routeL p.d.2.1 A ex key, true) := by rw [routeX, if_neg hn, findL_d, hp]; rfl
  rw [e]
  have hkd := h.fine.each p.d (List.mem_map_of_mem hm)
  have hof : (ofB A ex).length ≤ 40 := Nat.le_trans (List.length_filter_le _ _) h.fine.rows.few
  have hofm : ∀ b ∈ ofB A ex, b ∈ A := fun b hb => (List.mem_filter.1 hb).1
  obtain ⟨Xl, Yl, rfl⟩ := List.append_of_mem hm
  have hpok := h.pls p hm
  by_cases hk1 : p.d.2.1 = 1
  ·rw [hk1] at p1 ⊢
   rw [route1]
   have ctab := Lib.hid (xtable_is h.tab hst)
   have ckey : Hid (∀ tb w1, TabM B w0 xb v (Xl ++ p :: Yl) R F A tb w1 → Calls Tryz.prog 207 #[bpt tb, tx ex, tx key] w1 fun e w' => ∃ u, e = .returned u ∧ RouR B w0 xb ((Xl ++ p :: Yl).map Pl.d) A F c (onceL [] ((A.filter fun b => b.1 == ex && b.2.2 == key).map (·.2.1))) u w') := Lib.hid fun tb w1 hT => by
    refine (keyed_is hT (by have := h.fine.rows.few; omega) h.fine.rows.fit ex key rfl).mono ?_
    rintro e w' ⟨u, S, rfl, hu, h2⟩
    have hT2 : TabM B w0 xb v (Xl ++ p :: Yl) R (F ++ S) A tb w' := by
     unfold TabM
     rw [← List.append_assoc]
     exact h2
    obtain ⟨Q', ht', h3⟩ := hT2.of
    exact ⟨u, rfl, S, hu, ExIs.permF ⟨_, v, bpt tb, R, Q', rfl, h.retab ht', h3⟩ List.perm_append_comm⟩
   generalize onceL [] ((A.filter fun b => b.1 == ex && b.2.2 == key).map (·.2.1)) = l2 at *
   generalize p.b = pb at *
   generalize (Xl ++ p :: Yl).map Pl.d = P at *
   clear h hst e hall hpok hm hp hofm hof hkd
   go_enter Tryz.func148, Tryz.ntmps148
   go_wp2_with fail
   refine c1.out.mono ?_
   rintro e w1 ⟨rfl, rfl⟩
   go_wp2_with fail
   refine ctab.out.mono ?_
   rintro e w2 ⟨tb, rfl, hT⟩
   replace ckey := Lib.hid (ckey.out _ _ hT)
   clear hT ctab c1
   go_wp2_with fail
   refine ckey.out.mono ?_
   rintro e w3 ⟨u, rfl, S, hu, hE⟩
   have fin : Hid (RouR B w0 xb P A F c l2 u w3) := Lib.hid ⟨S, hu, hE⟩
   obtain ⟨au, cu, rfl⟩ := hu.form
   generalize l2.length = q0 at *
   clear hu hE ckey
   go_wp2_with fail
   go_ret2
   exact ⟨_, rfl, fin.out⟩
  ·by_cases hk2 : p.d.2.1 = 2
   ·rw [hk2] at p1 ⊢
    rw [route2]
    have cof : Hid (Calls Tryz.prog 162 #[bpt xb, tx ex] w fun e w' => ∃ a cap, e = .returned (.slice a (ofB A ex).length cap) ∧ MatM B w0 xb ((Xl ++ p :: Yl).map Pl.d) A F c (ofB A ex) (.slice a (ofB A ex).length cap) w') := Lib.hid (by
     refine (exof_is hall.out ex).mono ?_
     rintro e w' ⟨u, S, rfl, hu, hE⟩
     obtain ⟨a, cap, rfl⟩ := hu.form
     exact ⟨a, cap, rfl, S, hu, hE⟩)
    have cqu := Lib.hid (fun u w1 (hM : MatM B w0 xb ((Xl ++ p :: Yl).map Pl.d) A F c (ofB A ex) u w1) => hM.queues hofm hof)
    generalize onceL [] ((ofB A ex).map (·.2.1)) = l2 at *
    generalize p.b = pb at *
    generalize (Xl ++ p :: Yl).map Pl.d = P at *
    clear h hst e hall hpok hm hp hofm hof hkd
    go_enter Tryz.func148, Tryz.ntmps148
    go_wp2_with fail
    refine c1.out.mono ?_
    rintro e w1 ⟨rfl, rfl⟩
    go_wp2_with fail
    refine cof.out.mono ?_
    rintro e w2 ⟨a, cap, rfl, hM⟩
    replace cqu := Lib.hid (cqu.out _ _ hM)
    clear hM cof c1
    go_wp2_with fail
    refine cqu.out.mono ?_
    rintro e w3 ⟨u, rfl, ⟨S, hu, hE⟩, -⟩
    have fin : Hid (RouR B w0 xb P A F c l2 u w3) := Lib.hid ⟨S, hu, hE⟩
    obtain ⟨au, cu, rfl⟩ := hu.form
    generalize l2.length = q0 at *
    clear hu hE cqu
    go_wp2_with fail
    go_ret2
    exact ⟨_, rfl, fin.out⟩
   ·have hk3 : p.d.2.1 = 3 := by omega
    rw [hk3] at p1 ⊢
    rw [route3]
    obtain ⟨k, hkk⟩ : ∃ k, p.k = some k := by
     have := hpok.has
     rw [hk3] at this
     exact Option.isSome_iff_exists.1 this
    have ekp : kpt p.k = bpt k.kb := by rw [hkk]; rfl
    rw [ekp] at p3
    have hcell : ∀ w' tv' Q' F', St B w0 w' (exO xb v tv' (Xl ++ p :: Yl) R Q' ++ F') → w'.cell? ⟨p.b, 3, none⟩ = some (bpt k.kb) := fun w' tv' Q' F' h' => by
     have := (h'.place hm).2.2.2
     rwa [ekp] at this
    have cof : Hid (∀ w1, St B w0 w1 (exO xb v tv (Xl ++ p :: Yl) R Q ++ F) → Calls Tryz.prog 162 #[bpt xb, tx ex] w1 fun e w' => ∃ a cap, e = .returned (.slice a (ofB A ex).length cap) ∧ OfM B w0 xb v (Xl ++ p :: Yl) R F A (ofB A ex) (.slice a (ofB A ex).length cap) w' ∧ w'.cell? ⟨p.b, 3, none⟩ = some (bpt k.kb)) := Lib.hid fun w1 h1 => by
     refine (xof_any h.tab h.fine.rows.few h1 ex).mono ?_
     rintro e w' ⟨u, S, tv', Q', rfl, hu, ht', h2⟩
     obtain ⟨a, cap, rfl⟩ := hu.form
     exact ⟨a, cap, rfl, ⟨S, tv', Q', hu, ht', h2⟩, hcell _ _ _ _ h2⟩
    have cmat : Hid (∀ w1 u, OfM B w0 xb v (Xl ++ p :: Yl) R F A (ofB A ex) u w1 → Calls Tryz.prog 209 #[bpt k.kb, u, tx key] w1 fun e w' => ∃ z, e = .returned z ∧ MatM B w0 xb ((Xl ++ p :: Yl).map Pl.d) A F c ((ofB A ex).filter fun b => gl (wordsL b.2.2) (wordsL key)) z w' ∧ w'.cell? ⟨p.b, 3, none⟩ = some (bpt k.kb)) := Lib.hid fun w1 u hO => by
     obtain ⟨S, tv', Q', hu, ht', h2⟩ := hO
     have hky := hpok.ky k hkk
     unfold keysOf at hky
     rw [hpn] at hky
     have h3 : St B w0 w1 (k.objs ++ (S ++ (((exO xb v tv' (Xl ++ Yl) R Q' ++ [(p.b, .cells #[tx p.d.1, .int .i64 p.d.2.1, .bool p.d.2.2, kpt p.k] 217)])) ++ F))) := h2.perm ((kobjs_split hkk).trans (by
      refine perm_by fun a => ?_
      simp only [List.count_append, List.count_cons, List.append_assoc, List.count_nil]
      omega))
     refine (matching_any hky h3 hu key hk hc (by omega)).mono ?_
     rintro e w' ⟨k', z, Z, rfl, e1, hk', hz, h4⟩
     have hok : PlOk A c ⟨p.b, p.d, some k'⟩ := ⟨by
      have := hpok.has
      rw [hkk] at this
      exact this, fun k2 hk2 => by
       cases hk2
       unfold keysOf
       dsimp only
       rw [hpn]
       exact hk'⟩
     have h5 : St B w0 w' (exO xb v tv' (Xl ++ ⟨p.b, p.d, some k'⟩ :: Yl) R Q' ++ (Z ++ F)) := h4.perm (by
      refine List.Perm.trans ?_ (kobjs_split (p := ⟨p.b, p.d, some k'⟩) rfl).symm
      have e2 : kpt (some k') = kpt p.k := by rw [hkk]; unfold kpt; rw [Option.map_some, Option.map_some, e1]
      refine perm_by fun a => ?_
      simp only [e2, List.count_append, List.count_cons, List.append_assoc, List.count_nil]
      omega)
     obtain ⟨-, -, -, g3⟩ := h5.place (p := ⟨p.b, p.d, some k'⟩) (by simp)
     have e2 : kpt (some k') = bpt k.kb := by unfold kpt; rw [Option.map_some, e1]
     rw [e2] at g3
     refine ⟨z, rfl, ⟨Z, hz, Xl ++ ⟨p.b, p.d, some k'⟩ :: Yl, v, tv', R, Q', same_names (p' := ⟨p.b, p.d, some k'⟩) rfl, ⟨by rw [same_names (p := p) (p' := ⟨p.b, p.d, some k'⟩) rfl]; exact h.fine, by rw [same_blocks (p := p) (p' := ⟨p.b, p.d, some k'⟩) rfl, same_length (p := p) (p' := ⟨p.b, p.d, some k'⟩)]; exact h.sl, ht', fun p2 hp2 => ?_⟩, h5⟩, g3⟩
     rcases List.mem_append.1 hp2 with h' | h'
     ·exact h.pls p2 (List.mem_append_left _ h')
     ·rcases List.mem_cons.1 h' with rfl | h'
      ·exact hok
      ·exact h.pls p2 (List.mem_append_right _ (List.mem_cons_of_mem _ h'))
    have cqu := Lib.hid (fun u w1 (hM : MatM B w0 xb ((Xl ++ p :: Yl).map Pl.d) A F c ((ofB A ex).filter fun b => gl (wordsL b.2.2) (wordsL key)) u w1) => hM.queues (fun b hb => hofm b (List.mem_filter.1 hb).1) (Nat.le_trans (List.length_filter_le _ _) hof))
    have cqu2 : Hid (∀ u w1, MatM B w0 xb ((Xl ++ p :: Yl).map Pl.d) A F c ((ofB A ex).filter fun b => gl (wordsL b.2.2) (wordsL key)) u w1 → w1.cell? ⟨p.b, 3, none⟩ = some (bpt k.kb) → Calls Tryz.prog 208 #[u] w1 fun e w' => (∃ a q cap, e = .returned (.slice a q cap) ∧ RouR B w0 xb ((Xl ++ p :: Yl).map Pl.d) A F c (onceL [] (((ofB A ex).filter fun b => gl (wordsL b.2.2) (wordsL key)).map (·.2.1))) (.slice a q cap) w' ∧ w'.cell? ⟨p.b, 3, none⟩ = some (bpt k.kb))) := Lib.hid fun u w1 hM hc1 => by
     refine (cqu.out u w1 hM).mono ?_
     rintro e w' ⟨u2, rfl, ⟨S, hu, hE⟩, hb⟩
     obtain ⟨a, cap, rfl⟩ := hu.form
     exact ⟨a, _, cap, rfl, ⟨S, hu, hE⟩, cellOn (c := (p.b, 3)) hc1 hb⟩
    have hd : St B w0 w.drew (exO xb v tv (Xl ++ p :: Yl) R Q ++ F) := hst.drew
    have hs0 := Lib.hid (hcell _ _ _ _ hd)
    generalize onceL [] (((ofB A ex).filter fun b => gl (wordsL b.2.2) (wordsL key)).map (·.2.1)) = l2 at *
    generalize p.b = pb at *
    generalize (Xl ++ p :: Yl).map Pl.d = P at *
    generalize k.kb = kb at *
    clear h hst e hall hpok hm hp hofm hof hkd hcell cqu
    go_enter Tryz.func148, Tryz.ntmps148
    go_wp2_with fail
    refine c1.out.mono ?_
    rintro e w1 ⟨rfl, rfl⟩
    go_wp2_with fail
    go_region_held3 (fun x => x.cell? ⟨pb, 3, none⟩ = some (bpt kb)) (first | exact kS | exact hs0.out) (first
     | (go_at_call 162; refine (cof.out _ (by assumption)).mono ?_; rintro e w'' ⟨a2, cap2, rfl, hO, kS⟩)
     | (go_at_call 209; refine (cmat.out _ _ (by assumption)).mono ?_; rintro e w'' ⟨z, rfl, hM, kS⟩)
     | (go_at_call 208; refine (cqu2.out _ _ (by assumption) (by assumption)).mono ?_; rintro e w'' ⟨a3, q3, cap3, rfl, hR, kS⟩))
    replace hR := Lib.hid hR
    clear hO hM hd cof cmat cqu2
    go_wp2_with fail
    go_ret2
    exact ⟨_, rfl, hR.out⟩
end
section
open Go.ChangeMaps (setBlock)
abbrev againE (e : Ent) : Ent := { e with again := true }
section
variable {B : Nat} {w0 w w' : World} {qb rk b k l : Nat} {o : Opt} {M L : List Ent} {F F' S Y : List (Nat × Obj)} {e e0 : Ent}
theorem take_ret (h : QuIs B w0 w qb o M ((k, enO z0E) :: F)) (x : Ent) : EnAt w k z0E ∧ (∀ i, w.frozen? ⟨k, i, none⟩ = false) ∧ EnAt (enPut w k x) k x ∧ QuIs B w0 (enPut w k x) qb o M F := by
 have h1 := h.enPut (e := x)
 exact ⟨(h.at_block (k := k) (e := z0E) List.mem_cons_self).1, (h.at_block (k := k) (e := z0E) List.mem_cons_self).2, (h1.at_block (k := k) (e := x) List.mem_cons_self).1, h1.sub (List.sublist_cons_self _ _)⟩
theorem first_form (M : List Ent) : ∃ x b, firstV M = .tuple #[enV x, .bool b] := by
 cases M with
 | nil => exact ⟨_, _, rfl⟩
 | cons e M => exact ⟨_, _, rfl⟩
set_option maxHeartbeats 1000000 in
theorem qu_take (h : QuIs B w0 w qb o M F) : Calls Tryz.prog 83 #[rptr qb] w fun r w' => r = .returned (firstV M) ∧ QuIs B w0 w' qb o M.tail F := by
 have cr := Lib.hid (ready_any (h.alloc (enO z0E)))
 obtain ⟨x, b, hx⟩ := first_form M
 have ct : Hid (∀ W rk, QuAt B w0 W qb rk o M ((w.heap.size, enO z0E) :: F) → Calls Tryz.prog 150 #[rptr rk] W fun r w' => r = .returned (.tuple #[enV x, .bool b]) ∧ QuIs B w0 w' qb o M.tail ((w.heap.size, enO z0E) :: F)) := Lib.hid fun W rk h => by
  refine (rk_take h).mono ?_
  rintro r w' ⟨rfl, h'⟩
  exact ⟨by rw [hx], .inr ⟨_, h'⟩⟩
 rw [hx]
 clear h hx
 go_enter Tryz.func83, Tryz.ntmps83
 go_wp2_with fail
 refine cr.out.mono ?_
 rintro r w1 ⟨rk, rfl, h1⟩
 have ct1 := Lib.hid (ct.out _ _ h1)
 clear cr ct h1
 go_wp2_with fail
 refine ct1.out.mono ?_
 rintro r w2 ⟨rfl, h2⟩
 obtain ⟨⟨z0, z1, z2, z3, z4, z5, z6, z7, z8, z9⟩, zs, finE, fin⟩ := take_ret h2 x
 replace finE := Lib.hid finE
 replace fin := Lib.hid fin
 clear ct1 h2
 go_wp2_with fail
 exact bodyPost_ret (ret_entry2 rfl rfl rfl finE.out rfl) rfl ⟨rfl, fin.out⟩
def PurgeJ (B : Nat) (w0 : World) (qb : Nat) (o : Opt) (M : List Ent) (F : List (Nat × Obj)) (g : Nat) (a' : Act) (w' : World) : Prop :=
 ∃ W N a c S, N.length = g ∧ Fr 18 [(0, rptr qb), (3, .slice a W.length c)] a' ∧ W ++ N = M ∧ EnsIs (.slice a W.length c) W S ∧ QuIs B w0 w' qb o N (S ++ F)
set_option maxHeartbeats 2000000 in
theorem qu_purge (h : QuIs B w0 w qb o M F) (hM : M.length ≤ 100000) : Calls Tryz.prog 152 #[rptr qb] w (QAllR B w0 qb o M F M []) := by
 have hM2 := Lib.hid hM
 replace h := Lib.hid h
 clear hM
 go_enter Tryz.func152, Tryz.ntmps152
 go_wp2_with fail
 refine wp_scope_ghost 0 (PurgeJ B w0 qb o M F) rfl ?_ ?_
 ·clear h
  rintro g a' wr ⟨W, N, a, c, S, hg, hfr, hWN, hs, hR⟩
  obtain ⟨fr, rfl, hl'⟩ := hfr.lit
  clear hfr
  simp only [List.mem_cons, List.not_mem_nil, or_false, forall_eq_or_imp, forall_eq] at hl'
  obtain ⟨f0, f3⟩ := hl'
  simp only [List.range, List.range.loop, List.map, f0, f3]
  clear f0 f3
  have ct := Lib.hid (qu_take hR)
  cases N with
  | nil =>
   have hfin : Hid (∀ w', QuIs B w0 w' qb o [] (S ++ F) → QAllR B w0 qb o M F M [] (.returned (.slice a W.length c)) w') := Lib.hid fun w' h => by
    rw [List.append_nil] at hWN
    subst hWN
    exact ⟨a, c, S, rfl, hs, h⟩
   clear hR hs hWN
   generalize W.length = n at *
   go_wp2_with fail
   refine ct.out.mono ?_
   rintro r w2 ⟨rfl, h2⟩
   have hfv : firstV [] = .tuple #[enV z0E, .bool false] := rfl
   rw [hfv]
   have fin := Lib.hid (hfin.out _ (h2.alloc (enO z0E) |>.sub (List.sublist_cons_self _ _)))
   clear hfin ct h2 hfv
   go_wp2_with fail
   simp only [Exit.jump]
   go_ret
   exact fin.out
  | cons x N =>
   have hWx : (W ++ [x]) ++ N = M := by rw [← hWN]; simp
   have hWl : W.length ≤ 100000 := by
    have := congrArg List.length hWN
    have := hM2.out
    rw [List.length_append] at *
    omega
   have hp : Hid (∀ w', QuIs B w0 w' qb o N (S ++ F) → EnAt (w'.alloc (enO x)) w'.heap.size x ∧ ∃ a' c' W9, (Builtin.append_ #[46, 46] 0 #[.slice a W.length c, .slice (some ⟨w'.heap.size + 1, 0, none⟩) 1 1]).run Tryz.prog ((w'.alloc (enO x)).alloc (enO x)) = .ok (.slice a' (W ++ [x]).length c') W9 ∧ ∀ a9, Fr 18 [(0, rptr qb), (3, .slice a' (W ++ [x]).length c')] a9 → ∃ m, m < g ∧ PurgeJ B w0 qb o M F m a9 W9) := Lib.hid fun w' h => by
    have h1 := h.alloc (enO x)
    have h2 := h1.at_block (k := w'.heap.size) (e := x) List.mem_cons_self
    obtain ⟨a', c', W9, S', q1, q2, q3⟩ := (h1.permF (F' := S ++ ((w'.heap.size, enO x) :: F)) List.perm_middle.symm).ensPush hs x hWl
    rw [World.size_alloc] at q1
    exact ⟨h2.1, a', c', W9, q1, fun a9 hf => ⟨g - 1, by rw [List.length_cons] at hg; omega, W ++ [x], N, a', c', S', by rw [List.length_cons] at hg; omega, hf, hWx, q2, q3.sub ((List.Sublist.refl _).append (List.sublist_cons_self _ _))⟩⟩
   clear hR hs hWN hWx hWl
   go_wp2_with fail
   refine ct.out.mono ?_
   rintro r w2 ⟨rfl, h2⟩
   have hfv : firstV (x :: N) = .tuple #[enV x, .bool true] := rfl
   rw [hfv]
   obtain ⟨⟨z0, z1, z2, z3, z4, z5, z6, z7, z8, z9⟩, a', c', W9, hrun, fin⟩ := hp.out _ h2
   replace fin := Lib.hid fin
   clear hp ct h2 hfv
   generalize (W ++ [x]).length = m at *
   generalize W.length = n at *
   go_wp2_with (at_builtin; refine wpList_append_go rfl (.tmp 14) (.tmp 16) 46 46 rfl _ _ rfl rfl hrun ?_)
   refine wp_goto ?_
   exact ⟨rfl, fin.out _ ⟨rfl, rfl, by simp⟩⟩
 ·intro HJ
  go_wp2_with fail
  refine wp_label ?_
  go_step
  go_step
  exact HJ M.length _ _ ⟨[], M, none, 0, [], rfl, ⟨rfl, rfl, by simp⟩, rfl, EnsIs.nil, h.out⟩
end
end
def gcells (x : Gst) : List Value := [.int .i64 x.conn, .int .i64 x.chan, tx x.tag, .int .i64 x.most, .bool x.noack, .bool x.sole]
def gssV (L : List Gst) : List Value := L.flatMap gcells
theorem gssV_cons (x : Gst) (L : List Gst) : gssV (x :: L) = gcells x ++ gssV L := rfl
theorem gssV_app (L M : List Gst) : gssV (L ++ M) = gssV L ++ gssV M := by simp [gssV]
theorem gcells_len (x : Gst) : (gcells x).length = 6 := rfl
theorem gssV_len : ∀ (L : List Gst), (gssV L).length = L.length * 6
 | [] => rfl
 | e :: L => by rw [gssV_cons, List.length_append, gcells_len, gssV_len L, List.length_cons]; omega
theorem gssV_at : ∀ {L : List Gst} {i : Nat} {e : Gst}, L[i]? = some e → ∀ {k : Nat} {v : Value}, (gcells e)[k]? = some v → (gssV L)[i * 6 + k]? = some v
 | [], _, _, h, _, _, _ => by simp at h
 | f :: L, 0, e, h, k, v, hk => by
  simp at h
  subst h
  have := (List.getElem?_eq_some_iff.1 hk).1
  rw [gssV_cons, Nat.zero_mul, Nat.zero_add, List.getElem?_append_left this]
  exact hk
 | f :: L, i + 1, e, h, k, v, hk => by
  rw [gssV_cons, List.getElem?_append_right (by rw [gcells_len]; omega), gcells_len, show (i + 1) * 6 + k - 6 = i * 6 + k by omega]
  exact gssV_at (by simpa using h) hk
theorem gcells_one (e : Gst) : ∀ u ∈ gcells e, u.oneCell' = true := fun u hu => by
 unfold gcells at hu
 simp only [List.mem_cons, List.not_mem_nil, or_false] at hu
 rcases hu with rfl | rfl | rfl | rfl | rfl | rfl <;> rfl
theorem gssV_one (L : List Gst) : ∀ u ∈ gssV L, u.oneCell' = true := fun u hu => by
 obtain ⟨e, -, h⟩ := List.mem_flatMap.1 hu
 exact gcells_one e u h
theorem gssV_take (N : List Gst) (i : Nat) : (gssV N).take (i * 6) = gssV (N.take i) := by
 rcases Nat.le_total i N.length with hi | hi
 ·have h3 := congrArg gssV (List.take_append_drop i N)
  rw [gssV_app] at h3
  rw [← h3, List.take_append_of_le_length (by rw [gssV_len, List.length_take]; omega), List.take_of_length_le (by rw [gssV_len, List.length_take]; omega)]
 ·rw [List.take_of_length_le (by rw [gssV_len]; omega), List.take_of_length_le hi]
theorem gssV_drop (N : List Gst) (i : Nat) : (gssV N).drop (i * 6) = gssV (N.drop i) := by
 rcases Nat.le_total i N.length with hi | hi
 ·have h3 := congrArg gssV (List.take_append_drop i N)
  rw [gssV_app] at h3
  rw [← h3, List.drop_append_of_le_length (by rw [gssV_len, List.length_take]; omega), List.drop_of_length_le (by rw [gssV_len, List.length_take]; omega), List.nil_append]
 ·rw [List.drop_of_length_le (by rw [gssV_len]; omega), List.drop_of_length_le hi]; rfl
abbrev GsRow (w : World) (b o : Nat) (x : Gst) : Prop := w.cell? ⟨b, o, none⟩ = some (.int .i64 x.conn) ∧ w.cell? ⟨b, o + 1, none⟩ = some (.int .i64 x.chan) ∧ w.cell? ⟨b, o + 2, none⟩ = some (tx x.tag) ∧ w.cell? ⟨b, o + 3, none⟩ = some (.int .i64 x.most) ∧ w.cell? ⟨b, o + 4, none⟩ = some (.bool x.noack) ∧ w.cell? ⟨b, o + 5, none⟩ = some (.bool x.sole)
theorem GsRow.below {w w' : World} {b o : Nat} {e : Gst} (h : GsRow w b o e) (hb : Below w.heap.size w w') : GsRow w' b o e := by
 obtain ⟨h0, h1, h2, h3, h4, h5⟩ := h
 exact ⟨cellUp h0 hb, cellUp h1 hb, cellUp h2 hb, cellUp h3 hb, cellUp h4 hb, cellUp h5 hb⟩
def ReadGs (w : World) (a : Option Addr) (L : List Gst) : Prop := ∀ i e, L[i]? = some e → ∃ b off, a = some ⟨b, off, none⟩ ∧ GsRow w b (off + i * 6) e
theorem ReadGs.below {w w' : World} {a : Option Addr} {L : List Gst} (h : ReadGs w a L) (hb : Below w.heap.size w w') : ReadGs w' a L := fun i e hi => by
 obtain ⟨b, off, ha, hr⟩ := h i e hi
 exact ⟨b, off, ha, hr.below hb⟩
theorem ReadGs.nil (w : World) (a : Option Addr) : ReadGs w a [] := fun i e hi => by simp at hi
theorem apG : Ap Tryz.prog 86 77 6 48 where
 ty := by kernel_rfl
 info := by
  have h : (Tryz.prog.info? 77).map (fun i => (i.zero.map fun z => z.cells.size, i.size, i.bytes)) = some (some 6, 6, 48) := by kernel_rfl
  rw [Option.map_eq_some_iff] at h
  obtain ⟨i, h1, h2⟩ := h
  simp only [Prod.mk.injEq, Option.map_eq_some_iff] at h2
  obtain ⟨⟨z, h3, h4⟩, h5, h6⟩ := h2
  exact ⟨i, z, h1, h3, h5, h6, h4⟩
abbrev GssIs (v : Value) (L : List Gst) (S : List (Nat × Obj)) : Prop := SlIs 77 6 v L.length (gssV L) S
theorem GssIs.nil : GssIs (.slice none 0 0) [] [] := SlIs.nil
section
variable {B : Nat} {w0 w : World} {S X Y F H : List (Nat × Obj)} {a : Option Addr} {b c c' k : Nat} {L M : List Gst} {v : Value} {x y : Gst}
theorem GssIs.form (hs : GssIs v L S) : ∃ a c, v = .slice a L.length c := by
 obtain ⟨a, c, e, -⟩ := SlIs.form hs
 exact ⟨a, c, e⟩
theorem GssIs.read (hs : GssIs (.slice a L.length c) L S) (hst : St B w0 w (X ++ S)) : ReadGs w a L := fun i e hi => by
 obtain ⟨a', c', e1, -, -, h⟩ := SlIs.form hs
 cases e1
 obtain ⟨g, off, rfl⟩ := h i (List.getElem?_eq_some_iff.1 hi).1
 refine ⟨g, off, rfl, SlIs.cellAt hs hst (gssV_at hi (k := 0) rfl), SlIs.cellAt hs hst (gssV_at hi (k := 1) rfl), SlIs.cellAt hs hst (gssV_at hi (k := 2) rfl), SlIs.cellAt hs hst (gssV_at hi (k := 3) rfl), SlIs.cellAt hs hst (gssV_at hi (k := 4) rfl), SlIs.cellAt hs hst (gssV_at hi (k := 5) rfl)⟩
theorem gss_push (hs : GssIs (.slice a L.length c) L S) (hst : St B w0 w (X ++ S)) (e : Gst) (hl : L.length ≤ 2000000) :
  ∃ a' c' W S', (Builtin.append_ #[86, 86] 0 #[.slice a L.length c, .slice (some ⟨w.heap.size, 0, none⟩) 1 1]).run Tryz.prog (w.alloc (gsO e)) = .ok (.slice a' (L ++ [e]).length c') W ∧
   GssIs (.slice a' (L ++ [e]).length c') (L ++ [e]) S' ∧ St B w0 W (X ++ S') := by
 have hst1 := hst.alloc (gsO e)
 have hb := hst1.get (b := w.heap.size) (o := gsO e) List.mem_cons_self
 obtain ⟨a', c', W, S', q1, q2, q3⟩ := apG.append (A := (w.heap.size, gsO e) :: X) hs hst1 (Reads.block (cs := gcells e) (n := 1) (size := 6) hb rfl 1) (gcells_one _) (by unfold maxLen; omega) (by omega)
 have e1 : L.length + 1 = (L ++ [e]).length := by rw [List.length_append]; rfl
 rw [e1] at q1 q2
 rw [show gssV L ++ gcells e = gssV (L ++ [e]) by simp [gssV]] at q2
 exact ⟨a', c', W, S', q1, q2, q3.sub (List.sublist_cons_self _ _)⟩
abbrev GsAt (w : World) (b : Nat) (x : Gst) : Prop := w.cell? ⟨b, 0, none⟩ = some (.int .i64 x.conn) ∧ w.cell? ⟨b, 1, none⟩ = some (.int .i64 x.chan) ∧ w.cell? ⟨b, 2, none⟩ = some (tx x.tag) ∧ w.cell? ⟨b, 3, none⟩ = some (.int .i64 x.most) ∧ w.cell? ⟨b, 4, none⟩ = some (.bool x.noack) ∧ w.cell? ⟨b, 5, none⟩ = some (.bool x.sole)
theorem GsAt.below {w' : World} (h : GsAt w b x) (hb : Below w.heap.size w w') : GsAt w' b x := by
 obtain ⟨h0, h1, h2, h3, h4, h5⟩ := h
 exact ⟨cellUp h0 hb, cellUp h1 hb, cellUp h2 hb, cellUp h3 hb, cellUp h4 hb, cellUp h5 hb⟩
theorem St.gsAt (h : St B w0 w H) (m : (b, gsO x) ∈ H) : GsAt w b x := ⟨h.cell m rfl, h.cell m rfl, h.cell m rfl, h.cell m rfl, h.cell m rfl, h.cell m rfl⟩
end
abbrev bptr (b : Nat) : Value := .pointer (some ⟨b, 0, none⟩)
def TabAt (w : World) : Prop := ∀ j, j < 64 → w.cell? ⟨1, j, none⟩ = some (.int .u8 (Lib.deBruijn64tab.getD j 0))
set_option maxHeartbeats 1000000 in
theorem bitOf_any (i : Nat) (w : World) (h : (i : Int) ≤ 9223372036854775807) :
  Calls Tryz.prog 310 #[.int .i64 i] w fun e w' => e = .returned (.int .u64 ((2 ^ (i % 64) : Nat) : Int)) ∧ w = w' := by
 have hp := pow_lt_64 (i % 64) (Nat.mod_lt _ (by decide))
 have e : Hid (IntKind.u64.wrap (2 ^ (i % 64)) = ((2 ^ (i % 64) : Nat) : Int)) := by
  refine Lib.hid ?_
  rw [IntKind.wrap_u64]
  have : ((2 : Int) ^ (i % 64)) = ((2 ^ (i % 64) : Nat) : Int) := by push_cast; rfl
  rw [this]
  generalize 2 ^ (i % 64) = q at hp ⊢
  omega
 clear hp
 go_enter Tryz.func310, Tryz.ntmps310
 go_wp2
 go_ret
 exact ⟨by simp [e.out], rfl⟩
def wordsV (ws : List Nat) : List Value := ws.map fun u : Nat => Value.int .u64 (u : Int)
def wordsObj (ws : List Nat) : Obj := .cells (wordsV ws).toArray 370
def headV (x : Nat × List Nat) : Value := .slice (some ⟨x.1, 0, none⟩) x.2.length x.2.length
def lvH (L : List (Nat × List Nat)) : List (Nat × Obj) := L.map fun x => (x.1, wordsObj x.2)
theorem wordsV_at {ws : List Nat} {j u : Nat} (h : ws[j]? = some u) : (wordsV ws)[j]? = some (.int .u64 (u : Int)) := by simp [wordsV, h]
def Tab (B : Nat) (w0 : World) : Prop := 1 < B ∧ TabAt w0
theorem Tab.at_ {B : Nat} {w0 w : World} {H : List (Nat × Obj)} (h : Tab B w0) (hst : St B w0 w H) : TabAt w := fun j hj => by
 have hb := hst.below.block _ h.1
 have := h.2 j hj
 simp only [World.cell?] at this ⊢
 rw [hb]; exact this
structure BmAt (B : Nat) (w0 w : World) (bb : Nat) (L : List (Nat × List Nat)) (places count : Nat) (ov : Value) (oF F : List (Nat × Obj)) : Prop where
 sl : SlIs 369 1 ov L.length (L.map headV) oF
 st : St B w0 w (((bb, .cells #[ov, .int .i64 (places : Int), .int .i64 (count : Int)] 368) :: (lvH L ++ F)) ++ oF)
structure BmWf (L : List (Nat × List Nat)) (places : Nat) : Prop where
 top : places ≤ 5000
 reach : ∀ (l : Nat) (x : Nat × List Nat), L[l]? = some x → places ≤ 64 ^ (l + 1) * x.2.length
 size : ∀ (l : Nat) (x : Nat × List Nat), L[l]? = some x → x.2.length ≤ 5000
 last : ∀ x : Nat × List Nat, L[L.length - 1]? = some x → x.2.length = 1
 bare : L = [] → places = 0
 few : L.length ≤ 5000
def BitsAll (s : Nat → Bool) (L : List (Nat × List Nat)) : Prop := ∀ (l : Nat) (x : Nat × List Nat), L[l]? = some x → Bits s l x.2
section
variable {B : Nat} {w0 w : World} {bb places count : Nat} {L : List (Nat × List Nat)} {ov : Value} {oF F : List (Nat × Obj)} {s : Nat → Bool}
theorem BmAt.c0 (h : BmAt B w0 w bb L places count ov oF F) : w.cell? ⟨bb, 0, none⟩ = some ov := h.st.cell (List.mem_append_left _ List.mem_cons_self) rfl
theorem BmAt.c1 (h : BmAt B w0 w bb L places count ov oF F) : w.cell? ⟨bb, 1, none⟩ = some (.int .i64 (places : Int)) := h.st.cell (List.mem_append_left _ List.mem_cons_self) rfl
theorem BmAt.c2 (h : BmAt B w0 w bb L places count ov oF F) : w.cell? ⟨bb, 2, none⟩ = some (.int .i64 (count : Int)) := h.st.cell (List.mem_append_left _ List.mem_cons_self) rfl
theorem BmAt.soft (h : BmAt B w0 w bb L places count ov oF F) (i : Nat) : w.frozen? ⟨bb, i, none⟩ = false := St.soft h.st (List.mem_append_left _ List.mem_cons_self) i
theorem BmAt.drewN (h : BmAt B w0 w bb L places count ov oF F) (n : Nat) : BmAt B w0 (w.drewN n) bb L places count ov oF F := ⟨h.sl, h.st.drewN n⟩
theorem lvH_mem {l : Nat} {b : Nat} {ws : List Nat} (hl : L[l]? = some (b, ws)) : (b, wordsObj ws) ∈ lvH L :=
 List.mem_map.2 ⟨(b, ws), List.mem_of_getElem? hl, rfl⟩
theorem BmAt.word (h : BmAt B w0 w bb L places count ov oF F) {l b j u : Nat} {ws : List Nat} (hl : L[l]? = some (b, ws)) (hu : ws[j]? = some u) : w.cell? ⟨b, j, none⟩ = some (.int .u64 (u : Int)) :=
 h.st.cell (b := b) (c := (wordsV ws).toArray) (T := 370) (fr := (0, 0)) (List.mem_append_left _ (List.mem_cons_of_mem _ (List.mem_append_left _ (lvH_mem hl)))) (by rw [List.getElem?_toArray]; exact wordsV_at hu)
theorem BmAt.form (h : BmAt B w0 w bb L places count ov oF F) : ∃ a cap, ov = .slice a L.length cap := by
 obtain ⟨a, cap, h1, -⟩ := h.sl.form
 exact ⟨a, cap, h1⟩
theorem BmAt.head (h : BmAt B w0 w bb L places count ov oF F) {l b : Nat} {ws : List Nat} (hl : L[l]? = some (b, ws)) :
  ∃ g off cap, ov = .slice (some ⟨g, off, none⟩) L.length cap ∧ w.cell? ⟨g, off + l, none⟩ = some (.slice (some ⟨b, 0, none⟩) ws.length ws.length) := by
 obtain ⟨a, cap, rfl, _, _, ha⟩ := h.sl.form
 obtain ⟨g, off, rfl⟩ := ha l (List.getElem?_eq_some_iff.1 hl).1
 exact ⟨g, off, cap, rfl, h.sl.cellAt h.st (by simp [hl, headV])⟩
theorem BmWf.first (wf : BmWf L places) {p : Nat} (hp : p < places) : ∃ b ws, L[0]? = some (b, ws) ∧ p / 64 < ws.length := by
 cases L with
 | nil => have := wf.bare rfl; omega
 | cons x L =>
  have := wf.reach 0 x rfl
  rw [Nat.zero_add, Nat.pow_one] at this
  exact ⟨x.1, x.2, rfl, by omega⟩
def BmIs (B : Nat) (w0 w : World) (bb : Nat) (s : Nat → Bool) (k : Nat) (F : List (Nat × Obj)) : Prop :=
 Tab B w0 ∧ (∀ p, s p = true → p < k) ∧ ∃ L ov oF, BmWf L k ∧ BitsAll s L ∧ BmAt B w0 w bb L k (cntB s k) ov oF F
theorem BmIs.drewN (h : BmIs B w0 w bb s places F) (n : Nat) : BmIs B w0 (w.drewN n) bb s places F := by
 obtain ⟨h1, h2, L, ov, oF, h3, h4, h5⟩ := h
 exact ⟨h1, h2, L, ov, oF, h3, h4, h5.drewN n⟩
theorem BmIs.top (h : BmIs B w0 w bb s places F) : places ≤ 5000 := by
 obtain ⟨h1, h2, L, ov, oF, h3, h4, h5⟩ := h
 exact h3.top
def isPlaceB (k : Nat) (i : Int) : Bool := decide (0 ≤ i) && decide (i < k)
set_option maxHeartbeats 400000 in
theorem isPlace_any (h : BmAt B w0 w bb L places count ov oF F) (i : Int) :
  Calls Tryz.prog 306 #[bptr bb, .int .i64 i] w fun e w' => e = .returned (.bool (isPlaceB places i)) ∧ w = w' := by
 have c1 := h.c1
 clear h
 unfold isPlaceB
 by_cases h0 : 0 ≤ i
 ·go_enter Tryz.func306, Tryz.ntmps306
  go_wp2
  go_ret
  exact ⟨by simp [h0], rfl⟩
 ·have h0' : decide (0 ≤ i) = false := by simpa using h0
  rw [h0', Bool.false_and]
  go_enter Tryz.func306, Tryz.ntmps306
  go_wp2
  go_ret
  exact ⟨rfl, rfl⟩
theorem and_bit {u k : Nat} : (u &&& 2 ^ k = 0) ↔ u.testBit k = false := by
 rw [nat_bit, Nat.testBit_eq_decide_div_mod_eq]
 have h1 : 0 < 2 ^ k := Nat.two_pow_pos k
 have h2 := Nat.mod_two_eq_zero_or_one (u / 2 ^ k)
 rcases h2 with h | h
 ·rw [h]; simp
 ·rw [h]; simp
set_option maxHeartbeats 1000000 in
theorem has_place (h : BmIs B w0 w bb s places F) (i : Nat) (hi : i < places) :
  Calls Tryz.prog 307 #[bptr bb, .int .i64 i] w fun e w' => e = .returned (.bool (s i)) ∧ ∃ n, w' = w.drewN n := by
 obtain ⟨-, -, L, ov, oF, wf, hb, h⟩ := h
 obtain ⟨b, ws, hl, hj⟩ := wf.first hi
 have htop := wf.top
 obtain ⟨g, off, cap, rfl, hh⟩ := h.head hl
 have hu : ws[i / 64]? = some ws[i / 64] := List.getElem?_eq_getElem hj
 have hw := h.word hl hu
 have c0 := h.c0
 obtain ⟨hlt, hbit⟩ := hb 0 _ hl _ _ hu
 have hbit := hbit (i % 64) (Nat.mod_lt _ (by decide))
 rw [up_zero, show 64 * (i / 64) + i % 64 = i by omega] at hbit
 have hLpos : 0 < L.length := (List.getElem?_eq_some_iff.1 hl).1
 have hws := wf.size 0 _ hl
 generalize ws[i / 64] = u at *
 have cp : Hid (∀ n, Calls Tryz.prog 306 #[bptr bb, .int .i64 i] (w.drewN n) fun e w' => e = .returned (.bool true) ∧ ∃ m, w' = (w.drewN n).drewN m) := fun n => by
  have := isPlace_any (h.drewN n) (i : Int)
  rw [show isPlaceB places i = true by simp [isPlaceB, hi]] at this
  exact this.mono fun _ _ ⟨h1, h2⟩ => ⟨h1, 0, h2.symm⟩
 have cb : Hid (∀ n, Calls Tryz.prog 310 #[.int .i64 i] (w.drewN n) fun e w' => e = .returned (.int .u64 ((2 ^ (i % 64) : Nat) : Int)) ∧ ∃ m, w' = (w.drewN n).drewN m) := fun n => (bitOf_any i _ (by omega)).mono fun _ _ ⟨h1, h2⟩ => ⟨h1, 0, h2.symm⟩
 have e1 : bits BinOp.and IntKind.u64 (u : Int) ((2 ^ (i % 64) : Nat) : Int) = ((u &&& 2 ^ (i % 64) : Nat) : Int) := u64_and_nat _ _ hlt (pow_lt_64 _ (Nat.mod_lt _ (by decide)))
 have e2 : (((u &&& 2 ^ (i % 64) : Nat) : Int) != 0) = s i := by
  cases hs : s i with
  | true =>
   have h1 := hbit.2 hs
   have : u &&& 2 ^ (i % 64) ≠ 0 := fun e => by rw [and_bit, h1] at e; cases e
   simp; omega
  | false =>
   have : u &&& 2 ^ (i % 64) = 0 := and_bit.2 (by cases h : u.testBit (i % 64) <;> simp_all)
   simp [this]
 have hq0 : (0 : Int) ≤ i := by omega
 have hi0 : (0 : Int) ≤ i / 64 := by omega
 have hi1 : (i : Int) / 64 < ws.length := by omega
 have hL1 : (0 : Int) < L.length := by omega
 simp only [Nat.add_zero] at hh
 generalize ((u &&& 2 ^ (i % 64) : Nat) : Int) = v at *
 generalize ((2 ^ (i % 64) : Nat) : Int) = q at *
 clear h hb hl hj hbit hlt wf hu
 go_enter Tryz.func307, Tryz.ntmps307
 go_wp2_with fail
 go_quiet ((first | (go_at_call 306; exact Calls.quiet_of (cp.out _)) | (go_at_call 310; exact Calls.quiet_of (cb.out _))))
 go_wp2_with fail
 go_ret
 exact ⟨rfl, _, rfl⟩
end
section
variable {B : Nat} {w0 w : World} {bb places count : Nat} {L : List (Nat × List Nat)} {ov : Value} {oF F : List (Nat × Obj)} {s : Nat → Bool}
def Drew (w w' : World) : Prop := ∃ n, w' = w.drewN n
theorem Drew.refl (w : World) : Drew w w := ⟨0, rfl⟩
theorem Drew.drewN {w w' : World} (h : Drew w w') (m : Nat) : Drew w (w'.drewN m) := by
 obtain ⟨n, rfl⟩ := h
 exact ⟨n + m, by simp [World.drewN, Nat.add_comm, Nat.add_left_comm]⟩
theorem BmAt.drews {w' : World} (h : BmAt B w0 w bb L places count ov oF F) (hd : Drew w w') : BmAt B w0 w' bb L places count ov oF F := by
 obtain ⟨n, rfl⟩ := hd
 exact h.drewN n
theorem BmIs.drews {k : Nat} {w' : World} (h : BmIs B w0 w bb s k F) (hd : Drew w w') : BmIs B w0 w' bb s k F := by
 obtain ⟨n, rfl⟩ := hd
 exact h.drewN n
theorem BmWf.beside (wf : BmWf L places) {l i : Nat} {x : Nat × List Nat} (hx : L[l]? = some x) (hi : x.2.length ≤ i / 64) : places ≤ i * 64 ^ l := by
 refine Nat.le_trans (wf.reach l x hx) ?_
 rw [Nat.mul_comm, mul_pow_up]
 exact Nat.mul_le_mul_right _ (by omega)
theorem BmWf.under (wf : BmWf L places) (hs : ∀ p, s p = true → p < places) {l i : Nat} {x : Nat × List Nat} (hx : L[l]? = some x) (hup : Up s (l + 1) i) : i < x.2.length := by
 obtain ⟨p, rfl, hp⟩ := hup
 have h1 := hs p hp
 have h2 := wf.reach l x hx
 rw [Nat.div_lt_iff_lt_mul (Nat.pow_pos (by decide)), Nat.mul_comm]
 omega
end
section
variable {B : Nat} {w0 w : World} {bb places count : Nat} {L : List (Nat × List Nat)} {ov : Value} {oF F : List (Nat × Obj)} {s : Nat → Bool}
end
section
variable {B : Nat} {w0 w : World} {bb places count : Nat} {L : List (Nat × List Nat)} {ov : Value} {oF F : List (Nat × Obj)} {s : Nat → Bool}
def setB (s : Nat → Bool) (k : Nat) (i : Int) (on : Bool) : Nat → Bool := if isPlaceB k i then (if on then ins s i.toNat else del s i.toNat) else s
def SetR (B : Nat) (w0 : World) (bb places : Nat) (t : Nat → Bool) (F : List (Nat × Obj)) (e : Ending) (w' : World) : Prop :=
 e = .returned (.tuple #[]) ∧ BmIs B w0 w' bb t places F
theorem isPlace_draws (h : BmIs B w0 w bb s places F) (i : Int) :
  Calls Tryz.prog 306 #[bptr bb, .int .i64 i] w fun e w' => e = .returned (.bool (isPlaceB places i)) ∧ w = w' := by
 obtain ⟨-, -, L, ov, oF, wf, hb, h⟩ := h
 exact isPlace_any h i
set_option maxHeartbeats 1000000 in
theorem set_same (h : BmIs B w0 w bb s places F) (i : Nat) (on : Bool) (hi : i < places) (hs : s i = on) :
  Calls Tryz.prog 290 #[bptr bb, .int .i64 i, .bool on] w (SetR B w0 bb places s F) := by
 have cp := isPlace_draws h i
 rw [show isPlaceB places i = true by simp [isPlaceB, hi]] at cp
 have ch := has_place h i hi
 rw [hs] at ch
 have cp := Lib.hid cp
 have ch := Lib.hid ch
 have h := Lib.hid h
 have h0 : (on == on) = true := by simp
 clear hi hs
 go_enter Tryz.func290, Tryz.ntmps290
 go_wp2_with fail
 refine cp.out.mono ?_
 rintro e w1 ⟨rfl, rfl⟩
 go_wp2_with fail
 refine ch.out.mono ?_
 rintro e w1 ⟨rfl, hd⟩
 go_wp2_with fail
 exact bodyPost_end (results_none rfl _ _ _) rfl ⟨rfl, h.out.drews hd⟩
end
section
variable {B : Nat} {w0 w : World} {bb places count : Nat} {L : List (Nat × List Nat)} {ov : Value} {oF F : List (Nat × Obj)} {s : Nat → Bool}
theorem BmAt.stored {w' : World} {hb : Nat} {o : Obj} {v : Value} {oF' : List (Nat × Obj)} (hs : SlIs 369 1 v L.length (L.map headV) oF')
  (h : St B w0 w' ((hb, o) :: (((bb, .cells #[ov, .int .i64 (places : Int), .int .i64 (count : Int)] 368) :: (lvH L ++ F))) ++ oF')) : BmAt B w0 (w'.setCell ⟨bb, 0, none⟩ v) bb L places count v oF' F := by
 refine ⟨hs, ?_⟩
 have h1 : St B w0 w' ((bb, .cells #[ov, .int .i64 (places : Int), .int .i64 (count : Int)] 368) :: ((lvH L ++ F) ++ oF')) := h.sub (List.sublist_cons_self _ _)
 rw [List.cons_append]
 exact h1.set0 0 v
end
theorem Tab.below {w w' : World} (h : Tab w.heap.size w) (hb : Below w.heap.size w w') : Tab w'.heap.size w' := by
 refine ⟨Nat.lt_of_lt_of_le h.1 hb.size, fun j hj => ?_⟩
 have := h.2 j hj
 exact (hb.cell (p := ⟨1, j, none⟩) h.1).trans this
section
variable {B : Nat} {w0 w : World} {bb k : Nat} {F : List (Nat × Obj)} {s : Nat → Bool}
theorem BmIs.below (h : BmIs B w0 w bb s k F) : Below B w0 w := by
 obtain ⟨-, -, L, ov, oF, -, -, h⟩ := h
 exact h.st.below
def none0 : Nat → Bool := fun _ => false
end
section
open Ieee
theorem nearest_exact (s : Bool) (m k : Nat) (h0 : 0 < m) (hk : m.log2 + k = 52) : double.read (double.nearest s m 0) = .number s (m * 2 ^ k) (-(k : Int)) := by
 have h1 := Nat.log2_self_le (n := m) (by omega)
 have h2 := @Nat.lt_log2_self m
 have hX1 : 4503599627370496 ≤ m * 2 ^ k := by
  have : 2 ^ m.log2 * 2 ^ k ≤ m * 2 ^ k := Nat.mul_le_mul_right _ h1
  rw [← Nat.pow_add, hk] at this
  exact this
 have hX2 : m * 2 ^ k < 9007199254740992 := by
  have : m * 2 ^ k < 2 ^ (m.log2 + 1) * 2 ^ k := Nat.mul_lt_mul_of_pos_right h2 (Nat.two_pow_pos k)
  rw [← Nat.pow_add, show m.log2 + 1 + k = 53 by omega] at this
  exact this
 have hlast : max ((0 : Int) + m.log2 - (52 : Nat)) (-1074) = -(k : Int) := by omega
 have hlp : double.leastPlace = -1074 := by decide
 have hbin : double.binade = 4503599627370496 := by decide
 have hinf : double.infRung = 9218868437227405312 := by decide
 have hsw : double.signWeight = 9223372036854775808 := by decide
 have hfb : double.fractionBits = 52 := rfl
 have hcut : Toward.even.cut s (m <<< (0 - -(k : Int)).toNat) ((-(k : Int)) - 0).toNat = m * 2 ^ k := by
  rw [show (0 - -(k : Int)).toNat = k by omega, show ((-(k : Int)) - 0).toNat = 0 by omega, Nat.shiftLeft_eq]
  simp [Toward.cut]
  omega
 have hnear : double.nearest s m 0 = double.word s ((1074 - k) * 4503599627370496 + m * 2 ^ k) := by
  unfold Format.nearest
  rw [if_neg (by omega)]
  simp only [hfb, hlp, hlast, hcut, hbin, hinf]
  rw [show (-(k : Int) - -1074).toNat = 1074 - k by omega, Nat.min_eq_left (by omega)]
 rw [hnear]
 generalize hR : m * 2 ^ k = X at *
 have hrung : (1074 - k) * 4503599627370496 + X < 9218868437227405312 := by omega
 have hw : double.word s ((1074 - k) * 4503599627370496 + X) / 9223372036854775808 % 2 = (if s then 1 else 0) ∧ double.word s ((1074 - k) * 4503599627370496 + X) % 9223372036854775808 = (1074 - k) * 4503599627370496 + X := by
  unfold Format.word
  rw [hsw]
  cases s
  ·rw [if_neg (by simp), if_neg (by simp)]; omega
  ·rw [if_pos rfl, if_pos rfl]; omega
 unfold Format.read
 simp only [hsw, hbin, hlp, hinf, hw.1, hw.2]
 rw [if_neg (by omega), if_pos hrung]
 congr 1
 ·cases s <;> rfl
 ·omega
 ·omega
def Stands (d : Datum) (n : Int) : Prop := ∃ k : Nat, d = .number (decide (n < 0)) (n.natAbs * 2 ^ k) (-(k : Int))
theorem fl_stands (n : Int) (h1 : -9007199254740992 < n) (h2 : n < 9007199254740992) : Stands (FloatKind.f64.decode (floatOfInt .f64 n)) n := by
 by_cases h0 : n = 0
 ·subst h0
  refine ⟨1074, ?_⟩
  simp only [Int.natAbs_zero, Nat.zero_mul]
  decide +kernel
 ·have hm : 0 < n.natAbs := by omega
  have hl : n.natAbs.log2 < 53 := by
   rw [Nat.log2_lt (by omega)]
   have : (2 : Nat) ^ 53 = 9007199254740992 := by decide
   omega
  exact ⟨52 - n.natAbs.log2, nearest_exact _ _ _ hm (by omega)⟩
theorem signed_eq (n : Int) (k j : Nat) : signed (decide (n < 0)) (n.natAbs * 2 ^ k) j = n * ((2 ^ (k + j) : Nat) : Int) := by
 have e : (((n.natAbs * 2 ^ k) <<< j : Nat) : Int) = (n.natAbs : Int) * ((2 ^ (k + j) : Nat) : Int) := by
  rw [Nat.shiftLeft_eq, Nat.mul_assoc, ← Nat.pow_add]; simp
 unfold signed
 by_cases h : n < 0
 ·rw [decide_eq_true h, if_pos rfl, e, ← Int.neg_mul]
  congr 1
  omega
 ·rw [decide_eq_false h, if_neg (by simp), e]
  congr 1
  omega
theorem toInt_stands {d : Datum} {n : Int} (h : Stands d n) : d.toInt .zero = some n := by
 obtain ⟨k, rfl⟩ := h
 simp only [Datum.toInt, Datum.integral]
 have hc : Toward.zero.cut (decide (n < 0)) ((n.natAbs * 2 ^ k) <<< (-(k : Int)).toNat) (- -(k : Int)).toNat = n.natAbs := by
  rw [show (-(k : Int)).toNat = 0 by omega, show (- -(k : Int)).toNat = k by omega, Nat.shiftLeft_zero]
  unfold Toward.cut
  by_cases h0 : n.natAbs = 0
  ·simp [h0]
  ·have hp := Nat.two_pow_pos k
   have hle : k ≤ (n.natAbs * 2 ^ k).log2 := by
    rw [Nat.le_log2 (by intro e; rcases Nat.mul_eq_zero.1 e with e | e <;> omega)]
    exact Nat.le_mul_of_pos_left _ (by omega)
   simp only [Bool.toNat_false, Nat.add_zero]
   rw [Nat.min_eq_left (by omega), Nat.one_shiftLeft, Nat.mul_div_cancel _ hp]
 rw [hc]
 have := signed_eq n 0 0
 simp only [Nat.pow_zero, Nat.mul_one] at this
 rw [this]
 simp
theorem fl_int (n : Int) (h1 : -9007199254740992 < n) (h2 : n < 9007199254740992) : floatToIntVal .f64 (floatOfInt .f64 n) .i64 = some n := by
 unfold floatToIntVal
 rw [toInt_stands (fl_stands n h1 h2)]
 simp only
 rw [if_pos]
 constructor
 ·show -9223372036854775808 ≤ n; omega
 ·show n ≤ 9223372036854775807; omega
end
abbrev gup (b : Nat) : Value := .pointer (some ⟨b, 0, none⟩)
abbrev seatV (p s : Nat) : Value := .complex .f64 (floatOfInt .f64 (p : Int)) (floatOfInt .f64 (s : Int))
abbrev gusO (v u : Value) : Obj := .cells #[v, u] 199
structure GuAt (B : Nat) (w0 w : World) (gb : Nat) (v : Value) (M : List Gst) (T : Nat) (S F : List (Nat × Obj)) : Prop where
 sl : GssIs v M S
 st : St B w0 w ((gb, gusO v (seatV (T % 64) (T / 64))) :: (F ++ S))
def GuIsX (qT : Bool) (B : Nat) (w0 w : World) (gb : Nat) (M : List Gst) (T : Nat) (F : List (Nat × Obj)) : Prop :=
 (qT = true → Tab B w0) ∧ OkT M.length T ∧ M.length ≤ 60000 ∧ ∃ v S, GuAt B w0 w gb v M T S F
structure RdG (w : World) (gb : Nat) (M : List Gst) (a : Option Addr) (c : Nat) : Prop where
 c0 : w.cell? ⟨gb, 0, none⟩ = some (.slice a M.length c)
 rd : ReadGs w a M
section
variable {qT : Bool} {B : Nat} {w0 w w' : World} {gb b c T : Nat} {M L : List Gst} {a : Option Addr} {v : Value} {S F F' X : List (Nat × Obj)} {x y : Gst}
theorem RdG.below (h : RdG w gb M a c) (hb : Below w.heap.size w w') : RdG w' gb M a c := ⟨cellUp h.c0 hb, h.rd.below hb⟩
theorem GuAt.form (h : GuAt B w0 w gb v M T S F) : ∃ a c, v = .slice a M.length c := GssIs.form h.sl
theorem GuAt.c0 (h : GuAt B w0 w gb v M T S F) : w.cell? ⟨gb, 0, none⟩ = some v := h.st.cell List.mem_cons_self rfl
theorem GuAt.c1 (h : GuAt B w0 w gb v M T S F) : w.cell? ⟨gb, 1, none⟩ = some (seatV (T % 64) (T / 64)) := h.st.cell List.mem_cons_self rfl
theorem GuAt.soft (h : GuAt B w0 w gb v M T S F) (i : Nat) : w.frozen? ⟨gb, i, none⟩ = false := St.soft h.st List.mem_cons_self i
theorem GuAt.grow (h : GuAt B w0 w gb v M T S F) (hb : Below w.heap.size w w') : GuAt B w0 w' gb v M T S F := ⟨h.sl, h.st.grow hb⟩
theorem GuAt.rdg (h : GuAt B w0 w gb (.slice a M.length c) M T S F) : RdG w gb M a c := ⟨h.c0, GssIs.read (X := (gb, gusO _ (seatV (T % 64) (T / 64))) :: F) h.sl h.st⟩
theorem GuAt.turn (h : GuAt B w0 w gb v M T S F) (T' : Nat) : GuAt B w0 (w.setCell ⟨gb, 1, none⟩ (seatV (T' % 64) (T' / 64))) gb v M T' S F := ⟨h.sl, h.st.set0 1 _⟩
theorem GuAt.tab (hT : Tab B w0) (h : St B w0 w X) : Tab w.heap.size w := ⟨Nat.lt_of_lt_of_le hT.1 h.base, hT.at_ h⟩
theorem GuIsX.beside (h : GuIsX qT B w0 w gb M T F) : ∃ S, St B w0 w (S ++ F) ∧ ∀ w' F', St B w0 w' (S ++ F') → GuIsX qT B w0 w' gb M T F' := by
 obtain ⟨h1, h2, h3, v, S, h4, h5⟩ := h
 have hp : ∀ F : List (Nat × Obj), ((gb, gusO v (seatV (T % 64) (T / 64))) :: (F ++ S)).Perm (((gb, gusO v (seatV (T % 64) (T / 64))) :: S) ++ F) := fun F => List.Perm.cons _ List.perm_append_comm
 exact ⟨_, h5.perm (hp F), fun w' F' h' => ⟨h1, h2, h3, v, S, h4, h'.perm (hp F').symm⟩⟩
theorem GuIsX.grow (h : GuIsX qT B w0 w gb M T F) (hb : Below w.heap.size w w') : GuIsX qT B w0 w' gb M T F := by
 obtain ⟨S, h1, h2⟩ := h.beside
 exact h2 _ _ (h1.grow hb)
theorem GuIsX.sub (h : GuIsX qT B w0 w gb M T F) (hs : F'.Sublist F) : GuIsX qT B w0 w gb M T F' := by
 obtain ⟨S, h1, h2⟩ := h.beside
 exact h2 _ _ (h1.sub ((List.Sublist.refl S).append hs))
theorem GuIsX.permF (h : GuIsX qT B w0 w gb M T F) (hp : F.Perm F') : GuIsX qT B w0 w gb M T F' := by
 obtain ⟨S, h1, h2⟩ := h.beside
 exact h2 _ _ (h1.perm (hp.append_left S))
theorem GuIsX.alloc (h : GuIsX qT B w0 w gb M T F) (o : Obj) : GuIsX qT B w0 (w.alloc o) gb M T ((w.heap.size, o) :: F) := by
 obtain ⟨S, h1, h2⟩ := h.beside
 exact h2 _ _ ((h1.alloc o).perm List.perm_middle.symm)
theorem GuIsX.below (h : GuIsX qT B w0 w gb M T F) : Below B w0 w := by
 obtain ⟨S, h1, h2⟩ := h.beside
 exact h1.below
theorem GuIsX.guest (h : GuIsX qT B w0 w gb M T F) (hm : (b, gsO x) ∈ F) : GsAt w b x ∧ ∀ i, w.frozen? ⟨b, i, none⟩ = false := by
 obtain ⟨S, h1, -⟩ := h.beside
 exact ⟨h1.gsAt (List.mem_append_right _ hm), fun i => h1.soft (List.mem_append_right _ hm) i⟩
def idxV (r : Option Nat) : Value := .tuple #[.int .i64 ((r.getD 0 : Nat) : Int), .bool r.isSome]
set_option maxHeartbeats 2000000 in
theorem gsFind_any (h : RdG w gb M a c) (hl : M.length ≤ 100000) (p q : Int) (t : List UInt8) {r : Option Nat} (hr0 : idxG M p q t = r) :
  Calls Tryz.prog 153 #[gup gb, .int .i64 p, .int .i64 q, tx t] w fun e w' => e = .returned (idxV r) ∧ w' = w := by
 obtain ⟨c0, hr⟩ := h
 have hyes : Hid (∀ (i : Nat) x, M[i]? = some x → keyG p q t x = true → (∀ (j : Nat) y, j < i → M[j]? = some y → keyG p q t y = false) → idxV r = .tuple #[.int .i64 (i : Int), .bool true]) := Lib.hid fun i x hi he hn => by
  rw [← hr0, idx_some hi he hn]
  rfl
 have hno : Hid ((∀ (j : Nat) y, j < M.length → M[j]? = some y → keyG p q t y = false) → idxV r = .tuple #[.int .i64 0, .bool false]) := Lib.hid fun hn => by
  rw [← hr0, idx_none hn]
  rfl
 have hl0 : (M.length : Int) ≤ 100000 := by omega
 replace hr := Lib.hid hr
 generalize idxV r = R at *
 clear hr0
 go_enter Tryz.func153, Tryz.ntmps153
 go_wp2_with fail
 refine wp_scope_ghost 0 (fun g aq wt => ∃ i : Nat, i + g = M.length ∧ Hid (∀ (j : Nat) y, j < i → M[j]? = some y → keyG p q t y = false) ∧ Fr 50 [(0, gup gb), (1, .int .i64 p), (2, .int .i64 q), (3, tx t), (8, .int .i64 0), (9, .bool false), (10, .int .i64 (i : Int))] aq ∧ wt = w) rfl ?_ ?_
 ·rintro g a' w' ⟨i, hi, hn, hfr, rfl⟩
  obtain ⟨q', rfl, hl'⟩ := hfr.lit
  clear hfr
  simp only [List.mem_cons, List.not_mem_nil, or_false, forall_eq_or_imp, forall_eq] at hl'
  obtain ⟨f0, f1, f2, f3, f8, f9, f10⟩ := hl'
  simp only [List.range, List.range.loop, List.map, f0, f1, f2, f3, f8, f9, f10]
  clear f0 f1 f2 f3 f8 f9 f10
  have hi0 : (0 : Int) ≤ i := by omega
  by_cases hlt : i < M.length
  ·have hx : M[i]? = some M[i] := List.getElem?_eq_getElem hlt
   have hi1 : (i : Int) < M.length := by omega
   have hne : ((i : Int) == M.length) = false := by rw [beq_eq_false_iff_ne]; omega
   generalize M[i] = x at hx
   obtain ⟨g1, o1, rfl, k0, k1, k2, -⟩ := hr.out i x hx
   by_cases hk : keyG p q t x = true
   ·obtain ⟨e1, e2, e3⟩ := key_yes hk
    have fin := Lib.hid (hyes.out i x hx hk hn.out)
    clear hyes hno hn hx hr hk
    go_wp2_with fail
    simp only [Exit.jump]
    go_ret2
    exact ⟨by rw [fin.out]; rfl, rfl⟩
   ·have hk' : keyG p q t x = false := by simpa using hk
    have nxt : Hid (∀ (j : Nat) y, j < i + 1 → M[j]? = some y → keyG p q t y = false) := Lib.hid fun j y hj hy => by
     rcases (by omega : j < i ∨ j = i) with h9 | rfl
     ·exact hn.out j y h9 hy
     ·rw [hx] at hy
      cases hy
      exact hk'
    have hw := key_ways hk'
    clear hyes hno hn hx hr hk hk'
    rcases hw with e1 | ⟨e1, e2⟩ | ⟨e1, e2, e3⟩
    all_goals
     go_wp2_with fail
     refine wp_goto ?_
     exact ⟨rfl, g - 1, by omega, i + 1, by omega, nxt, ⟨rfl, rfl, by simp⟩, rfl⟩
  ·obtain rfl : i = M.length := by omega
   have fin := Lib.hid (hno.out hn.out)
   clear hyes hno hn hr
   go_wp2_with fail
   simp only [Exit.jump]
   go_ret2
   exact ⟨by rw [fin.out]; rfl, rfl⟩
 ·intro H
  clear hyes hno hr
  go_wp2_with fail
  refine wp_label ?_
  go_step
  go_step
  exact H M.length _ _ ⟨0, by omega, Lib.hid fun j y hj => absurd hj (by omega), ⟨rfl, rfl, by simp⟩, rfl⟩
end
end Go.Proofs.YtknjamfjonapiaaGreatDoor
