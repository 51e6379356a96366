import Derived.Test.YtknjamfjonapiaaGreatDoorY17
import Derived.Test.YtknjamfjonapiaaGreatDoorY01
import Derived.Test.YtknjamfjonapiaaGreatDoorY10
import Derived.Test.YtknjamfjonapiaaGreatDoorY05
import Derived.Test.YtknjamfjonapiaaGreatDoorY07
import Derived.Test.YtknjamfjonapiaaGreatDoorRows
import Derived.Deep.QuietTactic
import Derived.BigQuiet
import Derived.Deep.RegionHeld3
import Derived.Laws.MakeOwn
import Derived.IntWalk
import Derived.Lib.Hide
import Derived.Laws.Bits64b
namespace Go.Proofs.YtknjamfjonapiaaGreatDoor
open Go.RowKit
set_option linter.unusedVariables false
set_option maxRecDepth 100000
section
variable {B : Nat} {w0 w w' : World} {F T R Q S : List (Nat × Obj)} {tb xb c c' pb : Nat} {M : Prs} {L X Y : List Pl} {p p' : Pl} {k : Ky} {A rows : List Bnd} {P : List Plc} {v tv u : Value} {n : List UInt8} {keys : List (List UInt8)} {q : Bnd → Bool}
theorem pl_append {l : List Value} {X' : List (Nat × Obj)} (hs : SlIs 188 1 v l.length l R) (hst : St B w0 w (X' ++ R)) (b : Nat) (hl : l.length ≤ 100000) :
  ∃ a cap W2 F2, (Builtin.append_ #[206, 206] 0 #[v, .slice (some ⟨w.heap.size, 0, none⟩) 1 1]).run Tryz.prog (w.alloc (.cells #[bpt b] 188)) = .ok (.slice a (l.length + 1) cap) W2 ∧
   SlIs 188 1 (.slice a (l.length + 1) cap) (l ++ [bpt b]).length (l ++ [bpt b]) F2 ∧ St B w0 W2 (X' ++ F2) := by
 obtain ⟨i0, hi0, hz0, hz1, hz2⟩ := info_parts infPls
 have hrd := Reads.one w (bpt b) 188
 obtain ⟨v2, W2, F2, hr, hs2, hst2⟩ := run_append_sl (P := Tryz.prog) 206 0 188 i0 _ 1 8 uPls hi0 hz0 hz1 hz2 rfl hs (A := (w.heap.size, .cells #[bpt b] 188) :: X') (hst.alloc _) hrd
  (by intro u hu; rw [List.mem_singleton] at hu; subst hu; rfl) (by unfold maxLen; omega) (by omega)
 obtain ⟨a, cap, rfl, -⟩ := hs2.form
 refine ⟨a, cap, W2, F2, hr, ?_, hst2.sub (List.sublist_cons_self _ _)⟩
 rw [List.length_append, List.length_singleton]
 exact hs2
def DecR (B : Nat) (w0 : World) (xb : Nat) (P : List Plc) (A : List Bnd) (F : List (Nat × Obj)) (c : Nat) (z : Int) (e : Ending) (w' : World) : Prop := e = .returned (.int .i64 z) ∧ ExIs B w0 w' xb P A F c
set_option maxHeartbeats 4000000 in
theorem xdeclare_any (h : ExIs B w0 w xb P A F c) (hc : 1 ≤ c) (n : List UInt8) (kd bt : Int) :
  Calls Tryz.prog 76 #[bpt xb, tx n, .int .i64 kd, .int .i64 bt] w (DecR B w0 xb (declX P n kd (autoB bt)).1 A F c (declX P n kd (autoB bt)).2) := by
 have hall := Lib.hid h
 obtain ⟨L, v, tv, R, Q, rfl, h, hst⟩ := h
 have fd := h.fine.decl n kd (autoB bt)
 have few := h.fine.few
 rw [List.length_map] at few
 have c1 := Lib.hid (xfind_any h hst n)
 have cn := Lib.hid (fun w => isname_any n w)
 have ck := Lib.hid (fun w => iskind_any kd w)
 by_cases hn : n = []
 ·have e : declX (L.map Pl.d) n kd (autoB bt) = (L.map Pl.d, 403) := by rw [declX, if_pos hn]
  rw [e]
  subst hn
  clear h hst fd e cn ck c1
  go_enter Tryz.func76, Tryz.ntmps76
  go_wp2_with fail
  go_ret
  exact ⟨rfl, hall.out⟩
 have h0B : (n == []) = false := by simpa using hn
 have h0C : n.isEmpty = false := by simpa using hn
 unfold ptrF at c1
 by_cases hbad : isNm n = false ∨ ¬ (1 ≤ kd ∧ kd ≤ 3)
 ·have e : declX (L.map Pl.d) n kd (autoB bt) = (L.map Pl.d, 406) := by rw [declX, if_neg hn, if_pos hbad]
  rw [e]
  cases hf : isNm n with
  | false =>
   rw [hf] at cn
   generalize Option.map (fun p : Pl => (⟨p.b, 0, none⟩ : Addr)) (findL L n) = pv at *
   clear h hst fd e hbad hf hn
   go_enter Tryz.func76, Tryz.ntmps76
   go_wp2_with fail
   refine c1.out.mono ?_
   rintro e w1 ⟨rfl, rfl⟩
   go_wp2_with fail
   refine (cn.out _).mono ?_
   rintro e w1 ⟨rfl, rfl⟩
   go_wp2_with fail
   go_ret
   exact ⟨rfl, hall.out⟩
  | true =>
   have hk : ¬ (1 ≤ kd ∧ kd ≤ 3) := hbad.resolve_left (by rw [hf]; decide)
   rw [hf] at cn
   rw [decide_eq_false hk] at ck
   generalize Option.map (fun p : Pl => (⟨p.b, 0, none⟩ : Addr)) (findL L n) = pv at *
   clear h hst fd e hbad hf hn hk
   go_enter Tryz.func76, Tryz.ntmps76
   go_wp2_with fail
   refine c1.out.mono ?_
   rintro e w1 ⟨rfl, rfl⟩
   go_wp2_with fail
   refine (cn.out _).mono ?_
   rintro e w1 ⟨rfl, rfl⟩
   go_wp2_with fail
   refine (ck.out _).mono ?_
   rintro e w1 ⟨rfl, rfl⟩
   go_wp2_with fail
   go_ret
   exact ⟨rfl, hall.out⟩
 have hbad' := hbad
 simp only [not_or, Bool.not_eq_false, Decidable.not_not] at hbad'
 obtain ⟨hf, hk⟩ := hbad'
 rw [hf] at cn
 rw [decide_eq_true hk] at ck
 cases hp : findL L n with
 | some p =>
  rw [hp] at c1
  simp only [Option.map_some] at c1
  obtain ⟨hm, -⟩ := findL_mem hp
  obtain ⟨-, p1, p2, -⟩ := hst.place hm
  have ci := Lib.hid (is_any p1 p2 kd bt)
  have grow := Lib.hid (fun w1 hb => (⟨L, v, tv, R, Q, rfl, h, hst.grow (w' := w1) hb⟩ : ExIs B w0 w1 xb (L.map Pl.d) A F c))
  have e : declX (L.map Pl.d) n kd (autoB bt) = if p.d.2.1 = kd ∧ p.d.2.2 = autoB bt then (L.map Pl.d, 0) else (L.map Pl.d, 406) := by
   rw [declX, if_neg hn, if_neg hbad, findL_d, hp]
   rfl
  by_cases hsame : p.d.2.1 = kd ∧ p.d.2.2 = autoB bt
  ·rw [if_pos hsame] at e
   rw [e]
   rw [hsame.1, hsame.2, beq_self_eq_true, beq_self_eq_true, Bool.true_and] at ci
   generalize p.b = pb at *
   clear h hst fd e hbad hf hk hn hp hsame p1 p2
   go_enter Tryz.func76, Tryz.ntmps76
   go_wp2_with fail
   refine c1.out.mono ?_
   rintro e w1 ⟨rfl, rfl⟩
   go_wp2_with fail
   refine (cn.out _).mono ?_
   rintro e w1 ⟨rfl, rfl⟩
   go_wp2_with fail
   refine (ck.out _).mono ?_
   rintro e w1 ⟨rfl, rfl⟩
   go_wp2_with fail
   refine ci.out.mono ?_
   rintro e w2 ⟨rfl, hb⟩
   replace grow := Lib.hid (grow.out _ hb)
   clear hb
   go_wp2_with fail
   go_ret
   exact ⟨rfl, grow.out⟩
  ·rw [if_neg hsame] at e
   rw [e]
   have hs : (p.d.2.1 == kd && p.d.2.2 == autoB bt) = false := by
    rw [Bool.and_eq_false_iff]
    by_cases h1 : p.d.2.1 = kd
    ·exact .inr (by simpa using fun h2 => hsame ⟨h1, h2⟩)
    ·exact .inl (by simpa using h1)
   rw [hs] at ci
   generalize p.b = pb at *
   clear h hst fd e hbad hf hk hn hp hsame p1 p2 hs
   go_enter Tryz.func76, Tryz.ntmps76
   go_wp2_with fail
   refine c1.out.mono ?_
   rintro e w1 ⟨rfl, rfl⟩
   go_wp2_with fail
   refine (cn.out _).mono ?_
   rintro e w1 ⟨rfl, rfl⟩
   go_wp2_with fail
   refine (ck.out _).mono ?_
   rintro e w1 ⟨rfl, rfl⟩
   go_wp2_with fail
   refine ci.out.mono ?_
   rintro e w2 ⟨rfl, hb⟩
   replace grow := Lib.hid (grow.out _ hb)
   clear hb
   go_wp2_with fail
   go_ret
   exact ⟨rfl, grow.out⟩
 | none =>
  rw [hp] at c1
  simp only [Option.map_none] at c1
  obtain ⟨x0, -, -, -⟩ := hst.ex
  obtain ⟨a, cap, ev, -⟩ := h.form hst
  have e : declX (L.map Pl.d) n kd (autoB bt) = if 8 ≤ L.length then (L.map Pl.d, 506) else (L.map Pl.d ++ [(n, kd, autoB bt)], 0) := by
   rw [declX, if_neg hn, if_neg hbad, findL_d, hp, List.length_map]
   rfl
  by_cases hfull : 8 ≤ L.length
  ·rw [if_pos hfull] at e
   rw [e]
   have hfI : (8 : Int) ≤ L.length := by omega
   subst ev
   clear h hst fd e hbad hf hk hn hp
   go_enter Tryz.func76, Tryz.ntmps76
   go_wp2_with fail
   refine c1.out.mono ?_
   rintro e w1 ⟨rfl, rfl⟩
   go_wp2_with fail
   refine (cn.out _).mono ?_
   rintro e w1 ⟨rfl, rfl⟩
   go_wp2_with fail
   refine (ck.out _).mono ?_
   rintro e w1 ⟨rfl, rfl⟩
   go_wp2_with fail
   go_ret
   exact ⟨rfl, hall.out⟩
  ·rw [if_neg hfull] at e
   rw [e] at fd ⊢
   have hfI : ¬ (8 : Int) ≤ L.length := by omega
   have hof : ofB A n = [] := ofB_none h.fine (by rw [findL_d, hp]; rfl)
   have cnp : Hid (∀ w1, St B w0 w1 (exO xb v tv L R Q ++ F) → Calls Tryz.prog 142 #[tx n, .int .i64 kd, .int .i64 bt] w1 fun e w' => ∃ pb, e = .returned (bpt pb) ∧ w'.cell? ⟨xb, 0, none⟩ = some v ∧
     ∃ a2 cap2 W3, (Builtin.append_ #[206, 206] 0 #[v, .slice (some ⟨w'.heap.size, 0, none⟩) 1 1]).run Tryz.prog (w'.alloc (.cells #[bpt pb] 188)) = .ok (.slice a2 (L.length + 1) cap2) W3 ∧
     (W3.cell? ⟨xb, 0, none⟩ = some v ∧ W3.frozen? ⟨xb, 0, none⟩ = false) ∧ ExIs B w0 (W3.setCell ⟨xb, 0, none⟩ (.slice a2 (L.length + 1) cap2)) xb (L.map Pl.d ++ [(n, kd, autoB bt)]) A F c) := Lib.hid fun w1 h1 => by
    refine (newplace_any h1 n (by have := (isNm_len hf).2; omega) kd bt).mono ?_
    rintro e w' ⟨np, rfl, hnp, h2⟩
    have h3 : St B w0 w' (exO xb v tv L R Q ++ (np.objs ++ F)) := h2.perm (by
     refine perm_by fun a => ?_
     simp only [List.count_append]
     omega)
    obtain ⟨a2, cap2, W3, R2, hrun, hs2, hst2⟩ := pl_append (l := L.map fun p => bpt p.b) (by rw [List.length_map]; exact h.sl) (h3.perm (exO_row R)) np.b (by rw [List.length_map]; omega)
    rw [List.length_map] at hrun hs2
    have h4 := hst2.perm (exO_row R2).symm
    refine ⟨np.b, rfl, h3.ex.1, a2, cap2, W3, hrun, ⟨h4.ex.1, h4.ex.2.2.1⟩, L ++ [np], .slice a2 (L.length + 1) cap2, tv, R2, Q, by rw [List.map_append, List.map_cons, List.map_nil, hnp.dat], ⟨?_, ?_, h.tab, ?_⟩, (h4.exSet0 (.slice a2 (L.length + 1) cap2)).perm ?_⟩
    ·rw [List.map_append, List.map_cons, List.map_nil, hnp.dat]
     exact fd
    ·rw [List.map_append, List.map_cons, List.map_nil, List.length_append, List.length_singleton]
     rw [List.length_append, List.length_singleton, List.length_map] at hs2
     exact hs2
    ·intro p' hp'
     rcases List.mem_append.1 hp' with h' | h'
     ·exact h.pls p' h'
     ·rw [List.mem_singleton] at h'
      subst h'
      refine ⟨by rw [hnp.dat]; exact hnp.has, fun k hk' => ?_⟩
      unfold keysOf
      rw [hnp.dat]
      show KyOk k ((ofB A n).map _) c
      rw [hof]
      exact (hnp.ky k hk').mono hc
    ·unfold exO
     rw [plsO_append]
     have e2 : plsO [np] = np.objs := by simp [plsO]
     rw [e2]
     refine List.Perm.of_eq ?_
     simp only [List.append_assoc, List.cons_append]
   have hd : St B w0 w.drew (exO xb v tv L R Q ++ F) := hst.drew
   replace cnp := Lib.hid (cnp.out _ hd)
   subst ev
   clear h hst fd e hbad hf hk hn hp hd hall hof
   go_enter Tryz.func76, Tryz.ntmps76
   go_wp2_with fail
   refine c1.out.mono ?_
   rintro e w1 ⟨rfl, rfl⟩
   go_wp2_with fail
   refine (cn.out _).mono ?_
   rintro e w1 ⟨rfl, rfl⟩
   go_wp2_with fail
   refine (ck.out _).mono ?_
   rintro e w1 ⟨rfl, rfl⟩
   clear cn ck c1
   go_wp2_with fail
   go_region_law (first
    | (refine step_append_go rfl (.tmp 48) (.tmp 53) 206 206 rfl _ _ rfl rfl hrun ?_)
    | (go_simp; go_at_call 142; refine cnp.out.mono ?_; rintro e w3 ⟨pb, rfl, x3, a2, cap2, W3, hrun, ⟨y0, y1⟩, fin⟩; have x4 := cellOn (c := (xb, 0)) x3 (new_below w3 (.cells #[bpt pb] 188)); replace fin := Lib.hid fin))
   all_goals
    go_wp2_with fail
    go_ret
    exact ⟨rfl, fin.out⟩
end
end Go.Proofs.YtknjamfjonapiaaGreatDoor
namespace Go.Proofs.YtknjamfjonapiaaGreatDoor
open Go.RowKit
set_option linter.unusedVariables false
set_option maxRecDepth 100000
section
variable {B : Nat} {w0 w w' : World} {F T R Q S : List (Nat × Obj)} {tb xb c c' pb : Nat} {M : Prs} {L X Y : List Pl} {p p' : Pl} {k : Ky} {A A' rows : List Bnd} {P : List Plc} {v tv u : Value} {n : List UInt8} {keys : List (List UInt8)} {q : Bnd → Bool} {b : Bnd}
def TabM (B : Nat) (w0 : World) (xb : Nat) (v : Value) (L : List Pl) (R F : List (Nat × Obj)) (A : List Bnd) (tb : Nat) (w : World) : Prop := TbIs 273 B w0 w tb A (exO xb v (bpt tb) L R [] ++ F)
theorem TabM.of (h : TabM B w0 xb v L R F A tb w) : ∃ Q, TaIn (bpt tb) A Q ∧ St B w0 w (exO xb v (bpt tb) L R Q ++ F) := by
 obtain ⟨u, S, hu, hst⟩ := h
 exact ⟨(tb, .cells #[u] 273) :: S, .inr ⟨tb, u, S, rfl, rfl, hu⟩, hst.perm (exO_tab _)⟩
theorem xtable_is (ht : TaIn tv A Q) (hst : St B w0 w (exO xb v tv L R Q ++ F)) : Calls Tryz.prog 145 #[bpt xb] w fun e w' => ∃ tb, e = .returned (bpt tb) ∧ TabM B w0 xb v L R F A tb w' := by
 refine (xtable_any ht hst).mono ?_
 rintro e w' ⟨tb, u, S, rfl, hu, h2⟩
 exact ⟨tb, rfl, u, S, hu, h2.perm (exO_tab (Q := []) _).symm⟩
theorem TabM.cell {c : Array Value} {U : TypeId} {g : Nat} (h : TabM B w0 xb v L R F A tb w) (hm : (g, .cells c U) ∈ F) {i : Nat} {u : Value} (hi : c[i]? = some u) : w.cell? ⟨g, i, none⟩ = some u := TbIs.cell h (List.mem_append_right _ hm) hi
theorem PlOk.same (h : PlOk A c p) (e : keysOf A' p.d.1 = keysOf A p.d.1) : PlOk A' c p := ⟨h.has, fun k hk => by rw [e]; exact h.ky k hk⟩
theorem keys_snoc {m : List UInt8} : keysOf (A ++ [b]) m = keysOf A m ++ if b.1 = m then [b.2.2] else [] := by
 unfold keysOf ofB
 rw [List.filter_append, List.map_append]
 congr 1
 by_cases h : b.1 = m <;> simp [h]
theorem names_other (hn : ((X ++ p :: Y).map Pl.d |>.map (·.1)).Nodup) (hm : p' ∈ X ++ Y) : p'.d.1 ≠ p.d.1 := by
 simp only [List.map_append, List.map_cons, List.nodup_append, List.nodup_cons] at hn
 obtain ⟨-, ⟨h1, -⟩, h3⟩ := hn
 rcases List.mem_append.1 hm with h | h
 ·exact h3 _ (List.mem_map_of_mem (List.mem_map_of_mem h)) _ List.mem_cons_self
 ·exact fun e => h1 (e ▸ List.mem_map_of_mem (List.mem_map_of_mem h))
theorem mem_around (hm : p' ∈ X ++ Y) : p' ∈ X ++ p :: Y := by
 rcases List.mem_append.1 hm with h | h
 ·exact List.mem_append_left _ h
 ·exact List.mem_append_right _ (List.mem_cons_of_mem _ h)
end
end Go.Proofs.YtknjamfjonapiaaGreatDoor
namespace Go.Proofs.YtknjamfjonapiaaGreatDoor
open Go.RowKit
set_option linter.unusedVariables false
set_option maxRecDepth 100000
section
variable {B : Nat} {w0 w w' : World} {F T R Q S : List (Nat × Obj)} {tb xb c c' pb : Nat} {M : Prs} {L X Y : List Pl} {p p' : Pl} {k : Ky} {A A' rows : List Bnd} {P : List Plc} {v tv u : Value} {n : List UInt8} {keys : List (List UInt8)} {q : Bnd → Bool} {b : Bnd}
def BndM (B : Nat) (w0 : World) (xb : Nat) (v : Value) (L : List Pl) (R F : List (Nat × Obj)) (A : List Bnd) (w : World) : Prop := ∃ tv Q, TaIn tv A Q ∧ St B w0 w (exO xb v tv L R Q ++ F)
theorem BndM.place (h : BndM B w0 xb v L R F A w) (hp : p ∈ L) : w.cell? ⟨p.b, 0, none⟩ = some (tx p.d.1) ∧ w.cell? ⟨p.b, 3, none⟩ = some (kpt p.k) := by
 obtain ⟨tv, Q, -, hst⟩ := h
 exact ⟨(hst.place hp).1, (hst.place hp).2.2.2⟩
theorem BndM.cell {c : Array Value} {U : TypeId} {g : Nat} (h : BndM B w0 xb v L R F A w) (hm : (g, .cells c U) ∈ F) {i : Nat} {u : Value} (hi : c[i]? = some u) : w.cell? ⟨g, i, none⟩ = some u := by
 obtain ⟨tv, Q, -, hst⟩ := h
 exact hst.cell (b := g) (List.mem_append_right _ hm) hi
theorem BndM.drew (h : BndM B w0 xb v L R F A w) : BndM B w0 xb v L R F A w.drew := by
 obtain ⟨tv, Q, h1, h2⟩ := h
 exact ⟨tv, Q, h1, h2.drew⟩
theorem BndM.key {l : List UInt8} (h : BndM B w0 xb v (X ++ p :: Y) R F A' w) (hk : p.k = some k) (hp : PlOk A c p) (e : keysOf A' p.d.1 = keysOf A p.d.1 ++ [l]) (hl : l.length ≤ 40) (hc : c ≤ 100000) (hn : (keysOf A p.d.1).length ≤ 1000) :
  Calls Tryz.prog 147 #[bpt k.kb, tx l] w fun e w' => e = .returned (.tuple #[]) ∧ ∃ p', p'.b = p.b ∧ p'.d = p.d ∧ PlOk A' (c + 50) p' ∧ BndM B w0 xb v (X ++ p' :: Y) R F A' w' := by
 obtain ⟨tv, Q, ht, hst⟩ := h
 refine (kadd_any (hp.ky k hk) (hst.perm (kobjs_split hk)) l hl hc hn).mono ?_
 rintro e w' ⟨rfl, k', e1, hk', h4⟩
 refine ⟨rfl, ⟨p.b, p.d, some k'⟩, rfl, rfl, ⟨?_, fun k2 hk2 => ?_⟩, tv, Q, ht, h4.perm ?_⟩
 ·have := hp.has
  rw [hk] at this
  exact this
 ·cases hk2
  dsimp only
  rw [e]
  exact hk'
 ·refine List.Perm.trans ?_ (kobjs_split (p := ⟨p.b, p.d, some k'⟩) rfl).symm
  have e2 : kpt (some k') = kpt p.k := by rw [hk]; unfold kpt; rw [Option.map_some, Option.map_some, e1]
  refine perm_by fun a => ?_
  simp only [e2, List.count_append, List.count_cons, List.append_assoc, List.count_nil]
set_option maxHeartbeats 4000000 in
theorem xbind_any (h : ExIs B w0 w xb P A F c) (hb : FitB b) (hc : c ≤ 100000) :
  Calls Tryz.prog 78 #[bpt xb, bV b] w fun e w' => e = .returned (.int .i64 (bindX P A b).2) ∧ ExIs B w0 w' xb P (bindX P A b).1 F (c + 50) := by
 obtain ⟨L, v, tv, R, Q, rfl, h, hst⟩ := h
 have fd := h.fine.bind (b := b) hb
 have few := h.fine.few
 rw [List.length_map] at few
 have hst1 : St B w0 (w.alloc (bO b)) (exO xb v tv L R Q ++ ((w.heap.size, bO b) :: F)) := (hst.alloc (bO b)).perm List.perm_middle.symm
 obtain ⟨W1, hW⟩ : ∃ W1, W1 = w.alloc (bO b) := ⟨_, rfl⟩
 rw [← hW] at hst1
 obtain ⟨qb, hqb⟩ : ∃ qb, qb = w.heap.size := ⟨_, rfl⟩
 rw [← hqb] at hst1
 have q0 : W1.cell? ⟨qb, 0, none⟩ = some (tx b.1) := hst1.cell (b := qb) (i := 0) (List.mem_append_right _ List.mem_cons_self) rfl
 have q2 : W1.cell? ⟨qb, 2, none⟩ = some (tx b.2.2) := hst1.cell (b := qb) (i := 2) (List.mem_append_right _ List.mem_cons_self) rfl
 have c1 := Lib.hid (xdeclared_any h hst1 b.1)
 have ck := Lib.hid (fun w => iskey_any b.2.2 w)
 unfold declaredR at c1
 have same : Hid (∀ w1 z, BndM B w0 xb v L R ((qb, bO b) :: F) A w1 → bindX (L.map Pl.d) A b = (A, z) → ExIs B w0 w1 xb (L.map Pl.d) (bindX (L.map Pl.d) A b).1 F (c + 50)) := Lib.hid fun w1 z hM e => by
  obtain ⟨tv', Q', ht', h2⟩ := hM
  rw [e]
  exact ⟨L, v, tv', R, Q', rfl, (h.retab ht').mono (by omega), h2.sub (List.Sublist.append (List.Sublist.refl _) (List.sublist_cons_self _ _))⟩
 have hM0 : Hid (BndM B w0 xb v L R ((qb, bO b) :: F) A W1) := Lib.hid ⟨tv, Q, h.tab, hst1⟩
 have eW : Hid (w.alloc (.cells #[tx b.1, tx b.2.1, tx b.2.2] 67) = W1) := Lib.hid hW.symm
 have eq : Hid (w.heap.size = qb) := Lib.hid hqb.symm
 by_cases hn : b.1 = []
 ·have e : bindX (L.map Pl.d) A b = (A, 403) := by rw [bindX, if_pos hn]
  have fin := Lib.hid (same.out W1 403 hM0.out e)
  rw [if_pos hn] at c1
  dsimp only at c1
  rw [e] at fin ⊢
  obtain ⟨b1, b2, b3⟩ := b
  simp only at hn q0 q2 c1 eW
  subst hn
  clear h hst hst1 fd e same hM0 hW hqb hb ck
  go_enter Tryz.func78, Tryz.ntmps78
  go_upto_region 1 with fail
  rw [eW.out, eq.out]
  go_wp2_with fail
  refine c1.out.mono ?_
  rintro e w1 ⟨rfl, rfl⟩
  go_wp2_with fail
  go_ret
  exact ⟨rfl, fin.out⟩
 rw [if_neg hn] at c1
 cases hp : findL L b.1 with
 | none =>
  have e : bindX (L.map Pl.d) A b = (A, 404) := by rw [bindX, if_neg hn, findL_d, hp]; rfl
  have fin := Lib.hid (same.out W1 404 hM0.out e)
  rw [hp] at c1
  dsimp only at c1
  rw [e] at fin ⊢
  obtain ⟨b1, b2, b3⟩ := b
  simp only at hn q0 q2 c1 eW
  clear h hst hst1 fd e same hM0 hW hqb hb ck
  go_enter Tryz.func78, Tryz.ntmps78
  go_upto_region 1 with fail
  rw [eW.out, eq.out]
  go_wp2_with fail
  refine c1.out.mono ?_
  rintro e w1 ⟨rfl, rfl⟩
  go_wp2_with fail
  go_ret
  exact ⟨rfl, fin.out⟩
 | some p =>
  rw [hp] at c1
  dsimp only at c1
  obtain ⟨hm, hpn⟩ := findL_mem hp
  have e : bindX (L.map Pl.d) A b = if 40 < b.2.2.length then (A, 406) else if (addL A b).2.2 = 0 then ((addL A b).1, 0) else (A, 506) := by
   rw [bindX, if_neg hn, findL_d, hp]
   rfl
  by_cases hk : 40 < b.2.2.length
  ·rw [if_pos hk] at e
   have fin := Lib.hid (same.out W1 406 hM0.out e)
   rw [decide_eq_false (by omega)] at ck
   rw [e] at fin ⊢
   obtain ⟨b1, b2, b3⟩ := b
   simp only at hn q0 q2 c1 eW ck
   generalize p.b = pb at *
   clear h hst hst1 fd e same hM0 hW hqb hb hk hp hm hpn
   go_enter Tryz.func78, Tryz.ntmps78
   go_upto_region 1 with fail
   rw [eW.out, eq.out]
   go_wp2_with fail
   refine c1.out.mono ?_
   rintro e w1 ⟨rfl, rfl⟩
   go_wp2_with fail
   refine (ck.out _).mono ?_
   rintro e w1 ⟨rfl, rfl⟩
   go_wp2_with fail
   go_ret
   exact ⟨rfl, fin.out⟩
  rw [if_neg hk] at e
  rw [decide_eq_true (by omega)] at ck
  obtain ⟨X, Y, rfl⟩ := List.append_of_mem hm
  have ctab : Hid (∀ w1, BndM B w0 xb v (X ++ p :: Y) R ((qb, bO b) :: F) A w1 → Calls Tryz.prog 145 #[bpt xb] w1 fun e w' => ∃ tb, e = .returned (bpt tb) ∧ TabM B w0 xb v (X ++ p :: Y) R ((qb, bO b) :: F) A tb w' ∧ w'.cell? ⟨qb, 0, none⟩ = some (tx b.1) ∧ w'.cell? ⟨qb, 1, none⟩ = some (tx b.2.1) ∧ w'.cell? ⟨qb, 2, none⟩ = some (tx b.2.2)) := Lib.hid fun w1 hM => by
   obtain ⟨tv', Q', ht', h2⟩ := hM
   refine (xtable_is ht' h2).mono ?_
   rintro e w' ⟨tb, rfl, hT⟩
   exact ⟨tb, rfl, hT, hT.cell (g := qb) (i := 0) List.mem_cons_self rfl, hT.cell (g := qb) (i := 1) List.mem_cons_self rfl, hT.cell (g := qb) (i := 2) List.mem_cons_self rfl⟩
  have cadd : Hid (∀ w1 tb, TabM B w0 xb v (X ++ p :: Y) R ((qb, bO b) :: F) A tb w1 → Calls Tryz.prog 146 #[bpt tb, bV b] w1 fun e w' => e = .returned (.tuple #[.bool (addL A b).2.1, .int .i64 (addL A b).2.2]) ∧ BndM B w0 xb v (X ++ p :: Y) R ((qb, bO b) :: F) (addL A b).1 w' ∧ w'.cell? ⟨qb, 0, none⟩ = some (tx b.1) ∧ w'.cell? ⟨qb, 1, none⟩ = some (tx b.2.1) ∧ w'.cell? ⟨qb, 2, none⟩ = some (tx b.2.2)) := Lib.hid fun w1 tb hT => by
   refine (add_any hT h.fine.rows.few hb).mono ?_
   rintro e w' ⟨rfl, h2⟩
   obtain ⟨Q', ht', h3⟩ := TabM.of h2
   have hM : BndM B w0 xb v (X ++ p :: Y) R ((qb, bO b) :: F) (addL A b).1 w' := ⟨_, Q', ht', h3⟩
   exact ⟨rfl, hM, hM.cell (g := qb) (i := 0) List.mem_cons_self rfl, hM.cell (g := qb) (i := 1) List.mem_cons_self rfl, hM.cell (g := qb) (i := 2) List.mem_cons_self rfl⟩
  have hd : BndM B w0 xb v (X ++ p :: Y) R ((qb, bO b) :: F) A W1.drew := hM0.out.drew
  have hs0 : Hid (W1.drew.cell? ⟨qb, 0, none⟩ = some (tx b.1) ∧ W1.drew.cell? ⟨qb, 1, none⟩ = some (tx b.2.1) ∧ W1.drew.cell? ⟨qb, 2, none⟩ = some (tx b.2.2)) := Lib.hid ⟨hd.cell (g := qb) (i := 0) List.mem_cons_self rfl, hd.cell (g := qb) (i := 1) List.mem_cons_self rfl, hd.cell (g := qb) (i := 2) List.mem_cons_self rfl⟩
  by_cases hin : b ∈ A
  ·have ea : addL A b = (A, false, 0) := by rw [addL, if_pos hin]
   rw [ea] at cadd e
   have e' : bindX ((X ++ p :: Y).map Pl.d) A b = (A, 0) := by rw [e]; rfl
   replace same := Lib.hid fun w1 hM => same.out w1 0 hM e'
   rw [e'] at same ⊢
   obtain ⟨b1, b2, b3⟩ := b
   simp only at hn q0 q2 c1 eW ck ctab cadd hs0
   generalize p.b = pb at *
   clear h hst hst1 fd e e' ea hM0 hW hqb hb hk hp hm hpn hin
   go_enter Tryz.func78, Tryz.ntmps78
   go_upto_region 1 with fail
   rw [eW.out, eq.out]
   go_wp2_with fail
   refine c1.out.mono ?_
   rintro e w1 ⟨rfl, rfl⟩
   go_wp2_with fail
   refine (ck.out _).mono ?_
   rintro e w1 ⟨rfl, rfl⟩
   go_wp2_with fail
   go_region_held3 (fun x => x.cell? ⟨qb, 0, none⟩ = some (tx b1) ∧ x.cell? ⟨qb, 1, none⟩ = some (tx b2) ∧ x.cell? ⟨qb, 2, none⟩ = some (tx b3)) (first | exact kS | exact hs0.out) (first
    | (go_at_call 145; refine (ctab.out _ (by assumption)).mono ?_; rintro e w'' ⟨tb, rfl, hT, kS⟩)
    | (go_at_call 146; refine (cadd.out _ _ (by assumption)).mono ?_; rintro e w'' ⟨rfl, hM, kS⟩))
   have fin := Lib.hid (same.out _ hM)
   clear hM hT hd ctab cadd same
   go_wp2_with fail
   go_ret
   exact ⟨rfl, fin.out⟩
  by_cases hfull : 40 ≤ A.length
  ·have ea : addL A b = (A, false, 12) := by rw [addL, if_neg hin, if_pos hfull]
   rw [ea] at cadd e
   have e' : bindX ((X ++ p :: Y).map Pl.d) A b = (A, 506) := by rw [e]; rfl
   replace same := Lib.hid fun w1 hM => same.out w1 506 hM e'
   rw [e'] at same ⊢
   obtain ⟨b1, b2, b3⟩ := b
   simp only at hn q0 q2 c1 eW ck ctab cadd hs0
   generalize p.b = pb at *
   clear h hst hst1 fd e e' ea hM0 hW hqb hb hk hp hm hpn hin
   go_enter Tryz.func78, Tryz.ntmps78
   go_upto_region 1 with fail
   rw [eW.out, eq.out]
   go_wp2_with fail
   refine c1.out.mono ?_
   rintro e w1 ⟨rfl, rfl⟩
   go_wp2_with fail
   refine (ck.out _).mono ?_
   rintro e w1 ⟨rfl, rfl⟩
   go_wp2_with fail
   go_region_held3 (fun x => x.cell? ⟨qb, 0, none⟩ = some (tx b1) ∧ x.cell? ⟨qb, 1, none⟩ = some (tx b2) ∧ x.cell? ⟨qb, 2, none⟩ = some (tx b3)) (first | exact kS | exact hs0.out) (first
    | (go_at_call 145; refine (ctab.out _ (by assumption)).mono ?_; rintro e w'' ⟨tb, rfl, hT, kS⟩)
    | (go_at_call 146; refine (cadd.out _ _ (by assumption)).mono ?_; rintro e w'' ⟨rfl, hM, kS⟩))
   have fin := Lib.hid (same.out _ hM)
   clear hM hT hd ctab cadd same
   go_wp2_with fail
   go_ret
   exact ⟨rfl, fin.out⟩
  have ea : addL A b = (A ++ [b], true, 0) := by rw [addL, if_neg hin, if_neg hfull]
  rw [ea] at cadd e
  have e' : bindX ((X ++ p :: Y).map Pl.d) A b = (A ++ [b], 0) := by rw [e]; rfl
  rw [e'] at fd ⊢
  have hkp : keysOf (A ++ [b]) p.d.1 = keysOf A p.d.1 ++ [b.2.2] := by rw [keys_snoc, if_pos hpn.symm]
  have hko : ∀ p' ∈ X ++ Y, PlOk (A ++ [b]) (c + 50) p' := fun p' hp' => ((h.pls p' (mem_around hp')).mono (by omega)).same (by
   have := names_other h.fine.once hp'
   rw [keys_snoc, if_neg (by rw [← hpn]; exact fun e => this e.symm), List.append_nil])
  have place : Hid (∀ p' w1, p'.b = p.b → p'.d = p.d → PlOk (A ++ [b]) (c + 50) p' → BndM B w0 xb v (X ++ p' :: Y) R ((qb, bO b) :: F) (A ++ [b]) w1 → ExIs B w0 w1 xb ((X ++ p :: Y).map Pl.d) (A ++ [b]) F (c + 50)) := Lib.hid fun p' w1 e1 e2 hok hM => by
   obtain ⟨tv', Q', ht', h2⟩ := hM
   have em : (X ++ p' :: Y).map Pl.d = (X ++ p :: Y).map Pl.d := by rw [List.map_append, List.map_cons, e2, List.map_append, List.map_cons]
   have eb : (X ++ p' :: Y).map (fun p => bpt p.b) = (X ++ p :: Y).map fun p => bpt p.b := by rw [List.map_append, List.map_cons, e1, List.map_append, List.map_cons]
   have el : (X ++ p' :: Y).length = (X ++ p :: Y).length := by rw [List.length_append, List.length_cons, List.length_append, List.length_cons]
   refine ⟨X ++ p' :: Y, v, tv', R, Q', em, ⟨by rw [em]; exact fd, by rw [eb, el]; exact h.sl, ht', fun p2 hp2 => ?_⟩, h2.sub (List.Sublist.append (List.Sublist.refl _) (List.sublist_cons_self _ _))⟩
   rcases List.mem_append.1 hp2 with h' | h'
   ·exact hko p2 (List.mem_append_left _ h')
   ·rcases List.mem_cons.1 h' with rfl | h'
    ·exact hok
    ·exact hko p2 (List.mem_append_right _ h')
  have hpm : p ∈ X ++ p :: Y := by simp
  have hpok := h.pls p hpm
  have hkl : (keysOf A p.d.1).length ≤ 1000 := by
   unfold keysOf ofB
   rw [List.length_map]
   have := List.length_filter_le (fun x : Bnd => x.1 == p.d.1) A
   have := h.fine.rows.few
   omega
  cases hkk : p.k with
  | none =>
   have fin0 : Hid (∀ w1, BndM B w0 xb v (X ++ p :: Y) R ((qb, bO b) :: F) (A ++ [b]) w1 → w1.cell? ⟨p.b, 3, none⟩ = some (.pointer none) ∧ ExIs B w0 w1 xb ((X ++ p :: Y).map Pl.d) (A ++ [b]) F (c + 50)) := Lib.hid fun w1 hM => by
    refine ⟨?_, place.out p w1 rfl rfl ⟨hpok.has, fun k hk' => by rw [hkk] at hk'; cases hk'⟩ hM⟩
    have := (hM.place hpm).2
    rw [hkk] at this
    exact this
   obtain ⟨b1, b2, b3⟩ := b
   simp only at hn q0 q2 c1 eW ck ctab cadd hs0
   generalize p.b = pb at *
   generalize (X ++ p :: Y).map Pl.d = P at *
   clear h hst hst1 fd e e' ea hM0 hW hqb hb hk hp hm hpn hin same place hko hkp hpok
   go_enter Tryz.func78, Tryz.ntmps78
   go_upto_region 1 with fail
   rw [eW.out, eq.out]
   go_wp2_with fail
   refine c1.out.mono ?_
   rintro e w1 ⟨rfl, rfl⟩
   go_wp2_with fail
   refine (ck.out _).mono ?_
   rintro e w1 ⟨rfl, rfl⟩
   go_wp2_with fail
   go_region_held3 (fun x => x.cell? ⟨qb, 0, none⟩ = some (tx b1) ∧ x.cell? ⟨qb, 1, none⟩ = some (tx b2) ∧ x.cell? ⟨qb, 2, none⟩ = some (tx b3)) (first | exact kS | exact hs0.out) (first
    | (go_at_call 145; refine (ctab.out _ (by assumption)).mono ?_; rintro e w'' ⟨tb, rfl, hT, kS⟩)
    | (go_at_call 146; refine (cadd.out _ _ (by assumption)).mono ?_; rintro e w'' ⟨rfl, hM, kS⟩))
   obtain ⟨p3, fin⟩ := fin0.out _ hM
   replace fin := Lib.hid fin
   clear hM hT hd ctab cadd fin0
   go_wp2_with fail
   go_ret
   exact ⟨rfl, fin.out⟩
  | some k =>
   have fin0 : Hid (∀ w1, BndM B w0 xb v (X ++ p :: Y) R ((qb, bO b) :: F) (A ++ [b]) w1 → w1.cell? ⟨p.b, 3, none⟩ = some (bpt k.kb) ∧
     Calls Tryz.prog 147 #[bpt k.kb, tx b.2.2] w1.drew fun e w' => e = .returned (.tuple #[]) ∧ ExIs B w0 w' xb ((X ++ p :: Y).map Pl.d) (A ++ [b]) F (c + 50)) := Lib.hid fun w1 hM => by
    refine ⟨?_, ?_⟩
    ·have := (hM.place hpm).2
     rw [hkk] at this
     exact this
    ·refine (hM.drew.key hkk hpok hkp (by omega) hc hkl).mono ?_
     rintro e w' ⟨rfl, p', e1, e2, hok, hM'⟩
     exact ⟨rfl, place.out p' w' e1 e2 hok hM'⟩
   obtain ⟨b1, b2, b3⟩ := b
   simp only at hn q0 q2 c1 eW ck ctab cadd hs0 fin0
   generalize p.b = pb at *
   generalize k.kb = kb at *
   generalize (X ++ p :: Y).map Pl.d = P at *
   clear h hst hst1 fd e e' ea hM0 hW hqb hb hk hp hm hpn hin same place hko hkp hpok
   go_enter Tryz.func78, Tryz.ntmps78
   go_upto_region 1 with fail
   rw [eW.out, eq.out]
   go_wp2_with fail
   refine c1.out.mono ?_
   rintro e w1 ⟨rfl, rfl⟩
   go_wp2_with fail
   refine (ck.out _).mono ?_
   rintro e w1 ⟨rfl, rfl⟩
   go_wp2_with fail
   go_region_held3 (fun x => x.cell? ⟨qb, 0, none⟩ = some (tx b1) ∧ x.cell? ⟨qb, 1, none⟩ = some (tx b2) ∧ x.cell? ⟨qb, 2, none⟩ = some (tx b3)) (first | exact kS | exact hs0.out) (first
    | (go_at_call 145; refine (ctab.out _ (by assumption)).mono ?_; rintro e w'' ⟨tb, rfl, hT, kS⟩)
    | (go_at_call 146; refine (cadd.out _ _ (by assumption)).mono ?_; rintro e w'' ⟨rfl, hM, kS⟩))
   obtain ⟨p3, ct⟩ := fin0.out _ hM
   have kS2 := kS.2.2
   replace ct := Lib.hid ct
   clear hM hT hd ctab cadd fin0 kS
   go_wp2_with fail
   go_still_tail 6, (by kernel_rfl)
   change wpList _ _ _ _ _ (World.drew _)
   go_wp2_with fail
   refine ct.out.mono ?_
   rintro e w5 ⟨rfl, fin⟩
   replace fin := Lib.hid fin
   go_wp2_with fail
   go_ret
   exact ⟨rfl, fin.out⟩
end
end Go.Proofs.YtknjamfjonapiaaGreatDoor
namespace Go.Proofs.YtknjamfjonapiaaGreatDoor
open Go.RowKit
set_option linter.unusedVariables false
set_option maxRecDepth 100000
section
variable {B : Nat} {w0 w w' : World} {F T R Q S : List (Nat × Obj)} {tb xb c c' pb : Nat} {M : Prs} {L X Y : List Pl} {p p' : Pl} {k : Ky} {A A' rows : List Bnd} {P : List Plc} {v tv u : Value} {n : List UInt8} {keys : List (List UInt8)} {q : Bnd → Bool} {b : Bnd}
theorem same_names (e : p'.d = p.d) : (X ++ p' :: Y).map Pl.d = (X ++ p :: Y).map Pl.d := by rw [List.map_append, List.map_cons, e, List.map_append, List.map_cons]
theorem same_blocks (e : p'.b = p.b) : (X ++ p' :: Y).map (fun p => bpt p.b) = (X ++ p :: Y).map fun p => bpt p.b := by rw [List.map_append, List.map_cons, e, List.map_append, List.map_cons]
theorem same_length : (X ++ p' :: Y).length = (X ++ p :: Y).length := by rw [List.length_append, List.length_cons, List.length_append, List.length_cons]
end
end Go.Proofs.YtknjamfjonapiaaGreatDoor
namespace Go.Proofs.YtknjamfjonapiaaGreatDoor
open Go.RowKit
section
variable {P : Program} {a : Act} {w : World} {Q : Exit → Act → World → Prop}
def two (l0 l1 : Nat) (J0 J1 : Nat → Act → World → Prop) (l : Nat) (a : Act) (w : World) : Prop := (l = l0 ∧ ∃ n, J0 n a w) ∨ (l = l1 ∧ ∃ n, J1 n a w)
end
end Go.Proofs.YtknjamfjonapiaaGreatDoor
namespace Go.Proofs.YtknjamfjonapiaaGreatDoor
open Go.RowKit
set_option linter.unusedVariables false
set_option maxRecDepth 100000
section
variable {B : Nat} {w0 w w' : World} {F T R Q S : List (Nat × Obj)} {tb xb c c' pb qb : Nat} {M : Prs} {L X Y : List Pl} {p p' : Pl} {k : Ky} {A A' rows : List Bnd} {P : List Plc} {v tv u : Value} {n x : List UInt8} {keys l : List (List UInt8)} {q : Bnd → Bool} {b : Bnd}
end
end Go.Proofs.YtknjamfjonapiaaGreatDoor
namespace Go.Proofs.YtknjamfjonapiaaGreatDoor
open Go.RowKit
set_option linter.unusedVariables false
set_option maxRecDepth 100000
section
variable {B : Nat} {w0 w w' : World} {F F' T R Q S : List (Nat × Obj)} {tb xb c c' pb qb : Nat} {M : Prs} {L X Y : List Pl} {p p' : Pl} {k : Ky} {A A' rows : List Bnd} {P : List Plc} {v tv u : Value} {n x : List UInt8} {keys l : List (List UInt8)} {q : Bnd → Bool} {b : Bnd}
theorem ExIs.sub (h : ExIs B w0 w xb P A F c) (hs : F'.Sublist F) : ExIs B w0 w xb P A F' c := by
 obtain ⟨L, v, tv, R, Q, e, h1, h2⟩ := h
 exact ⟨L, v, tv, R, Q, e, h1, h2.sub ((List.Sublist.refl _).append hs)⟩
theorem ExIs.permF (h : ExIs B w0 w xb P A F c) (hs : F.Perm F') : ExIs B w0 w xb P A F' c := by
 obtain ⟨L, v, tv, R, Q, e, h1, h2⟩ := h
 exact ⟨L, v, tv, R, Q, e, h1, h2.perm (hs.append_left _)⟩
theorem ExIs.grow (h : ExIs B w0 w xb P A F c) (hb : Below w.heap.size w w') : ExIs B w0 w' xb P A F c := by
 obtain ⟨L, v, tv, R, Q, e, h1, h2⟩ := h
 exact ⟨L, v, tv, R, Q, e, h1, h2.grow hb⟩
theorem ExIs.mono (h : ExIs B w0 w xb P A F c) (hc : c ≤ c') : ExIs B w0 w xb P A F c' := by
 obtain ⟨L, v, tv, R, Q, e, h1, h2⟩ := h
 exact ⟨L, v, tv, R, Q, e, h1.mono hc, h2⟩
theorem ExIs.below (h : ExIs B w0 w xb P A F c) : Below B w0 w := by
 obtain ⟨L, v, tv, R, Q, e, h1, h2⟩ := h
 exact h2.below
theorem ExIs.fine (h : ExIs B w0 w xb P A F c) : FineX P A := by
 obtain ⟨L, v, tv, R, Q, e, h1, h2⟩ := h
 rw [← e]
 exact h1.fine
theorem ExIs.cell {cs : Array Value} {U : TypeId} {g : Nat} (h : ExIs B w0 w xb P A F c) (hm : (g, .cells cs U) ∈ F) {i : Nat} {u : Value} (hi : cs[i]? = some u) : w.cell? ⟨g, i, none⟩ = some u := by
 obtain ⟨L, v, tv, R, Q, e, h1, h2⟩ := h
 exact h2.cell (b := g) (List.mem_append_right _ hm) hi
theorem ExIs.alloc (h : ExIs B w0 w xb P A F c) (o : Obj) : ExIs B w0 (w.alloc o) xb P A ((w.heap.size, o) :: F) c := by
 obtain ⟨L, v, tv, R, Q, e, h1, h2⟩ := h
 exact ⟨L, v, tv, R, Q, e, h1, (h2.alloc o).perm List.perm_middle.symm⟩
theorem ExIs.beside (h : ExIs B w0 w xb P A F c) : ∃ O, St B w0 w (O ++ F) ∧ ∀ w' F', St B w0 w' (O ++ F') → ExIs B w0 w' xb P A F' c := by
 obtain ⟨L, v, tv, R, Q, e, h1, h2⟩ := h
 exact ⟨_, h2, fun w' F' h3 => ⟨L, v, tv, R, Q, e, h1, h3⟩⟩
theorem has_is (h : ExIs B w0 w xb P A F c) (n : List UInt8) : Calls Tryz.prog 64 #[bpt xb, tx n] w fun e w' => e = .returned (.bool (hasX P n)) ∧ w' = w := by
 obtain ⟨L, v, tv, R, Q, rfl, h1, h2⟩ := h
 exact xhas_any h1 h2 n
theorem exof_is (h : ExIs B w0 w xb P A F c) (n : List UInt8) : Calls Tryz.prog 162 #[bpt xb, tx n] w fun e w' => ∃ u S, e = .returned u ∧ BnsIs u (ofB A n) S ∧ ExIs B w0 w' xb P A (S ++ F) c := by
 obtain ⟨L, v, tv, R, Q, rfl, h1, h2⟩ := h
 refine (xof_any h1.tab h1.fine.rows.few h2 n).mono ?_
 rintro e w' ⟨u, S, tv', Q', rfl, hu, ht, h3⟩
 exact ⟨u, S, rfl, hu, L, v, tv', R, Q', rfl, h1.retab ht, h3⟩
theorem fits1 (key : List UInt8) : fitsK 1 key = fun b => b.2.2 == key := by funext b; simp [fitsK]
theorem fits2 (key : List UInt8) : fitsK 2 key = fun b => true := by funext b; simp [fitsK]
theorem fits3 (key : List UInt8) : fitsK 3 key = fun b => gl (wordsL b.2.2) (wordsL key) := by funext b; simp [fitsK]
theorem route1 (A : List Bnd) (n key : List UInt8) : routeL 1 A n key = onceL [] ((A.filter fun b => b.1 == n && b.2.2 == key).map (·.2.1)) := by
 rw [routeL, fits1, ← filter_and]
 rfl
theorem route2 (A : List Bnd) (n key : List UInt8) : routeL 2 A n key = onceL [] ((ofB A n).map (·.2.1)) := by
 rw [routeL, fits2]
 congr 2
 exact List.filter_eq_self.2 fun _ _ => rfl
theorem route3 (A : List Bnd) (n key : List UInt8) : routeL 3 A n key = onceL [] (((ofB A n).filter fun b => gl (wordsL b.2.2) (wordsL key)).map (·.2.1)) := by rw [routeL, fits3]
def RouR (B : Nat) (w0 : World) (xb : Nat) (P : List Plc) (A : List Bnd) (F : List (Nat × Obj)) (c : Nat) (l : List (List UInt8)) (u : Value) (w' : World) : Prop := ∃ S, TssIs u l S ∧ ExIs B w0 w' xb P A (S ++ F) c
def MatM (B : Nat) (w0 : World) (xb : Nat) (P : List Plc) (A : List Bnd) (F : List (Nat × Obj)) (c : Nat) (rows : List Bnd) (u : Value) (w' : World) : Prop := ∃ S, BnsIs u rows S ∧ ExIs B w0 w' xb P A (S ++ F) c
theorem MatM.queues (h : MatM B w0 xb P A F c rows u w) (hr : ∀ b ∈ rows, b ∈ A) (hl : rows.length ≤ 40) : Calls Tryz.prog 208 #[u] w fun e w' => ∃ u, e = .returned u ∧ RouR B w0 xb P A F c (onceL [] (rows.map (·.2.1))) u w' ∧ Below w.heap.size w w' := by
 obtain ⟨S, hu, hE⟩ := h
 have hf := hE.fine.rows.fit
 obtain ⟨O, h1, back⟩ := hE.beside
 have hrd := hu.read (A := O ++ F) (h1.perm (by
  refine perm_by fun a => ?_
  simp only [List.count_append]
  omega))
 refine (queues_any hrd (by omega) (fun b hb => (hf b (hr b hb)).max.2.1)).mono ?_
 rintro e w' ⟨u2, S2, rfl, hu2, h2⟩
 refine ⟨u2, rfl, ⟨S2, hu2, back _ _ (((h1.join h2).sub (H' := O ++ F ++ S2) ?_).perm ?_)⟩, h2.below⟩
 ·exact List.Sublist.append (List.Sublist.append (List.Sublist.refl _) (List.sublist_append_right _ _)) (List.Sublist.refl _)
 ·refine perm_by fun a => ?_
  simp only [List.count_append]
  omega
set_option maxHeartbeats 4000000 in
theorem route_is (h : ExIs B w0 w xb P A F c) (ex key : List UInt8) (hk : key.length ≤ 1000) (hc : c ≤ 100000) :
  Calls Tryz.prog 148 #[bpt xb, tx ex, tx key] w fun e w' => ∃ u, e = .returned (.tuple #[u, .bool (routeX P A ex key).2]) ∧ RouR B w0 xb P A F c (routeX P A ex key).1 u w' := by
 have hall := Lib.hid h
 obtain ⟨L, v, tv, R, Q, rfl, h, hst⟩ := h
 have few := h.fine.few
 rw [List.length_map] at few
 by_cases hn : ex = []
 ·have e : routeX (L.map Pl.d) A ex key = ([key], true) := by rw [routeX, if_pos hn]
  rw [e]
  subst hn
  have c1 := Lib.hid (clone_any key w (by omega))
  have fin : Hid (∀ w1, Below w.heap.size w w1 → RouR B w0 xb (L.map Pl.d) A F c [key] (.slice (some ⟨w1.heap.size, 0, none⟩) 1 1) (w1.alloc (.cells #[tx key] 9))) := Lib.hid fun w1 hb =>
   ⟨[(w1.heap.size, .cells #[tx key] 9)], SlIs.made (cs := [tx key]) rfl (by unfold maxLen; omega), (hall.out.grow hb).alloc _⟩
  clear h hst e
  go_enter Tryz.func148, Tryz.ntmps148
  go_wp2_with fail
  refine c1.out.mono ?_
  rintro e w1 ⟨rfl, hb⟩
  replace fin := Lib.hid (fin.out _ hb)
  clear hb
  go_wp2_with fail
  go_ret2
  exact ⟨_, rfl, fin.out⟩
 have h0B : (ex == []) = false := by simpa using hn
 have h0C : ex.isEmpty = false := by simpa using hn
 have c1 := Lib.hid (xfind_any h hst ex)
 unfold ptrF at c1
 cases hp : findL L ex with
 | none =>
  have e : routeX (L.map Pl.d) A ex key = ([], false) := by rw [routeX, if_neg hn, findL_d, hp]; rfl
  rw [e]
  rw [hp] at c1
  simp only [Option.map_none] at c1
  have fin : Hid (RouR B w0 xb (L.map Pl.d) A F c [] (.slice none 0 0) w) := Lib.hid ⟨[], TssIs.nil, hall.out⟩
  clear h hst e hall
  go_enter Tryz.func148, Tryz.ntmps148
  go_wp2_with fail
  refine c1.out.mono ?_
  rintro e w1 ⟨rfl, rfl⟩
  go_wp2_with fail
  go_ret2
  exact ⟨_, rfl, fin.out⟩
 | some p =>
  rw [hp] at c1
  simp only [Option.map_some] at c1
  obtain ⟨hm, hpn⟩ := findL_mem hp
  obtain ⟨-, p1, -, p3⟩ := hst.place hm
  have e : routeX (L.map Pl.d) A ex key = (routeL p.d.2.1 A ex key, true) := by rw [routeX, if_neg hn, findL_d, hp]; rfl
  rw [e]
  have hkd := h.fine.each p.d (List.mem_map_of_mem hm)
  have hof : (ofB A ex).length ≤ 40 := Nat.le_trans (List.length_filter_le _ _) h.fine.rows.few
  have hofm : ∀ b ∈ ofB A ex, b ∈ A := fun b hb => (List.mem_filter.1 hb).1
  obtain ⟨Xl, Yl, rfl⟩ := List.append_of_mem hm
  have hpok := h.pls p hm
  by_cases hk1 : p.d.2.1 = 1
  ·rw [hk1] at p1 ⊢
   rw [route1]
   have ctab := Lib.hid (xtable_is h.tab hst)
   have ckey : Hid (∀ tb w1, TabM B w0 xb v (Xl ++ p :: Yl) R F A tb w1 → Calls Tryz.prog 207 #[bpt tb, tx ex, tx key] w1 fun e w' => ∃ u, e = .returned u ∧ RouR B w0 xb ((Xl ++ p :: Yl).map Pl.d) A F c (onceL [] ((A.filter fun b => b.1 == ex && b.2.2 == key).map (·.2.1))) u w') := Lib.hid fun tb w1 hT => by
    refine (keyed_is hT (by have := h.fine.rows.few; omega) h.fine.rows.fit ex key rfl).mono ?_
    rintro e w' ⟨u, S, rfl, hu, h2⟩
    have hT2 : TabM B w0 xb v (Xl ++ p :: Yl) R (F ++ S) A tb w' := by
     unfold TabM
     rw [← List.append_assoc]
     exact h2
    obtain ⟨Q', ht', h3⟩ := hT2.of
    exact ⟨u, rfl, S, hu, ExIs.permF ⟨_, v, bpt tb, R, Q', rfl, h.retab ht', h3⟩ List.perm_append_comm⟩
   generalize onceL [] ((A.filter fun b => b.1 == ex && b.2.2 == key).map (·.2.1)) = l2 at *
   generalize p.b = pb at *
   generalize (Xl ++ p :: Yl).map Pl.d = P at *
   clear h hst e hall hpok hm hp hofm hof hkd
   go_enter Tryz.func148, Tryz.ntmps148
   go_wp2_with fail
   refine c1.out.mono ?_
   rintro e w1 ⟨rfl, rfl⟩
   go_wp2_with fail
   refine ctab.out.mono ?_
   rintro e w2 ⟨tb, rfl, hT⟩
   replace ckey := Lib.hid (ckey.out _ _ hT)
   clear hT ctab c1
   go_wp2_with fail
   refine ckey.out.mono ?_
   rintro e w3 ⟨u, rfl, S, hu, hE⟩
   have fin : Hid (RouR B w0 xb P A F c l2 u w3) := Lib.hid ⟨S, hu, hE⟩
   obtain ⟨au, cu, rfl⟩ := hu.form
   generalize l2.length = q0 at *
   clear hu hE ckey
   go_wp2_with fail
   go_ret2
   exact ⟨_, rfl, fin.out⟩
  ·by_cases hk2 : p.d.2.1 = 2
   ·rw [hk2] at p1 ⊢
    rw [route2]
    have cof : Hid (Calls Tryz.prog 162 #[bpt xb, tx ex] w fun e w' => ∃ a cap, e = .returned (.slice a (ofB A ex).length cap) ∧ MatM B w0 xb ((Xl ++ p :: Yl).map Pl.d) A F c (ofB A ex) (.slice a (ofB A ex).length cap) w') := Lib.hid (by
     refine (exof_is hall.out ex).mono ?_
     rintro e w' ⟨u, S, rfl, hu, hE⟩
     obtain ⟨a, cap, rfl⟩ := hu.form
     exact ⟨a, cap, rfl, S, hu, hE⟩)
    have cqu := Lib.hid (fun u w1 (hM : MatM B w0 xb ((Xl ++ p :: Yl).map Pl.d) A F c (ofB A ex) u w1) => hM.queues hofm hof)
    generalize onceL [] ((ofB A ex).map (·.2.1)) = l2 at *
    generalize p.b = pb at *
    generalize (Xl ++ p :: Yl).map Pl.d = P at *
    clear h hst e hall hpok hm hp hofm hof hkd
    go_enter Tryz.func148, Tryz.ntmps148
    go_wp2_with fail
    refine c1.out.mono ?_
    rintro e w1 ⟨rfl, rfl⟩
    go_wp2_with fail
    refine cof.out.mono ?_
    rintro e w2 ⟨a, cap, rfl, hM⟩
    replace cqu := Lib.hid (cqu.out _ _ hM)
    clear hM cof c1
    go_wp2_with fail
    refine cqu.out.mono ?_
    rintro e w3 ⟨u, rfl, ⟨S, hu, hE⟩, -⟩
    have fin : Hid (RouR B w0 xb P A F c l2 u w3) := Lib.hid ⟨S, hu, hE⟩
    obtain ⟨au, cu, rfl⟩ := hu.form
    generalize l2.length = q0 at *
    clear hu hE cqu
    go_wp2_with fail
    go_ret2
    exact ⟨_, rfl, fin.out⟩
   ·have hk3 : p.d.2.1 = 3 := by omega
    rw [hk3] at p1 ⊢
    rw [route3]
    obtain ⟨k, hkk⟩ : ∃ k, p.k = some k := by
     have := hpok.has
     rw [hk3] at this
     exact Option.isSome_iff_exists.1 this
    have ekp : kpt p.k = bpt k.kb := by rw [hkk]; rfl
    rw [ekp] at p3
    have hcell : ∀ w' tv' Q' F', St B w0 w' (exO xb v tv' (Xl ++ p :: Yl) R Q' ++ F') → w'.cell? ⟨p.b, 3, none⟩ = some (bpt k.kb) := fun w' tv' Q' F' h' => by
     have := (h'.place hm).2.2.2
     rwa [ekp] at this
    have cof : Hid (∀ w1, St B w0 w1 (exO xb v tv (Xl ++ p :: Yl) R Q ++ F) → Calls Tryz.prog 162 #[bpt xb, tx ex] w1 fun e w' => ∃ a cap, e = .returned (.slice a (ofB A ex).length cap) ∧ OfM B w0 xb v (Xl ++ p :: Yl) R F A (ofB A ex) (.slice a (ofB A ex).length cap) w' ∧ w'.cell? ⟨p.b, 3, none⟩ = some (bpt k.kb)) := Lib.hid fun w1 h1 => by
     refine (xof_any h.tab h.fine.rows.few h1 ex).mono ?_
     rintro e w' ⟨u, S, tv', Q', rfl, hu, ht', h2⟩
     obtain ⟨a, cap, rfl⟩ := hu.form
     exact ⟨a, cap, rfl, ⟨S, tv', Q', hu, ht', h2⟩, hcell _ _ _ _ h2⟩
    have cmat : Hid (∀ w1 u, OfM B w0 xb v (Xl ++ p :: Yl) R F A (ofB A ex) u w1 → Calls Tryz.prog 209 #[bpt k.kb, u, tx key] w1 fun e w' => ∃ z, e = .returned z ∧ MatM B w0 xb ((Xl ++ p :: Yl).map Pl.d) A F c ((ofB A ex).filter fun b => gl (wordsL b.2.2) (wordsL key)) z w' ∧ w'.cell? ⟨p.b, 3, none⟩ = some (bpt k.kb)) := Lib.hid fun w1 u hO => by
     obtain ⟨S, tv', Q', hu, ht', h2⟩ := hO
     have hky := hpok.ky k hkk
     unfold keysOf at hky
     rw [hpn] at hky
     have h3 : St B w0 w1 (k.objs ++ (S ++ (((exO xb v tv' (Xl ++ Yl) R Q' ++ [(p.b, .cells #[tx p.d.1, .int .i64 p.d.2.1, .bool p.d.2.2, kpt p.k] 217)])) ++ F))) := h2.perm ((kobjs_split hkk).trans (by
      refine perm_by fun a => ?_
      simp only [List.count_append, List.count_cons, List.append_assoc, List.count_nil]
      omega))
     refine (matching_any hky h3 hu key hk hc (by omega)).mono ?_
     rintro e w' ⟨k', z, Z, rfl, e1, hk', hz, h4⟩
     have hok : PlOk A c ⟨p.b, p.d, some k'⟩ := ⟨by
      have := hpok.has
      rw [hkk] at this
      exact this, fun k2 hk2 => by
       cases hk2
       unfold keysOf
       dsimp only
       rw [hpn]
       exact hk'⟩
     have h5 : St B w0 w' (exO xb v tv' (Xl ++ ⟨p.b, p.d, some k'⟩ :: Yl) R Q' ++ (Z ++ F)) := h4.perm (by
      refine List.Perm.trans ?_ (kobjs_split (p := ⟨p.b, p.d, some k'⟩) rfl).symm
      have e2 : kpt (some k') = kpt p.k := by rw [hkk]; unfold kpt; rw [Option.map_some, Option.map_some, e1]
      refine perm_by fun a => ?_
      simp only [e2, List.count_append, List.count_cons, List.append_assoc, List.count_nil]
      omega)
     obtain ⟨-, -, -, g3⟩ := h5.place (p := ⟨p.b, p.d, some k'⟩) (by simp)
     have e2 : kpt (some k') = bpt k.kb := by unfold kpt; rw [Option.map_some, e1]
     rw [e2] at g3
     refine ⟨z, rfl, ⟨Z, hz, Xl ++ ⟨p.b, p.d, some k'⟩ :: Yl, v, tv', R, Q', same_names (p' := ⟨p.b, p.d, some k'⟩) rfl, ⟨by rw [same_names (p := p) (p' := ⟨p.b, p.d, some k'⟩) rfl]; exact h.fine, by rw [same_blocks (p := p) (p' := ⟨p.b, p.d, some k'⟩) rfl, same_length (p := p) (p' := ⟨p.b, p.d, some k'⟩)]; exact h.sl, ht', fun p2 hp2 => ?_⟩, h5⟩, g3⟩
     rcases List.mem_append.1 hp2 with h' | h'
     ·exact h.pls p2 (List.mem_append_left _ h')
     ·rcases List.mem_cons.1 h' with rfl | h'
      ·exact hok
      ·exact h.pls p2 (List.mem_append_right _ (List.mem_cons_of_mem _ h'))
    have cqu := Lib.hid (fun u w1 (hM : MatM B w0 xb ((Xl ++ p :: Yl).map Pl.d) A F c ((ofB A ex).filter fun b => gl (wordsL b.2.2) (wordsL key)) u w1) => hM.queues (fun b hb => hofm b (List.mem_filter.1 hb).1) (Nat.le_trans (List.length_filter_le _ _) hof))
    have cqu2 : Hid (∀ u w1, MatM B w0 xb ((Xl ++ p :: Yl).map Pl.d) A F c ((ofB A ex).filter fun b => gl (wordsL b.2.2) (wordsL key)) u w1 → w1.cell? ⟨p.b, 3, none⟩ = some (bpt k.kb) → Calls Tryz.prog 208 #[u] w1 fun e w' => (∃ a q cap, e = .returned (.slice a q cap) ∧ RouR B w0 xb ((Xl ++ p :: Yl).map Pl.d) A F c (onceL [] (((ofB A ex).filter fun b => gl (wordsL b.2.2) (wordsL key)).map (·.2.1))) (.slice a q cap) w' ∧ w'.cell? ⟨p.b, 3, none⟩ = some (bpt k.kb))) := Lib.hid fun u w1 hM hc1 => by
     refine (cqu.out u w1 hM).mono ?_
     rintro e w' ⟨u2, rfl, ⟨S, hu, hE⟩, hb⟩
     obtain ⟨a, cap, rfl⟩ := hu.form
     exact ⟨a, _, cap, rfl, ⟨S, hu, hE⟩, cellOn (c := (p.b, 3)) hc1 hb⟩
    have hd : St B w0 w.drew (exO xb v tv (Xl ++ p :: Yl) R Q ++ F) := hst.drew
    have hs0 := Lib.hid (hcell _ _ _ _ hd)
    generalize onceL [] (((ofB A ex).filter fun b => gl (wordsL b.2.2) (wordsL key)).map (·.2.1)) = l2 at *
    generalize p.b = pb at *
    generalize (Xl ++ p :: Yl).map Pl.d = P at *
    generalize k.kb = kb at *
    clear h hst e hall hpok hm hp hofm hof hkd hcell cqu
    go_enter Tryz.func148, Tryz.ntmps148
    go_wp2_with fail
    refine c1.out.mono ?_
    rintro e w1 ⟨rfl, rfl⟩
    go_wp2_with fail
    go_region_held3 (fun x => x.cell? ⟨pb, 3, none⟩ = some (bpt kb)) (first | exact kS | exact hs0.out) (first
     | (go_at_call 162; refine (cof.out _ (by assumption)).mono ?_; rintro e w'' ⟨a2, cap2, rfl, hO, kS⟩)
     | (go_at_call 209; refine (cmat.out _ _ (by assumption)).mono ?_; rintro e w'' ⟨z, rfl, hM, kS⟩)
     | (go_at_call 208; refine (cqu2.out _ _ (by assumption) (by assumption)).mono ?_; rintro e w'' ⟨a3, q3, cap3, rfl, hR, kS⟩))
    replace hR := Lib.hid hR
    clear hO hM hd cof cmat cqu2
    go_wp2_with fail
    go_ret2
    exact ⟨_, rfl, hR.out⟩
end
end Go.Proofs.YtknjamfjonapiaaGreatDoor
namespace Go.Proofs.YtknjamfjonapiaaGreatDoor
open Go.RowKit
open Go.ChangeMaps (setBlock)
set_option linter.unusedVariables false
set_option linter.unusedSectionVars false
set_option linter.unusedSimpArgs false
set_option maxRecDepth 100000
abbrev againE (e : Ent) : Ent := { e with again := true }
section
variable {B : Nat} {w0 w w' : World} {qb rk b k l : Nat} {o : Opt} {M L : List Ent} {F F' S Y : List (Nat × Obj)} {e e0 : Ent}
theorem take_ret (h : QuIs B w0 w qb o M ((k, enO z0E) :: F)) (x : Ent) : EnAt w k z0E ∧ (∀ i, w.frozen? ⟨k, i, none⟩ = false) ∧ EnAt (enPut w k x) k x ∧ QuIs B w0 (enPut w k x) qb o M F := by
 have h1 := h.enPut (e := x)
 exact ⟨(h.at_block (k := k) (e := z0E) List.mem_cons_self).1, (h.at_block (k := k) (e := z0E) List.mem_cons_self).2, (h1.at_block (k := k) (e := x) List.mem_cons_self).1, h1.sub (List.sublist_cons_self _ _)⟩
theorem first_form (M : List Ent) : ∃ x b, firstV M = .tuple #[enV x, .bool b] := by
 cases M with
 | nil => exact ⟨_, _, rfl⟩
 | cons e M => exact ⟨_, _, rfl⟩
set_option maxHeartbeats 1000000 in
theorem qu_take (h : QuIs B w0 w qb o M F) : Calls Tryz.prog 83 #[rptr qb] w fun r w' => r = .returned (firstV M) ∧ QuIs B w0 w' qb o M.tail F := by
 have cr := Lib.hid (ready_any (h.alloc (enO z0E)))
 obtain ⟨x, b, hx⟩ := first_form M
 have ct : Hid (∀ W rk, QuAt B w0 W qb rk o M ((w.heap.size, enO z0E) :: F) → Calls Tryz.prog 150 #[rptr rk] W fun r w' => r = .returned (.tuple #[enV x, .bool b]) ∧ QuIs B w0 w' qb o M.tail ((w.heap.size, enO z0E) :: F)) := Lib.hid fun W rk h => by
  refine (rk_take h).mono ?_
  rintro r w' ⟨rfl, h'⟩
  exact ⟨by rw [hx], .inr ⟨_, h'⟩⟩
 rw [hx]
 clear h hx
 go_enter Tryz.func83, Tryz.ntmps83
 go_wp2_with fail
 refine cr.out.mono ?_
 rintro r w1 ⟨rk, rfl, h1⟩
 have ct1 := Lib.hid (ct.out _ _ h1)
 clear cr ct h1
 go_wp2_with fail
 refine ct1.out.mono ?_
 rintro r w2 ⟨rfl, h2⟩
 obtain ⟨⟨z0, z1, z2, z3, z4, z5, z6, z7, z8, z9⟩, zs, finE, fin⟩ := take_ret h2 x
 replace finE := Lib.hid finE
 replace fin := Lib.hid fin
 clear ct1 h2
 go_wp2_with fail
 exact bodyPost_ret (ret_entry2 rfl rfl rfl finE.out rfl) rfl ⟨rfl, fin.out⟩
end
end Go.Proofs.YtknjamfjonapiaaGreatDoor
namespace Go.Proofs.YtknjamfjonapiaaGreatDoor
open Go.RowKit
set_option linter.unusedVariables false
set_option linter.unusedSectionVars false
set_option linter.unusedSimpArgs false
set_option maxRecDepth 100000
def gcells (x : Gst) : List Value := [.int .i64 x.conn, .int .i64 x.chan, tx x.tag, .int .i64 x.most, .bool x.noack, .bool x.sole]
def gssV (L : List Gst) : List Value := L.flatMap gcells
theorem gssV_cons (x : Gst) (L : List Gst) : gssV (x :: L) = gcells x ++ gssV L := rfl
theorem gssV_app (L M : List Gst) : gssV (L ++ M) = gssV L ++ gssV M := by simp [gssV]
theorem gcells_len (x : Gst) : (gcells x).length = 6 := rfl
theorem gssV_len : ∀ (L : List Gst), (gssV L).length = L.length * 6
 | [] => rfl
 | e :: L => by rw [gssV_cons, List.length_append, gcells_len, gssV_len L, List.length_cons]; omega
theorem gssV_at : ∀ {L : List Gst} {i : Nat} {e : Gst}, L[i]? = some e → ∀ {k : Nat} {v : Value}, (gcells e)[k]? = some v → (gssV L)[i * 6 + k]? = some v
 | [], _, _, h, _, _, _ => by simp at h
 | f :: L, 0, e, h, k, v, hk => by
  simp at h
  subst h
  have := (List.getElem?_eq_some_iff.1 hk).1
  rw [gssV_cons, Nat.zero_mul, Nat.zero_add, List.getElem?_append_left this]
  exact hk
 | f :: L, i + 1, e, h, k, v, hk => by
  rw [gssV_cons, List.getElem?_append_right (by rw [gcells_len]; omega), gcells_len, show (i + 1) * 6 + k - 6 = i * 6 + k by omega]
  exact gssV_at (by simpa using h) hk
theorem gcells_one (e : Gst) : ∀ u ∈ gcells e, u.oneCell' = true := fun u hu => by
 unfold gcells at hu
 simp only [List.mem_cons, List.not_mem_nil, or_false] at hu
 rcases hu with rfl | rfl | rfl | rfl | rfl | rfl <;> rfl
theorem gssV_one (L : List Gst) : ∀ u ∈ gssV L, u.oneCell' = true := fun u hu => by
 obtain ⟨e, -, h⟩ := List.mem_flatMap.1 hu
 exact gcells_one e u h
theorem gssV_take (N : List Gst) (i : Nat) : (gssV N).take (i * 6) = gssV (N.take i) := by
 rcases Nat.le_total i N.length with hi | hi
 ·have h3 := congrArg gssV (List.take_append_drop i N)
  rw [gssV_app] at h3
  rw [← h3, List.take_append_of_le_length (by rw [gssV_len, List.length_take]; omega), List.take_of_length_le (by rw [gssV_len, List.length_take]; omega)]
 ·rw [List.take_of_length_le (by rw [gssV_len]; omega), List.take_of_length_le hi]
theorem gssV_drop (N : List Gst) (i : Nat) : (gssV N).drop (i * 6) = gssV (N.drop i) := by
 rcases Nat.le_total i N.length with hi | hi
 ·have h3 := congrArg gssV (List.take_append_drop i N)
  rw [gssV_app] at h3
  rw [← h3, List.drop_append_of_le_length (by rw [gssV_len, List.length_take]; omega), List.drop_of_length_le (by rw [gssV_len, List.length_take]; omega), List.nil_append]
 ·rw [List.drop_of_length_le (by rw [gssV_len]; omega), List.drop_of_length_le hi]; rfl
abbrev GsRow (w : World) (b o : Nat) (x : Gst) : Prop := w.cell? ⟨b, o, none⟩ = some (.int .i64 x.conn) ∧ w.cell? ⟨b, o + 1, none⟩ = some (.int .i64 x.chan) ∧ w.cell? ⟨b, o + 2, none⟩ = some (tx x.tag) ∧ w.cell? ⟨b, o + 3, none⟩ = some (.int .i64 x.most) ∧ w.cell? ⟨b, o + 4, none⟩ = some (.bool x.noack) ∧ w.cell? ⟨b, o + 5, none⟩ = some (.bool x.sole)
theorem GsRow.below {w w' : World} {b o : Nat} {e : Gst} (h : GsRow w b o e) (hb : Below w.heap.size w w') : GsRow w' b o e := by
 obtain ⟨h0, h1, h2, h3, h4, h5⟩ := h
 exact ⟨cellUp h0 hb, cellUp h1 hb, cellUp h2 hb, cellUp h3 hb, cellUp h4 hb, cellUp h5 hb⟩
def ReadGs (w : World) (a : Option Addr) (L : List Gst) : Prop := ∀ i e, L[i]? = some e → ∃ b off, a = some ⟨b, off, none⟩ ∧ GsRow w b (off + i * 6) e
theorem ReadGs.below {w w' : World} {a : Option Addr} {L : List Gst} (h : ReadGs w a L) (hb : Below w.heap.size w w') : ReadGs w' a L := fun i e hi => by
 obtain ⟨b, off, ha, hr⟩ := h i e hi
 exact ⟨b, off, ha, hr.below hb⟩
theorem ReadGs.nil (w : World) (a : Option Addr) : ReadGs w a [] := fun i e hi => by simp at hi
theorem apG : Ap Tryz.prog 86 77 6 48 where
 ty := by kernel_rfl
 info := by
  have h : (Tryz.prog.info? 77).map (fun i => (i.zero.map fun z => z.cells.size, i.size, i.bytes)) = some (some 6, 6, 48) := by kernel_rfl
  rw [Option.map_eq_some_iff] at h
  obtain ⟨i, h1, h2⟩ := h
  simp only [Prod.mk.injEq, Option.map_eq_some_iff] at h2
  obtain ⟨⟨z, h3, h4⟩, h5, h6⟩ := h2
  exact ⟨i, z, h1, h3, h5, h6, h4⟩
abbrev GssIs (v : Value) (L : List Gst) (S : List (Nat × Obj)) : Prop := SlIs 77 6 v L.length (gssV L) S
theorem GssIs.nil : GssIs (.slice none 0 0) [] [] := SlIs.nil
section
variable {B : Nat} {w0 w : World} {S X Y F H : List (Nat × Obj)} {a : Option Addr} {b c c' k : Nat} {L M : List Gst} {v : Value} {x y : Gst}
theorem GssIs.form (hs : GssIs v L S) : ∃ a c, v = .slice a L.length c := by
 obtain ⟨a, c, e, -⟩ := SlIs.form hs
 exact ⟨a, c, e⟩
theorem GssIs.read (hs : GssIs (.slice a L.length c) L S) (hst : St B w0 w (X ++ S)) : ReadGs w a L := fun i e hi => by
 obtain ⟨a', c', e1, -, -, h⟩ := SlIs.form hs
 cases e1
 obtain ⟨g, off, rfl⟩ := h i (List.getElem?_eq_some_iff.1 hi).1
 refine ⟨g, off, rfl, SlIs.cellAt hs hst (gssV_at hi (k := 0) rfl), SlIs.cellAt hs hst (gssV_at hi (k := 1) rfl), SlIs.cellAt hs hst (gssV_at hi (k := 2) rfl), SlIs.cellAt hs hst (gssV_at hi (k := 3) rfl), SlIs.cellAt hs hst (gssV_at hi (k := 4) rfl), SlIs.cellAt hs hst (gssV_at hi (k := 5) rfl)⟩
theorem gss_push (hs : GssIs (.slice a L.length c) L S) (hst : St B w0 w (X ++ S)) (e : Gst) (hl : L.length ≤ 2000000) :
  ∃ a' c' W S', (Builtin.append_ #[86, 86] 0 #[.slice a L.length c, .slice (some ⟨w.heap.size, 0, none⟩) 1 1]).run Tryz.prog (w.alloc (gsO e)) = .ok (.slice a' (L ++ [e]).length c') W ∧
   GssIs (.slice a' (L ++ [e]).length c') (L ++ [e]) S' ∧ St B w0 W (X ++ S') := by
 have hst1 := hst.alloc (gsO e)
 have hb := hst1.get (b := w.heap.size) (o := gsO e) List.mem_cons_self
 obtain ⟨a', c', W, S', q1, q2, q3⟩ := apG.append (A := (w.heap.size, gsO e) :: X) hs hst1 (Reads.block (cs := gcells e) (n := 1) (size := 6) hb rfl 1) (gcells_one _) (by unfold maxLen; omega) (by omega)
 have e1 : L.length + 1 = (L ++ [e]).length := by rw [List.length_append]; rfl
 rw [e1] at q1 q2
 rw [show gssV L ++ gcells e = gssV (L ++ [e]) by simp [gssV]] at q2
 exact ⟨a', c', W, S', q1, q2, q3.sub (List.sublist_cons_self _ _)⟩
abbrev GsAt (w : World) (b : Nat) (x : Gst) : Prop := w.cell? ⟨b, 0, none⟩ = some (.int .i64 x.conn) ∧ w.cell? ⟨b, 1, none⟩ = some (.int .i64 x.chan) ∧ w.cell? ⟨b, 2, none⟩ = some (tx x.tag) ∧ w.cell? ⟨b, 3, none⟩ = some (.int .i64 x.most) ∧ w.cell? ⟨b, 4, none⟩ = some (.bool x.noack) ∧ w.cell? ⟨b, 5, none⟩ = some (.bool x.sole)
theorem GsAt.below {w' : World} (h : GsAt w b x) (hb : Below w.heap.size w w') : GsAt w' b x := by
 obtain ⟨h0, h1, h2, h3, h4, h5⟩ := h
 exact ⟨cellUp h0 hb, cellUp h1 hb, cellUp h2 hb, cellUp h3 hb, cellUp h4 hb, cellUp h5 hb⟩
theorem St.gsAt (h : St B w0 w H) (m : (b, gsO x) ∈ H) : GsAt w b x := ⟨h.cell m rfl, h.cell m rfl, h.cell m rfl, h.cell m rfl, h.cell m rfl, h.cell m rfl⟩
end
end Go.Proofs.YtknjamfjonapiaaGreatDoor
namespace Go.Proofs.YtknjamfjonapiaaGreatDoor
open Go.RowKit
abbrev bptr (b : Nat) : Value := .pointer (some ⟨b, 0, none⟩)
def TabAt (w : World) : Prop := ∀ j, j < 64 → w.cell? ⟨1, j, none⟩ = some (.int .u8 (Lib.deBruijn64tab.getD j 0))
set_option maxHeartbeats 1000000 in
theorem bitOf_any (i : Nat) (w : World) (h : (i : Int) ≤ 9223372036854775807) :
  Calls Tryz.prog 310 #[.int .i64 i] w fun e w' => e = .returned (.int .u64 ((2 ^ (i % 64) : Nat) : Int)) ∧ w = w' := by
 have hp := pow_lt_64 (i % 64) (Nat.mod_lt _ (by decide))
 have e : Hid (IntKind.u64.wrap (2 ^ (i % 64)) = ((2 ^ (i % 64) : Nat) : Int)) := by
  refine Lib.hid ?_
  rw [IntKind.wrap_u64]
  have : ((2 : Int) ^ (i % 64)) = ((2 ^ (i % 64) : Nat) : Int) := by push_cast; rfl
  rw [this]
  generalize 2 ^ (i % 64) = q at hp ⊢
  omega
 clear hp
 go_enter Tryz.func310, Tryz.ntmps310
 go_wp2
 go_ret
 exact ⟨by simp [e.out], rfl⟩
end Go.Proofs.YtknjamfjonapiaaGreatDoor
