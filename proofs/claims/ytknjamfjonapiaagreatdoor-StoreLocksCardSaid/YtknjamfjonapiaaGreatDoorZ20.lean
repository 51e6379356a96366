import Derived.Test.YtknjamfjonapiaaGreatDoorZ19
import Derived.Test.YtknjamfjonapiaaGreatDoorZ01
namespace Go.Proofs.YtknjamfjonapiaaGreatDoor
open Go.RowKit
set_option linter.unusedVariables false
set_option maxRecDepth 100000
section
variable {B : Nat} {w0 w w' : World} {F T R Q S : List (Nat × Obj)} {tb xb c c' pb : Nat} {M : Prs} {L X Y : List Pl} {p p' : Pl} {k : Ky} {A rows : List Bnd} {P : List Plc} {v tv u : Value} {n : List UInt8} {keys : List (List UInt8)} {q : Bnd → Bool}
theorem pl_append {l : List Value} {X' : List (Nat × Obj)} (hs : SlIs 188 1 v l.length l R) (hst : St B w0 w (X' ++ R)) (b : Nat) (hl : l.length ≤ 100000) :
  ∃ a cap W2 F2, (Builtin.append_ #[206, 206] 0 #[v, .slice (some ⟨w.heap.size, 0, none⟩) 1 1]).run Tryz.prog (w.alloc (.cells #[bpt b] 188)) = .ok (.slice a (l.length + 1) cap) W2 ∧
   SlIs 188 1 (.slice a (l.length + 1) cap) (l ++ [bpt b]).length (l ++ [bpt b]) F2 ∧ St B w0 W2 (X' ++ F2) := by
 obtain ⟨i0, hi0, hz0, hz1, hz2⟩ := info_parts infPls
 have hrd := Reads.one w (bpt b) 188
 obtain ⟨v2, W2, F2, hr, hs2, hst2⟩ := run_append_sl (P := Tryz.prog) 206 0 188 i0 _ 1 8 uPls hi0 hz0 hz1 hz2 rfl hs (A := (w.heap.size, .cells #[bpt b] 188) :: X') (hst.alloc _) hrd
  (by intro u hu; rw [List.mem_singleton] at hu; subst hu; rfl) (by unfold maxLen; omega) (by omega)
 obtain ⟨a, cap, rfl, -⟩ := hs2.form
 refine ⟨a, cap, W2, F2, hr, ?_, hst2.sub (List.sublist_cons_self _ _)⟩
 rw [List.length_append, List.length_singleton]
 exact hs2
def DecR (B : Nat) (w0 : World) (xb : Nat) (P : List Plc) (A : List Bnd) (F : List (Nat × Obj)) (c : Nat) (z : Int) (e : Ending) (w' : World) : Prop := e = .returned (.int .i64 z) ∧ ExIs B w0 w' xb P A F c
set_option maxHeartbeats 4000000 in
theorem xdeclare_any (h : ExIs B w0 w xb P A F c) (hc : 1 ≤ c) (n : List UInt8) (kd bt : Int) :
  Calls Tryz.prog 76 #[bpt xb, tx n, .int .i64 kd, .int .i64 bt] w (DecR B w0 xb (declX P n kd (autoB bt)).1 A F c (declX P n kd (autoB bt)).2) := by
 have hall := Lib.hid h
 obtain ⟨L, v, tv, R, Q, rfl, h, hst⟩ := h
 have fd := h.fine.decl n kd (autoB bt)
 have few := h.fine.few
 rw [List.length_map] at few
 have c1 := Lib.hid (xfind_any h hst n)
 have cn := Lib.hid (fun w => isname_any n w)
 have ck := Lib.hid (fun w => iskind_any kd w)
 by_cases hn : n = []
 ·have e : declX (L.map Pl.d) n kd (autoB bt) = (L.map Pl.d, 403) := by rw [declX, if_pos hn]
  rw [e]
  subst hn
  clear h hst fd e cn ck c1
  go_enter Tryz.func76, Tryz.ntmps76
  go_wp2_with fail
  go_ret
  exact ⟨rfl, hall.out⟩
 have h0B : (n == []) = false := by simpa using hn
 have h0C : n.isEmpty = false := by simpa using hn
 unfold ptrF at c1
 by_cases hbad : isNm n = false ∨ ¬ (1 ≤ kd ∧ kd ≤ 3)
 ·have e : declX (L.map Pl.d) n kd (autoB bt) = (L.map Pl.d, 406) := by rw [declX, if_neg hn, if_pos hbad]
  rw [e]
  cases hf : isNm n with
  | false =>
   rw [hf] at cn
   generalize Option.map (fun p : Pl => (⟨p.b, 0, none⟩ : Addr)) (findL L n) = pv at *
   clear h hst fd e hbad hf hn
   go_enter Tryz.func76, Tryz.ntmps76
   go_wp2_with fail
   refine c1.out.mono ?_
   rintro e w1 ⟨rfl, rfl⟩
   go_wp2_with fail
   refine (cn.out _).mono ?_
   rintro e w1 ⟨rfl, rfl⟩
   go_wp2_with fail
   go_ret
   exact ⟨rfl, hall.out⟩
  | true =>
   have hk : ¬ (1 ≤ kd ∧ kd ≤ 3) := hbad.resolve_left (by rw [hf]; decide)
   rw [hf] at cn
   rw [decide_eq_false hk] at ck
   generalize Option.map (fun p : Pl => (⟨p.b, 0, none⟩ : Addr)) (findL L n) = pv at *
   clear h hst fd e hbad hf hn hk
   go_enter Tryz.func76, Tryz.ntmps76
   go_wp2_with fail
   refine c1.out.mono ?_
   rintro e w1 ⟨rfl, rfl⟩
   go_wp2_with fail
   refine (cn.out _).mono ?_
   rintro e w1 ⟨rfl, rfl⟩
   go_wp2_with fail
   refine (ck.out _).mono ?_
   rintro e w1 ⟨rfl, rfl⟩
   go_wp2_with fail
   go_ret
   exact ⟨rfl, hall.out⟩
 have hbad' := hbad
 simp only [not_or, Bool.not_eq_false, Decidable.not_not] at hbad'
 obtain ⟨hf, hk⟩ := hbad'
 rw [hf] at cn
 rw [decide_eq_true hk] at ck
 cases hp : findL L n with
 | some p =>
  rw [hp] at c1
  simp only [Option.map_some] at c1
  obtain ⟨hm, -⟩ := findL_mem hp
  obtain ⟨-, p1, p2, -⟩ := hst.place hm
  have ci := Lib.hid (is_any p1 p2 kd bt)
  have grow := Lib.hid (fun w1 hb => (⟨L, v, tv, R, Q, rfl, h, hst.grow (w' := w1) hb⟩ : ExIs B w0 w1 xb (L.map Pl.d) A F c))
  have e : declX (L.map Pl.d) n kd (autoB bt) = if p.d.2.1 = kd ∧ p.d.2.2 = autoB bt then (L.map Pl.d, 0) else (L.map Pl.d, 406) := by
   rw [declX, if_neg hn, if_neg hbad, findL_d, hp]
   rfl
  by_cases hsame : p.d.2.1 = kd ∧ p.d.2.2 = autoB bt
  ·rw [if_pos hsame] at e
   rw [e]
   rw [hsame.1, hsame.2, beq_self_eq_true, beq_self_eq_true, Bool.true_and] at ci
   generalize p.b = pb at *
   clear h hst fd e hbad hf hk hn hp hsame p1 p2
   go_enter Tryz.func76, Tryz.ntmps76
   go_wp2_with fail
   refine c1.out.mono ?_
   rintro e w1 ⟨rfl, rfl⟩
   go_wp2_with fail
   refine (cn.out _).mono ?_
   rintro e w1 ⟨rfl, rfl⟩
   go_wp2_with fail
   refine (ck.out _).mono ?_
   rintro e w1 ⟨rfl, rfl⟩
   go_wp2_with fail
   refine ci.out.mono ?_
   rintro e w2 ⟨rfl, hb⟩
   replace grow := Lib.hid (grow.out _ hb)
   clear hb
   go_wp2_with fail
   go_ret
   exact ⟨rfl, grow.out⟩
  ·rw [if_neg hsame] at e
   rw [e]
   have hs : (p.d.2.1 == kd && p.d.2.2 == autoB bt) = false := by
    rw [Bool.and_eq_false_iff]
    by_cases h1 : p.d.2.1 = kd
    ·exact .inr (by simpa using fun h2 => hsame ⟨h1, h2⟩)
    ·exact .inl (by simpa using h1)
   rw [hs] at ci
   generalize p.b = pb at *
   clear h hst fd e hbad hf hk hn hp hsame p1 p2 hs
   go_enter Tryz.func76, Tryz.ntmps76
   go_wp2_with fail
   refine c1.out.mono ?_
   rintro e w1 ⟨rfl, rfl⟩
   go_wp2_with fail
   refine (cn.out _).mono ?_
   rintro e w1 ⟨rfl, rfl⟩
   go_wp2_with fail
   refine (ck.out _).mono ?_
   rintro e w1 ⟨rfl, rfl⟩
   go_wp2_with fail
   refine ci.out.mono ?_
   rintro e w2 ⟨rfl, hb⟩
   replace grow := Lib.hid (grow.out _ hb)
   clear hb
   go_wp2_with fail
   go_ret
   exact ⟨rfl, grow.out⟩
 | none =>
  rw [hp] at c1
  simp only [Option.map_none] at c1
  obtain ⟨x0, -, -, -⟩ := hst.ex
  obtain ⟨a, cap, ev, -⟩ := h.form hst
  have e : declX (L.map Pl.d) n kd (autoB bt) = if 8 ≤ L.length then (L.map Pl.d, 506) else (L.map Pl.d ++ [(n, kd, autoB bt)], 0) := by
   rw [declX, if_neg hn, if_neg hbad, findL_d, hp, List.length_map]
   rfl
  by_cases hfull : 8 ≤ L.length
  ·rw [if_pos hfull] at e
   rw [e]
   have hfI : (8 : Int) ≤ L.length := by omega
   subst ev
   clear h hst fd e hbad hf hk hn hp
   go_enter Tryz.func76, Tryz.ntmps76
   go_wp2_with fail
   refine c1.out.mono ?_
   rintro e w1 ⟨rfl, rfl⟩
   go_wp2_with fail
   refine (cn.out _).mono ?_
   rintro e w1 ⟨rfl, rfl⟩
   go_wp2_with fail
   refine (ck.out _).mono ?_
   rintro e w1 ⟨rfl, rfl⟩
   go_wp2_with fail
   go_ret
   exact ⟨rfl, hall.out⟩
  ·rw [if_neg hfull] at e
   rw [e] at fd ⊢
   have hfI : ¬ (8 : Int) ≤ L.length := by omega
   have hof : ofB A n = [] := ofB_none h.fine (by rw [findL_d, hp]; rfl)
   have cnp : Hid (∀ w1, St B w0 w1 (exO xb v tv L R Q ++ F) → Calls Tryz.prog 142 #[tx n, .int .i64 kd, .int .i64 bt] w1 fun e w' => ∃ pb, e = .returned (bpt pb) ∧ w'.cell? ⟨xb, 0, none⟩ = some v ∧
     ∃ a2 cap2 W3, (Builtin.append_ #[206, 206] 0 #[v, .slice (some ⟨w'.heap.size, 0, none⟩) 1 1]).run Tryz.prog (w'.alloc (.cells #[bpt pb] 188)) = .ok (.slice a2 (L.length + 1) cap2) W3 ∧
     (W3.cell? ⟨xb, 0, none⟩ = some v ∧ W3.frozen? ⟨xb, 0, none⟩ = false) ∧ ExIs B w0 (W3.setCell ⟨xb, 0, none⟩ (.slice a2 (L.length + 1) cap2)) xb (L.map Pl.d ++ [(n, kd, autoB bt)]) A F c) := Lib.hid fun w1 h1 => by
    refine (newplace_any h1 n (by have := (isNm_len hf).2; omega) kd bt).mono ?_
    rintro e w' ⟨np, rfl, hnp, h2⟩
    have h3 : St B w0 w' (exO xb v tv L R Q ++ (np.objs ++ F)) := h2.perm (by
     refine perm_by fun a => ?_
     simp only [List.count_append]
     omega)
    obtain ⟨a2, cap2, W3, R2, hrun, hs2, hst2⟩ := pl_append (l := L.map fun p => bpt p.b) (by rw [List.length_map]; exact h.sl) (h3.perm (exO_row R)) np.b (by rw [List.length_map]; omega)
    rw [List.length_map] at hrun hs2
    have h4 := hst2.perm (exO_row R2).symm
    refine ⟨np.b, rfl, h3.ex.1, a2, cap2, W3, hrun, ⟨h4.ex.1, h4.ex.2.2.1⟩, L ++ [np], .slice a2 (L.length + 1) cap2, tv, R2, Q, by rw [List.map_append, List.map_cons, List.map_nil, hnp.dat], ⟨?_, ?_, h.tab, ?_⟩, (h4.exSet0 (.slice a2 (L.length + 1) cap2)).perm ?_⟩
    ·rw [List.map_append, List.map_cons, List.map_nil, hnp.dat]
     exact fd
    ·rw [List.map_append, List.map_cons, List.map_nil, List.length_append, List.length_singleton]
     rw [List.length_append, List.length_singleton, List.length_map] at hs2
     exact hs2
    ·intro p' hp'
     rcases List.mem_append.1 hp' with h' | h'
     ·exact h.pls p' h'
     ·rw [List.mem_singleton] at h'
      subst h'
      refine ⟨by rw [hnp.dat]; exact hnp.has, fun k hk' => ?_⟩
      unfold keysOf
      rw [hnp.dat]
      show KyOk k ((ofB A n).map _) c
      rw [hof]
      exact (hnp.ky k hk').mono hc
    ·unfold exO
     rw [plsO_append]
     have e2 : plsO [np] = np.objs := by simp [plsO]
     rw [e2]
     refine List.Perm.of_eq ?_
     simp only [List.append_assoc, List.cons_append]
   have hd : St B w0 w.drew (exO xb v tv L R Q ++ F) := hst.drew
   replace cnp := Lib.hid (cnp.out _ hd)
   subst ev
   clear h hst fd e hbad hf hk hn hp hd hall hof
   go_enter Tryz.func76, Tryz.ntmps76
   go_wp2_with fail
   refine c1.out.mono ?_
   rintro e w1 ⟨rfl, rfl⟩
   go_wp2_with fail
   refine (cn.out _).mono ?_
   rintro e w1 ⟨rfl, rfl⟩
   go_wp2_with fail
   refine (ck.out _).mono ?_
   rintro e w1 ⟨rfl, rfl⟩
   clear cn ck c1
   go_wp2_with fail
   go_region_law (first
    | (refine step_append_go rfl (.tmp 48) (.tmp 53) 206 206 rfl _ _ rfl rfl hrun ?_)
    | (go_simp; go_at_call 142; refine cnp.out.mono ?_; rintro e w3 ⟨pb, rfl, x3, a2, cap2, W3, hrun, ⟨y0, y1⟩, fin⟩; have x4 := cellOn (c := (xb, 0)) x3 (new_below w3 (.cells #[bpt pb] 188)); replace fin := Lib.hid fin))
   all_goals
    go_wp2_with fail
    go_ret
    exact ⟨rfl, fin.out⟩
end
section
variable {B : Nat} {w0 w w' : World} {F T R Q S : List (Nat × Obj)} {tb xb c c' pb : Nat} {M : Prs} {L X Y : List Pl} {p p' : Pl} {k : Ky} {A A' rows : List Bnd} {P : List Plc} {v tv u : Value} {n : List UInt8} {keys : List (List UInt8)} {q : Bnd → Bool} {b : Bnd}
def TabM (B : Nat) (w0 : World) (xb : Nat) (v : Value) (L : List Pl) (R F : List (Nat × Obj)) (A : List Bnd) (tb : Nat) (w : World) : Prop := TbIs 273 B w0 w tb A (exO xb v (bpt tb) L R [] ++ F)
theorem TabM.of (h : TabM B w0 xb v L R F A tb w) : ∃ Q, TaIn (bpt tb) A Q ∧ St B w0 w (exO xb v (bpt tb) L R Q ++ F) := by
 obtain ⟨u, S, hu, hst⟩ := h
 exact ⟨(tb, .cells #[u] 273) :: S, .inr ⟨tb, u, S, rfl, rfl, hu⟩, hst.perm (exO_tab _)⟩
theorem xtable_is (ht : TaIn tv A Q) (hst : St B w0 w (exO xb v tv L R Q ++ F)) : Calls Tryz.prog 145 #[bpt xb] w fun e w' => ∃ tb, e = .returned (bpt tb) ∧ TabM B w0 xb v L R F A tb w' := by
 refine (xtable_any ht hst).mono ?_
 rintro e w' ⟨tb, u, S, rfl, hu, h2⟩
 exact ⟨tb, rfl, u, S, hu, h2.perm (exO_tab (Q := []) _).symm⟩
theorem TabM.cell {c : Array Value} {U : TypeId} {g : Nat} (h : TabM B w0 xb v L R F A tb w) (hm : (g, .cells c U) ∈ F) {i : Nat} {u : Value} (hi : c[i]? = some u) : w.cell? ⟨g, i, none⟩ = some u := TbIs.cell h (List.mem_append_right _ hm) hi
theorem PlOk.same (h : PlOk A c p) (e : keysOf A' p.d.1 = keysOf A p.d.1) : PlOk A' c p := ⟨h.has, fun k hk => by rw [e]; exact h.ky k hk⟩
theorem keys_snoc {m : List UInt8} : keysOf (A ++ [b]) m = keysOf A m ++ if b.1 = m then [b.2.2] else [] := by
 unfold keysOf ofB
 rw [List.filter_append, List.map_append]
 congr 1
 by_cases h : b.1 = m <;> simp [h]
theorem names_other (hn : ((X ++ p :: Y).map Pl.d |>.map (·.1)).Nodup) (hm : p' ∈ X ++ Y) : p'.d.1 ≠ p.d.1 := by
 simp only [List.map_append, List.map_cons, List.nodup_append, List.nodup_cons] at hn
 obtain ⟨-, ⟨h1, -⟩, h3⟩ := hn
 rcases List.mem_append.1 hm with h | h
 ·exact h3 _ (List.mem_map_of_mem (List.mem_map_of_mem h)) _ List.mem_cons_self
 ·exact fun e => h1 (e ▸ List.mem_map_of_mem (List.mem_map_of_mem h))
theorem mem_around (hm : p' ∈ X ++ Y) : p' ∈ X ++ p :: Y := by
 rcases List.mem_append.1 hm with h | h
 ·exact List.mem_append_left _ h
 ·exact List.mem_append_right _ (List.mem_cons_of_mem _ h)
end
section
variable {B : Nat} {w0 w w' : World} {F T R Q S : List (Nat × Obj)} {tb xb c c' pb : Nat} {M : Prs} {L X Y : List Pl} {p p' : Pl} {k : Ky} {A A' rows : List Bnd} {P : List Plc} {v tv u : Value} {n : List UInt8} {keys : List (List UInt8)} {q : Bnd → Bool} {b : Bnd}
def BndM (B : Nat) (w0 : World) (xb : Nat) (v : Value) (L : List Pl) (R F : List (Nat × Obj)) (A : List Bnd) (w : World) : Prop := ∃ tv Q, TaIn tv A Q ∧ St B w0 w (exO xb v tv L R Q ++ F)
theorem BndM.place (h : BndM B w0 xb v L R F A w) (hp : p ∈ L) : w.cell? ⟨p.b, 0, none⟩ = some (tx p.d.1) ∧ w.cell? ⟨p.b, 3, none⟩ = some (kpt p.k) := by
 obtain ⟨tv, Q, -, hst⟩ := h
 exact ⟨(hst.place hp).1, (hst.place hp).2.2.2⟩
theorem BndM.cell {c : Array Value} {U : TypeId} {g : Nat} (h : BndM B w0 xb v L R F A w) (hm : (g, .cells c U) ∈ F) {i : Nat} {u : Value} (hi : c[i]? = some u) : w.cell? ⟨g, i, none⟩ = some u := by
 obtain ⟨tv, Q, -, hst⟩ := h
 exact hst.cell (b := g) (List.mem_append_right _ hm) hi
theorem BndM.drew (h : BndM B w0 xb v L R F A w) : BndM B w0 xb v L R F A w.drew := by
 obtain ⟨tv, Q, h1, h2⟩ := h
 exact ⟨tv, Q, h1, h2.drew⟩
theorem BndM.key {l : List UInt8} (h : BndM B w0 xb v (X ++ p :: Y) R F A' w) (hk : p.k = some k) (hp : PlOk A c p) (e : keysOf A' p.d.1 = keysOf A p.d.1 ++ [l]) (hl : l.length ≤ 40) (hc : c ≤ 100000) (hn : (keysOf A p.d.1).length ≤ 1000) :
  Calls Tryz.prog 147 #[bpt k.kb, tx l] w fun e w' => e = .returned (.tuple #[]) ∧ ∃ p', p'.b = p.b ∧ p'.d = p.d ∧ PlOk A' (c + 50) p' ∧ BndM B w0 xb v (X ++ p' :: Y) R F A' w' := by
 obtain ⟨tv, Q, ht, hst⟩ := h
 refine (kadd_any (hp.ky k hk) (hst.perm (kobjs_split hk)) l hl hc hn).mono ?_
 rintro e w' ⟨rfl, k', e1, hk', h4⟩
 refine ⟨rfl, ⟨p.b, p.d, some k'⟩, rfl, rfl, ⟨?_, fun k2 hk2 => ?_⟩, tv, Q, ht, h4.perm ?_⟩
 ·have := hp.has
  rw [hk] at this
  exact this
 ·cases hk2
  dsimp only
  rw [e]
  exact hk'
 ·refine List.Perm.trans ?_ (kobjs_split (p := ⟨p.b, p.d, some k'⟩) rfl).symm
  have e2 : kpt (some k') = kpt p.k := by rw [hk]; unfold kpt; rw [Option.map_some, Option.map_some, e1]
  refine perm_by fun a => ?_
  simp only [e2, List.count_append, List.count_cons, List.append_assoc, List.count_nil]
set_option maxHeartbeats 4000000 in
theorem xbind_any (h : ExIs B w0 w xb P A F c) (hb : FitB b) (hc : c ≤ 100000) :
  Calls Tryz.prog 78 #[bpt xb, bV b] w fun e w' => e = .returned (.int .i64 (bindX P A b).2) ∧ ExIs B w0 w' xb P (bindX P A b).1 F (c + 50) := by
 obtain ⟨L, v, tv, R, Q, rfl, h, hst⟩ := h
 have fd := h.fine.bind (b := b) hb
 have few := h.fine.few
 rw [List.length_map] at few
 have hst1 : St B w0 (w.alloc (bO b)) (exO xb v tv L R Q ++ ((w.heap.size, bO b) :: F)) := (hst.alloc (bO b)).perm List.perm_middle.symm
 obtain ⟨W1, hW⟩ : ∃ W1, W1 = w.alloc (bO b) := ⟨_, rfl⟩
 rw [← hW] at hst1
 obtain ⟨qb, hqb⟩ : ∃ qb, qb = w.heap.size := ⟨_, rfl⟩
 rw [← hqb] at hst1
 have q0 : W1.cell? ⟨qb, 0, none⟩ = some (tx b.1) := hst1.cell (b := qb) (i := 0) (List.mem_append_right _ List.mem_cons_self) rfl
 have q2 : W1.cell? ⟨qb, 2, none⟩ = some (tx b.2.2) := hst1.cell (b := qb) (i := 2) (List.mem_append_right _ List.mem_cons_self) rfl
 have c1 := Lib.hid (xdeclared_any h hst1 b.1)
 have ck := Lib.hid (fun w => iskey_any b.2.2 w)
 unfold declaredR at c1
 have same : Hid (∀ w1 z, BndM B w0 xb v L R ((qb, bO b) :: F) A w1 → bindX (L.map Pl.d) A b = (A, z) → ExIs B w0 w1 xb (L.map Pl.d) (bindX (L.map Pl.d) A b).1 F (c + 50)) := Lib.hid fun w1 z hM e => by
  obtain ⟨tv', Q', ht', h2⟩ := hM
  rw [e]
  exact ⟨L, v, tv', R, Q', rfl, (h.retab ht').mono (by omega), h2.sub (List.Sublist.append (List.Sublist.refl _) (List.sublist_cons_self _ _))⟩
 have hM0 : Hid (BndM B w0 xb v L R ((qb, bO b) :: F) A W1) := Lib.hid ⟨tv, Q, h.tab, hst1⟩
 have eW : Hid (w.alloc (.cells #[tx b.1, tx b.2.1, tx b.2.2] 67) = W1) := Lib.hid hW.symm
 have eq : Hid (w.heap.size = qb) := Lib.hid hqb.symm
 by_cases hn : b.1 = []
 ·have e : bindX (L.map Pl.d) A b = (A, 403) := by rw [bindX, if_pos hn]
  have fin := Lib.hid (same.out W1 403 hM0.out e)
  rw [if_pos hn] at c1
  dsimp only at c1
  rw [e] at fin ⊢
  obtain ⟨b1, b2, b3⟩ := b
  simp only at hn q0 q2 c1 eW
  subst hn
  clear h hst hst1 fd e same hM0 hW hqb hb ck
  go_enter Tryz.func78, Tryz.ntmps78
  go_upto_region 1 with fail
  rw [eW.out, eq.out]
  go_wp2_with fail
  refine c1.out.mono ?_
  rintro e w1 ⟨rfl, rfl⟩
  go_wp2_with fail
  go_ret
  exact ⟨rfl, fin.out⟩
 rw [if_neg hn] at c1
 cases hp : findL L b.1 with
 | none =>
  have e : bindX (L.map Pl.d) A b = (A, 404) := by rw [bindX, if_neg hn, findL_d, hp]; rfl
  have fin := Lib.hid (same.out W1 404 hM0.out e)
  rw [hp] at c1
  dsimp only at c1
  rw [e] at fin ⊢
  obtain ⟨b1, b2, b3⟩ := b
  simp only at hn q0 q2 c1 eW
  clear h hst hst1 fd e same hM0 hW hqb hb ck
  go_enter Tryz.func78, Tryz.ntmps78
  go_upto_region 1 with fail
  rw [eW.out, eq.out]
  go_wp2_with fail
  refine c1.out.mono ?_
  rintro e w1 ⟨rfl, rfl⟩
  go_wp2_with fail
  go_ret
  exact ⟨rfl, fin.out⟩
 | some p =>
  rw [hp] at c1
  dsimp only at c1
  obtain ⟨hm, hpn⟩ := findL_mem hp
  have e : bindX (L.map Pl.d) A b = if 40 < b.2.2.length then (A, 406) else if (addL A b).2.2 = 0 then ((addL A b).1, 0) else (A, 506) := by
   rw [bindX, if_neg hn, findL_d, hp]
   rfl
  by_cases hk : 40 < b.2.2.length
  ·rw [if_pos hk] at e
   have fin := Lib.hid (same.out W1 406 hM0.out e)
   rw [decide_eq_false (by omega)] at ck
   rw [e] at fin ⊢
   obtain ⟨b1, b2, b3⟩ := b
   simp only at hn q0 q2 c1 eW ck
   generalize p.b = pb at *
   clear h hst hst1 fd e same hM0 hW hqb hb hk hp hm hpn
   go_enter Tryz.func78, Tryz.ntmps78
   go_upto_region 1 with fail
   rw [eW.out, eq.out]
   go_wp2_with fail
   refine c1.out.mono ?_
   rintro e w1 ⟨rfl, rfl⟩
   go_wp2_with fail
   refine (ck.out _).mono ?_
   rintro e w1 ⟨rfl, rfl⟩
   go_wp2_with fail
   go_ret
   exact ⟨rfl, fin.out⟩
  rw [if_neg hk] at e
  rw [decide_eq_true (by omega)] at ck
  obtain ⟨X, Y, rfl⟩ := List.append_of_mem hm
  have ctab : Hid (∀ w1, BndM B w0 xb v (X ++ p :: Y) R ((qb, bO b) :: F) A w1 → Calls Tryz.prog 145 #[bpt xb] w1 fun e w' => ∃ tb, e = .returned (bpt tb) ∧ TabM B w0 xb v (X ++ p :: Y) R ((qb, bO b) :: F) A tb w' ∧ w'.cell? ⟨qb, 0, none⟩ = some (tx b.1) ∧ w'.cell? ⟨qb, 1, none⟩ = some (tx b.2.1) ∧ w'.cell? ⟨qb, 2, none⟩ = some (tx b.2.2)) := Lib.hid fun w1 hM => by
   obtain ⟨tv', Q', ht', h2⟩ := hM
   refine (xtable_is ht' h2).mono ?_
   rintro e w' ⟨tb, rfl, hT⟩
   exact ⟨tb, rfl, hT, hT.cell (g := qb) (i := 0) List.mem_cons_self rfl, hT.cell (g := qb) (i := 1) List.mem_cons_self rfl, hT.cell (g := qb) (i := 2) List.mem_cons_self rfl⟩
  have cadd : Hid (∀ w1 tb, TabM B w0 xb v (X ++ p :: Y) R ((qb, bO b) :: F) A tb w1 → Calls Tryz.prog 146 #[bpt tb, bV b] w1 fun e w' => e = .returned (.tuple #[.bool (addL A b).2.1, .int .i64 (addL A b).2.2]) ∧ BndM B w0 xb v (X ++ p :: Y) R ((qb, bO b) :: F) (addL A b).1 w' ∧ w'.cell? ⟨qb, 0, none⟩ = some (tx b.1) ∧ w'.cell? ⟨qb, 1, none⟩ = some (tx b.2.1) ∧ w'.cell? ⟨qb, 2, none⟩ = some (tx b.2.2)) := Lib.hid fun w1 tb hT => by
   refine (add_any hT h.fine.rows.few hb).mono ?_
   rintro e w' ⟨rfl, h2⟩
   obtain ⟨Q', ht', h3⟩ := TabM.of h2
   have hM : BndM B w0 xb v (X ++ p :: Y) R ((qb, bO b) :: F) (addL A b).1 w' := ⟨_, Q', ht', h3⟩
   exact ⟨rfl, hM, hM.cell (g := qb) (i := 0) List.mem_cons_self rfl, hM.cell (g := qb) (i := 1) List.mem_cons_self rfl, hM.cell (g := qb) (i := 2) List.mem_cons_self rfl⟩
  have hd : BndM B w0 xb v (X ++ p :: Y) R ((qb, bO b) :: F) A W1.drew := hM0.out.drew
  have hs0 : Hid (W1.drew.cell? ⟨qb, 0, none⟩ = some (tx b.1) ∧ W1.drew.cell? ⟨qb, 1, none⟩ = some (tx b.2.1) ∧ W1.drew.cell? ⟨qb, 2, none⟩ = some (tx b.2.2)) := Lib.hid ⟨hd.cell (g := qb) (i := 0) List.mem_cons_self rfl, hd.cell (g := qb) (i := 1) List.mem_cons_self rfl, hd.cell (g := qb) (i := 2) List.mem_cons_self rfl⟩
  by_cases hin : b ∈ A
  ·have ea : addL A b = (A, false, 0) := by rw [addL, if_pos hin]
   rw [ea] at cadd e
   have e' : bindX ((X ++ p :: Y).map Pl.d) A b = (A, 0) := by rw [e]; rfl
   replace same := Lib.hid fun w1 hM => same.out w1 0 hM e'
   rw [e'] at same ⊢
   obtain ⟨b1, b2, b3⟩ := b
   simp only at hn q0 q2 c1 eW ck ctab cadd hs0
   generalize p.b = pb at *
   clear h hst hst1 fd e e' ea hM0 hW hqb hb hk hp hm hpn hin
   go_enter Tryz.func78, Tryz.ntmps78
   go_upto_region 1 with fail
   rw [eW.out, eq.out]
   go_wp2_with fail
   refine c1.out.mono ?_
   rintro e w1 ⟨rfl, rfl⟩
   go_wp2_with fail
   refine (ck.out _).mono ?_
   rintro e w1 ⟨rfl, rfl⟩
   go_wp2_with fail
   go_region_held3 (fun x => x.cell? ⟨qb, 0, none⟩ = some (tx b1) ∧ x.cell? ⟨qb, 1, none⟩ = some (tx b2) ∧ x.cell? ⟨qb, 2, none⟩ = some (tx b3)) (first | exact kS | exact hs0.out) (first
    | (go_at_call 145; refine (ctab.out _ (by assumption)).mono ?_; rintro e w'' ⟨tb, rfl, hT, kS⟩)
    | (go_at_call 146; refine (cadd.out _ _ (by assumption)).mono ?_; rintro e w'' ⟨rfl, hM, kS⟩))
   have fin := Lib.hid (same.out _ hM)
   clear hM hT hd ctab cadd same
   go_wp2_with fail
   go_ret
   exact ⟨rfl, fin.out⟩
  by_cases hfull : 40 ≤ A.length
  ·have ea : addL A b = (A, false, 12) := by rw [addL, if_neg hin, if_pos hfull]
   rw [ea] at cadd e
   have e' : bindX ((X ++ p :: Y).map Pl.d) A b = (A, 506) := by rw [e]; rfl
   replace same := Lib.hid fun w1 hM => same.out w1 506 hM e'
   rw [e'] at same ⊢
   obtain ⟨b1, b2, b3⟩ := b
   simp only at hn q0 q2 c1 eW ck ctab cadd hs0
   generalize p.b = pb at *
   clear h hst hst1 fd e e' ea hM0 hW hqb hb hk hp hm hpn hin
   go_enter Tryz.func78, Tryz.ntmps78
   go_upto_region 1 with fail
   rw [eW.out, eq.out]
   go_wp2_with fail
   refine c1.out.mono ?_
   rintro e w1 ⟨rfl, rfl⟩
   go_wp2_with fail
   refine (ck.out _).mono ?_
   rintro e w1 ⟨rfl, rfl⟩
   go_wp2_with fail
   go_region_held3 (fun x => x.cell? ⟨qb, 0, none⟩ = some (tx b1) ∧ x.cell? ⟨qb, 1, none⟩ = some (tx b2) ∧ x.cell? ⟨qb, 2, none⟩ = some (tx b3)) (first | exact kS | exact hs0.out) (first
    | (go_at_call 145; refine (ctab.out _ (by assumption)).mono ?_; rintro e w'' ⟨tb, rfl, hT, kS⟩)
    | (go_at_call 146; refine (cadd.out _ _ (by assumption)).mono ?_; rintro e w'' ⟨rfl, hM, kS⟩))
   have fin := Lib.hid (same.out _ hM)
   clear hM hT hd ctab cadd same
   go_wp2_with fail
   go_ret
   exact ⟨rfl, fin.out⟩
  have ea : addL A b = (A ++ [b], true, 0) := by rw [addL, if_neg hin, if_neg hfull]
  rw [ea] at cadd e
  have e' : bindX ((X ++ p :: Y).map Pl.d) A b = (A ++ [b], 0) := by rw [e]; rfl
  rw [e'] at fd ⊢
  have hkp : keysOf (A ++ [b]) p.d.1 = keysOf A p.d.1 ++ [b.2.2] := by rw [keys_snoc, if_pos hpn.symm]
  have hko : ∀ p' ∈ X ++ Y, PlOk (A ++ [b]) (c + 50) p' := fun p' hp' => ((h.pls p' (mem_around hp')).mono (by omega)).same (by
   have := names_other h.fine.once hp'
   rw [keys_snoc, if_neg (by rw [← hpn]; exact fun e => this e.symm), List.append_nil])
  have place : Hid (∀ p' w1, p'.b = p.b → p'.d = p.d → PlOk (A ++ [b]) (c + 50) p' → BndM B w0 xb v (X ++ p' :: Y) R ((qb, bO b) :: F) (A ++ [b]) w1 → ExIs B w0 w1 xb ((X ++ p :: Y).map Pl.d) (A ++ [b]) F (c + 50)) := Lib.hid fun p' w1 e1 e2 hok hM => by
   obtain ⟨tv', Q', ht', h2⟩ := hM
   have em : (X ++ p' :: Y).map Pl.d = (X ++ p :: Y).map Pl.d := by rw [List.map_append, List.map_cons, e2, List.map_append, List.map_cons]
   have eb : (X ++ p' :: Y).map (fun p => bpt p.b) = (X ++ p :: Y).map fun p => bpt p.b := by rw [List.map_append, List.map_cons, e1, List.map_append, List.map_cons]
   have el : (X ++ p' :: Y).length = (X ++ p :: Y).length := by rw [List.length_append, List.length_cons, List.length_append, List.length_cons]
   refine ⟨X ++ p' :: Y, v, tv', R, Q', em, ⟨by rw [em]; exact fd, by rw [eb, el]; exact h.sl, ht', fun p2 hp2 => ?_⟩, h2.sub (List.Sublist.append (List.Sublist.refl _) (List.sublist_cons_self _ _))⟩
   rcases List.mem_append.1 hp2 with h' | h'
   ·exact hko p2 (List.mem_append_left _ h')
   ·rcases List.mem_cons.1 h' with rfl | h'
    ·exact hok
    ·exact hko p2 (List.mem_append_right _ h')
  have hpm : p ∈ X ++ p :: Y := by simp
  have hpok := h.pls p hpm
  have hkl : (keysOf A p.d.1).length ≤ 1000 := by
   unfold keysOf ofB
   rw [List.length_map]
   have := List.length_filter_le (fun x : Bnd => x.1 == p.d.1) A
   have := h.fine.rows.few
   omega
  cases hkk : p.k with
  | none =>
   have fin0 : Hid (∀ w1, BndM B w0 xb v (X ++ p :: Y) R ((qb, bO b) :: F) (A ++ [b]) w1 → w1.cell? ⟨p.b, 3, none⟩ = some (.pointer none) ∧ ExIs B w0 w1 xb ((X ++ p :: Y).map Pl.d) (A ++ [b]) F (c + 50)) := Lib.hid fun w1 hM => by
    refine ⟨?_, place.out p w1 rfl rfl ⟨hpok.has, fun k hk' => by rw [hkk] at hk'; cases hk'⟩ hM⟩
    have := (hM.place hpm).2
    rw [hkk] at this
    exact this
   obtain ⟨b1, b2, b3⟩ := b
   simp only at hn q0 q2 c1 eW ck ctab cadd hs0
   generalize p.b = pb at *
   generalize (X ++ p :: Y).map Pl.d = P at *
   clear h hst hst1 fd e e' ea hM0 hW hqb hb hk hp hm hpn hin same place hko hkp hpok
   go_enter Tryz.func78, Tryz.ntmps78
   go_upto_region 1 with fail
   rw [eW.out, eq.out]
   go_wp2_with fail
   refine c1.out.mono ?_
   rintro e w1 ⟨rfl, rfl⟩
   go_wp2_with fail
   refine (ck.out _).mono ?_
   rintro e w1 ⟨rfl, rfl⟩
   go_wp2_with fail
   go_region_held3 (fun x => x.cell? ⟨qb, 0, none⟩ = some (tx b1) ∧ x.cell? ⟨qb, 1, none⟩ = some (tx b2) ∧ x.cell? ⟨qb, 2, none⟩ = some (tx b3)) (first | exact kS | exact hs0.out) (first
    | (go_at_call 145; refine (ctab.out _ (by assumption)).mono ?_; rintro e w'' ⟨tb, rfl, hT, kS⟩)
    | (go_at_call 146; refine (cadd.out _ _ (by assumption)).mono ?_; rintro e w'' ⟨rfl, hM, kS⟩))
   obtain ⟨p3, fin⟩ := fin0.out _ hM
   replace fin := Lib.hid fin
   clear hM hT hd ctab cadd fin0
   go_wp2_with fail
   go_ret
   exact ⟨rfl, fin.out⟩
  | some k =>
   have fin0 : Hid (∀ w1, BndM B w0 xb v (X ++ p :: Y) R ((qb, bO b) :: F) (A ++ [b]) w1 → w1.cell? ⟨p.b, 3, none⟩ = some (bpt k.kb) ∧
     Calls Tryz.prog 147 #[bpt k.kb, tx b.2.2] w1.drew fun e w' => e = .returned (.tuple #[]) ∧ ExIs B w0 w' xb ((X ++ p :: Y).map Pl.d) (A ++ [b]) F (c + 50)) := Lib.hid fun w1 hM => by
    refine ⟨?_, ?_⟩
    ·have := (hM.place hpm).2
     rw [hkk] at this
     exact this
    ·refine (hM.drew.key hkk hpok hkp (by omega) hc hkl).mono ?_
     rintro e w' ⟨rfl, p', e1, e2, hok, hM'⟩
     exact ⟨rfl, place.out p' w' e1 e2 hok hM'⟩
   obtain ⟨b1, b2, b3⟩ := b
   simp only at hn q0 q2 c1 eW ck ctab cadd hs0 fin0
   generalize p.b = pb at *
   generalize k.kb = kb at *
   generalize (X ++ p :: Y).map Pl.d = P at *
   clear h hst hst1 fd e e' ea hM0 hW hqb hb hk hp hm hpn hin same place hko hkp hpok
   go_enter Tryz.func78, Tryz.ntmps78
   go_upto_region 1 with fail
   rw [eW.out, eq.out]
   go_wp2_with fail
   refine c1.out.mono ?_
   rintro e w1 ⟨rfl, rfl⟩
   go_wp2_with fail
   refine (ck.out _).mono ?_
   rintro e w1 ⟨rfl, rfl⟩
   go_wp2_with fail
   go_region_held3 (fun x => x.cell? ⟨qb, 0, none⟩ = some (tx b1) ∧ x.cell? ⟨qb, 1, none⟩ = some (tx b2) ∧ x.cell? ⟨qb, 2, none⟩ = some (tx b3)) (first | exact kS | exact hs0.out) (first
    | (go_at_call 145; refine (ctab.out _ (by assumption)).mono ?_; rintro e w'' ⟨tb, rfl, hT, kS⟩)
    | (go_at_call 146; refine (cadd.out _ _ (by assumption)).mono ?_; rintro e w'' ⟨rfl, hM, kS⟩))
   obtain ⟨p3, ct⟩ := fin0.out _ hM
   have kS2 := kS.2.2
   replace ct := Lib.hid ct
   clear hM hT hd ctab cadd fin0 kS
   go_wp2_with fail
   go_still_tail 6, (by kernel_rfl)
   change wpList _ _ _ _ _ (World.drew _)
   go_wp2_with fail
   refine ct.out.mono ?_
   rintro e w5 ⟨rfl, fin⟩
   replace fin := Lib.hid fin
   go_wp2_with fail
   go_ret
   exact ⟨rfl, fin.out⟩
end
section
variable {B : Nat} {w0 w w' : World} {F T R Q S : List (Nat × Obj)} {tb xb c c' pb : Nat} {M : Prs} {L X Y : List Pl} {p p' : Pl} {k : Ky} {A A' rows : List Bnd} {P : List Plc} {v tv u : Value} {n : List UInt8} {keys : List (List UInt8)} {q : Bnd → Bool} {b : Bnd}
theorem same_names (e : p'.d = p.d) : (X ++ p' :: Y).map Pl.d = (X ++ p :: Y).map Pl.d := by rw [List.map_append, List.map_cons, e, List.map_append, List.map_cons]
theorem same_blocks (e : p'.b = p.b) : (X ++ p' :: Y).map (fun p => bpt p.b) = (X ++ p :: Y).map fun p => bpt p.b := by rw [List.map_append, List.map_cons, e, List.map_append, List.map_cons]
theorem same_length : (X ++ p' :: Y).length = (X ++ p :: Y).length := by rw [List.length_append, List.length_cons, List.length_append, List.length_cons]
end
def jumps (J : Nat → Act → World → Prop) (Q : Exit → Act → World → Prop) : Exit → Act → World → Prop
 | .goto l, a, w => J l a w
 | e, a, w => Q e a w
theorem jumps_mono {J K : Nat → Act → World → Prop} {Q : Exit → Act → World → Prop} (h : ∀ l a w, J l a w → K l a w) : ∀ e a w, jumps J Q e a w → jumps K Q e a w := by
 intro e a w hj
 cases e with
 | goto l => exact h _ _ _ hj
 | _ => exact hj
section
variable {P : Program} {a : Act} {w : World} {Q : Exit → Act → World → Prop}
theorem wp_scope_gotos {c : Code} (X : Nat → Code) (J : Nat → Nat → Act → World → Prop) (hf : ∀ l n a w, J l n a w → findLabel c l = some (.seq .skip (X l)))
  (first : c.wp P (jumps (fun l a' w' => ∃ n, J l n a' w') Q) a w)
  (pass : ∀ l n a w, J l n a w → (X l).wp P (jumps (fun l' a' w' => ∃ m, m < n ∧ J l' m a' w') Q) a w) : (Code.scope c).wp P Q a w := by
 intro b k cs
 have hg : ∀ l n a w, J l n a w → gotoIn l (.inScope c :: k) = some (.code (.seq .skip (X l)) :: .inScope c :: k) := fun l n a w h => by simp [gotoIn, hf l n a w h]
 have key : ∀ n l a w, J l n a w → ∃ e a' w', Q e a' w' ∧ Arrives P (lone (b.at a (.code (.seq .skip (X l)) :: .inScope c :: k)) cs w) b k cs e a' w' := by
  intro n
  induction n using Nat.strongRecOn with
  | _ n ih =>
   intro l a w hJ
   obtain ⟨e, a₁, w₁, hq, harr⟩ := (wp_seq (wp_skip (pass l n a w hJ))) b (.inScope c :: k) cs
   cases e with
   | normal => exact ⟨.normal, a₁, w₁, hq, Steps.trans harr (.one step_inScope)⟩
   | exit id => exact ⟨.exit id, a₁, w₁, hq, fun k' hk => harr k' (by simp [exitTo, hk])⟩
   | goto l' =>
    obtain ⟨m, hlt, hJ'⟩ := hq
    obtain ⟨e₂, a₂, w₂, hq₂, harr₂⟩ := ih m hlt l' a₁ w₁ hJ'
    exact ⟨e₂, a₂, w₂, hq₂, .of_steps (harr _ (hg _ _ _ _ hJ')) harr₂⟩
   | ret => exact ⟨_, a₁, w₁, hq, harr⟩
   | panic ch => exact ⟨_, a₁, w₁, hq, harr⟩
   | outgrown => exact ⟨_, a₁, w₁, hq, harr⟩
 obtain ⟨e, a₁, w₁, hq, harr⟩ := first b (.inScope c :: k) cs
 cases e with
 | normal => exact ⟨.normal, a₁, w₁, hq, .head step_scope (Steps.trans harr (.one step_inScope))⟩
 | exit id => exact ⟨.exit id, a₁, w₁, hq, fun k' hk => .head step_scope (harr k' (by simp [exitTo, hk]))⟩
 | goto l' =>
  obtain ⟨n, hJ'⟩ := hq
  obtain ⟨e₂, a₂, w₂, hq₂, harr₂⟩ := key n l' a₁ w₁ hJ'
  exact ⟨e₂, a₂, w₂, hq₂, .of_steps (.head step_scope (harr _ (hg _ _ _ _ hJ'))) harr₂⟩
 | ret => exact ⟨_, a₁, w₁, hq, .of_steps (.one step_scope) harr⟩
 | panic ch => exact ⟨_, a₁, w₁, hq, .of_steps (.one step_scope) harr⟩
 | outgrown => exact ⟨_, a₁, w₁, hq, .of_steps (.one step_scope) harr⟩
def two (l0 l1 : Nat) (J0 J1 : Nat → Act → World → Prop) (l : Nat) (a : Act) (w : World) : Prop := (l = l0 ∧ ∃ n, J0 n a w) ∨ (l = l1 ∧ ∃ n, J1 n a w)
def twoBelow (l0 l1 : Nat) (J0 J1 : Nat → Act → World → Prop) (n l : Nat) (a : Act) (w : World) : Prop := (l = l0 ∧ ∃ m, m < n ∧ J0 m a w) ∨ (l = l1 ∧ ∃ m, J1 m a w)
theorem wp_scope_two {c X0 X1 : Code} (l0 l1 : Nat) (N : Nat) (J0 J1 : Nat → Act → World → Prop) (hne : l0 ≠ l1) (h0 : findLabel c l0 = some (.seq .skip X0)) (h1 : findLabel c l1 = some (.seq .skip X1))
  (hN : ∀ n a w, J1 n a w → n < N)
  (pass1 : ∀ n a w, J1 n a w → X1.wp P (jumps (fun l a' w' => l = l1 ∧ ∃ m, m < n ∧ J1 m a' w') Q) a w)
  (pass0 : ∀ n, (∀ m a w, J1 m a w → X1.wp P (jumps (twoBelow l0 l1 J0 J1 n) Q) a w) → ∀ a w, J0 n a w → X0.wp P (jumps (twoBelow l0 l1 J0 J1 n) Q) a w)
  (first : (∀ n a w, J0 n a w → X0.wp P (jumps (two l0 l1 J0 J1) Q) a w) → c.wp P (jumps (two l0 l1 J0 J1) Q) a w) : (Code.scope c).wp P Q a w := by
 have p0 : ∀ n a w, J0 n a w → X0.wp P (jumps (twoBelow l0 l1 J0 J1 n) Q) a w := fun n a w hJ =>
  pass0 n (fun m a w hJ => Code.wp_mono (jumps_mono fun l a' w' ⟨e, m, _, h⟩ => .inr ⟨e, m, h⟩) (pass1 m a w hJ)) a w hJ
 refine wp_scope_gotos (fun l => if l = l0 then X0 else X1) (fun l n a w => (l = l0 ∧ ∃ m, n = N + m ∧ J0 m a w) ∨ (l = l1 ∧ J1 n a w)) ?_ ?_ ?_
 ·rintro l n a w (⟨rfl, _⟩ | ⟨rfl, _⟩)
  ·rw [if_pos rfl]; exact h0
  ·rw [if_neg (Ne.symm hne)]; exact h1
 ·refine Code.wp_mono (jumps_mono ?_) (first fun n a w hJ => Code.wp_mono (jumps_mono ?_) (p0 n a w hJ))
  ·rintro l a' w' (⟨rfl, n, h⟩ | ⟨rfl, n, h⟩)
   ·exact ⟨N + n, .inl ⟨rfl, n, rfl, h⟩⟩
   ·exact ⟨n, .inr ⟨rfl, h⟩⟩
  ·rintro l a' w' (⟨rfl, m, _, h⟩ | ⟨rfl, m, h⟩)
   ·exact .inl ⟨rfl, m, h⟩
   ·exact .inr ⟨rfl, m, h⟩
 ·rintro l n a w (⟨rfl, m, rfl, h⟩ | ⟨rfl, h⟩)
  ·rw [if_pos rfl]
   refine Code.wp_mono (jumps_mono ?_) (p0 m a w h)
   rintro l' a' w' (⟨rfl, q, hq, h⟩ | ⟨rfl, q, h⟩)
   ·exact ⟨N + q, by omega, .inl ⟨rfl, q, rfl, h⟩⟩
   ·exact ⟨q, by have := hN _ _ _ h; omega, .inr ⟨rfl, h⟩⟩
  ·rw [if_neg (Ne.symm hne)]
   refine Code.wp_mono (jumps_mono ?_) (pass1 n a w h)
   rintro l' a' w' ⟨rfl, q, hq, h⟩
   exact ⟨q, hq, .inr ⟨rfl, h⟩⟩
end
section
variable {B : Nat} {w0 w w' : World} {F T R Q S : List (Nat × Obj)} {tb xb c c' pb qb : Nat} {M : Prs} {L X Y : List Pl} {p p' : Pl} {k : Ky} {A A' rows : List Bnd} {P : List Plc} {v tv u : Value} {n x : List UInt8} {keys l : List (List UInt8)} {q : Bnd → Bool} {b : Bnd}
theorem places_step {i : Nat} (hall : ∀ (j : Nat) p, L[j]? = some p → PlOk (if j < i then A' else A) c p) (hok : PlOk A' c p') : ∀ (j : Nat) p2, (L.set i p')[j]? = some p2 → PlOk (if j < i + 1 then A' else A) c p2 := by
 intro j p2 hj
 rw [List.getElem?_set] at hj
 split at hj
 ·rename_i e
  subst e
  split at hj
  ·cases hj
   rw [if_pos (by omega)]
   exact hok
  ·cases hj
 ·rename_i e
  have := hall j p2 hj
  by_cases h1 : j < i
  ·rw [if_pos h1] at this
   rw [if_pos (by omega)]
   exact this
  ·rw [if_neg h1] at this
   rw [if_neg (by omega)]
   exact this
theorem ex_set_split {i : Nat} (hx : L[i]? = some p) : L = L.take i ++ p :: L.drop (i + 1) ∧ L.set i p' = L.take i ++ p' :: L.drop (i + 1) := by
 have hl := (List.getElem?_eq_some_iff.1 hx).1
 refine ⟨?_, ?_⟩
 ·have := (List.take_append_drop i L).symm
  rwa [split_at hx] at this
 ·rw [List.set_eq_take_append_cons_drop, if_pos hl]
def DqA (B : Nat) (w0 : World) (xb qb : Nat) (v : Value) (R : List (Nat × Obj)) (P : List Plc) (A A' : List Bnd) (F : List (Nat × Obj)) (c g : Nat) (a' : Act) (w' : World) : Prop :=
 ∃ (i : Nat) (L : List Pl) (tv : Value) (Q : List (Nat × Obj)), Fr 41 [(0, bpt xb), (3, bpt qb), (4, .int .i64 i)] a' ∧ i + g = L.length ∧ L.map Pl.d = P ∧ SlIs 188 1 v L.length (L.map fun p => bpt p.b) R ∧ TaIn tv A Q ∧
  (∀ (j : Nat) p, L[j]? = some p → PlOk (if j < i then A' else A) c p) ∧ St B w0 w' (exO xb v tv L R Q ++ F)
def DqB (B : Nat) (w0 : World) (xb : Nat) (P : List Plc) (A' : List Bnd) (l : List (List UInt8)) (F : List (Nat × Obj)) (c g : Nat) (a' : Act) (w' : World) : Prop :=
 ∃ (i : Nat) (u : Value) (S : List (Nat × Obj)), Fr 41 [(0, bpt xb), (4, .int .i64 i), (5, u)] a' ∧ i + g = l.length ∧ TssIs u l S ∧ ExIs B w0 w' xb (leavesX P A' (l.take i)) A' (F ++ S) c
theorem leaves_step (P : List Plc) (A : List Bnd) {i : Nat} (hx : l[i]? = some n) : leavesX P A (l.take (i + 1)) = leaveX (leavesX P A (l.take i)) A n := by
 unfold leavesX
 rw [List.take_add_one, hx, Option.toList_some, List.foldl_append]
 rfl
set_option maxHeartbeats 8000000 in
theorem xdropq_any (h : ExIs B w0 w xb P A F c) (x : List UInt8) (hc : c ≤ 100000) :
  Calls Tryz.prog 134 #[bpt xb, tx x] w fun e w' => e = .returned (.tuple #[]) ∧ ExIs B w0 w' xb (dropqX P A x).1 (dropqX P A x).2 F c := by
 obtain ⟨L, v, tv, R, Q, rfl, h, hst⟩ := h
 have few := h.fine.few
 have fewA := h.fine.rows.few
 have hst1 : St B w0 (w.alloc (.cells #[tx x] 9)) (exO xb v tv L R Q ++ ((w.heap.size, .cells #[tx x] 9) :: F)) := (hst.alloc _).perm List.perm_middle.symm
 obtain ⟨W1, hW⟩ : ∃ W1, W1 = w.alloc (.cells #[tx x] 9) := ⟨_, rfl⟩
 rw [← hW] at hst1
 obtain ⟨qb, hqb⟩ : ∃ qb, qb = w.heap.size := ⟨_, rfl⟩
 rw [← hqb] at hst1
 have eW : Hid (w.alloc (.cells #[tx x] 9) = W1) := Lib.hid hW.symm
 have eq : Hid (w.heap.size = qb) := Lib.hid hqb.symm
 have hmf : ∀ (fn : Fn) (first cap : Array Value) (w : World), (Instr.makeFunc fn first cap).run Tryz.prog w = .ok (.func fn first cap) w := fun _ _ _ _ => rfl
 obtain ⟨A', hA'⟩ : ∃ A', A' = A.filter fun b => !(b.2.1 == x) := ⟨_, rfl⟩
 obtain ⟨l, hl⟩ : ∃ l, l = onceL [] ((A.filter fun b => b.2.1 == x).map (·.1)) := ⟨_, rfl⟩
 have ed : dropqX (L.map Pl.d) A x = (leavesX (L.map Pl.d) A' l, A') := by rw [dropqX, hA', hl]
 rw [ed]
 have fine' : FineX (L.map Pl.d) A' := by rw [hA']; exact h.fine.sub _
 have hl40 : l.length ≤ 40 := by
  have h1 := onceL_len [] ((A.filter fun b => b.2.1 == x).map (·.1))
  rw [List.length_map, List.length_nil, ← hl] at h1
  have := List.length_filter_le (fun b : Bnd => b.2.1 == x) A
  omega
 have hlm : ∀ y ∈ l, y.length ≤ maxLen := by
  intro y hy
  rw [hl] at hy
  rcases (onceL_mem _ _ _).1 hy with h' | h'
  ·simp at h'
  ·obtain ⟨b, hb, rfl⟩ := List.mem_map.1 h'
   exact (h.fine.rows.fit b (List.mem_filter.1 hb).1).max.1
 have fine := Lib.hid h.fine
 have cun : Hid (∀ (i : Nat) (L1 : List Pl) tv1 Q1 w1 p1, L1[i]? = some p1 → TaIn tv1 A Q1 → (∀ (j : Nat) p, L1[j]? = some p → PlOk (if j < i then A' else A) c p) → St B w0 w1 (exO xb v tv1 L1 R Q1 ++ ((qb, .cells #[tx x] 9) :: F)) →
   Calls Tryz.prog 171 #[bpt xb, bpt p1.b, .func (.func 194) #[] #[bpt qb]] w1 fun e w' => e = .returned (.tuple #[]) ∧ ∃ p' tv' Q', p'.b = p1.b ∧ p'.d = p1.d ∧ TaIn tv' A Q' ∧ (∀ (j : Nat) p, (L1.set i p')[j]? = some p → PlOk (if j < i + 1 then A' else A) c p) ∧ St B w0 w' (exO xb v tv' (L1.set i p') R Q' ++ ((qb, .cells #[tx x] 9) :: F))) :=
  Lib.hid fun i L1 tv1 Q1 w1 p1 hx ht hall h1 => by
   obtain ⟨e1, -⟩ := ex_set_split (p' := p1) hx
   have hok := hall i p1 hx
   rw [if_neg (by omega)] at hok
   rw [e1] at h1
   refine (xunkey_any ht fewA fine.out.keys hok hc h1 (tells_dropq (q := qb) (x := x) List.mem_cons_self)).mono ?_
   rintro e w' ⟨rfl, p', tv', Q', g1, g2, g3, g4, g5⟩
   rw [← hA'] at g3
   refine ⟨rfl, p', tv', Q', g1, g2, g4, places_step hall g3, ?_⟩
   rw [(ex_set_split (p' := p') hx).2]
   exact g5
 have ctab : Hid (∀ (L1 : List Pl) tv1 Q1 w1, TaIn tv1 A Q1 → St B w0 w1 (exO xb v tv1 L1 R Q1 ++ ((qb, .cells #[tx x] 9) :: F)) → Calls Tryz.prog 145 #[bpt xb] w1 fun e w' => ∃ tb, e = .returned (bpt tb) ∧ TabM B w0 xb v L1 R ((qb, .cells #[tx x] 9) :: F) A tb w' ∧ w'.cell? ⟨qb, 0, none⟩ = some (tx x)) := Lib.hid fun L1 tv1 Q1 w1 ht h1 => by
  refine (xtable_is ht h1).mono ?_
  rintro e w' ⟨tb, rfl, hT⟩
  exact ⟨tb, rfl, hT, hT.cell (g := qb) (i := 0) List.mem_cons_self rfl⟩
 have cdq : Hid (∀ (L1 : List Pl) tb w1, L1.map Pl.d = L.map Pl.d → SlIs 188 1 v L1.length (L1.map fun p => bpt p.b) R → (∀ p ∈ L1, PlOk A' c p) → TabM B w0 xb v L1 R ((qb, .cells #[tx x] 9) :: F) A tb w1 →
   Calls Tryz.prog 195 #[bpt tb, tx x] w1 fun e w' => ∃ a cap, e = .returned (.slice a l.length cap) ∧ w'.cell? ⟨qb, 0, none⟩ = some (tx x) ∧ ∀ a', Fr 41 [(0, bpt xb), (4, .int .i64 ((0 : Nat) : Int)), (5, .slice a l.length cap)] a' → DqB B w0 xb (L.map Pl.d) A' l ((qb, .cells #[tx x] 9) :: F) c l.length a' w') :=
  Lib.hid fun L1 tb w1 en hs hall hT => by
   refine (dropQ_any hT (by omega) fine.out.rows.fit x).mono ?_
   rintro e w' ⟨u, S, rfl, hu, hT2⟩
   rw [← hl] at hu
   rw [← hA'] at hT2
   obtain ⟨a, cap, rfl⟩ := hu.form
   have hT3 : TabM B w0 xb v L1 R (((qb, .cells #[tx x] 9) :: F) ++ S) A' tb w' := by
    unfold TabM
    rw [← List.append_assoc]
    exact hT2
   obtain ⟨Q', ht', h3⟩ := hT3.of
   refine ⟨a, cap, rfl, hT3.cell (g := qb) (i := 0) (List.mem_append_left _ List.mem_cons_self) rfl, fun a' hf => ⟨0, _, S, hf, by omega, hu, L1, v, bpt tb, R, Q', by rw [en]; rfl, ⟨by rw [en]; exact fine', hs, ht', hall⟩, h3⟩⟩
 have clv : Hid (∀ (i : Nat) a cap S w1, TssIs (.slice a l.length cap) l S → ExIs B w0 w1 xb (leavesX (L.map Pl.d) A' (l.take i)) A' (((qb, .cells #[tx x] 9) :: F) ++ S) c → ∀ n, l[i]? = some n → ∃ g off, a = some ⟨g, off, none⟩ ∧ w1.cell? ⟨g, off + i, none⟩ = some (tx n) ∧
   Calls Tryz.prog 174 #[bpt xb, tx n] w1 fun e w' => e = .returned (.tuple #[]) ∧ ExIs B w0 w' xb (leavesX (L.map Pl.d) A' (l.take (i + 1))) A' (((qb, .cells #[tx x] 9) :: F) ++ S) c) := Lib.hid fun i a cap S w1 hu hE n hn => by
  obtain ⟨L1, v1, tv1, R1, Q1, en, hI, h1⟩ := hE
  obtain ⟨a', cap', e', hta⟩ := hu.read (X := exO xb v1 tv1 L1 R1 Q1 ++ ((qb, .cells #[tx x] 9) :: F)) (by rw [List.append_assoc]; exact h1) hlm
  cases e'
  obtain ⟨-, g, off, e1, hc1⟩ := hta.at_ i n hn
  refine ⟨g, off, e1, hc1, ?_⟩
  refine (xleave_any hI h1 n).mono ?_
  rintro e w' ⟨rfl, h2⟩
  rw [en] at h2
  rw [leaves_step _ _ hn]
  exact ⟨rfl, h2⟩
 have start : Hid (∀ a', Fr 41 [(0, bpt xb), (3, bpt qb), (4, .int .i64 ((0 : Nat) : Int))] a' → DqA B w0 xb qb v R (L.map Pl.d) A A' ((qb, .cells #[tx x] 9) :: F) c L.length a' W1) := Lib.hid fun a' hf =>
  ⟨0, L, tv, Q, hf, by omega, rfl, h.sl, h.tab, fun j p hp => by rw [if_neg (by omega)]; exact h.pls p (List.mem_of_getElem? hp), hst1⟩
 have form : Hid (∃ a cap, v = .slice a L.length cap) := Lib.hid (by obtain ⟨a, cap, e, -⟩ := h.sl.form; exact ⟨a, cap, e⟩)
 have facts : Hid (∀ (L1 : List Pl) tv1 Q1 w1 F1, L1.map Pl.d = L.map Pl.d → SlIs 188 1 v L1.length (L1.map fun p => bpt p.b) R → St B w0 w1 (exO xb v tv1 L1 R Q1 ++ F1) → L1.length = L.length ∧ w1.cell? ⟨xb, 0, none⟩ = some v ∧ ∀ a cap, v = .slice a L.length cap → ∀ (i : Nat) p, L1[i]? = some p → ∃ g off, a = some ⟨g, off, none⟩ ∧ w1.cell? ⟨g, off + i, none⟩ = some (bpt p.b)) := Lib.hid fun L1 tv1 Q1 w1 F1 en hs h1 => by
  have el : L1.length = L.length := by have := congrArg List.length en; rwa [List.length_map, List.length_map] at this
  refine ⟨el, h1.ex.1, fun a cap ev i p hp => ?_⟩
  obtain ⟨a', cap', e, hr⟩ := places_form hs h1
  rw [ev, el] at e
  cases e
  exact hr i p hp
 rw [List.length_map] at few
 generalize hP : L.map Pl.d = P at *
 generalize L.length = len at *
 clear hP
 clear h hst hst1 ed fine' hW hqb hA' hl fine
 replace hlm := Lib.hid hlm
 obtain ⟨av, capv, rfl⟩ := form.out
 clear form
 go_enter Tryz.func134, Tryz.ntmps134
 go_wp2_with fail
 refine wp_scope_two 0 1 1000 (DqA B w0 xb qb (.slice av len capv) R P A A' ((qb, .cells #[tx x] 9) :: F) c) (DqB B w0 xb P A' l ((qb, .cells #[tx x] 9) :: F) c) (by decide) rfl rfl ?_ ?_ ?_ ?_
 ·rintro n a' w' ⟨i, u, S, -, hi, -⟩
  omega
 ·clear cun ctab cdq start facts
  rintro n a' w' ⟨i, u, S, hfr, hi, hu, hE⟩
  obtain ⟨f, rfl, hl'⟩ := hfr.lit
  clear hfr
  simp only [List.mem_cons, List.not_mem_nil, or_false, forall_eq_or_imp, forall_eq] at hl'
  obtain ⟨f0, f4, f5⟩ := hl'
  obtain ⟨a, cap, rfl⟩ := hu.form
  simp only [List.range, List.range.loop, List.map, f0, f4, f5]
  clear f0 f4 f5
  have hi0 : (0 : Int) ≤ i := by omega
  by_cases hlt : i < l.length
  ·have hi1 : (i : Int) < l.length := by omega
   have hx : l[i]? = some l[i] := List.getElem?_eq_getElem hlt
   generalize l[i] = nm at hx
   obtain ⟨g, off, rfl, hc1, cl⟩ := clv.out i a cap S w' hu hE nm hx
   replace cl := Lib.hid cl
   have nxt : Hid (∀ w2 a', ExIs B w0 w2 xb (leavesX P A' (l.take (i + 1))) A' (((qb, .cells #[tx x] 9) :: F) ++ S) c → Fr 41 [(0, bpt xb), (4, .int .i64 ((i + 1 : Nat) : Int)), (5, .slice (some ⟨g, off, none⟩) l.length cap)] a' → ∃ m, m < n ∧ DqB B w0 xb P A' l ((qb, .cells #[tx x] 9) :: F) c m a' w2) :=
    Lib.hid fun w2 a' hE2 hf => ⟨n - 1, by omega, i + 1, _, S, hf, by omega, hu, hE2⟩
   clear hu hE hx clv
   go_wp2_with fail
   refine cl.out.mono ?_
   rintro e w2 ⟨rfl, hE2⟩
   replace hE2 := Lib.hid hE2
   clear cl
   go_wp2_with fail
   refine wp_goto ?_
   exact ⟨rfl, nxt.out _ _ hE2.out ⟨rfl, rfl, by simp⟩⟩
  ·obtain rfl : i = l.length := by omega
   rw [List.take_of_length_le (Nat.le_refl _)] at hE
   have fin : Hid (ExIs B w0 w' xb (leavesX P A' l) A' F c) := Lib.hid (by
    obtain ⟨L1, v1, tv1, R1, Q1, en, hI, h1⟩ := hE
    refine ⟨L1, v1, tv1, R1, Q1, en, hI, h1.sub (List.Sublist.append (List.Sublist.refl _) ?_)⟩
    rw [List.cons_append]
    exact (List.sublist_append_left F S).trans (List.sublist_cons_self _ _))
   clear hu hE clv
   go_wp2_with fail
   simp only [jumps]
   exact bodyPost_end (results_none rfl _ _ _) rfl ⟨rfl, fin.out⟩
 ·clear clv start
  rintro n H1 a' w' ⟨i, L1, tv1, Q1, hfr, hi, en, hs, ht, hall, h1⟩
  obtain ⟨f, rfl, hl'⟩ := hfr.lit
  clear hfr
  simp only [List.mem_cons, List.not_mem_nil, or_false, forall_eq_or_imp, forall_eq] at hl'
  obtain ⟨f0, f3, f4⟩ := hl'
  simp only [List.range, List.range.loop, List.map, f0, f3, f4]
  clear f0 f3 f4
  have hi0 : (0 : Int) ≤ i := by omega
  obtain ⟨el, x0, hrows⟩ := facts.out _ _ _ _ _ en hs h1
  by_cases hlt : i < L1.length
  ·have hi1 : (i : Int) < len := by omega
   have hx : L1[i]? = some L1[i] := List.getElem?_eq_getElem hlt
   generalize L1[i] = p1 at hx
   obtain ⟨g, off, e, hc1⟩ := hrows _ _ rfl i p1 hx
   subst e
   have cu := Lib.hid (cun.out i L1 tv1 Q1 w' p1 hx ht hall h1)
   have nxt : Hid (∀ p' tv' Q' w2 a', p'.b = p1.b → p'.d = p1.d → TaIn tv' A Q' → (∀ (j : Nat) p, (L1.set i p')[j]? = some p → PlOk (if j < i + 1 then A' else A) c p) → St B w0 w2 (exO xb (.slice (some ⟨g, off, none⟩) len capv) tv' (L1.set i p') R Q' ++ ((qb, .cells #[tx x] 9) :: F)) →
     Fr 41 [(0, bpt xb), (3, bpt qb), (4, .int .i64 ((i + 1 : Nat) : Int))] a' → ∃ m, m < n ∧ DqA B w0 xb qb (.slice (some ⟨g, off, none⟩) len capv) R P A A' ((qb, .cells #[tx x] 9) :: F) c m a' w2) := Lib.hid fun p' tv' Q' w2 a' e1 e2 ht' hall' h2 hf => by
    obtain ⟨g1, g2⟩ := ex_set_split (p' := p') hx
    refine ⟨n - 1, by omega, i + 1, L1.set i p', tv', Q', hf, by rw [List.length_set]; omega, ?_, ?_, ht', hall', h2⟩
    ·rw [g2, same_names e2, ← g1]
     exact en
    ·rw [List.length_set, g2, same_blocks e1, ← g1]
     exact hs
   generalize p1.b = pb at *
   generalize p1.d = pd at *
   clear hs ht hall h1 hx hrows facts cun ctab cdq H1
   go_wp2_with fail
   refine cu.out.mono ?_
   rintro e w2 ⟨rfl, p', tv', Q', e1, e2, ht', hall', h2⟩
   replace nxt := Lib.hid (fun a' => nxt.out p' tv' Q' w2 a' e1 e2 ht' hall' h2)
   clear cu ht' hall' h2 e1 e2
   go_wp2_with fail
   refine wp_goto ?_
   exact .inl ⟨rfl, nxt.out _ ⟨rfl, rfl, by simp⟩⟩
  ·have hi1 : ¬ (i : Int) < len := by omega
   have hallA : ∀ p ∈ L1, PlOk A' c p := fun p hp => by
    obtain ⟨j, hj⟩ := List.getElem?_of_mem hp
    have := hall j p hj
    rwa [if_pos (by have := (List.getElem?_eq_some_iff.1 hj).1; omega)] at this
   replace ctab := Lib.hid (ctab.out L1 tv1 Q1 w'.drew ht h1.drew)
   replace cdq := Lib.hid (fun tb w1 hT => cdq.out L1 tb w1 en hs hallA hT)
   have hs0 : Hid (w'.drew.cell? ⟨qb, 0, none⟩ = some (tx x)) := Lib.hid (h1.cell (b := qb) (i := 0) (List.mem_append_right _ List.mem_cons_self) rfl)
   clear hs ht hall h1 hrows facts cun hallA en
   go_wp2_with fail
   go_region_held3 (fun y => y.cell? ⟨qb, 0, none⟩ = some (tx x)) (first | exact kS | exact hs0.out) (first
    | (go_at_call 145; refine ctab.out.mono ?_; rintro e w'' ⟨tb, rfl, hT, kS⟩)
    | (go_at_call 195; refine (cdq.out _ _ (by assumption)).mono ?_; rintro e w'' ⟨a2, cap2, rfl, kS, hB⟩))
   replace hB := Lib.hid hB
   clear hT ctab cdq hs0 kS
   go_wp2_with fail
   refine wp_label ?_
   go_step
   go_step
   exact H1 l.length _ _ (hB.out _ ⟨rfl, rfl, by simp⟩)
 ·intro H
  clear cun ctab cdq clv facts
  go_upto_region 1 with fail
  rw [eW.out, eq.out]
  go_wp2_with fail
  refine wp_label ?_
  go_step
  go_step
  exact H len _ _ (start.out _ ⟨rfl, rfl, by simp⟩)
end
end Go.Proofs.YtknjamfjonapiaaGreatDoor
