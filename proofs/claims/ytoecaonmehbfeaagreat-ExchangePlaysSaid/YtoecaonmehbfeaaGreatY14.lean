/- Exchanges: the table seen as one; Delete; Bind, Exchanges: Bind, Exchanges: Unbind, A scope with two labels that the run jumps back to: of each its pass is walked once; what falls from round to round is told by what holds at the label. -/
import Derived.Test.YtoecaonmehbfeaaGreatY13
import Derived.Test.YtoecaonmehbfeaaGreatY01
/- Exchanges: the table seen as one; Delete; Bind. -/
namespace Go.Proofs.YtoecaonmehbfeaaGreat
open Go.RowKit
set_option linter.unusedVariables false
set_option maxRecDepth 100000

section
variable {B : Nat} {w0 w w' : World} {F T R Q S : List (Nat × Obj)} {tb xb c c' pb : Nat} {M : Prs} {L X Y : List Pl} {p p' : Pl} {k : Ky} {A A' rows : List Bnd} {P : List Plc} {v tv u : Value} {n : List UInt8} {keys : List (List UInt8)} {q : Bnd → Bool} {b : Bnd}

/-- The table, all else beside it. -/
def TabM (B : Nat) (w0 : World) (xb : Nat) (v : Value) (L : List Pl) (R F : List (Nat × Obj)) (A : List Bnd) (tb : Nat) (w : World) : Prop := TbIs 99 B w0 w tb A (exO xb v (bpt tb) L R [] ++ F)
theorem TabM.of (h : TabM B w0 xb v L R F A tb w) : ∃ Q, TaIn (bpt tb) A Q ∧ St B w0 w (exO xb v (bpt tb) L R Q ++ F) := by
  obtain ⟨u, S, hu, hst⟩ := h
  exact ⟨(tb, .cells #[u] 99) :: S, .inr ⟨tb, u, S, rfl, rfl, hu⟩, hst.perm (exO_tab _)⟩
theorem xtable_is (ht : TaIn tv A Q) (hst : St B w0 w (exO xb v tv L R Q ++ F)) : Calls Tryz.prog 39 #[bpt xb] w fun e w' => ∃ tb, e = .returned (bpt tb) ∧ TabM B w0 xb v L R F A tb w' := by
  refine (xtable_any ht hst).mono ?_
  rintro e w' ⟨tb, u, S, rfl, hu, h2⟩
  exact ⟨tb, rfl, u, S, hu, h2.perm (exO_tab (Q := []) _).symm⟩
theorem TabM.cell {c : Array Value} {U : TypeId} {g : Nat} (h : TabM B w0 xb v L R F A tb w) (hm : (g, .cells c U) ∈ F) {i : Nat} {u : Value} (hi : c[i]? = some u) : w.cell? ⟨g, i, none⟩ = some u := TbIs.cell h (List.mem_append_right _ hm) hi

theorem PlOk.same (h : PlOk A c p) (e : keysOf A' p.d.1 = keysOf A p.d.1) : PlOk A' c p := ⟨h.has, fun k hk => by rw [e]; exact h.ky k hk⟩
theorem keys_dropE {m : List UInt8} (hm : m ≠ n) : keysOf (A.filter fun b => !(b.1 == n)) m = keysOf A m := by
  unfold keysOf
  rw [ofB_filter]
  congr 1
  refine List.filter_eq_self.2 fun b hb => ?_
  have := (List.mem_filter.1 hb).2
  rw [beq_iff_eq] at this
  simpa [this] using hm
theorem keys_drop {m : List UInt8} (hm : m ≠ b.1) : keysOf (A.filter fun x => !(x == b)) m = keysOf A m := by
  unfold keysOf
  rw [ofB_filter]
  congr 1
  refine List.filter_eq_self.2 fun x hx => ?_
  have := (List.mem_filter.1 hx).2
  rw [beq_iff_eq] at this
  have hne : x ≠ b := fun e => hm (by rw [← this, e])
  simpa using hne
theorem keys_snoc {m : List UInt8} : keysOf (A ++ [b]) m = keysOf A m ++ if b.1 = m then [b.2.2] else [] := by
  unfold keysOf ofB
  rw [List.filter_append, List.map_append]
  congr 1
  by_cases h : b.1 = m <;> simp [h]
theorem names_other (hn : ((X ++ p :: Y).map Pl.d |>.map (·.1)).Nodup) (hm : p' ∈ X ++ Y) : p'.d.1 ≠ p.d.1 := by
  simp only [List.map_append, List.map_cons, List.nodup_append, List.nodup_cons] at hn
  obtain ⟨-, ⟨h1, -⟩, h3⟩ := hn
  rcases List.mem_append.1 hm with h | h
  · exact h3 _ (List.mem_map_of_mem (List.mem_map_of_mem h)) _ List.mem_cons_self
  · exact fun e => h1 (e ▸ List.mem_map_of_mem (List.mem_map_of_mem h))
theorem mem_around (hm : p' ∈ X ++ Y) : p' ∈ X ++ p :: Y := by
  rcases List.mem_append.1 hm with h | h
  · exact List.mem_append_left _ h
  · exact List.mem_append_right _ (List.mem_cons_of_mem _ h)

def unuB (n : Int) : Bool := bits .and .i64 n 1 != 0
/-- Behind DropExchange, ahead of remove. -/
def DelM (B : Nat) (w0 : World) (xb : Nat) (v : Value) (L : List Pl) (R F : List (Nat × Obj)) (A : List Bnd) (w : World) : Prop := ∃ tv Q, TaIn tv A Q ∧ St B w0 w (exO xb v tv L R Q ++ F)

set_option maxHeartbeats 4000000 in
theorem xdelete_any (h : ExIs B w0 w xb P A F c) (n : List UInt8) (bt : Int) :
    Calls Tryz.prog 10 #[bpt xb, tx n, .int .i64 bt] w fun e w' => e = .returned (.int .i64 (delX P A n (unuB bt)).2.2) ∧ ExIs B w0 w' xb (delX P A n (unuB bt)).1 (delX P A n (unuB bt)).2.1 F c := by
  have hall := Lib.hid h
  obtain ⟨L, v, tv, R, Q, rfl, h, hst⟩ := h
  have fd := h.fine.del n (unuB bt)
  have few := h.fine.few
  rw [List.length_map] at few
  have c1 := Lib.hid (xdeclared_any h hst n)
  unfold declaredR at c1
  by_cases hn : n = []
  · have e : delX (L.map Pl.d) A n (unuB bt) = (L.map Pl.d, A, 403) := by rw [delX, if_pos hn]
    rw [if_pos hn] at c1
    dsimp only at c1
    rw [e]
    subst hn
    clear h hst fd e
    go_enter Tryz.func10, Tryz.ntmps10
    go_wp2_with fail
    refine c1.out.mono ?_
    rintro e w1 ⟨rfl, rfl⟩
    go_wp2_with fail
    go_ret
    exact ⟨rfl, hall.out⟩
  rw [if_neg hn] at c1
  cases hp : findL L n with
  | none =>
    have e : delX (L.map Pl.d) A n (unuB bt) = (L.map Pl.d, A, 404) := by rw [delX, if_neg hn, findL_d, hp]; rfl
    rw [hp] at c1
    dsimp only at c1
    rw [e]
    clear h hst fd e
    go_enter Tryz.func10, Tryz.ntmps10
    go_wp2_with fail
    refine c1.out.mono ?_
    rintro e w1 ⟨rfl, rfl⟩
    go_wp2_with fail
    go_ret
    exact ⟨rfl, hall.out⟩
  | some p =>
    rw [hp] at c1
    dsimp only at c1
    obtain ⟨hm, hpn⟩ := findL_mem hp
    have e : delX (L.map Pl.d) A n (unuB bt) = if unuB bt = true ∧ ofB A n ≠ [] then (L.map Pl.d, A, 406) else (dropP (L.map Pl.d) n, A.filter (fun b => !(b.1 == n)), 0) := by
      rw [delX, if_neg hn, findL_d, hp]
      rfl
    obtain ⟨X, Y, rfl⟩ := List.append_of_mem hm
    have hdp : dropP ((X ++ p :: Y).map Pl.d) n = (X ++ Y).map Pl.d := by
      have := h.fine.once
      rw [List.map_append, List.map_cons] at this ⊢
      rw [← hpn, dropP_split this, List.map_append]
    have cof : Hid (Calls Tryz.prog 26 #[bpt xb, tx n] w fun e w' => ∃ a cap, e = .returned (.slice a (ofB A n).length cap) ∧ DelM B w0 xb v (X ++ p :: Y) R F A w') := Lib.hid (by
      refine (xof_any h.tab h.fine.rows.few hst n).mono ?_
      rintro e w' ⟨u, S, tv', Q', rfl, hu, ht', h2⟩
      obtain ⟨a, cap, rfl⟩ := hu.form
      exact ⟨a, cap, rfl, tv', Q', ht', h2.sub (List.Sublist.append (List.Sublist.refl _) (List.sublist_append_right _ _))⟩)
    have h0 : Hid (DelM B w0 xb v (X ++ p :: Y) R F A w) := Lib.hid ⟨tv, Q, h.tab, hst⟩
    by_cases hbad : unuB bt = true ∧ ofB A n ≠ []
    · rw [if_pos hbad] at e
      rw [e]
      have fin : Hid (∀ w1, DelM B w0 xb v (X ++ p :: Y) R F A w1 → ExIs B w0 w1 xb ((X ++ p :: Y).map Pl.d) A F c) := Lib.hid fun w1 hM => by
        obtain ⟨tv', Q', ht', h2⟩ := hM
        exact ⟨X ++ p :: Y, v, tv', R, Q', rfl, h.retab ht', h2⟩
      have hpos : 0 < (ofB A n).length := List.length_pos_iff.2 hbad.2
      have hunB : (bits .and .i64 bt 1 != 0) = true := hbad.1
      generalize (ofB A n).length = q0 at *
      generalize p.b = pb at *
      generalize (X ++ p :: Y).map Pl.d = P at *
      clear h hst fd e hbad hdp hp hm hpn h0
      go_enter Tryz.func10, Tryz.ntmps10
      go_wp2_with fail
      refine c1.out.mono ?_
      rintro e w1 ⟨rfl, rfl⟩
      go_wp2_with fail
      refine cof.out.mono ?_
      rintro e w2 ⟨a, cap, rfl, hM⟩
      replace fin := Lib.hid (fin.out _ hM)
      clear hM cof c1
      go_wp2_with fail
      go_ret
      exact ⟨rfl, fin.out⟩
    · rw [if_neg hbad, hdp] at e
      rw [e] at fd ⊢
      have ctab : Hid (∀ w1, DelM B w0 xb v (X ++ p :: Y) R F A w1 → Calls Tryz.prog 39 #[bpt xb] w1 fun e w' => ∃ tb, e = .returned (bpt tb) ∧ TabM B w0 xb v (X ++ p :: Y) R F A tb w') := Lib.hid fun w1 hM => by
        obtain ⟨tv', Q', ht', h2⟩ := hM
        exact xtable_is ht' h2
      have cdr : Hid (∀ w1 tb, TabM B w0 xb v (X ++ p :: Y) R F A tb w1 → Calls Tryz.prog 40 #[bpt tb, tx n] w1 fun e w' => e = .returned (.tuple #[]) ∧ DelM B w0 xb v (X ++ p :: Y) R F (A.filter fun b => !(b.1 == n)) w') := Lib.hid fun w1 tb hT => by
        refine (dropE_any hT (by have := h.fine.rows.few; omega) n).mono ?_
        rintro e w' ⟨rfl, h2⟩
        obtain ⟨Q', ht', h3⟩ := TabM.of h2
        exact ⟨rfl, _, Q', ht', h3⟩
      have crm : Hid (∀ w1, DelM B w0 xb v (X ++ p :: Y) R F (A.filter fun b => !(b.1 == n)) w1 → Calls Tryz.prog 41 #[bpt xb, bpt p.b] w1 fun e w' => e = .returned (.tuple #[]) ∧ ExIs B w0 w' xb ((X ++ Y).map Pl.d) (A.filter fun b => !(b.1 == n)) F c) := Lib.hid fun w1 hM => by
        obtain ⟨tv', Q', ht', h2⟩ := hM
        refine (xremove_any h.sl few h2).mono ?_
        rintro e w' ⟨rfl, v', R', hs', h3⟩
        refine ⟨rfl, X ++ Y, v', tv', R', Q', rfl, ⟨fd, hs', ht', fun p' hp' => (h.pls p' (mem_around hp')).same (keys_dropE ?_)⟩, h3⟩
        rw [← hpn]
        exact names_other h.fine.once hp'
      generalize p.b = pb at *
      generalize (X ++ Y).map Pl.d = P' at *
      clear fd e hdp hp hm hpn
      by_cases hun : unuB bt = true
      · have ho : ofB A n = [] := by
          cases ho : ofB A n with
          | nil => rfl
          | cons b r => exact absurd ⟨hun, by rw [ho]; simp⟩ hbad
        rw [ho] at cof
        have hunB : (bits .and .i64 bt 1 != 0) = true := hun
        clear hbad h hst ho h0
        go_enter Tryz.func10, Tryz.ntmps10
        go_wp2_with fail
        refine c1.out.mono ?_
        rintro e w1 ⟨rfl, rfl⟩
        go_wp2_with fail
        refine cof.out.mono ?_
        rintro e w2 ⟨a, cap, rfl, hM⟩
        replace ctab := Lib.hid (ctab.out _ hM)
        clear hM cof c1
        go_wp2_with fail
        refine ctab.out.mono ?_
        rintro e w3 ⟨tb, rfl, hM⟩
        replace cdr := Lib.hid (cdr.out _ _ hM)
        clear hM ctab
        go_wp2_with fail
        refine cdr.out.mono ?_
        rintro e w4 ⟨rfl, hM⟩
        replace crm := Lib.hid (crm.out _ hM)
        clear hM cdr
        go_wp2_with fail
        refine crm.out.mono ?_
        rintro e w5 ⟨rfl, fin⟩
        replace fin := Lib.hid fin
        go_wp2_with fail
        go_ret
        exact ⟨rfl, fin.out⟩
      · have hunB : (bits .and .i64 bt 1 != 0) = false := by unfold unuB at hun; simpa using hun
        replace ctab := Lib.hid (ctab.out _ h0.out)
        clear hbad h hst h0 cof
        go_enter Tryz.func10, Tryz.ntmps10
        go_wp2_with fail
        refine c1.out.mono ?_
        rintro e w1 ⟨rfl, rfl⟩
        go_wp2_with fail
        refine ctab.out.mono ?_
        rintro e w3 ⟨tb, rfl, hM⟩
        replace cdr := Lib.hid (cdr.out _ _ hM)
        clear hM ctab
        go_wp2_with fail
        refine cdr.out.mono ?_
        rintro e w4 ⟨rfl, hM⟩
        replace crm := Lib.hid (crm.out _ hM)
        clear hM cdr
        go_wp2_with fail
        refine crm.out.mono ?_
        rintro e w5 ⟨rfl, fin⟩
        replace fin := Lib.hid fin
        go_wp2_with fail
        go_ret
        exact ⟨rfl, fin.out⟩
end
end Go.Proofs.YtoecaonmehbfeaaGreat

/- Exchanges: Bind. -/
namespace Go.Proofs.YtoecaonmehbfeaaGreat
open Go.RowKit
set_option linter.unusedVariables false
set_option maxRecDepth 100000

section
variable {B : Nat} {w0 w w' : World} {F T R Q S : List (Nat × Obj)} {tb xb c c' pb : Nat} {M : Prs} {L X Y : List Pl} {p p' : Pl} {k : Ky} {A A' rows : List Bnd} {P : List Plc} {v tv u : Value} {n : List UInt8} {keys : List (List UInt8)} {q : Bnd → Bool} {b : Bnd}

/-- Behind Add: the table's rows; the places not yet. -/
def BndM (B : Nat) (w0 : World) (xb : Nat) (v : Value) (L : List Pl) (R F : List (Nat × Obj)) (A : List Bnd) (w : World) : Prop := ∃ tv Q, TaIn tv A Q ∧ St B w0 w (exO xb v tv L R Q ++ F)
theorem BndM.place (h : BndM B w0 xb v L R F A w) (hp : p ∈ L) : w.cell? ⟨p.b, 0, none⟩ = some (tx p.d.1) ∧ w.cell? ⟨p.b, 3, none⟩ = some (kpt p.k) := by
  obtain ⟨tv, Q, -, hst⟩ := h
  exact ⟨(hst.place hp).1, (hst.place hp).2.2.2⟩
theorem BndM.cell {c : Array Value} {U : TypeId} {g : Nat} (h : BndM B w0 xb v L R F A w) (hm : (g, .cells c U) ∈ F) {i : Nat} {u : Value} (hi : c[i]? = some u) : w.cell? ⟨g, i, none⟩ = some u := by
  obtain ⟨tv, Q, -, hst⟩ := h
  exact hst.cell (b := g) (List.mem_append_right _ hm) hi
theorem BndM.drew (h : BndM B w0 xb v L R F A w) : BndM B w0 xb v L R F A w.drew := by
  obtain ⟨tv, Q, h1, h2⟩ := h
  exact ⟨tv, Q, h1, h2.drew⟩
/-- A key taken in at a place. -/
theorem BndM.key {l : List UInt8} (h : BndM B w0 xb v (X ++ p :: Y) R F A' w) (hk : p.k = some k) (hp : PlOk A c p) (e : keysOf A' p.d.1 = keysOf A p.d.1 ++ [l]) (hl : l.length ≤ 40) (hc : c ≤ 100000) (hn : (keysOf A p.d.1).length ≤ 1000) :
    Calls Tryz.prog 45 #[bpt k.kb, tx l] w fun e w' => e = .returned (.tuple #[]) ∧ ∃ p', p'.b = p.b ∧ p'.d = p.d ∧ PlOk A' (c + 50) p' ∧ BndM B w0 xb v (X ++ p' :: Y) R F A' w' := by
  obtain ⟨tv, Q, ht, hst⟩ := h
  refine (kadd_any (hp.ky k hk) (hst.perm (kobjs_split hk)) l hl hc hn).mono ?_
  rintro e w' ⟨rfl, k', e1, hk', h4⟩
  refine ⟨rfl, ⟨p.b, p.d, some k'⟩, rfl, rfl, ⟨?_, fun k2 hk2 => ?_⟩, tv, Q, ht, h4.perm ?_⟩
  · have := hp.has
    rw [hk] at this
    exact this
  · cases hk2
    dsimp only
    rw [e]
    exact hk'
  · refine List.Perm.trans ?_ (kobjs_split (p := ⟨p.b, p.d, some k'⟩) rfl).symm
    have e2 : kpt (some k') = kpt p.k := by rw [hk]; unfold kpt; rw [Option.map_some, Option.map_some, e1]
    refine perm_by fun a => ?_
    simp only [e2, List.count_append, List.count_cons, List.append_assoc, List.count_nil]

set_option maxHeartbeats 4000000 in
theorem xbind_any (h : ExIs B w0 w xb P A F c) (hb : FitB b) (hc : c ≤ 100000) :
    Calls Tryz.prog 12 #[bpt xb, bV b] w fun e w' => e = .returned (.int .i64 (bindX P A b).2) ∧ ExIs B w0 w' xb P (bindX P A b).1 F (c + 50) := by
  obtain ⟨L, v, tv, R, Q, rfl, h, hst⟩ := h
  have fd := h.fine.bind (b := b) hb
  have few := h.fine.few
  rw [List.length_map] at few
  have hst1 : St B w0 (w.alloc (bO b)) (exO xb v tv L R Q ++ ((w.heap.size, bO b) :: F)) := (hst.alloc (bO b)).perm List.perm_middle.symm
  obtain ⟨W1, hW⟩ : ∃ W1, W1 = w.alloc (bO b) := ⟨_, rfl⟩
  rw [← hW] at hst1
  obtain ⟨qb, hqb⟩ : ∃ qb, qb = w.heap.size := ⟨_, rfl⟩
  rw [← hqb] at hst1
  have q0 : W1.cell? ⟨qb, 0, none⟩ = some (tx b.1) := hst1.cell (b := qb) (i := 0) (List.mem_append_right _ List.mem_cons_self) rfl
  have q2 : W1.cell? ⟨qb, 2, none⟩ = some (tx b.2.2) := hst1.cell (b := qb) (i := 2) (List.mem_append_right _ List.mem_cons_self) rfl
  have c1 := Lib.hid (xdeclared_any h hst1 b.1)
  have ck := Lib.hid (fun w => iskey_any b.2.2 w)
  unfold declaredR at c1
  have same : Hid (∀ w1 z, BndM B w0 xb v L R ((qb, bO b) :: F) A w1 → bindX (L.map Pl.d) A b = (A, z) → ExIs B w0 w1 xb (L.map Pl.d) (bindX (L.map Pl.d) A b).1 F (c + 50)) := Lib.hid fun w1 z hM e => by
    obtain ⟨tv', Q', ht', h2⟩ := hM
    rw [e]
    exact ⟨L, v, tv', R, Q', rfl, (h.retab ht').mono (by omega), h2.sub (List.Sublist.append (List.Sublist.refl _) (List.sublist_cons_self _ _))⟩
  have hM0 : Hid (BndM B w0 xb v L R ((qb, bO b) :: F) A W1) := Lib.hid ⟨tv, Q, h.tab, hst1⟩
  have eW : Hid (w.alloc (.cells #[tx b.1, tx b.2.1, tx b.2.2] 34) = W1) := Lib.hid hW.symm
  have eq : Hid (w.heap.size = qb) := Lib.hid hqb.symm
  by_cases hn : b.1 = []
  · have e : bindX (L.map Pl.d) A b = (A, 403) := by rw [bindX, if_pos hn]
    have fin := Lib.hid (same.out W1 403 hM0.out e)
    rw [if_pos hn] at c1
    dsimp only at c1
    rw [e] at fin ⊢
    obtain ⟨b1, b2, b3⟩ := b
    simp only at hn q0 q2 c1 eW
    subst hn
    clear h hst hst1 fd e same hM0 hW hqb hb ck
    go_enter Tryz.func12, Tryz.ntmps12
    go_upto_region 1 with fail
    rw [eW.out, eq.out]
    go_wp2_with fail
    refine c1.out.mono ?_
    rintro e w1 ⟨rfl, rfl⟩
    go_wp2_with fail
    go_ret
    exact ⟨rfl, fin.out⟩
  rw [if_neg hn] at c1
  cases hp : findL L b.1 with
  | none =>
    have e : bindX (L.map Pl.d) A b = (A, 404) := by rw [bindX, if_neg hn, findL_d, hp]; rfl
    have fin := Lib.hid (same.out W1 404 hM0.out e)
    rw [hp] at c1
    dsimp only at c1
    rw [e] at fin ⊢
    obtain ⟨b1, b2, b3⟩ := b
    simp only at hn q0 q2 c1 eW
    clear h hst hst1 fd e same hM0 hW hqb hb ck
    go_enter Tryz.func12, Tryz.ntmps12
    go_upto_region 1 with fail
    rw [eW.out, eq.out]
    go_wp2_with fail
    refine c1.out.mono ?_
    rintro e w1 ⟨rfl, rfl⟩
    go_wp2_with fail
    go_ret
    exact ⟨rfl, fin.out⟩
  | some p =>
    rw [hp] at c1
    dsimp only at c1
    obtain ⟨hm, hpn⟩ := findL_mem hp
    have e : bindX (L.map Pl.d) A b = if 40 < b.2.2.length then (A, 406) else if (addL A b).2.2 = 0 then ((addL A b).1, 0) else (A, 506) := by
      rw [bindX, if_neg hn, findL_d, hp]
      rfl
    by_cases hk : 40 < b.2.2.length
    · rw [if_pos hk] at e
      have fin := Lib.hid (same.out W1 406 hM0.out e)
      rw [decide_eq_false (by omega)] at ck
      rw [e] at fin ⊢
      obtain ⟨b1, b2, b3⟩ := b
      simp only at hn q0 q2 c1 eW ck
      generalize p.b = pb at *
      clear h hst hst1 fd e same hM0 hW hqb hb hk hp hm hpn
      go_enter Tryz.func12, Tryz.ntmps12
      go_upto_region 1 with fail
      rw [eW.out, eq.out]
      go_wp2_with fail
      refine c1.out.mono ?_
      rintro e w1 ⟨rfl, rfl⟩
      go_wp2_with fail
      refine (ck.out _).mono ?_
      rintro e w1 ⟨rfl, rfl⟩
      go_wp2_with fail
      go_ret
      exact ⟨rfl, fin.out⟩
    rw [if_neg hk] at e
    rw [decide_eq_true (by omega)] at ck
    obtain ⟨X, Y, rfl⟩ := List.append_of_mem hm
    -- the calls of the region
    have ctab : Hid (∀ w1, BndM B w0 xb v (X ++ p :: Y) R ((qb, bO b) :: F) A w1 → Calls Tryz.prog 39 #[bpt xb] w1 fun e w' => ∃ tb, e = .returned (bpt tb) ∧ TabM B w0 xb v (X ++ p :: Y) R ((qb, bO b) :: F) A tb w' ∧ w'.cell? ⟨qb, 0, none⟩ = some (tx b.1) ∧ w'.cell? ⟨qb, 1, none⟩ = some (tx b.2.1) ∧ w'.cell? ⟨qb, 2, none⟩ = some (tx b.2.2)) := Lib.hid fun w1 hM => by
      obtain ⟨tv', Q', ht', h2⟩ := hM
      refine (xtable_is ht' h2).mono ?_
      rintro e w' ⟨tb, rfl, hT⟩
      exact ⟨tb, rfl, hT, hT.cell (g := qb) (i := 0) List.mem_cons_self rfl, hT.cell (g := qb) (i := 1) List.mem_cons_self rfl, hT.cell (g := qb) (i := 2) List.mem_cons_self rfl⟩
    have cadd : Hid (∀ w1 tb, TabM B w0 xb v (X ++ p :: Y) R ((qb, bO b) :: F) A tb w1 → Calls Tryz.prog 44 #[bpt tb, bV b] w1 fun e w' => e = .returned (.tuple #[.bool (addL A b).2.1, .int .i64 (addL A b).2.2]) ∧ BndM B w0 xb v (X ++ p :: Y) R ((qb, bO b) :: F) (addL A b).1 w' ∧ w'.cell? ⟨qb, 0, none⟩ = some (tx b.1) ∧ w'.cell? ⟨qb, 1, none⟩ = some (tx b.2.1) ∧ w'.cell? ⟨qb, 2, none⟩ = some (tx b.2.2)) := Lib.hid fun w1 tb hT => by
      refine (add_any hT h.fine.rows.few hb).mono ?_
      rintro e w' ⟨rfl, h2⟩
      obtain ⟨Q', ht', h3⟩ := TabM.of h2
      have hM : BndM B w0 xb v (X ++ p :: Y) R ((qb, bO b) :: F) (addL A b).1 w' := ⟨_, Q', ht', h3⟩
      exact ⟨rfl, hM, hM.cell (g := qb) (i := 0) List.mem_cons_self rfl, hM.cell (g := qb) (i := 1) List.mem_cons_self rfl, hM.cell (g := qb) (i := 2) List.mem_cons_self rfl⟩
    have hd : BndM B w0 xb v (X ++ p :: Y) R ((qb, bO b) :: F) A W1.drew := hM0.out.drew
    have hs0 : Hid (W1.drew.cell? ⟨qb, 0, none⟩ = some (tx b.1) ∧ W1.drew.cell? ⟨qb, 1, none⟩ = some (tx b.2.1) ∧ W1.drew.cell? ⟨qb, 2, none⟩ = some (tx b.2.2)) := Lib.hid ⟨hd.cell (g := qb) (i := 0) List.mem_cons_self rfl, hd.cell (g := qb) (i := 1) List.mem_cons_self rfl, hd.cell (g := qb) (i := 2) List.mem_cons_self rfl⟩
    by_cases hin : b ∈ A
    · have ea : addL A b = (A, false, 0) := by rw [addL, if_pos hin]
      rw [ea] at cadd e
      have e' : bindX ((X ++ p :: Y).map Pl.d) A b = (A, 0) := by rw [e]; rfl
      replace same := Lib.hid fun w1 hM => same.out w1 0 hM e'
      rw [e'] at same ⊢
      obtain ⟨b1, b2, b3⟩ := b
      simp only at hn q0 q2 c1 eW ck ctab cadd hs0
      generalize p.b = pb at *
      clear h hst hst1 fd e e' ea hM0 hW hqb hb hk hp hm hpn hin
      go_enter Tryz.func12, Tryz.ntmps12
      go_upto_region 1 with fail
      rw [eW.out, eq.out]
      go_wp2_with fail
      refine c1.out.mono ?_
      rintro e w1 ⟨rfl, rfl⟩
      go_wp2_with fail
      refine (ck.out _).mono ?_
      rintro e w1 ⟨rfl, rfl⟩
      go_wp2_with fail
      go_region_held3 (fun x => x.cell? ⟨qb, 0, none⟩ = some (tx b1) ∧ x.cell? ⟨qb, 1, none⟩ = some (tx b2) ∧ x.cell? ⟨qb, 2, none⟩ = some (tx b3)) (first | exact kS | exact hs0.out) (first
        | (go_at_call 39; refine (ctab.out _ (by assumption)).mono ?_; rintro e w'' ⟨tb, rfl, hT, kS⟩)
        | (go_at_call 44; refine (cadd.out _ _ (by assumption)).mono ?_; rintro e w'' ⟨rfl, hM, kS⟩))
      have fin := Lib.hid (same.out _ hM)
      clear hM hT hd ctab cadd same
      go_wp2_with fail
      go_ret
      exact ⟨rfl, fin.out⟩
    by_cases hfull : 40 ≤ A.length
    · have ea : addL A b = (A, false, 12) := by rw [addL, if_neg hin, if_pos hfull]
      rw [ea] at cadd e
      have e' : bindX ((X ++ p :: Y).map Pl.d) A b = (A, 506) := by rw [e]; rfl
      replace same := Lib.hid fun w1 hM => same.out w1 506 hM e'
      rw [e'] at same ⊢
      obtain ⟨b1, b2, b3⟩ := b
      simp only at hn q0 q2 c1 eW ck ctab cadd hs0
      generalize p.b = pb at *
      clear h hst hst1 fd e e' ea hM0 hW hqb hb hk hp hm hpn hin
      go_enter Tryz.func12, Tryz.ntmps12
      go_upto_region 1 with fail
      rw [eW.out, eq.out]
      go_wp2_with fail
      refine c1.out.mono ?_
      rintro e w1 ⟨rfl, rfl⟩
      go_wp2_with fail
      refine (ck.out _).mono ?_
      rintro e w1 ⟨rfl, rfl⟩
      go_wp2_with fail
      go_region_held3 (fun x => x.cell? ⟨qb, 0, none⟩ = some (tx b1) ∧ x.cell? ⟨qb, 1, none⟩ = some (tx b2) ∧ x.cell? ⟨qb, 2, none⟩ = some (tx b3)) (first | exact kS | exact hs0.out) (first
        | (go_at_call 39; refine (ctab.out _ (by assumption)).mono ?_; rintro e w'' ⟨tb, rfl, hT, kS⟩)
        | (go_at_call 44; refine (cadd.out _ _ (by assumption)).mono ?_; rintro e w'' ⟨rfl, hM, kS⟩))
      have fin := Lib.hid (same.out _ hM)
      clear hM hT hd ctab cadd same
      go_wp2_with fail
      go_ret
      exact ⟨rfl, fin.out⟩
    have ea : addL A b = (A ++ [b], true, 0) := by rw [addL, if_neg hin, if_neg hfull]
    rw [ea] at cadd e
    have e' : bindX ((X ++ p :: Y).map Pl.d) A b = (A ++ [b], 0) := by rw [e]; rfl
    rw [e'] at fd ⊢
    have hkp : keysOf (A ++ [b]) p.d.1 = keysOf A p.d.1 ++ [b.2.2] := by rw [keys_snoc, if_pos hpn.symm]
    have hko : ∀ p' ∈ X ++ Y, PlOk (A ++ [b]) (c + 50) p' := fun p' hp' => ((h.pls p' (mem_around hp')).mono (by omega)).same (by
      have := names_other h.fine.once hp'
      rw [keys_snoc, if_neg (by rw [← hpn]; exact fun e => this e.symm), List.append_nil])
    have place : Hid (∀ p' w1, p'.b = p.b → p'.d = p.d → PlOk (A ++ [b]) (c + 50) p' → BndM B w0 xb v (X ++ p' :: Y) R ((qb, bO b) :: F) (A ++ [b]) w1 → ExIs B w0 w1 xb ((X ++ p :: Y).map Pl.d) (A ++ [b]) F (c + 50)) := Lib.hid fun p' w1 e1 e2 hok hM => by
      obtain ⟨tv', Q', ht', h2⟩ := hM
      have em : (X ++ p' :: Y).map Pl.d = (X ++ p :: Y).map Pl.d := by rw [List.map_append, List.map_cons, e2, List.map_append, List.map_cons]
      have eb : (X ++ p' :: Y).map (fun p => bpt p.b) = (X ++ p :: Y).map fun p => bpt p.b := by rw [List.map_append, List.map_cons, e1, List.map_append, List.map_cons]
      have el : (X ++ p' :: Y).length = (X ++ p :: Y).length := by rw [List.length_append, List.length_cons, List.length_append, List.length_cons]
      refine ⟨X ++ p' :: Y, v, tv', R, Q', em, ⟨by rw [em]; exact fd, by rw [eb, el]; exact h.sl, ht', fun p2 hp2 => ?_⟩, h2.sub (List.Sublist.append (List.Sublist.refl _) (List.sublist_cons_self _ _))⟩
      rcases List.mem_append.1 hp2 with h' | h'
      · exact hko p2 (List.mem_append_left _ h')
      · rcases List.mem_cons.1 h' with rfl | h'
        · exact hok
        · exact hko p2 (List.mem_append_right _ h')
    have hpm : p ∈ X ++ p :: Y := by simp
    have hpok := h.pls p hpm
    have hkl : (keysOf A p.d.1).length ≤ 1000 := by
      unfold keysOf ofB
      rw [List.length_map]
      have := List.length_filter_le (fun x : Bnd => x.1 == p.d.1) A
      have := h.fine.rows.few
      omega
    cases hkk : p.k with
    | none =>
      have fin0 : Hid (∀ w1, BndM B w0 xb v (X ++ p :: Y) R ((qb, bO b) :: F) (A ++ [b]) w1 → w1.cell? ⟨p.b, 3, none⟩ = some (.pointer none) ∧ ExIs B w0 w1 xb ((X ++ p :: Y).map Pl.d) (A ++ [b]) F (c + 50)) := Lib.hid fun w1 hM => by
        refine ⟨?_, place.out p w1 rfl rfl ⟨hpok.has, fun k hk' => by rw [hkk] at hk'; cases hk'⟩ hM⟩
        have := (hM.place hpm).2
        rw [hkk] at this
        exact this
      obtain ⟨b1, b2, b3⟩ := b
      simp only at hn q0 q2 c1 eW ck ctab cadd hs0
      generalize p.b = pb at *
      generalize (X ++ p :: Y).map Pl.d = P at *
      clear h hst hst1 fd e e' ea hM0 hW hqb hb hk hp hm hpn hin same place hko hkp hpok
      go_enter Tryz.func12, Tryz.ntmps12
      go_upto_region 1 with fail
      rw [eW.out, eq.out]
      go_wp2_with fail
      refine c1.out.mono ?_
      rintro e w1 ⟨rfl, rfl⟩
      go_wp2_with fail
      refine (ck.out _).mono ?_
      rintro e w1 ⟨rfl, rfl⟩
      go_wp2_with fail
      go_region_held3 (fun x => x.cell? ⟨qb, 0, none⟩ = some (tx b1) ∧ x.cell? ⟨qb, 1, none⟩ = some (tx b2) ∧ x.cell? ⟨qb, 2, none⟩ = some (tx b3)) (first | exact kS | exact hs0.out) (first
        | (go_at_call 39; refine (ctab.out _ (by assumption)).mono ?_; rintro e w'' ⟨tb, rfl, hT, kS⟩)
        | (go_at_call 44; refine (cadd.out _ _ (by assumption)).mono ?_; rintro e w'' ⟨rfl, hM, kS⟩))
      obtain ⟨p3, fin⟩ := fin0.out _ hM
      replace fin := Lib.hid fin
      clear hM hT hd ctab cadd fin0
      go_wp2_with fail
      go_ret
      exact ⟨rfl, fin.out⟩
    | some k =>
      have fin0 : Hid (∀ w1, BndM B w0 xb v (X ++ p :: Y) R ((qb, bO b) :: F) (A ++ [b]) w1 → w1.cell? ⟨p.b, 3, none⟩ = some (bpt k.kb) ∧
          Calls Tryz.prog 45 #[bpt k.kb, tx b.2.2] w1.drew fun e w' => e = .returned (.tuple #[]) ∧ ExIs B w0 w' xb ((X ++ p :: Y).map Pl.d) (A ++ [b]) F (c + 50)) := Lib.hid fun w1 hM => by
        refine ⟨?_, ?_⟩
        · have := (hM.place hpm).2
          rw [hkk] at this
          exact this
        · refine (hM.drew.key hkk hpok hkp (by omega) hc hkl).mono ?_
          rintro e w' ⟨rfl, p', e1, e2, hok, hM'⟩
          exact ⟨rfl, place.out p' w' e1 e2 hok hM'⟩
      obtain ⟨b1, b2, b3⟩ := b
      simp only at hn q0 q2 c1 eW ck ctab cadd hs0 fin0
      generalize p.b = pb at *
      generalize k.kb = kb at *
      generalize (X ++ p :: Y).map Pl.d = P at *
      clear h hst hst1 fd e e' ea hM0 hW hqb hb hk hp hm hpn hin same place hko hkp hpok
      go_enter Tryz.func12, Tryz.ntmps12
      go_upto_region 1 with fail
      rw [eW.out, eq.out]
      go_wp2_with fail
      refine c1.out.mono ?_
      rintro e w1 ⟨rfl, rfl⟩
      go_wp2_with fail
      refine (ck.out _).mono ?_
      rintro e w1 ⟨rfl, rfl⟩
      go_wp2_with fail
      go_region_held3 (fun x => x.cell? ⟨qb, 0, none⟩ = some (tx b1) ∧ x.cell? ⟨qb, 1, none⟩ = some (tx b2) ∧ x.cell? ⟨qb, 2, none⟩ = some (tx b3)) (first | exact kS | exact hs0.out) (first
        | (go_at_call 39; refine (ctab.out _ (by assumption)).mono ?_; rintro e w'' ⟨tb, rfl, hT, kS⟩)
        | (go_at_call 44; refine (cadd.out _ _ (by assumption)).mono ?_; rintro e w'' ⟨rfl, hM, kS⟩))
      obtain ⟨p3, ct⟩ := fin0.out _ hM
      have kS2 := kS.2.2
      replace ct := Lib.hid ct
      clear hM hT hd ctab cadd fin0 kS
      go_wp2_with fail
      go_still_tail 6, (by kernel_rfl)
      change wpList _ _ _ _ _ (World.drew _)
      go_wp2_with fail
      refine ct.out.mono ?_
      rintro e w5 ⟨rfl, fin⟩
      replace fin := Lib.hid fin
      go_wp2_with fail
      go_ret
      exact ⟨rfl, fin.out⟩
end
end Go.Proofs.YtoecaonmehbfeaaGreat

/- Exchanges: Unbind. -/
namespace Go.Proofs.YtoecaonmehbfeaaGreat
open Go.RowKit
set_option linter.unusedVariables false
set_option maxRecDepth 100000

section
variable {B : Nat} {w0 w w' : World} {F T R Q S : List (Nat × Obj)} {tb xb c c' pb : Nat} {M : Prs} {L X Y : List Pl} {p p' : Pl} {k : Ky} {A A' rows : List Bnd} {P : List Plc} {v tv u : Value} {n : List UInt8} {keys : List (List UInt8)} {q : Bnd → Bool} {b : Bnd}

theorem count_in (A : List Bnd) (b : Bnd) : decide (0 < (A.filter fun x => x == b).length) = decide (b ∈ A) := by
  apply decide_eq_decide.2
  rw [List.length_pos_iff_exists_mem]
  constructor
  · rintro ⟨x, hx⟩
    have := List.mem_filter.1 hx
    rw [beq_iff_eq] at this
    exact this.2 ▸ this.1
  · exact fun h => ⟨b, List.mem_filter.2 ⟨h, by simp⟩⟩
/-- The same places but for one that was turned. -/
theorem same_names (e : p'.d = p.d) : (X ++ p' :: Y).map Pl.d = (X ++ p :: Y).map Pl.d := by rw [List.map_append, List.map_cons, e, List.map_append, List.map_cons]
theorem same_blocks (e : p'.b = p.b) : (X ++ p' :: Y).map (fun p => bpt p.b) = (X ++ p :: Y).map fun p => bpt p.b := by rw [List.map_append, List.map_cons, e, List.map_append, List.map_cons]
theorem same_length : (X ++ p' :: Y).length = (X ++ p :: Y).length := by rw [List.length_append, List.length_cons, List.length_append, List.length_cons]

set_option maxHeartbeats 4000000 in
theorem xunbind_any (h : ExIs B w0 w xb P A F c) (b : Bnd) (hc : c ≤ 100000) :
    Calls Tryz.prog 14 #[bpt xb, bV b] w fun e w' => e = .returned (.int .i64 (unbX P A b).2.2) ∧ ExIs B w0 w' xb (unbX P A b).1 (unbX P A b).2.1 F c := by
  obtain ⟨L, v, tv, R, Q, rfl, h, hst⟩ := h
  have fd := h.fine.unb b
  have few := h.fine.few
  rw [List.length_map] at few
  have hst1 : St B w0 (w.alloc (bO b)) (exO xb v tv L R Q ++ ((w.heap.size, bO b) :: F)) := (hst.alloc (bO b)).perm List.perm_middle.symm
  obtain ⟨W1, hW⟩ : ∃ W1, W1 = w.alloc (bO b) := ⟨_, rfl⟩
  rw [← hW] at hst1
  obtain ⟨qb, hqb⟩ : ∃ qb, qb = w.heap.size := ⟨_, rfl⟩
  rw [← hqb] at hst1
  have q0 : W1.cell? ⟨qb, 0, none⟩ = some (tx b.1) := hst1.cell (b := qb) (i := 0) (List.mem_append_right _ List.mem_cons_self) rfl
  have c1 := Lib.hid (xdeclared_any h hst1 b.1)
  unfold declaredR at c1
  have same : Hid (∀ w1, BndM B w0 xb v L R ((qb, bO b) :: F) A w1 → ExIs B w0 w1 xb (L.map Pl.d) A F c) := Lib.hid fun w1 hM => by
    obtain ⟨tv', Q', ht', h2⟩ := hM
    exact ⟨L, v, tv', R, Q', rfl, h.retab ht', h2.sub (List.Sublist.append (List.Sublist.refl _) (List.sublist_cons_self _ _))⟩
  have hM0 : Hid (BndM B w0 xb v L R ((qb, bO b) :: F) A W1) := Lib.hid ⟨tv, Q, h.tab, hst1⟩
  have eW : Hid (w.alloc (.cells #[tx b.1, tx b.2.1, tx b.2.2] 34) = W1) := Lib.hid hW.symm
  have eq : Hid (w.heap.size = qb) := Lib.hid hqb.symm
  have hmf : ∀ (fn : Fn) (first cap : Array Value) (w : World), (Instr.makeFunc fn first cap).run Tryz.prog w = .ok (.func fn first cap) w := fun _ _ _ _ => rfl
  by_cases hn : b.1 = []
  · have e : unbX (L.map Pl.d) A b = (L.map Pl.d, A, 403) := by rw [unbX, if_pos hn]
    have fin := Lib.hid (same.out W1 hM0.out)
    rw [if_pos hn] at c1
    dsimp only at c1
    rw [e]
    obtain ⟨b1, b2, b3⟩ := b
    simp only at hn q0 c1 eW
    subst hn
    clear h hst hst1 fd e same hM0 hW hqb
    go_enter Tryz.func14, Tryz.ntmps14
    go_upto_region 1 with fail
    rw [eW.out, eq.out]
    go_wp2_with fail
    refine c1.out.mono ?_
    rintro e w1 ⟨rfl, rfl⟩
    go_wp2_with fail
    go_ret
    exact ⟨rfl, fin.out⟩
  rw [if_neg hn] at c1
  cases hp : findL L b.1 with
  | none =>
    have e : unbX (L.map Pl.d) A b = (L.map Pl.d, A, 404) := by rw [unbX, if_neg hn, findL_d, hp]; rfl
    have fin := Lib.hid (same.out W1 hM0.out)
    rw [hp] at c1
    dsimp only at c1
    rw [e]
    obtain ⟨b1, b2, b3⟩ := b
    simp only at hn q0 c1 eW
    clear h hst hst1 fd e same hM0 hW hqb
    go_enter Tryz.func14, Tryz.ntmps14
    go_upto_region 1 with fail
    rw [eW.out, eq.out]
    go_wp2_with fail
    refine c1.out.mono ?_
    rintro e w1 ⟨rfl, rfl⟩
    go_wp2_with fail
    go_ret
    exact ⟨rfl, fin.out⟩
  | some p =>
    rw [hp] at c1
    dsimp only at c1
    obtain ⟨hm, hpn⟩ := findL_mem hp
    have e : unbX (L.map Pl.d) A b = (if b ∈ A then leaveX (L.map Pl.d) (A.filter fun x => !(x == b)) b.1 else L.map Pl.d, A.filter (fun x => !(x == b)), 0) := by
      rw [unbX, if_neg hn, findL_d, hp]
      rfl
    obtain ⟨X, Y, rfl⟩ := List.append_of_mem hm
    have hpm : p ∈ X ++ p :: Y := by simp
    have cun := Lib.hid (xunkey_any h.tab h.fine.rows.few h.fine.keys (h.pls p hpm) hc hst1 (tells_unbind (q := qb) (x := b) List.mem_cons_self))
    -- with the place turned: what the calls leave
    have ctab : Hid (∀ p' w1, BndM B w0 xb v (X ++ p' :: Y) R ((qb, bO b) :: F) A w1 → Calls Tryz.prog 39 #[bpt xb] w1 fun e w' => ∃ tb, e = .returned (bpt tb) ∧ TabM B w0 xb v (X ++ p' :: Y) R ((qb, bO b) :: F) A tb w' ∧ w'.cell? ⟨qb, 0, none⟩ = some (tx b.1) ∧ w'.cell? ⟨qb, 1, none⟩ = some (tx b.2.1) ∧ w'.cell? ⟨qb, 2, none⟩ = some (tx b.2.2)) := Lib.hid fun p' w1 hM => by
      obtain ⟨tv', Q', ht', h2⟩ := hM
      refine (xtable_is ht' h2).mono ?_
      rintro e w' ⟨tb, rfl, hT⟩
      exact ⟨tb, rfl, hT, hT.cell (g := qb) (i := 0) List.mem_cons_self rfl, hT.cell (g := qb) (i := 1) List.mem_cons_self rfl, hT.cell (g := qb) (i := 2) List.mem_cons_self rfl⟩
    have cdr : Hid (∀ p' w1 tb, TabM B w0 xb v (X ++ p' :: Y) R ((qb, bO b) :: F) A tb w1 → Calls Tryz.prog 50 #[bpt tb, bV b] w1 fun e w' => e = .returned (.bool (decide (b ∈ A))) ∧ BndM B w0 xb v (X ++ p' :: Y) R ((qb, bO b) :: F) (A.filter fun x => !(x == b)) w' ∧ w'.cell? ⟨qb, 0, none⟩ = some (tx b.1) ∧ w'.cell? ⟨qb, 1, none⟩ = some (tx b.2.1) ∧ w'.cell? ⟨qb, 2, none⟩ = some (tx b.2.2)) := Lib.hid fun p' w1 tb hT => by
      refine (drop_any hT (by have := h.fine.rows.few; omega) b).mono ?_
      rintro e w' ⟨rfl, h2⟩
      obtain ⟨Q', ht', h3⟩ := TabM.of h2
      have hM : BndM B w0 xb v (X ++ p' :: Y) R ((qb, bO b) :: F) (A.filter fun x => !(x == b)) w' := ⟨_, Q', ht', h3⟩
      exact ⟨by rw [count_in], hM, hM.cell (g := qb) (i := 0) List.mem_cons_self rfl, hM.cell (g := qb) (i := 1) List.mem_cons_self rfl, hM.cell (g := qb) (i := 2) List.mem_cons_self rfl⟩
    have whole : Hid (∀ p' w1, p'.b = p.b → p'.d = p.d → PlOk (A.filter fun x => !(x == b)) c p' → BndM B w0 xb v (X ++ p' :: Y) R ((qb, bO b) :: F) (A.filter fun x => !(x == b)) w1 →
        ∃ tv' Q', ExIn (X ++ p' :: Y) v tv' R Q' (A.filter fun x => !(x == b)) c ∧ St B w0 w1 (exO xb v tv' (X ++ p' :: Y) R Q' ++ F)) := Lib.hid fun p' w1 e1 e2 hok hM => by
      obtain ⟨tv', Q', ht', h2⟩ := hM
      refine ⟨tv', Q', ⟨by rw [same_names e2]; exact h.fine.sub _, by rw [same_blocks e1, same_length]; exact h.sl, ht', fun p2 hp2 => ?_⟩, h2.sub (List.Sublist.append (List.Sublist.refl _) (List.sublist_cons_self _ _))⟩
      have other : ∀ p2 ∈ X ++ Y, PlOk (A.filter fun x => !(x == b)) c p2 := fun p2 h2 => (h.pls p2 (mem_around h2)).same (keys_drop (by rw [← hpn]; exact names_other h.fine.once h2))
      rcases List.mem_append.1 hp2 with h' | h'
      · exact other p2 (List.mem_append_left _ h')
      · rcases List.mem_cons.1 h' with rfl | h'
        · exact hok
        · exact other p2 (List.mem_append_right _ h')
    by_cases hin : b ∈ A
    · rw [if_pos hin] at e
      rw [e]
      rw [decide_eq_true hin] at cdr
      have fin0 : Hid (∀ p' w1, p'.b = p.b → p'.d = p.d → PlOk (A.filter fun x => !(x == b)) c p' → BndM B w0 xb v (X ++ p' :: Y) R ((qb, bO b) :: F) (A.filter fun x => !(x == b)) w1 → w1.cell? ⟨p.b, 0, none⟩ = some (tx b.1) ∧
          Calls Tryz.prog 51 #[bpt xb, tx b.1] w1 fun e w' => e = .returned (.tuple #[]) ∧ ExIs B w0 w' xb (leaveX ((X ++ p :: Y).map Pl.d) (A.filter fun x => !(x == b)) b.1) (A.filter fun x => !(x == b)) F c) := Lib.hid fun p' w1 e1 e2 hok hM => by
        have hc0 := (hM.place (p := p') (by simp)).1
        rw [e1, e2, hpn] at hc0
        obtain ⟨tv', Q', hE, h2⟩ := whole.out p' w1 e1 e2 hok hM
        refine ⟨hc0, ?_⟩
        have := xleave_any hE h2 b.1
        rw [same_names e2] at this
        exact this
      have unk : Hid (∀ w1, UnkR B w0 xb v X Y p R ((qb, bO b) :: F) A (A.filter fun x => !(x == b)) c w1 → ∃ p', (p'.b = p.b ∧ p'.d = p.d ∧ PlOk (A.filter fun x => !(x == b)) c p') ∧ BndM B w0 xb v (X ++ p' :: Y) R ((qb, bO b) :: F) A w1.drew ∧ (w1.drew.cell? ⟨qb, 0, none⟩ = some (tx b.1) ∧ w1.drew.cell? ⟨qb, 1, none⟩ = some (tx b.2.1) ∧ w1.drew.cell? ⟨qb, 2, none⟩ = some (tx b.2.2))) := Lib.hid fun w1 hU => by
        obtain ⟨p', tv', Q', e1, e2, hok, ht', h2⟩ := hU
        have hM : BndM B w0 xb v (X ++ p' :: Y) R ((qb, bO b) :: F) A w1.drew := ⟨tv', Q', ht', h2.drew⟩
        exact ⟨p', ⟨e1, e2, hok⟩, hM, hM.cell (g := qb) (i := 0) List.mem_cons_self rfl, hM.cell (g := qb) (i := 1) List.mem_cons_self rfl, hM.cell (g := qb) (i := 2) List.mem_cons_self rfl⟩
      generalize leaveX ((X ++ p :: Y).map Pl.d) (A.filter fun x => !(x == b)) b.1 = P' at *
      generalize (A.filter fun x => !(x == b)) = A2 at *
      obtain ⟨b1, b2, b3⟩ := b
      simp only at hn q0 c1 eW ctab cdr fin0 cun unk
      clear h hst hst1 fd e same hM0 hW hqb hm hpn hp hin whole
      generalize hpb : p.b = pb at *
      replace hpb := Lib.hid hpb
      go_enter Tryz.func14, Tryz.ntmps14
      go_upto_region 1 with fail
      rw [eW.out, eq.out]
      go_wp2_with fail
      refine c1.out.mono ?_
      rintro e w1 ⟨rfl, rfl⟩
      go_wp2_with fail
      refine cun.out.mono ?_
      rintro e w2 ⟨rfl, hU⟩
      obtain ⟨p', ok, hd, hs0⟩ := unk.out _ hU
      replace ok := Lib.hid ok
      replace hs0 := Lib.hid hs0
      replace ctab := Lib.hid (ctab.out p')
      replace cdr := Lib.hid (cdr.out p')
      clear hU cun unk c1 q0
      go_wp2_with fail
      go_region_held3 (fun x => x.cell? ⟨qb, 0, none⟩ = some (tx b1) ∧ x.cell? ⟨qb, 1, none⟩ = some (tx b2) ∧ x.cell? ⟨qb, 2, none⟩ = some (tx b3)) (first | exact kS | exact hs0.out) (first
        | (go_at_call 39; refine (ctab.out _ (by assumption)).mono ?_; rintro e w'' ⟨tb, rfl, hT, kS⟩)
        | (go_at_call 50; refine (cdr.out _ _ (by assumption)).mono ?_; rintro e w'' ⟨rfl, hM, kS⟩))
      obtain ⟨n0, cl⟩ := fin0.out _ _ ok.out.1 ok.out.2.1 ok.out.2.2 hM
      replace cl := Lib.hid cl
      clear hM hT hd ctab cdr fin0 kS hs0
      go_wp2_with fail
      refine cl.out.mono ?_
      rintro e w5 ⟨rfl, fin⟩
      replace fin := Lib.hid fin
      go_wp2_with fail
      go_ret
      exact ⟨rfl, fin.out⟩
    · rw [if_neg hin] at e
      rw [e]
      rw [decide_eq_false hin] at cdr
      have fin0 : Hid (∀ p' w1, p'.b = p.b → p'.d = p.d → PlOk (A.filter fun x => !(x == b)) c p' → BndM B w0 xb v (X ++ p' :: Y) R ((qb, bO b) :: F) (A.filter fun x => !(x == b)) w1 → ExIs B w0 w1 xb ((X ++ p :: Y).map Pl.d) (A.filter fun x => !(x == b)) F c) := Lib.hid fun p' w1 e1 e2 hok hM => by
        obtain ⟨tv', Q', hE, h2⟩ := whole.out p' w1 e1 e2 hok hM
        exact ⟨X ++ p' :: Y, v, tv', R, Q', same_names e2, hE, h2⟩
      have unk : Hid (∀ w1, UnkR B w0 xb v X Y p R ((qb, bO b) :: F) A (A.filter fun x => !(x == b)) c w1 → ∃ p', (p'.b = p.b ∧ p'.d = p.d ∧ PlOk (A.filter fun x => !(x == b)) c p') ∧ BndM B w0 xb v (X ++ p' :: Y) R ((qb, bO b) :: F) A w1.drew ∧ (w1.drew.cell? ⟨qb, 0, none⟩ = some (tx b.1) ∧ w1.drew.cell? ⟨qb, 1, none⟩ = some (tx b.2.1) ∧ w1.drew.cell? ⟨qb, 2, none⟩ = some (tx b.2.2))) := Lib.hid fun w1 hU => by
        obtain ⟨p', tv', Q', e1, e2, hok, ht', h2⟩ := hU
        have hM : BndM B w0 xb v (X ++ p' :: Y) R ((qb, bO b) :: F) A w1.drew := ⟨tv', Q', ht', h2.drew⟩
        exact ⟨p', ⟨e1, e2, hok⟩, hM, hM.cell (g := qb) (i := 0) List.mem_cons_self rfl, hM.cell (g := qb) (i := 1) List.mem_cons_self rfl, hM.cell (g := qb) (i := 2) List.mem_cons_self rfl⟩
      generalize (X ++ p :: Y).map Pl.d = P' at *
      generalize (A.filter fun x => !(x == b)) = A2 at *
      obtain ⟨b1, b2, b3⟩ := b
      simp only at hn q0 c1 eW ctab cdr fin0 cun unk
      clear h hst hst1 fd e same hM0 hW hqb hm hpn hp hin whole
      generalize hpb : p.b = pb at *
      replace hpb := Lib.hid hpb
      go_enter Tryz.func14, Tryz.ntmps14
      go_upto_region 1 with fail
      rw [eW.out, eq.out]
      go_wp2_with fail
      refine c1.out.mono ?_
      rintro e w1 ⟨rfl, rfl⟩
      go_wp2_with fail
      refine cun.out.mono ?_
      rintro e w2 ⟨rfl, hU⟩
      obtain ⟨p', ok, hd, hs0⟩ := unk.out _ hU
      replace ok := Lib.hid ok
      replace hs0 := Lib.hid hs0
      replace ctab := Lib.hid (ctab.out p')
      replace cdr := Lib.hid (cdr.out p')
      clear hU cun unk c1 q0
      go_wp2_with fail
      go_region_held3 (fun x => x.cell? ⟨qb, 0, none⟩ = some (tx b1) ∧ x.cell? ⟨qb, 1, none⟩ = some (tx b2) ∧ x.cell? ⟨qb, 2, none⟩ = some (tx b3)) (first | exact kS | exact hs0.out) (first
        | (go_at_call 39; refine (ctab.out _ (by assumption)).mono ?_; rintro e w'' ⟨tb, rfl, hT, kS⟩)
        | (go_at_call 50; refine (cdr.out _ _ (by assumption)).mono ?_; rintro e w'' ⟨rfl, hM, kS⟩))
      have fin := Lib.hid (fin0.out _ _ ok.out.1 ok.out.2.1 ok.out.2.2 hM)
      clear hM hT hd ctab cdr fin0 kS hs0
      go_wp2_with fail
      go_ret
      exact ⟨rfl, fin.out⟩
end
end Go.Proofs.YtoecaonmehbfeaaGreat

/- A scope with two labels that the run jumps back to: of each its pass is walked once; what falls from round to round is told by what holds at the label. -/
namespace Go.Proofs.YtoecaonmehbfeaaGreat
open Go.RowKit

/-- As Q; by a goto: what J says of that label. -/
def jumps (J : Nat → Act → World → Prop) (Q : Exit → Act → World → Prop) : Exit → Act → World → Prop
  | .goto l, a, w => J l a w
  | e, a, w => Q e a w

theorem jumps_mono {J K : Nat → Act → World → Prop} {Q : Exit → Act → World → Prop} (h : ∀ l a w, J l a w → K l a w) : ∀ e a w, jumps J Q e a w → jumps K Q e a w := by
  intro e a w hj
  cases e with
  | goto l => exact h _ _ _ hj
  | _ => exact hj

section
variable {P : Program} {a : Act} {w : World} {Q : Exit → Act → World → Prop}

theorem wp_scope_gotos {c : Code} (X : Nat → Code) (J : Nat → Nat → Act → World → Prop) (hf : ∀ l n a w, J l n a w → findLabel c l = some (.seq .skip (X l)))
    (first : c.wp P (jumps (fun l a' w' => ∃ n, J l n a' w') Q) a w)
    (pass : ∀ l n a w, J l n a w → (X l).wp P (jumps (fun l' a' w' => ∃ m, m < n ∧ J l' m a' w') Q) a w) : (Code.scope c).wp P Q a w := by
  intro b k cs
  have hg : ∀ l n a w, J l n a w → gotoIn l (.inScope c :: k) = some (.code (.seq .skip (X l)) :: .inScope c :: k) := fun l n a w h => by simp [gotoIn, hf l n a w h]
  have key : ∀ n l a w, J l n a w → ∃ e a' w', Q e a' w' ∧ Arrives P (lone (b.at a (.code (.seq .skip (X l)) :: .inScope c :: k)) cs w) b k cs e a' w' := by
    intro n
    induction n using Nat.strongRecOn with
    | _ n ih =>
      intro l a w hJ
      obtain ⟨e, a₁, w₁, hq, harr⟩ := (wp_seq (wp_skip (pass l n a w hJ))) b (.inScope c :: k) cs
      cases e with
      | normal => exact ⟨.normal, a₁, w₁, hq, Steps.trans harr (.one step_inScope)⟩
      | exit id => exact ⟨.exit id, a₁, w₁, hq, fun k' hk => harr k' (by simp [exitTo, hk])⟩
      | goto l' =>
        obtain ⟨m, hlt, hJ'⟩ := hq
        obtain ⟨e₂, a₂, w₂, hq₂, harr₂⟩ := ih m hlt l' a₁ w₁ hJ'
        exact ⟨e₂, a₂, w₂, hq₂, .of_steps (harr _ (hg _ _ _ _ hJ')) harr₂⟩
      | ret => exact ⟨_, a₁, w₁, hq, harr⟩
      | panic ch => exact ⟨_, a₁, w₁, hq, harr⟩
      | outgrown => exact ⟨_, a₁, w₁, hq, harr⟩
  obtain ⟨e, a₁, w₁, hq, harr⟩ := first b (.inScope c :: k) cs
  cases e with
  | normal => exact ⟨.normal, a₁, w₁, hq, .head step_scope (Steps.trans harr (.one step_inScope))⟩
  | exit id => exact ⟨.exit id, a₁, w₁, hq, fun k' hk => .head step_scope (harr k' (by simp [exitTo, hk]))⟩
  | goto l' =>
    obtain ⟨n, hJ'⟩ := hq
    obtain ⟨e₂, a₂, w₂, hq₂, harr₂⟩ := key n l' a₁ w₁ hJ'
    exact ⟨e₂, a₂, w₂, hq₂, .of_steps (.head step_scope (harr _ (hg _ _ _ _ hJ'))) harr₂⟩
  | ret => exact ⟨_, a₁, w₁, hq, .of_steps (.one step_scope) harr⟩
  | panic ch => exact ⟨_, a₁, w₁, hq, .of_steps (.one step_scope) harr⟩
  | outgrown => exact ⟨_, a₁, w₁, hq, .of_steps (.one step_scope) harr⟩

/-- The relation at two labels: those of the second one lie below those of the first. -/
def two (l0 l1 : Nat) (J0 J1 : Nat → Act → World → Prop) (l : Nat) (a : Act) (w : World) : Prop := (l = l0 ∧ ∃ n, J0 n a w) ∨ (l = l1 ∧ ∃ n, J1 n a w)
/-- .. behind a pass from the first label. -/
def twoBelow (l0 l1 : Nat) (J0 J1 : Nat → Act → World → Prop) (n l : Nat) (a : Act) (w : World) : Prop := (l = l0 ∧ ∃ m, m < n ∧ J0 m a w) ∨ (l = l1 ∧ ∃ m, J1 m a w)

theorem wp_scope_two {c X0 X1 : Code} (l0 l1 : Nat) (N : Nat) (J0 J1 : Nat → Act → World → Prop) (hne : l0 ≠ l1) (h0 : findLabel c l0 = some (.seq .skip X0)) (h1 : findLabel c l1 = some (.seq .skip X1))
    (hN : ∀ n a w, J1 n a w → n < N)
    (pass1 : ∀ n a w, J1 n a w → X1.wp P (jumps (fun l a' w' => l = l1 ∧ ∃ m, m < n ∧ J1 m a' w') Q) a w)
    (pass0 : ∀ n, (∀ m a w, J1 m a w → X1.wp P (jumps (twoBelow l0 l1 J0 J1 n) Q) a w) → ∀ a w, J0 n a w → X0.wp P (jumps (twoBelow l0 l1 J0 J1 n) Q) a w)
    (first : (∀ n a w, J0 n a w → X0.wp P (jumps (two l0 l1 J0 J1) Q) a w) → c.wp P (jumps (two l0 l1 J0 J1) Q) a w) : (Code.scope c).wp P Q a w := by
  have p0 : ∀ n a w, J0 n a w → X0.wp P (jumps (twoBelow l0 l1 J0 J1 n) Q) a w := fun n a w hJ =>
    pass0 n (fun m a w hJ => Code.wp_mono (jumps_mono fun l a' w' ⟨e, m, _, h⟩ => .inr ⟨e, m, h⟩) (pass1 m a w hJ)) a w hJ
  refine wp_scope_gotos (fun l => if l = l0 then X0 else X1) (fun l n a w => (l = l0 ∧ ∃ m, n = N + m ∧ J0 m a w) ∨ (l = l1 ∧ J1 n a w)) ?_ ?_ ?_
  · rintro l n a w (⟨rfl, _⟩ | ⟨rfl, _⟩)
    · rw [if_pos rfl]; exact h0
    · rw [if_neg (Ne.symm hne)]; exact h1
  · refine Code.wp_mono (jumps_mono ?_) (first fun n a w hJ => Code.wp_mono (jumps_mono ?_) (p0 n a w hJ))
    · rintro l a' w' (⟨rfl, n, h⟩ | ⟨rfl, n, h⟩)
      · exact ⟨N + n, .inl ⟨rfl, n, rfl, h⟩⟩
      · exact ⟨n, .inr ⟨rfl, h⟩⟩
    · rintro l a' w' (⟨rfl, m, _, h⟩ | ⟨rfl, m, h⟩)
      · exact .inl ⟨rfl, m, h⟩
      · exact .inr ⟨rfl, m, h⟩
  · rintro l n a w (⟨rfl, m, rfl, h⟩ | ⟨rfl, h⟩)
    · rw [if_pos rfl]
      refine Code.wp_mono (jumps_mono ?_) (p0 m a w h)
      rintro l' a' w' (⟨rfl, q, hq, h⟩ | ⟨rfl, q, h⟩)
      · exact ⟨N + q, by omega, .inl ⟨rfl, q, rfl, h⟩⟩
      · exact ⟨q, by have := hN _ _ _ h; omega, .inr ⟨rfl, h⟩⟩
    · rw [if_neg (Ne.symm hne)]
      refine Code.wp_mono (jumps_mono ?_) (pass1 n a w h)
      rintro l' a' w' ⟨rfl, q, hq, h⟩
      exact ⟨q, hq, .inr ⟨rfl, h⟩⟩
end
end Go.Proofs.YtoecaonmehbfeaaGreat
