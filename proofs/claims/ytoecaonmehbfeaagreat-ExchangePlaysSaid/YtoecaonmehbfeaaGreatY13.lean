/- Exchanges: unkey, leave, Words, the document's, Match, the document's: by a table, Names, keys; SameTexts, Exchanges: Declare, Delete. -/
import Derived.Test.YtoecaonmehbfeaaGreatY12
import Derived.Test.YtoecaonmehbfeaaGreatY07
import Derived.Deep.LoopGhost
import Derived.RegionTactic
import Derived.Test.YtoecaonmehbfeaaGreatY02
/- Exchanges: unkey, leave. -/
namespace Go.Proofs.YtoecaonmehbfeaaGreat
open Go.RowKit
set_option linter.unusedVariables false
set_option maxRecDepth 100000

section
variable {B : Nat} {w0 w w' : World} {F T R Q S : List (Nat × Obj)} {tb xb c c' pb : Nat} {M : Prs} {L X Y : List Pl} {p p' : Pl} {k : Ky} {A rows : List Bnd} {P : List Plc} {v tv u : Value} {n : List UInt8} {keys : List (List UInt8)} {q : Bnd → Bool}

theorem ofB_filter (A : List Bnd) (q : Bnd → Bool) (n : List UInt8) : ofB (A.filter q) n = (ofB A n).filter q := by
  unfold ofB
  rw [List.filter_filter, List.filter_filter]
  apply List.filter_congr
  intro b _
  rw [Bool.and_comm]
/-- Behind Of. -/
def OfM (B : Nat) (w0 : World) (xb : Nat) (v : Value) (L : List Pl) (R F : List (Nat × Obj)) (A rows : List Bnd) (u : Value) (w : World) : Prop :=
  ∃ S tv Q, BnsIs u rows S ∧ TaIn tv A Q ∧ St B w0 w (exO xb v tv L R Q ++ (S ++ F))
/-- Behind unkey. -/
def UnkR (B : Nat) (w0 : World) (xb : Nat) (v : Value) (X Y : List Pl) (p : Pl) (R F : List (Nat × Obj)) (A A' : List Bnd) (c : Nat) (w : World) : Prop :=
  ∃ p' tv Q, p'.b = p.b ∧ p'.d = p.d ∧ PlOk A' c p' ∧ TaIn tv A Q ∧ St B w0 w (exO xb v tv (X ++ p' :: Y) R Q ++ F)
theorem kobjs_split (hk : p.k = some k) : (exO xb v tv (X ++ p :: Y) R Q ++ F).Perm (k.objs ++ ((exO xb v tv (X ++ Y) R Q ++ F) ++ [(p.b, .cells #[tx p.d.1, .int .i64 p.d.2.1, .bool p.d.2.2, kpt p.k] 79)])) := by
  refine exO_split.trans ?_
  refine perm_by fun a => ?_
  unfold Pl.objs kobjs
  rw [hk]
  simp only [List.count_append, List.count_cons, List.append_assoc, List.cons_append, List.count_nil]
  omega

set_option maxHeartbeats 4000000 in
theorem xunkey_any {g : Nat} {cb : Array Value} (ht : TaIn tv A Q) (few : A.length ≤ 40) (hk40 : ∀ b ∈ A, b.2.2.length ≤ 40) (hp : PlOk A c p) (hc : c ≤ 100000) (hst : St B w0 w (exO xb v tv (X ++ p :: Y) R Q ++ F)) (hq : TellsS B w0 F g cb q) :
    Calls Tryz.prog 48 #[bpt xb, bpt p.b, .func (.func g) #[] cb] w fun e w' => e = .returned (.tuple #[]) ∧ UnkR B w0 xb v X Y p R F A (A.filter fun b => !q b) c w' := by
  have hpm : p ∈ X ++ p :: Y := by simp
  obtain ⟨p0, -, -, p3⟩ := hst.place hpm
  cases hkp : p.k with
  | none =>
    have e : kpt p.k = .pointer none := by rw [hkp]; rfl
    rw [e] at p3
    have fin : Hid (UnkR B w0 xb v X Y p R F A (A.filter fun b => !q b) c w) := Lib.hid ⟨p, tv, Q, rfl, rfl, ⟨hp.has, fun k hk => by rw [hkp] at hk; cases hk⟩, ht, hst⟩
    generalize p.b = pb at *
    clear hst hp ht
    go_enter Tryz.func48, Tryz.ntmps48
    go_wp2_with fail
    exact bodyPost_end (results_none rfl _ _ _) rfl ⟨rfl, fin.out⟩
  | some k =>
    have e : kpt p.k = bpt k.kb := by rw [hkp]; rfl
    rw [e] at p3
    have hky := hp.ky k hkp
    have hcell : ∀ w' tv' Q' F', St B w0 w' (exO xb v tv' (X ++ p :: Y) R Q' ++ F') → w'.cell? ⟨p.b, 0, none⟩ = some (tx p.d.1) ∧ w'.cell? ⟨p.b, 3, none⟩ = some (bpt k.kb) := fun w' tv' Q' F' h' => by
      obtain ⟨g0, -, -, g3⟩ := h'.place hpm
      rw [e] at g3
      exact ⟨g0, g3⟩
    have cof : Hid (∀ w1, St B w0 w1 (exO xb v tv (X ++ p :: Y) R Q ++ F) → Calls Tryz.prog 26 #[bpt xb, tx p.d.1] w1 fun e w' => ∃ a cap, e = .returned (.slice a (ofB A p.d.1).length cap) ∧ OfM B w0 xb v (X ++ p :: Y) R F A (ofB A p.d.1) (.slice a (ofB A p.d.1).length cap) w' ∧ (w'.cell? ⟨p.b, 0, none⟩ = some (tx p.d.1) ∧ w'.cell? ⟨p.b, 3, none⟩ = some (bpt k.kb))) := Lib.hid fun w1 h1 => by
      refine (xof_any ht few h1 p.d.1).mono ?_
      rintro e w' ⟨u, S, tv', Q', rfl, hu, ht', h2⟩
      obtain ⟨a, cap, rfl⟩ := hu.form
      exact ⟨a, cap, rfl, ⟨S, tv', Q', hu, ht', h2⟩, hcell _ _ _ _ h2⟩
    have ccut : Hid (∀ w1 u, OfM B w0 xb v (X ++ p :: Y) R F A (ofB A p.d.1) u w1 → Calls Tryz.prog 76 #[bpt k.kb, u, .func (.func g) #[] cb] w1 fun e w' => e = .returned (.tuple #[]) ∧ UnkR B w0 xb v X Y p R F A (A.filter fun b => !q b) c w' ∧ (w'.cell? ⟨p.b, 0, none⟩ = some (tx p.d.1) ∧ w'.cell? ⟨p.b, 3, none⟩ = some (bpt k.kb))) := Lib.hid fun w1 u hO => by
      obtain ⟨S, tv', Q', hu, ht', h2⟩ := hO
      have hof : (ofB A p.d.1).length ≤ 40 := Nat.le_trans (List.length_filter_le _ _) few
      have h3 : St B w0 w1 (k.objs ++ (S ++ (((exO xb v tv' (X ++ Y) R Q' ++ [(p.b, .cells #[tx p.d.1, .int .i64 p.d.2.1, .bool p.d.2.2, kpt p.k] 79)])) ++ F))) := h2.perm ((kobjs_split hkp).trans (by
        refine perm_by fun a => ?_
        simp only [List.count_append, List.count_cons, List.append_assoc, List.cons_append, List.count_nil]
        omega))
      refine (kcut_any hky h3 hu (hq.more _) (fun b hb => hk40 b (List.mem_filter.1 hb).1) hc (by omega)).mono ?_
      rintro e w' ⟨rfl, k', e1, hk', h4⟩
      have hok : PlOk (A.filter fun b => !q b) c ⟨p.b, p.d, some k'⟩ := ⟨by
        have := hp.has
        rw [hkp] at this
        exact this, fun k2 hk2 => by
          cases hk2
          unfold keysOf
          rw [ofB_filter]
          exact hk'⟩
      have h5 : St B w0 w' (exO xb v tv' (X ++ ⟨p.b, p.d, some k'⟩ :: Y) R Q' ++ F) := h4.perm (by
        refine List.Perm.trans ?_ (kobjs_split (p := ⟨p.b, p.d, some k'⟩) rfl).symm
        have e2 : kpt (some k') = kpt p.k := by rw [hkp]; unfold kpt; rw [Option.map_some, Option.map_some, e1]
        refine perm_by fun a => ?_
        simp only [e2, List.count_append, List.count_cons, List.append_assoc, List.cons_append, List.count_nil]
        omega)
      obtain ⟨g0, -, -, g3⟩ := h5.place (p := ⟨p.b, p.d, some k'⟩) (by simp)
      refine ⟨rfl, ⟨⟨p.b, p.d, some k'⟩, tv', Q', rfl, rfl, hok, ht', h5⟩, g0, ?_⟩
      have e2 : kpt (some k') = bpt k.kb := by unfold kpt; rw [Option.map_some, e1]
      rw [← e2]
      exact g3
    have hd : St B w0 w.drew (exO xb v tv (X ++ p :: Y) R Q ++ F) := hst.drew
    have hs0 := Lib.hid (hcell _ _ _ _ hd)
    clear hcell hst hp ht hky hq
    generalize hK : UnkR B w0 xb v X Y p R F A (A.filter fun b => !q b) c = U at *
    generalize p.b = pb at *
    generalize p.d.1 = pn at *
    generalize k.kb = kb at *
    go_enter Tryz.func48, Tryz.ntmps48
    go_wp2_with fail
    go_region_held3 (fun x => x.cell? ⟨pb, 0, none⟩ = some (tx pn) ∧ x.cell? ⟨pb, 3, none⟩ = some (bpt kb)) (first | exact kS | exact hs0.out) (first
      | (go_at_call 26; refine (cof.out _ (by assumption)).mono ?_; rintro e w'' ⟨a2, cap2, rfl, hO, kS⟩)
      | (go_at_call 76; refine (ccut.out _ _ (by assumption)).mono ?_; rintro e w'' ⟨rfl, hU, kS⟩))
    replace hU := Lib.hid hU
    clear hO hd cof ccut
    go_wp2_with fail
    exact bodyPost_end (results_none rfl _ _ _) rfl ⟨rfl, hU.out⟩

set_option maxHeartbeats 2000000 in
theorem xleave_any (h : ExIn L v tv R Q A c) (hst : St B w0 w (exO xb v tv L R Q ++ F)) (n : List UInt8) :
    Calls Tryz.prog 51 #[bpt xb, tx n] w fun e w' => e = .returned (.tuple #[]) ∧ ExIs B w0 w' xb (leaveX (L.map Pl.d) A n) A F c := by
  have c1 := Lib.hid (xfind_any h hst n)
  have few := h.fine.few
  rw [List.length_map] at few
  have fl := h.fine.leave n
  have hl : leaveX (L.map Pl.d) A n = match (findL L n).map Pl.d with | some p => if p.2.2 = true ∧ ofB A n = [] then dropP (L.map Pl.d) n else L.map Pl.d | none => L.map Pl.d := by
    unfold leaveX
    rw [findL_d]
    cases findL L n <;> rfl
  unfold ptrF at c1
  cases hf : findL L n with
  | none =>
    rw [hf] at c1 hl
    simp only [Option.map_none] at c1 hl
    rw [hl]
    have fin : Hid (ExIs B w0 w xb (L.map Pl.d) A F c) := Lib.hid ⟨L, v, tv, R, Q, rfl, h, hst⟩
    clear h hst fl hl hf
    go_enter Tryz.func51, Tryz.ntmps51
    go_wp2_with fail
    refine c1.out.mono ?_
    rintro e w1 ⟨rfl, rfl⟩
    go_wp2_with fail
    exact bodyPost_end (results_none rfl _ _ _) rfl ⟨rfl, fin.out⟩
  | some p =>
    rw [hf] at c1 hl
    simp only [Option.map_some] at c1 hl
    obtain ⟨hm, hn⟩ := findL_mem hf
    obtain ⟨-, -, p2, -⟩ := hst.place hm
    cases ha : p.d.2.2 with
    | false =>
      rw [ha] at p2 hl
      rw [if_neg (by simp)] at hl
      rw [hl]
      have fin : Hid (ExIs B w0 w xb (L.map Pl.d) A F c) := Lib.hid ⟨L, v, tv, R, Q, rfl, h, hst⟩
      generalize p.b = pb at *
      clear h hst fl hl hf
      go_enter Tryz.func51, Tryz.ntmps51
      go_wp2_with fail
      refine c1.out.mono ?_
      rintro e w1 ⟨rfl, rfl⟩
      go_wp2_with fail
      exact bodyPost_end (results_none rfl _ _ _) rfl ⟨rfl, fin.out⟩
    | true =>
      rw [ha] at p2 hl
      obtain ⟨X, Y, rfl⟩ := List.append_of_mem hm
      have hpb : p.b = p.b := rfl
      have cof : Hid (Calls Tryz.prog 26 #[bpt xb, tx n] w fun e w' => ∃ a cap, e = .returned (.slice a (ofB A n).length cap) ∧ OfM B w0 xb v (X ++ p :: Y) R F A (ofB A n) (.slice a (ofB A n).length cap) w') := Lib.hid (by
        refine (xof_any h.tab h.fine.rows.few hst n).mono ?_
        rintro e w' ⟨u, S, tv', Q', rfl, hu, ht', h2⟩
        obtain ⟨a, cap, rfl⟩ := hu.form
        exact ⟨a, cap, rfl, S, tv', Q', hu, ht', h2⟩)
      by_cases ho : ofB A n = []
      · rw [if_pos ⟨rfl, ho⟩] at hl
        have hdp : dropP ((X ++ p :: Y).map Pl.d) n = (X ++ Y).map Pl.d := by
          have := h.fine.once
          rw [List.map_append, List.map_cons] at this ⊢
          rw [← hn, dropP_split this, List.map_append]
        rw [hdp] at hl
        rw [hl] at fl ⊢
        have crm : Hid (∀ a w1, OfM B w0 xb v (X ++ p :: Y) R F A (ofB A n) a w1 → Calls Tryz.prog 41 #[bpt xb, bpt p.b] w1 fun e w' => e = .returned (.tuple #[]) ∧ ExIs B w0 w' xb ((X ++ Y).map Pl.d) A F c) := Lib.hid fun a w1 hO => by
          obtain ⟨S, tv', Q', hu, ht', h2⟩ := hO
          refine (xremove_any h.sl few h2).mono ?_
          rintro e w' ⟨rfl, v', R', hs', h3⟩
          refine ⟨rfl, X ++ Y, v', tv', R', Q', rfl, ⟨fl, hs', ht', fun p' hp' => h.pls p' ?_⟩, h3.sub ?_⟩
          · rcases List.mem_append.1 hp' with h' | h'
            · exact List.mem_append_left _ h'
            · exact List.mem_append_right _ (List.mem_cons_of_mem _ h')
          · exact List.Sublist.append (List.Sublist.refl _) (List.sublist_append_right _ _)
        rw [ho] at cof crm
        generalize p.b = pb at *
        clear h hst fl hl hf hm hn ho hdp
        go_enter Tryz.func51, Tryz.ntmps51
        go_wp2_with fail
        refine c1.out.mono ?_
        rintro e w1 ⟨rfl, rfl⟩
        go_wp2_with fail
        refine cof.out.mono ?_
        rintro e w2 ⟨a, cap, rfl, hO⟩
        replace crm := Lib.hid (crm.out _ _ hO)
        clear hO cof c1
        go_wp2_with fail
        refine crm.out.mono ?_
        rintro e w3 ⟨rfl, fin⟩
        replace fin := Lib.hid fin
        go_wp2_with fail
        exact bodyPost_end (results_none rfl _ _ _) rfl ⟨rfl, fin.out⟩
      · rw [if_neg (fun e => ho e.2)] at hl
        rw [hl]
        have fin : Hid (∀ u w1, OfM B w0 xb v (X ++ p :: Y) R F A (ofB A n) u w1 → ExIs B w0 w1 xb ((X ++ p :: Y).map Pl.d) A F c) := Lib.hid fun u w1 hO => by
          obtain ⟨S, tv', Q', hu, ht', h2⟩ := hO
          exact ⟨X ++ p :: Y, v, tv', R, Q', rfl, h.retab ht', h2.sub (List.Sublist.append (List.Sublist.refl _) (List.sublist_append_right _ _))⟩
        have hlB : (((ofB A n).length : Int) == 0) = false := by
          rw [beq_eq_false_iff_ne]
          have := List.length_pos_iff.2 ho
          omega
        generalize p.b = pb at *
        generalize (X ++ p :: Y).map Pl.d = P at *
        clear h hst fl hl hf hm hn
        go_enter Tryz.func51, Tryz.ntmps51
        go_wp2_with fail
        refine c1.out.mono ?_
        rintro e w1 ⟨rfl, rfl⟩
        go_wp2_with fail
        refine cof.out.mono ?_
        rintro e w2 ⟨a, cap, rfl, hO⟩
        replace fin := Lib.hid (fin.out _ _ hO)
        clear hO cof c1 ho
        generalize (ofB A n).length = q0 at *
        go_wp2_with fail
        exact bodyPost_end (results_none rfl _ _ _) rfl ⟨rfl, fin.out⟩
end
end Go.Proofs.YtoecaonmehbfeaaGreat

/- Words, the document's. -/
namespace Go.Proofs.YtoecaonmehbfeaaGreat
open Go.RowKit
set_option linter.unusedVariables false
set_option maxRecDepth 100000

/-- On the way through the key: what stood between points so far, and from where on there was none. -/
def RWords (w : World) (l : List UInt8) (v : Value) (f i : Nat) (wr : World) : Prop :=
  ∃ (done : Wds) (S : List (Nat × Obj)), f ≤ i ∧ done ++ wordsL (l.drop f) = wordsL l ∧ 46 ∉ (l.drop f).take (i - f) ∧ TssIs v done S ∧ St w.heap.size w wr S
/-- The next words are told. -/
def RNext (w : World) (l : List UInt8) (v : Value) (t : List UInt8) (wr : World) (R : Value → World → Prop) : Prop :=
  ∃ (n : Nat) (a : Option Addr) (c : Nat), v = .slice a n c ∧ ∃ (a2 : Option Addr) (c2 : Nat) (W2 : World), (Builtin.append_ #[45, 45] 0 #[v, .slice (some ⟨wr.heap.size, 0, none⟩) 1 1]).run Tryz.prog (wr.alloc (.cells #[tx t] 9)) = .ok (.slice a2 (n + 1) c2) W2 ∧ R (.slice a2 (n + 1) c2) W2

theorem RWords.count {w wr : World} {l : List UInt8} {f : Nat} {done : Wds} (h : done ++ wordsL (l.drop f) = wordsL l) : done.length ≤ l.length := by
  have h1 := congrArg List.length h
  have h2 := words_pos (l.drop f)
  have h3 := words_len l
  rw [List.length_append] at h1
  omega
theorem RWords.dot {w wr : World} {l : List UInt8} {v : Value} {f i : Nat} (h : RWords w l v f i wr) (hl : l.length ≤ 1000000) (hi : l[i]? = some 46) :
    RNext w l v ((l.drop f).take (i - f)) wr fun v2 W2 => RWords w l v2 (i + 1) (i + 1) W2 := by
  obtain ⟨done, S, h1, h2, h3, h4, h5⟩ := h
  obtain ⟨a, c, rfl⟩ := h4.form
  have hd := RWords.count (w := w) (wr := wr) h2
  obtain ⟨a2, c2, W2, F2, r1, r2, r3⟩ := h4.append (X := []) h5 ((l.drop f).take (i - f)) (by omega)
  refine ⟨_, a, c, rfl, a2, c2, W2, r1, _, F2, Nat.le_refl _, ?_, by simp, r2, r3⟩
  rw [List.append_assoc, List.singleton_append, ← words_step rfl h1 h3 hi, h2]
theorem RWords.step {w wr : World} {l : List UInt8} {v : Value} {f i : Nat} (h : RWords w l v f i wr) {c : UInt8} (hi : l[i]? = some c) (hc : c ≠ 46) : RWords w l v f (i + 1) wr := by
  obtain ⟨done, S, h1, h2, h3, h4, h5⟩ := h
  refine ⟨done, S, by omega, h2, ?_, h4, h5⟩
  rw [show i + 1 - f = (i - f) + 1 by omega, List.take_add_one, List.getElem?_drop, show f + (i - f) = i by omega, hi]
  simp only [Option.toList_some, List.mem_append, List.mem_singleton, not_or]
  exact ⟨h3, fun e => hc e.symm⟩
theorem RWords.last {w wr : World} {l : List UInt8} {v : Value} {f : Nat} (h : RWords w l v f l.length wr) (hl : l.length ≤ 1000000) :
    RNext w l v (l.drop f) wr fun v2 W2 => ReadTs W2 v2 (wordsL l) ∧ Below w.heap.size w W2 := by
  obtain ⟨done, S, h1, h2, h3, h4, h5⟩ := h
  obtain ⟨a, c, rfl⟩ := h4.form
  have hd := RWords.count (w := w) (wr := wr) h2
  rw [List.take_of_length_le (by rw [List.length_drop]; omega)] at h3
  obtain ⟨a2, c2, W2, F2, r1, r2, r3⟩ := h4.append (X := []) h5 (l.drop f) (by omega)
  refine ⟨_, a, c, rfl, a2, c2, W2, r1, ?_, r3.below⟩
  rw [words_none h3] at h2
  rw [← h2]
  refine r2.read (X := []) r3 ?_
  rw [h2]
  intro x hx
  have := words_short l x hx
  unfold maxLen
  omega

set_option maxHeartbeats 1000000 in
theorem rwords_to {l : List UInt8} (hl : l.length ≤ 1000000) (w : World) :
    Calls Tryz.prog 63 #[tx l] w fun e w' => ∃ v, e = .returned v ∧ ReadTs w' v (wordsL l) ∧ Below w.heap.size w w' := by
  have h0 : RWords w l (.slice none 0 0) 0 0 w := ⟨[], [], Nat.le_refl _, rfl, by simp, TssIs.nil, St.start w⟩
  replace h0 := Lib.hid h0
  go_enter Tryz.func63, Tryz.ntmps63
  go_wp2_with fail
  go_loopg [3, 4, 5] l.length (fun g v3 v4 v5 wr => ∃ f i : Nat, v4 = .int .i64 f ∧ v5 = .int .i64 i ∧ i + g = l.length ∧ f ≤ i ∧ Hid (RWords w l v3 f i wr))
  case atStart => exact ⟨0, 0, rfl, rfl, by omega, Nat.le_refl _, h0⟩
  case round =>
    clear h0
    obtain ⟨f, i, rfl, rfl, hi, hf, hrel⟩ := hrel
    have hf0 : (0 : Int) ≤ f := by omega
    have hfi : (f : Int) ≤ i := by omega
    have hi0 : (0 : Int) ≤ i := by omega
    by_cases hlt : i < l.length
    · have hi1 : (i : Int) < l.length := by omega
      have hx : l[i]? = some l[i] := List.getElem?_eq_getElem hlt
      by_cases hc : l[i] = 46
      · have hrd := hrel.out.dot hl (by rw [hx, hc])
        obtain ⟨n, a, c, rfl, a2, c2, W2, hrun, hR⟩ := hrd
        replace hR := Lib.hid hR
        have hcN : (((((⟨l.toArray⟩ : ByteArray)[i]'(show i < l.length from hlt)).toNat : Nat) : Int) == 46) = true := by
          show (((l[i].toNat : Nat) : Int) == 46) = true
          rw [hc]
          rfl
        have hil : (i : Int) ≤ l.length := by omega
        have ex : (⟨l.toArray⟩ : ByteArray).extract f i = ⟨((l.drop f).take (i - f)).toArray⟩ := by
          rw [ByteArray.extract_mk]
        clear hrel hx hc
        go_wp2_with (at_builtin; refine wpList_append_go rfl (.tmp 16) (.tmp 21) 45 45 rfl _ _ rfl rfl hrun ?_)
        go_roundg (l.length - (i + 1))
        case measure => omega
        case rel => exact ⟨i + 1, i + 1, by go_num, by go_num, by omega, Nat.le_refl _, hR⟩
      · have hR := Lib.hid (hrel.out.step hx hc)
        have hcN : (((((⟨l.toArray⟩ : ByteArray)[i]'(show i < l.length from hlt)).toNat : Nat) : Int) == 46) = false := by
          show (((l[i].toNat : Nat) : Int) == 46) = false
          rw [beq_eq_false_iff_ne]
          intro e
          exact hc (UInt8.toNat_inj.1 (show l[i].toNat = (46 : UInt8).toNat by have : (46 : UInt8).toNat = 46 := rfl; omega))
        clear hrel hx hc
        go_wp2_with fail
        go_roundg (l.length - (i + 1))
        case measure => omega
        case rel => exact ⟨f, i + 1, rfl, by go_num, by omega, by omega, hR⟩
    · obtain rfl : i = l.length := by omega
      obtain ⟨n, a, c, rfl, a2, c2, W2, hrun, hR⟩ := hrel.out.last hl
      replace hR := Lib.hid hR
      have ex : (⟨l.toArray⟩ : ByteArray).extract f l.length = ⟨(l.drop f).toArray⟩ := by
        rw [ByteArray.extract_mk, List.take_of_length_le (by rw [List.length_drop]; omega)]
      clear hrel
      go_wp2_with (at_builtin; refine wpList_append_go rfl (.tmp 25) (.tmp 29) 45 45 rfl _ _ rfl rfl hrun ?_)
      go_ret
      exact ⟨_, rfl, hR.out.1, hR.out.2⟩
end Go.Proofs.YtoecaonmehbfeaaGreat

/- Match, the document's: by a table. -/
namespace Go.Proofs.YtoecaonmehbfeaaGreat
open Go.RowKit
set_option linter.unusedVariables false
set_option maxRecDepth 100000

theorem uBools0 : Tryz.prog.underlying 91 = some (.slice 4) := by kernel_rfl
theorem infBool0 : (Tryz.prog.info? 4).map (fun i => (i.zero, i.size, i.bytes)) = some (some (.bool false), 1, 1) := by kernel_rfl
/-- A row of so many answers. -/
def rowB (r : Nat → Bool) (m : Nat) : Obj := .cells ((List.range m).map fun i => Value.bool (r i)).toArray 4
/-- .. of which the first k are told. -/
def part (r : Nat → Bool) (k : Nat) : Nat → Bool := fun i => decide (i < k) && r i
theorem rowB_congr {r s : Nat → Bool} {m : Nat} (h : ∀ i, i < m → r i = s i) : rowB r m = rowB s m := by
  unfold rowB
  congr 2
  apply List.map_congr_left
  intro i hi
  rw [h i (List.mem_range.1 hi)]
theorem rowB_set {r s : Nat → Bool} {m k : Nat} {v : Bool} (h : ∀ i, i < m → s i = if i = k then v else r i) : (.cells (((List.range m).map fun i => Value.bool (r i)).toArray.setIfInBounds k (.bool v)) 4 : Obj) = rowB s m := by
  unfold rowB
  congr 1
  rw [List.setIfInBounds_toArray]
  congr 1
  apply List.ext_getElem?
  intro i
  rw [List.getElem?_set]
  by_cases hi : i < m
  · by_cases e : k = i
    · subst e
      simp [hi, h k hi]
    · simp [hi, h i hi, e, Ne.symm e]
  · by_cases e : k = i
    · subst e
      simp [hi]
    · simp [hi, e]
theorem part_next (r : Nat → Bool) (k : Nat) {m : Nat} : ∀ i, i < m → part r (k + 1) i = if i = k then r k else part r k i := by
  intro i _
  unfold part
  by_cases e : i = k
  · subst e; simp
  · rw [if_neg e]
    congr 1
    apply decide_eq_decide.2
    omega
theorem part_all (r : Nat → Bool) (m : Nat) : rowB (part r m) m = rowB r m := rowB_congr fun i hi => by simp [part, hi]
theorem mk_row10 (w : World) (n : Nat) (h1 : n ≤ 1073741824) :
    (Instr.makeSlice 91 (.int .i64 ((n : Int) + 1)) (.int .i64 ((n : Int) + 1))).run Tryz.prog w = .ok (.slice (some ⟨w.heap.size, 0, none⟩) (n + 1) (n + 1)) (w.alloc (rowB (fun _ => false) (n + 1))) := by
  obtain ⟨i0, hi, hz0, hz1, hz2⟩ := info_parts infBool0
  have h := run_make (P := Tryz.prog) w 91 4 i0 (.bool false) uBools0 hi hz0 .i64 .i64 ((n + 1 : Nat) : Int) ((n + 1 : Nat) : Int) (by omega) (Int.le_refl _) (by rw [hz2]; omega) (by omega)
  rw [show ((n : Int) + 1) = ((n + 1 : Nat) : Int) by omega, h, Int.toNat_natCast]
  congr 2
  unfold rowB
  congr 1
  apply Array.toList_inj.1
  rw [hz1, Nat.mul_one, show (Value.bool false).cells = #[Value.bool false] from rfl, toList_madeCells_one]
  apply List.ext_getElem?
  intro i
  by_cases hi : i < n + 1 <;> simp [hi]

/-- Both rows. -/
def Rows2 (w wr : World) (b2 b : Nat) (s r : Nat → Bool) (m : Nat) : Prop := St w.heap.size w wr [(b2, rowB s m), (b, rowB r m)]
section
variable {w wr : World} {b2 b m : Nat} {s r : Nat → Bool}
theorem Rows2.cell2 (h : Rows2 w wr b2 b s r m) {i : Nat} (hi : i < m) : wr.cell? ⟨b2, i, none⟩ = some (.bool (s i)) := St.cell (b := b2) h List.mem_cons_self (by simp [hi])
theorem Rows2.cell1 (h : Rows2 w wr b2 b s r m) {i : Nat} (hi : i < m) : wr.cell? ⟨b, i, none⟩ = some (.bool (r i)) := St.cell (b := b) h (List.mem_cons_of_mem _ List.mem_cons_self) (by simp [hi])
theorem Rows2.soft (h : Rows2 w wr b2 b s r m) (i : Nat) : wr.frozen? ⟨b2, i, none⟩ = false := St.soft (b := b2) h List.mem_cons_self i
theorem Rows2.drew (h : Rows2 w wr b2 b s r m) : Rows2 w wr.drew b2 b s r m := St.drew h
theorem Rows2.put (h : Rows2 w wr b2 b s r m) {k : Nat} {v : Bool} {s' : Nat → Bool} (hs : ∀ i, i < m → s' i = if i = k then v else s i) : Rows2 w (wr.setCell ⟨b2, k, none⟩ (.bool v)) b2 b s' r m := by
  have := St.set0 h k (.bool v)
  rw [rowB_set hs] at this
  exact this
end

set_option maxHeartbeats 8000000 in
set_option maxRecDepth 100000 in
theorem rmatch_to {p k : List UInt8} (hp : p.length ≤ 1000000) (hk : k.length ≤ 1000000) (w : World) :
    Calls Tryz.prog 30 #[tx p, tx k] w fun e w' => e = .returned (.bool (gl (wordsL p) (wordsL k))) ∧ Below w.heap.size w w' := by
  have c1 := Lib.hid (rwords_to hp w)
  have c2 := Lib.hid (fun W => rwords_to hk W)
  have lp : (wordsL p).length ≤ 1000001 := by have := words_len p; omega
  have lk : (wordsL k).length ≤ 1000001 := by have := words_len k; omega
  generalize wordsL p = P at *
  generalize wordsL k = K at *
  clear hp hk
  go_enter Tryz.func30, Tryz.ntmps30
  go_wp2_with fail
  refine c1.out.mono ?_
  rintro e w1 ⟨v1, rfl, ⟨a, ca, rfl, r1⟩, hb1⟩
  replace hb1 := Lib.hid hb1
  replace r1 := Lib.hid r1
  go_wp2_with fail
  refine (c2.out _).mono ?_
  rintro e w2 ⟨v2, rfl, ⟨c, cc, rfl, r2⟩, hb⟩
  have hb2 := Lib.hid (bel hb1.out hb)
  replace r1 := Lib.hid (r1.out.below hb)
  replace r2 := Lib.hid r2
  clear hb c1 c2 hb1
  have hmk : ∀ W : World, _ := fun W => mk_row10 W K.length (by omega)
  have h0 : St w2.heap.size w2 (w2.alloc (rowB (fun _ => false) (K.length + 1))) [(w2.heap.size, rowB (fun _ => false) (K.length + 1))] := (St.start w2).alloc _
  have h0f := h0.soft (b := w2.heap.size) (c := _) (T := _) List.mem_cons_self 0
  have h0c : (w2.alloc (rowB (fun _ => false) (K.length + 1))).cell? ⟨w2.heap.size, 0, none⟩ = some (.bool false) := h0.cell (b := w2.heap.size) List.mem_cons_self (by simp)
  have h1 := h0.set0 0 (.bool true)
  rw [rowB_set (s := rowR P K 0) (fun i hi => by
    by_cases e : i = 0 <;> simp [rowR, e])] at h1
  replace h1 := Lib.hid h1
  clear h0
  go_wp2_with fail
  clear h0f h0c
  generalize (w2.alloc (rowB (fun _ => false) (K.length + 1))).setCell ⟨w2.heap.size, 0, none⟩ (.bool true) = w3 at *
  go_loopg [7, 8] P.length (fun g v7 v8 wr => ∃ b i : Nat, v7 = .slice (some ⟨b, 0, none⟩) (K.length + 1) (K.length + 1) ∧ v8 = .int .i64 i ∧ i + g = P.length ∧ Hid (St w2.heap.size w2 wr [(b, rowB (rowR P K i) (K.length + 1))]))
  case atStart => exact ⟨_, 0, rfl, rfl, by omega, h1⟩
  case round =>
    clear h1
    obtain ⟨b, i, rfl, rfl, hi, hst⟩ := hrel
    have hi0 : (0 : Int) ≤ i := by omega
    by_cases hlt : i < P.length
    · have hi1 : (i : Int) < P.length := by omega
      have hx : P[i]? = some P[i] := List.getElem?_eq_getElem hlt
      have hnext : rowR P K (i + 1) = nextR (rowR P K i) P[i] K := by simp [rowR, List.getD_eq_getElem?_getD, hx]
      generalize P[i] = x at hx hnext
      have hR : Rows2 w2 (wr.alloc (rowB (fun _ => false) (K.length + 1))) wr.heap.size b (part (rowR P K (i + 1)) 0) (rowR P K i) (K.length + 1) := by
        have e : rowB (part (rowR P K (i + 1)) 0) (K.length + 1) = rowB (fun _ => false) (K.length + 1) := rowB_congr fun i _ => by simp [part]
        unfold Rows2
        rw [e]
        exact hst.out.alloc _
      replace hR := Lib.hid hR
      have cx : Hid (∀ W, Below w2.heap.size w2 W → ∃ ba offa, a = some ⟨ba, offa, none⟩ ∧ W.cell? ⟨ba, offa + i, none⟩ = some (tx x)) := Lib.hid fun W hb => ((r1.out.below hb).at_ i x hx).2
      replace hnext := Lib.hid hnext
      clear hst hx
      go_wp2_with fail
      generalize wr.heap.size = b2 at *
      generalize wr.alloc (rowB (fun _ => false) (K.length + 1)) = w4 at *
      go_loopg [10] (K.length + 1) (fun g v10 wt => ∃ k : Nat, v10 = .int .i64 k ∧ k + g = K.length + 1 ∧ Hid (Rows2 w2 wt b2 b (part (rowR P K (i + 1)) k) (rowR P K i) (K.length + 1)))
      case atStart => exact ⟨0, rfl, by omega, hR⟩
      case round =>
        clear hR
        obtain ⟨k, rfl, hk, hR⟩ := hrel
        have hk0 : (0 : Int) ≤ k := by omega
        by_cases hkn : k ≤ K.length
        · have hk1 : (k : Int) ≤ K.length := by omega
          obtain ⟨ba, offa, rfl, hcx⟩ := cx.out wr hR.out.below
          have hsf := hR.out.soft k
          have put : Hid (∀ v, rowR P K (i + 1) k = v → Rows2 w2 (wr.setCell ⟨b2, k, none⟩ (.bool v)) b2 b (part (rowR P K (i + 1)) (k + 1)) (rowR P K i) (K.length + 1)) := Lib.hid fun v hv => hR.out.put (fun i hi => by rw [← hv]; exact part_next _ _ i hi)
          have hc2 : wr.cell? ⟨b2, k, none⟩ = some (.bool false) := by
            have := hR.out.cell2 (i := k) (by omega)
            rwa [part, decide_eq_false (Nat.lt_irrefl k), Bool.false_and] at this
          by_cases hh : x = [35]
          · subst hh
            have hs := hnext.out
            rw [show nextR (rowR P K i) [35] K = hashR (rowR P K i) from if_pos rfl] at hs
            have hc1 := hR.out.cell1 (i := k) (by omega)
            cases hrk : rowR P K i k with
            | true =>
              have hv := Lib.hid (put.out true (by
                rw [hs]
                cases k with
                | zero => exact hrk
                | succ k => rw [hashR, hrk, Bool.true_or]))
              rw [hrk] at hc1
              clear put hs hrk hR
              go_wp2_with fail
              go_roundg (K.length + 1 - (k + 1))
              case measure => omega
              case rel => exact ⟨k + 1, by go_num, by omega, hv⟩
            | false =>
              cases k with
              | zero =>
                have hv := Lib.hid (put.out false (by rw [hs]; exact hrk))
                rw [hrk] at hc1
                clear put hs hrk hR
                go_wp2_with fail
                go_roundg (K.length + 1 - (0 + 1))
                case measure => omega
                case rel => exact ⟨0 + 1, by go_num, by omega, hv⟩
              | succ k =>
                have hv := Lib.hid (put.out (rowR P K (i + 1) k) (by rw [hs, hashR, hrk, Bool.false_or]))
                have hc3 := hR.out.cell2 (i := k) (by omega)
                rw [part, decide_eq_true (show k < k + 1 by omega), Bool.true_and] at hc3
                rw [hrk] at hc1
                have hkk : (0 : Int) ≤ k := by omega
                have hkp : (0 : Int) < ((k + 1 : Nat) : Int) := by omega
                have hke : ((k + 1 : Nat) : Int) - 1 = k := by omega
                clear put hs hrk hR
                go_wp2_with fail
                go_roundg (K.length + 1 - (k + 1 + 1))
                case measure => omega
                case rel => exact ⟨k + 1 + 1, by go_num, by omega, hv⟩
          · have hs := hnext.out
            rw [show nextR (rowR P K i) x K = oneR (rowR P K i) x K from if_neg hh] at hs
            have hhB : (x == [35]) = false := by simpa using hh
            cases k with
            | zero =>
              have hv := Lib.hid (put.out false (by rw [hs]; rfl))
              clear put hs hR
              go_wp2_with fail
              go_region
              replace hv := Lib.hid (Rows2.drew hv.out)
              go_wp2_with fail
              go_roundg (K.length + 1 - (0 + 1))
              case measure => omega
              case rel => exact ⟨0 + 1, by go_num, by omega, hv⟩
            | succ k =>
              replace hs : rowR P K (i + 1) (k + 1) = (rowR P K i k && stands x (K.getD k [])) := congrFun hs (k + 1)
              have hc1 := hR.out.cell1 (i := k) (by omega)
              have hkk : (0 : Int) ≤ k := by omega
              have hkp : (0 : Int) < ((k + 1 : Nat) : Int) := by omega
              have hke : ((k + 1 : Nat) : Int) - 1 = k := by omega
              have hy : K[k]? = some K[k] := List.getElem?_eq_getElem (by omega)
              have hyd : K.getD k [] = K[k] := by simp [List.getD_eq_getElem?_getD, hy]
              rw [hyd] at hs
              generalize K[k] = y at hy hs
              obtain ⟨-, bc, offc, rfl, hcy⟩ := (r2.out.below hR.out.below).at_ k y hy
              cases hrk : rowR P K i k with
              | false =>
                have hv := Lib.hid (put.out false (by rw [hs, hrk, Bool.false_and]))
                rw [hrk] at hc1
                clear put hs hR hrk hy hyd hcy
                go_wp2_with fail
                go_region
                replace hv := Lib.hid (Rows2.drew hv.out)
                go_wp2_with fail
                go_roundg (K.length + 1 - (k + 1 + 1))
                case measure => omega
                case rel => exact ⟨k + 1 + 1, by go_num, by omega, hv⟩
              | true =>
                rw [hrk, Bool.true_and] at hs
                rw [hrk] at hc1
                by_cases hx42 : x = [42]
                · have hx42B : (x == [42]) = true := by simpa using hx42
                  have hv := Lib.hid (put.out true (by rw [hs, stands, hx42B, Bool.true_or]))
                  clear put hs hR hrk hy hyd
                  go_wp2_with fail
                  go_region
                  replace hv := Lib.hid (Rows2.drew hv.out)
                  go_wp2_with fail
                  go_roundg (K.length + 1 - (k + 1 + 1))
                  case measure => omega
                  case rel => exact ⟨k + 1 + 1, by go_num, by omega, hv⟩
                · have hx42B : (x == [42]) = false := by simpa using hx42
                  have hv := Lib.hid (put.out (x == y) (by rw [hs, stands, hx42B, Bool.false_or]))
                  clear put hs hR hrk hy hyd
                  go_wp2_with fail
                  go_region
                  all_goals
                    replace hv := Lib.hid (Rows2.drew hv.out)
                    go_wp2_with fail
                    go_roundg (K.length + 1 - (k + 1 + 1))
                    case measure => omega
                    case rel => exact ⟨k + 1 + 1, by go_num, by omega, hv⟩
        · obtain rfl : k = K.length + 1 := by omega
          have hst : St w2.heap.size w2 wr [(b2, rowB (rowR P K (i + 1)) (K.length + 1))] := by
            have h2 := hR.out
            unfold Rows2 at h2
            rw [part_all] at h2
            exact h2.sub (List.Sublist.cons_cons _ (List.nil_sublist _))
          replace hst := Lib.hid hst
          clear hR cx hnext
          go_wp2_with fail
          go_roundg (P.length - (i + 1))
          case measure => omega
          case rel => exact ⟨b2, i + 1, rfl, by go_num, by omega, hst⟩
    · obtain rfl : i = P.length := by omega
      have hc := hst.out.cell (b := b) List.mem_cons_self (i := K.length) (v := .bool (gl P K)) (by simp [row_last])
      have hb := Lib.hid (bel hb2.out hst.out.below)
      clear hst
      go_wp2_with fail
      go_ret
      exact ⟨rfl, hb.out⟩
end Go.Proofs.YtoecaonmehbfeaaGreat

/- Names, keys; SameTexts. -/
namespace Go.Proofs.YtoecaonmehbfeaaGreat
open Go.RowKit
set_option linter.unusedVariables false

theorem inname_any (c : UInt8) (w : World) : Calls Tryz.prog 64 #[.int .u8 c.toNat] w fun e w' => e = .returned (.bool (inNm c)) ∧ w' = w := by
  unfold inNm
  generalize c.toNat = n at *
  go_enter Tryz.func64, Tryz.ntmps64
  go_wp2_with fail
  all_goals
    go_ret
    refine ⟨ret_bool ?_, rfl⟩
    apply Bool.eq_iff_iff.2
    simp only [Bool.or_eq_true, Bool.and_eq_true, decide_eq_true_eq, beq_iff_eq]
    constructor
    all_goals
      intro _
      first | trivial | omega

theorem inNm_iff (c : UInt8) : inNm c = true ↔ (97 ≤ c.toNat ∧ c.toNat ≤ 122) ∨ (65 ≤ c.toNat ∧ c.toNat ≤ 90) ∨ (48 ≤ c.toNat ∧ c.toNat ≤ 57) ∨ c.toNat = 45 := by
  unfold inNm
  simp only [Bool.or_eq_true, decide_eq_true_eq, or_assoc]
theorem all_take {l : List UInt8} {i : Nat} {c : UInt8} (h : (l.take i).all inNm = true) (hc : l[i]? = some c) : (l.take (i + 1)).all inNm = inNm c := by
  rw [List.take_add_one, hc, List.all_append, h]
  simp
theorem isNm_bad {l : List UInt8} {i : Nat} {c : UInt8} (hc : l[i]? = some c) (h : inNm c = false) : isNm l = false := by
  have : l.all inNm = false := by
    apply Bool.eq_false_iff.2
    intro ha
    rw [List.all_eq_true] at ha
    rw [ha c (List.mem_of_getElem? hc)] at h
    cases h
  rw [isNm, this, Bool.and_false]

/-- What holds at IsName's label. -/
def NameAt (w : World) (l : List UInt8) (g : Nat) (a' : Act) (w' : World) : Prop := ∃ i : Nat, i + g = l.length ∧ 0 < l.length ∧ l.length ≤ 12 ∧ (l.take i).all inNm = true ∧ Fr 22 [(0, tx l), (3, .int .i64 i)] a' ∧ w' = w

set_option maxHeartbeats 1000000 in
theorem isname_any (l : List UInt8) (w : World) : Calls Tryz.prog 32 #[tx l] w fun e w' => e = .returned (.bool (isNm l)) ∧ w' = w := by
  have hIn := Lib.hid (fun c => inname_any c w)
  go_enter Tryz.func32, Tryz.ntmps32
  go_wp2_with fail
  refine wp_scope_ghost 0 (NameAt w l) rfl ?_ ?_
  · rintro g a' w' ⟨i, hi, hl0, hl12, ha, hfr, rfl⟩
    obtain ⟨q, rfl, hl'⟩ := hfr.lit
    clear hfr
    simp only [List.mem_cons, List.not_mem_nil, or_false, forall_eq_or_imp, forall_eq] at hl'
    obtain ⟨f0, f3⟩ := hl'
    simp only [List.range, List.range.loop, List.map, f0, f3]
    clear f0 f3
    have hi0 : (0 : Int) ≤ i := by omega
    by_cases hlt : i < l.length
    · have hx : l[i]? = some l[i] := List.getElem?_eq_getElem hlt
      have hi1 : (i : Int) < l.length := by omega
      have hne : ((i : Int) == l.length) = false := by rw [beq_eq_false_iff_ne]; omega
      have c1 := Lib.hid (hIn.out l[i])
      clear hIn
      have hg : (((⟨l.toArray⟩ : ByteArray)[i]'(show i < l.length from hlt)).toNat : Int) = (l[i].toNat : Int) := rfl
      cases hb : inNm l[i] with
      | true =>
        rw [hb] at c1
        have ha2 := all_take ha hx
        rw [hb] at ha2
        replace ha2 := Lib.hid ha2
        clear ha hx hb
        go_wp2_with fail
        refine c1.out.mono ?_
        rintro e w1 ⟨rfl, rfl⟩
        go_wp2_with fail
        refine wp_goto ?_
        refine ⟨rfl, g - 1, by omega, i + 1, by omega, hl0, hl12, ha2.out, ⟨rfl, rfl, ?_⟩, rfl⟩
        simp
      | false =>
        rw [hb] at c1
        have hf := isNm_bad hx hb
        replace hf := Lib.hid hf
        clear ha hx hb
        go_wp2_with fail
        refine c1.out.mono ?_
        rintro e w1 ⟨rfl, rfl⟩
        go_wp2_with fail
        simp only [Exit.jump]
        go_ret
        exact ⟨ret_bool hf.out.symm, rfl⟩
    · obtain rfl : i = l.length := by omega
      rw [List.take_of_length_le (Nat.le_refl _)] at ha
      have hf : isNm l = true := by rw [isNm, ha, decide_eq_true (show 1 ≤ l.length by omega), decide_eq_true hl12]; rfl
      clear hIn
      go_wp2_with fail
      simp only [Exit.jump]
      go_ret
      exact ⟨ret_bool hf.symm, rfl⟩
  · intro H
    by_cases h0 : l = []
    · subst h0
      clear H
      go_wp2_with fail
      simp only [Exit.jump]
      go_ret
      exact ⟨rfl, rfl⟩
    · have hpos : 0 < l.length := List.length_pos_iff.2 h0
      have h0B : (l == []) = false := by simpa using h0
      have h0C : l.isEmpty = false := by simpa using h0
      by_cases h12 : 12 < l.length
      · have h12' : (12 : Int) < l.length := by omega
        have hf : isNm l = false := by rw [isNm, decide_eq_false (show ¬ l.length ≤ 12 by omega), Bool.and_false, Bool.false_and]
        clear H
        go_wp2_with fail
        simp only [Exit.jump]
        go_ret
        exact ⟨ret_bool hf.symm, rfl⟩
      · have h12' : ¬ (12 : Int) < l.length := by omega
        go_wp2_with fail
        refine wp_label ?_
        go_step
        go_step
        exact H l.length _ _ ⟨0, by omega, by omega, by omega, by simp, ⟨rfl, rfl, by simp⟩, rfl⟩

set_option maxHeartbeats 1000000 in
theorem risname_any (l : List UInt8) (hl : l.length ≤ maxLen) (w : World) : Calls Tryz.prog 37 #[tx l] w fun e w' => e = .returned (.bool (isNm l)) ∧ w' = w := by
  unfold maxLen at hl
  go_enter Tryz.func37, Tryz.ntmps37
  go_wp2_with fail
  go_loopg [3] l.length (fun g v3 wr => ∃ i : Nat, v3 = .int .i64 i ∧ i + g = l.length ∧ Hid ((l.take i).all inNm = true) ∧ wr = w)
  case atStart => exact ⟨0, rfl, by omega, Lib.hid (by simp), rfl⟩
  case round =>
    obtain ⟨i, rfl, hi, ha, rfl⟩ := hrel
    have hi0 : (0 : Int) ≤ i := by omega
    by_cases hlt : i < l.length
    · have hx : l[i]? = some l[i] := List.getElem?_eq_getElem hlt
      have hi1 : (i : Int) < l.length := by omega
      have ha2 := Lib.hid (all_take ha.out hx)
      have hbad := Lib.hid (isNm_bad hx)
      clear ha hx
      have hif := inNm_iff l[i]
      have hcN : ((⟨l.toArray⟩ : ByteArray)[i]'(show i < l.length from hlt)) = l[i] := rfl
      have hint : ((l[i].toNat : Int) < 45 ∨ (45 < (l[i].toNat : Int) ∧ (l[i].toNat : Int) < 48) ∨ (57 < (l[i].toNat : Int) ∧ (l[i].toNat : Int) < 65) ∨ (90 < (l[i].toNat : Int) ∧ (l[i].toNat : Int) < 97) ∨ 122 < (l[i].toNat : Int)) ∨
          ((l[i].toNat : Int) = 45 ∨ (48 ≤ (l[i].toNat : Int) ∧ (l[i].toNat : Int) ≤ 57) ∨ (65 ≤ (l[i].toNat : Int) ∧ (l[i].toNat : Int) ≤ 90) ∨ (97 ≤ (l[i].toNat : Int) ∧ (l[i].toNat : Int) ≤ 122)) := by omega
      rcases hint with h | h
      · have hf := hbad.out (by
          cases hb : inNm l[i] with
          | false => rfl
          | true =>
            have := hif.1 hb
            omega)
        have hne : (((l[i].toNat : Nat) : Int) != 45) = true := by
          rw [bne_iff_ne]
          omega
        replace hf := Lib.hid hf
        clear hif ha2 hbad
        rcases h with h | ⟨h, h'⟩ | ⟨h, h'⟩ | ⟨h, h'⟩ | h
        all_goals
          go_wp2_with fail
          go_ret
          exact ⟨ret_bool hf.out.symm, rfl⟩
      · rw [hif.2 (by omega)] at ha2
        clear hif hbad
        rcases h with h | ⟨h, h'⟩ | ⟨h, h'⟩ | ⟨h, h'⟩
        · have hne : (((l[i].toNat : Nat) : Int) != 45) = false := by
            rw [bne_eq_false_iff_eq]
            exact h
          go_wp2_with fail
          go_roundg (l.length - (i + 1))
          case measure => omega
          case rel => exact ⟨i + 1, by go_num, by omega, ha2, rfl⟩
        all_goals
          go_wp2_with fail
          go_roundg (l.length - (i + 1))
          case measure => omega
          case rel => exact ⟨i + 1, by go_num, by omega, ha2, rfl⟩
    · obtain rfl : i = l.length := by omega
      have ha2 := ha.out
      rw [List.take_of_length_le (Nat.le_refl _)] at ha2
      have hf : isNm l = (decide ((1 : Int) ≤ l.length) && decide ((l.length : Int) ≤ 12)) := by
        rw [isNm, ha2, Bool.and_true]
        congr 1
        · apply decide_eq_decide.2; omega
        · apply decide_eq_decide.2; omega
      replace hf := Lib.hid hf
      clear ha ha2
      go_wp2_with fail
      all_goals
        go_ret
        refine ⟨ret_bool ?_, rfl⟩
        rw [hf.out]
        first
          | (rw [decide_eq_true (show (1 : Int) ≤ l.length by omega), Bool.true_and]; done)
          | (rw [decide_eq_false (show ¬ (1 : Int) ≤ l.length by omega), Bool.false_and])
theorem iskey_any (l : List UInt8) (w : World) : Calls Tryz.prog 43 #[tx l] w fun e w' => e = .returned (.bool (decide (l.length ≤ 40))) ∧ w' = w := by
  go_enter Tryz.func43, Tryz.ntmps43
  go_wp2_with fail
  go_ret
  exact ⟨ret_bool (decide_eq_decide.2 (by omega)), rfl⟩
theorem riskey_any (l : List UInt8) (w : World) : Calls Tryz.prog 46 #[tx l] w fun e w' => e = .returned (.bool (decide (l.length ≤ 40))) ∧ w' = w := by
  go_enter Tryz.func46, Tryz.ntmps46
  go_wp2_with fail
  go_ret
  exact ⟨ret_bool (decide_eq_decide.2 (by omega)), rfl⟩

end Go.Proofs.YtoecaonmehbfeaaGreat

/- Exchanges: Declare, Delete. -/
namespace Go.Proofs.YtoecaonmehbfeaaGreat
open Go.RowKit
set_option linter.unusedVariables false
set_option maxRecDepth 100000

section
variable {B : Nat} {w0 w w' : World} {F T R Q S : List (Nat × Obj)} {tb xb c c' pb : Nat} {M : Prs} {L X Y : List Pl} {p p' : Pl} {k : Ky} {A rows : List Bnd} {P : List Plc} {v tv u : Value} {n : List UInt8} {keys : List (List UInt8)} {q : Bnd → Bool}

theorem pl_append {l : List Value} {X' : List (Nat × Obj)} (hs : SlIs 63 1 v l.length l R) (hst : St B w0 w (X' ++ R)) (b : Nat) (hl : l.length ≤ 100000) :
    ∃ a cap W2 F2, (Builtin.append_ #[59, 59] 0 #[v, .slice (some ⟨w.heap.size, 0, none⟩) 1 1]).run Tryz.prog (w.alloc (.cells #[bpt b] 63)) = .ok (.slice a (l.length + 1) cap) W2 ∧
      SlIs 63 1 (.slice a (l.length + 1) cap) (l ++ [bpt b]).length (l ++ [bpt b]) F2 ∧ St B w0 W2 (X' ++ F2) := by
  obtain ⟨i0, hi0, hz0, hz1, hz2⟩ := info_parts infPls
  have hrd := Reads.one w (bpt b) 63
  obtain ⟨v2, W2, F2, hr, hs2, hst2⟩ := run_append_sl (P := Tryz.prog) 59 0 63 i0 _ 1 8 uPls hi0 hz0 hz1 hz2 rfl hs (A := (w.heap.size, .cells #[bpt b] 63) :: X') (hst.alloc _) hrd
    (by intro u hu; rw [List.mem_singleton] at hu; subst hu; rfl) (by unfold maxLen; omega) (by omega)
  obtain ⟨a, cap, rfl, -⟩ := hs2.form
  refine ⟨a, cap, W2, F2, hr, ?_, hst2.sub (List.sublist_cons_self _ _)⟩
  rw [List.length_append, List.length_singleton]
  exact hs2

/-- Behind Declare. -/
def DecR (B : Nat) (w0 : World) (xb : Nat) (P : List Plc) (A : List Bnd) (F : List (Nat × Obj)) (c : Nat) (z : Int) (e : Ending) (w' : World) : Prop := e = .returned (.int .i64 z) ∧ ExIs B w0 w' xb P A F c

set_option maxHeartbeats 4000000 in
theorem xdeclare_any (h : ExIs B w0 w xb P A F c) (hc : 1 ≤ c) (n : List UInt8) (kd bt : Int) :
    Calls Tryz.prog 8 #[bpt xb, tx n, .int .i64 kd, .int .i64 bt] w (DecR B w0 xb (declX P n kd (autoB bt)).1 A F c (declX P n kd (autoB bt)).2) := by
  have hall := Lib.hid h
  obtain ⟨L, v, tv, R, Q, rfl, h, hst⟩ := h
  have fd := h.fine.decl n kd (autoB bt)
  have few := h.fine.few
  rw [List.length_map] at few
  have c1 := Lib.hid (xfind_any h hst n)
  have cn := Lib.hid (fun w => isname_any n w)
  have ck := Lib.hid (fun w => iskind_any kd w)
  by_cases hn : n = []
  · have e : declX (L.map Pl.d) n kd (autoB bt) = (L.map Pl.d, 403) := by rw [declX, if_pos hn]
    rw [e]
    subst hn
    clear h hst fd e cn ck c1
    go_enter Tryz.func8, Tryz.ntmps8
    go_wp2_with fail
    go_ret
    exact ⟨rfl, hall.out⟩
  have h0B : (n == []) = false := by simpa using hn
  have h0C : n.isEmpty = false := by simpa using hn
  unfold ptrF at c1
  by_cases hbad : isNm n = false ∨ ¬ (1 ≤ kd ∧ kd ≤ 3)
  · have e : declX (L.map Pl.d) n kd (autoB bt) = (L.map Pl.d, 406) := by rw [declX, if_neg hn, if_pos hbad]
    rw [e]
    cases hf : isNm n with
    | false =>
      rw [hf] at cn
      generalize Option.map (fun p : Pl => (⟨p.b, 0, none⟩ : Addr)) (findL L n) = pv at *
      clear h hst fd e hbad hf hn
      go_enter Tryz.func8, Tryz.ntmps8
      go_wp2_with fail
      refine c1.out.mono ?_
      rintro e w1 ⟨rfl, rfl⟩
      go_wp2_with fail
      refine (cn.out _).mono ?_
      rintro e w1 ⟨rfl, rfl⟩
      go_wp2_with fail
      go_ret
      exact ⟨rfl, hall.out⟩
    | true =>
      have hk : ¬ (1 ≤ kd ∧ kd ≤ 3) := hbad.resolve_left (by rw [hf]; decide)
      rw [hf] at cn
      rw [decide_eq_false hk] at ck
      generalize Option.map (fun p : Pl => (⟨p.b, 0, none⟩ : Addr)) (findL L n) = pv at *
      clear h hst fd e hbad hf hn hk
      go_enter Tryz.func8, Tryz.ntmps8
      go_wp2_with fail
      refine c1.out.mono ?_
      rintro e w1 ⟨rfl, rfl⟩
      go_wp2_with fail
      refine (cn.out _).mono ?_
      rintro e w1 ⟨rfl, rfl⟩
      go_wp2_with fail
      refine (ck.out _).mono ?_
      rintro e w1 ⟨rfl, rfl⟩
      go_wp2_with fail
      go_ret
      exact ⟨rfl, hall.out⟩
  have hbad' := hbad
  simp only [not_or, Bool.not_eq_false, Decidable.not_not] at hbad'
  obtain ⟨hf, hk⟩ := hbad'
  rw [hf] at cn
  rw [decide_eq_true hk] at ck
  cases hp : findL L n with
  | some p =>
    rw [hp] at c1
    simp only [Option.map_some] at c1
    obtain ⟨hm, -⟩ := findL_mem hp
    obtain ⟨-, p1, p2, -⟩ := hst.place hm
    have ci := Lib.hid (is_any p1 p2 kd bt)
    have grow := Lib.hid (fun w1 hb => (⟨L, v, tv, R, Q, rfl, h, hst.grow (w' := w1) hb⟩ : ExIs B w0 w1 xb (L.map Pl.d) A F c))
    have e : declX (L.map Pl.d) n kd (autoB bt) = if p.d.2.1 = kd ∧ p.d.2.2 = autoB bt then (L.map Pl.d, 0) else (L.map Pl.d, 406) := by
      rw [declX, if_neg hn, if_neg hbad, findL_d, hp]
      rfl
    by_cases hsame : p.d.2.1 = kd ∧ p.d.2.2 = autoB bt
    · rw [if_pos hsame] at e
      rw [e]
      rw [hsame.1, hsame.2, beq_self_eq_true, beq_self_eq_true, Bool.true_and] at ci
      generalize p.b = pb at *
      clear h hst fd e hbad hf hk hn hp hsame p1 p2
      go_enter Tryz.func8, Tryz.ntmps8
      go_wp2_with fail
      refine c1.out.mono ?_
      rintro e w1 ⟨rfl, rfl⟩
      go_wp2_with fail
      refine (cn.out _).mono ?_
      rintro e w1 ⟨rfl, rfl⟩
      go_wp2_with fail
      refine (ck.out _).mono ?_
      rintro e w1 ⟨rfl, rfl⟩
      go_wp2_with fail
      refine ci.out.mono ?_
      rintro e w2 ⟨rfl, hb⟩
      replace grow := Lib.hid (grow.out _ hb)
      clear hb
      go_wp2_with fail
      go_ret
      exact ⟨rfl, grow.out⟩
    · rw [if_neg hsame] at e
      rw [e]
      have hs : (p.d.2.1 == kd && p.d.2.2 == autoB bt) = false := by
        rw [Bool.and_eq_false_iff]
        by_cases h1 : p.d.2.1 = kd
        · exact .inr (by simpa using fun h2 => hsame ⟨h1, h2⟩)
        · exact .inl (by simpa using h1)
      rw [hs] at ci
      generalize p.b = pb at *
      clear h hst fd e hbad hf hk hn hp hsame p1 p2 hs
      go_enter Tryz.func8, Tryz.ntmps8
      go_wp2_with fail
      refine c1.out.mono ?_
      rintro e w1 ⟨rfl, rfl⟩
      go_wp2_with fail
      refine (cn.out _).mono ?_
      rintro e w1 ⟨rfl, rfl⟩
      go_wp2_with fail
      refine (ck.out _).mono ?_
      rintro e w1 ⟨rfl, rfl⟩
      go_wp2_with fail
      refine ci.out.mono ?_
      rintro e w2 ⟨rfl, hb⟩
      replace grow := Lib.hid (grow.out _ hb)
      clear hb
      go_wp2_with fail
      go_ret
      exact ⟨rfl, grow.out⟩
  | none =>
    rw [hp] at c1
    simp only [Option.map_none] at c1
    obtain ⟨x0, -, -, -⟩ := hst.ex
    obtain ⟨a, cap, ev, -⟩ := h.form hst
    have e : declX (L.map Pl.d) n kd (autoB bt) = if 8 ≤ L.length then (L.map Pl.d, 506) else (L.map Pl.d ++ [(n, kd, autoB bt)], 0) := by
      rw [declX, if_neg hn, if_neg hbad, findL_d, hp, List.length_map]
      rfl
    by_cases hfull : 8 ≤ L.length
    · rw [if_pos hfull] at e
      rw [e]
      have hfI : (8 : Int) ≤ L.length := by omega
      subst ev
      clear h hst fd e hbad hf hk hn hp
      go_enter Tryz.func8, Tryz.ntmps8
      go_wp2_with fail
      refine c1.out.mono ?_
      rintro e w1 ⟨rfl, rfl⟩
      go_wp2_with fail
      refine (cn.out _).mono ?_
      rintro e w1 ⟨rfl, rfl⟩
      go_wp2_with fail
      refine (ck.out _).mono ?_
      rintro e w1 ⟨rfl, rfl⟩
      go_wp2_with fail
      go_ret
      exact ⟨rfl, hall.out⟩
    · rw [if_neg hfull] at e
      rw [e] at fd ⊢
      have hfI : ¬ (8 : Int) ≤ L.length := by omega
      have hof : ofB A n = [] := ofB_none h.fine (by rw [findL_d, hp]; rfl)
      have cnp : Hid (∀ w1, St B w0 w1 (exO xb v tv L R Q ++ F) → Calls Tryz.prog 35 #[tx n, .int .i64 kd, .int .i64 bt] w1 fun e w' => ∃ pb, e = .returned (bpt pb) ∧ w'.cell? ⟨xb, 0, none⟩ = some v ∧
          ∃ a2 cap2 W3, (Builtin.append_ #[59, 59] 0 #[v, .slice (some ⟨w'.heap.size, 0, none⟩) 1 1]).run Tryz.prog (w'.alloc (.cells #[bpt pb] 63)) = .ok (.slice a2 (L.length + 1) cap2) W3 ∧
          (W3.cell? ⟨xb, 0, none⟩ = some v ∧ W3.frozen? ⟨xb, 0, none⟩ = false) ∧ ExIs B w0 (W3.setCell ⟨xb, 0, none⟩ (.slice a2 (L.length + 1) cap2)) xb (L.map Pl.d ++ [(n, kd, autoB bt)]) A F c) := Lib.hid fun w1 h1 => by
        refine (newplace_any h1 n (by have := (isNm_len hf).2; omega) kd bt).mono ?_
        rintro e w' ⟨np, rfl, hnp, h2⟩
        have h3 : St B w0 w' (exO xb v tv L R Q ++ (np.objs ++ F)) := h2.perm (by
          refine perm_by fun a => ?_
          simp only [List.count_append]
          omega)
        obtain ⟨a2, cap2, W3, R2, hrun, hs2, hst2⟩ := pl_append (l := L.map fun p => bpt p.b) (by rw [List.length_map]; exact h.sl) (h3.perm (exO_row R)) np.b (by rw [List.length_map]; omega)
        rw [List.length_map] at hrun hs2
        have h4 := hst2.perm (exO_row R2).symm
        refine ⟨np.b, rfl, h3.ex.1, a2, cap2, W3, hrun, ⟨h4.ex.1, h4.ex.2.2.1⟩, L ++ [np], .slice a2 (L.length + 1) cap2, tv, R2, Q, by rw [List.map_append, List.map_cons, List.map_nil, hnp.dat], ⟨?_, ?_, h.tab, ?_⟩, (h4.exSet0 (.slice a2 (L.length + 1) cap2)).perm ?_⟩
        · rw [List.map_append, List.map_cons, List.map_nil, hnp.dat]
          exact fd
        · rw [List.map_append, List.map_cons, List.map_nil, List.length_append, List.length_singleton]
          rw [List.length_append, List.length_singleton, List.length_map] at hs2
          exact hs2
        · intro p' hp'
          rcases List.mem_append.1 hp' with h' | h'
          · exact h.pls p' h'
          · rw [List.mem_singleton] at h'
            subst h'
            refine ⟨by rw [hnp.dat]; exact hnp.has, fun k hk' => ?_⟩
            unfold keysOf
            rw [hnp.dat]
            show KyOk k ((ofB A n).map _) c
            rw [hof]
            exact (hnp.ky k hk').mono hc
        · unfold exO
          rw [plsO_append]
          have e2 : plsO [np] = np.objs := by simp [plsO]
          rw [e2]
          refine List.Perm.of_eq ?_
          simp only [List.append_assoc, List.cons_append]
      have hd : St B w0 w.drew (exO xb v tv L R Q ++ F) := hst.drew
      replace cnp := Lib.hid (cnp.out _ hd)
      subst ev
      clear h hst fd e hbad hf hk hn hp hd hall hof
      go_enter Tryz.func8, Tryz.ntmps8
      go_wp2_with fail
      refine c1.out.mono ?_
      rintro e w1 ⟨rfl, rfl⟩
      go_wp2_with fail
      refine (cn.out _).mono ?_
      rintro e w1 ⟨rfl, rfl⟩
      go_wp2_with fail
      refine (ck.out _).mono ?_
      rintro e w1 ⟨rfl, rfl⟩
      clear cn ck c1
      go_wp2_with fail
      go_region_law (first
        | (refine step_append_go rfl (.tmp 48) (.tmp 53) 59 59 rfl _ _ rfl rfl hrun ?_)
        | (go_simp; go_at_call 35; refine cnp.out.mono ?_; rintro e w3 ⟨pb, rfl, x3, a2, cap2, W3, hrun, ⟨y0, y1⟩, fin⟩; have x4 := cellOn (c := (xb, 0)) x3 (new_below w3 (.cells #[bpt pb] 63)); replace fin := Lib.hid fin))
      all_goals
        go_wp2_with fail
        go_ret
        exact ⟨rfl, fin.out⟩
end
end Go.Proofs.YtoecaonmehbfeaaGreat
