/- Walks over a tree, in memory: what a walk knows; passed. -/
import Derived.Test.YtbfelfejelkdpaaTrQ
import Derived.Test.YtbfelfejelkdpaaTrH
import Derived.Test.YtbfelfejelkdpaaSl
import Derived.LaidEqlPtr
import Derived.Deep.DeepCutAuto
import Derived.Deep.CutBlock
namespace Go.Proofs.Ytbfelfejelkdpaa
open Go.RowKit
open Go.ChangeMaps (setBlock)
set_option linter.unusedVariables false
set_option linter.unusedSectionVars false
set_option linter.unusedSimpArgs false
set_option maxRecDepth 100000

/-! ### a map keyed by nodes -/
def okP (w : World) (b : Nat) : Prop := ∃ c T, w.heap[b]? = some (.cells c T (0, 0))
theorem uPNode : Try.prog.underlying 41 = some (.pointer 49) := by kernel_rfl
theorem infNode : (Try.prog.info? 49).map (fun i => i.size) = some 6 := by kernel_rfl
theorem uMapK : Try.prog.underlying 57 = some (.map 41 3) := by kernel_rfl
theorem zInt12 (w : World) : (zeroValue 3).run Try.prog w = .ok (.int .i64 0) w := Try.zeroValue3 w
theorem equal_np {w : World} {a b : Nat} (ha : okP w a) (hb : okP w b) : (Op.equal 41 (np a) (np b)).run Try.prog w = .ok (decide (b = a)) w := by
  obtain ⟨j, hj, hsz⟩ : ∃ j, Try.prog.info? 49 = some j ∧ j.size ≠ 0 := by
    have h := infNode
    cases hi : Try.prog.info? 49 with
    | none => rw [hi] at h; cases h
    | some j =>
      rw [hi] at h
      have : j.size = 6 := by simpa using h
      exact ⟨j, rfl, by omega⟩
  by_cases e : b = a
  · subst e
    have h : ∀ d : Nat, (Op.equalIn (d + 1) 41 (np b) (np b)).run Try.prog w = .ok true w := fun d => by
      simp [Op.equalIn, run_underlying uPNode, sizeOf, typeInfo, hj, run_sameAddr_same]
    simp [Op.equal, Op.maxDepth, h 9999]
  · obtain ⟨ca, ta, ha⟩ := ha
    obtain ⟨cb, tb, hb⟩ := hb
    have hne : (⟨a, 0, none⟩ : Addr) ≠ ⟨b, 0, none⟩ := fun h => e (congrArg Addr.block h).symm
    have h : ∀ d : Nat, (Op.equalIn (d + 1) 41 (np a) (np b)).run Try.prog w = .ok false w := fun d => by
      simp [Op.equalIn, run_underlying uPNode, sizeOf, typeInfo, hj, hsz, run_sameAddr_other w hne ha hb]
    simp [Op.equal, Op.maxDepth, h 9999, e]
theorem asking {w : World} {k : Nat} (hk : okP w k) : ∀ (l : List (Ent Nat)) (i : Nat), (∀ x ∈ l, okP w x.1) → (Instr.findAsking 41 (np k) (l.map (entE np)) i).run Try.prog w = .ok (spot l k i) w
  | [], i, _ => rfl
  | x :: l, i, h => by
    have he := equal_np hk (h x (by simp))
    simp only [List.map_cons, Instr.findAsking, entE]
    simp only [Sem.run_bind, he, Result.andThen]
    by_cases e : x.1 = k
    · subst e
      rw [spot_hit]
      simp
    · rw [spot_miss e]
      have e2 : decide (x.1 = k) = false := by simpa using e
      simp only [e2]
      exact asking hk l (i + 1) fun y hy => h y (by simp [hy])
theorem keyP : KeyBy Try.prog 41 np okP := by
  refine ⟨fun em n k w => by simp [Instr.checkKey, run_underlying uPNode], fun l k w h1 h2 => ?_, fun k => ?_⟩
  · cases l with
    | nil =>
      simp only [Instr.findKey]
      simp [run_underlying uPNode, Instr.findNow, spot_nil]
    | cons x l =>
      have h := asking h1 (x :: l) 0 h2
      have e : Instr.findNow (.pointer 49) (np k) ((x :: l).map (entE np)) 0 = none := rfl
      simp only [Instr.findKey]
      simp only [Sem.run_bind, run_underlying uPNode, Result.andThen, e]
      exact h
  · have h : Instr.sameBits 10000 (np k) (np k) = ((some ⟨k, 0, none⟩ : Option Addr) == some ⟨k, 0, none⟩) := rfl
    rw [h]
    simp

section
variable {α : Type} [DecidableEq α]
theorem seek_push (l : List (Ent α)) (x : Ent α) (k : α) : seek (l ++ [x]) k = (seek l k).or (if x.1 = k then some x else none) := by
  unfold seek
  rw [List.find?_append]
  congr 1
  by_cases h : x.1 = k <;> simp [h]
theorem putE_hit (l : List (Ent α)) (x : Ent α) (v : Value) : putE (x :: l) x.1 v = (x.1, v, x.2.2) :: l := by
  unfold putE
  simp [List.findIdx?_cons]
theorem putE_miss {l : List (Ent α)} {x : Ent α} {k : α} (h : x.1 ≠ k) (v : Value) : putE (x :: l) k v = x :: putE l k v := by
  have h2 : decide (x.1 = k) = false := by simpa using h
  unfold putE
  simp only [List.findIdx?_cons, h2]
  cases hf : l.findIdx? (fun x => decide (x.1 = k)) with
  | none => simp
  | some j => simp
theorem putE_seek {l : List (Ent α)} {k : α} {e : Ent α} (h : seek l k = some e) (v : Value) (k' : α) : (seek (putE l k v) k').map (·.2.1) = if k' = k then some v else (seek l k').map (·.2.1) := by
  induction l with
  | nil => simp [seek] at h
  | cons x l ih =>
    by_cases hx : x.1 = k
    · subst hx
      rw [putE_hit]
      by_cases e1 : k' = x.1
      · subst e1
        simp [seek]
      · have e2 : ¬ x.1 = k' := fun e => e1 e.symm
        simp [seek, e1, e2]
    · rw [putE_miss hx]
      have h' : seek l k = some e := by
        have h2 : decide (x.1 = k) = false := by simpa using hx
        unfold seek at h ⊢
        rwa [List.find?_cons, h2] at h
      by_cases e1 : x.1 = k'
      · subst e1
        simp [seek, hx]
      · have := ih h'
        unfold seek at this ⊢
        have h2 : decide (x.1 = k') = false := by simpa using e1
        rw [List.find?_cons, List.find?_cons, h2]
        exact this
theorem putE_keys {l : List (Ent α)} {k : α} {v : Value} {x : Ent α} (h : x ∈ putE l k v) : x.1 = k ∨ x ∈ l := by
  induction l with
  | nil => simp [putE] at h
  | cons y l ih =>
    by_cases hy : y.1 = k
    · subst hy
      rw [putE_hit] at h
      rcases List.mem_cons.1 h with rfl | h
      · exact .inl rfl
      · exact .inr (by simp [h])
    · rw [putE_miss hy] at h
      rcases List.mem_cons.1 h with rfl | h
      · exact .inr (by simp)
      · exact (ih h).imp id (fun h => by simp [h])
end

/-- What the map tells of the tree's nodes. -/
def KnAt (L : List Nd) (kes : List (Ent Nat)) (K : Kn) : Prop := (∀ n ∈ L, ((seek kes n.b).map (·.2.1)).getD (.int .i64 0) = .int .i64 (K n.p)) ∧ ∀ e ∈ kes, ∃ n ∈ L, e.1 = n.b
section
variable {B : Nat} {w0 w : World} {F : List (Nat × Obj)} {L : List Nd} {tb c wb kb clk : Nat} {n m : Nd} {K K0 : Kn} {H A : List Nd} {kes : List (Ent Nat)}
theorem St.okP (h : St B w0 w (objsL L ++ F)) (hn : n ∈ L) : okP w n.b := ⟨_, _, h.nodeIn hn⟩
theorem KnAt.look (h : KnAt L kes K) (hst : St B w0 w (objsL L ++ F)) (hn : n ∈ L) (hg : w.heap[kb]? = some (.map (entsE np kes) clk)) :
    (Instr.lookup 57 (.map (some kb)) (np n.b) false).run Try.prog w = .ok (.int .i64 (K n.p)) w := by
  have := run_lookE (c := false) keyP uMapK (zInt12 w) hg (hst.okP hn) (fun x hx => by obtain ⟨m, hm, e⟩ := h.2 x hx; rw [e]; exact hst.okP hm)
  rw [h.1 n hn] at this
  exact this
theorem KnAt.put (h : KnAt L kes K) (ht : TreeOk L tb c) (hst : St B w0 w (objsL L ++ F)) (hn : n ∈ L) (hg : w.heap[kb]? = some (.map (entsE np kes) clk)) (v : Nat) :
    ∃ kes' clk', (Instr.mapUpdate 57 (.map (some kb)) (np n.b) (.int .i64 v)).run Try.prog w = .ok () (setBlock w kb (.map (entsE np kes') clk')) ∧ KnAt L kes' (K.set n.p v) := by
  have hok : ∀ x ∈ kes, Go.Proofs.Ytbfelfejelkdpaa.okP w x.1 := fun x hx => by
    obtain ⟨m, hm, e⟩ := h.2 x hx
    rw [e]
    exact hst.okP hm
  cases hs : seek kes n.b with
  | none =>
    refine ⟨_, _, run_mapE_new keyP uMapK hg (hst.okP hn) hok (.int .i64 v) hs, fun m hm => ?_, fun e he => ?_⟩
    · rw [seek_push]
      by_cases e : m.p = n.p
      · obtain rfl := map_inj ht.paths hm hn e
        rw [hs, Kn.set_same]
        simp
      · rw [Kn.set_ne _ _ e, if_neg (fun e2 => e (by rw [map_inj ht.blocks hm hn e2.symm])), Option.or_none]
        exact h.1 m hm
    · rcases List.mem_append.1 he with he | he
      · exact h.2 e he
      · rw [List.mem_singleton] at he
        subst he
        exact ⟨n, hn, rfl⟩
  | some y =>
    refine ⟨_, _, run_mapE_old keyP uMapK hg (hst.okP hn) hok (.int .i64 v) hs, fun m hm => ?_, fun e he => ?_⟩
    · rw [putE_seek hs]
      by_cases e : m.p = n.p
      · obtain rfl := map_inj ht.paths hm hn e
        rw [if_pos rfl, Kn.set_same]
        rfl
      · rw [Kn.set_ne _ _ e, if_neg (fun e2 => e (by rw [map_inj ht.blocks hm hn e2]))]
        exact h.1 m hm
    · rcases putE_keys he with e1 | he
      · exact ⟨n, hn, e1⟩
      · exact h.2 e he

/-- A walk in memory: it is at H, ahead lie A, it knows K. -/
def WkAt (B : Nat) (w0 w : World) (wb : Nat) (L H A : List Nd) (K : Kn) (F : List (Nat × Obj)) : Prop :=
  ∃ hv av SH SA kb kes clk, SlIs 41 1 hv H.length (H.map fun n => np n.b) SH ∧ SlIs 41 1 av A.length (A.map fun n => np n.b) SA ∧ KnAt L kes K ∧
    St B w0 w (objsL L ++ ((wb, .cells #[hv, av, .map (some kb)] 60) :: ((kb, .map (entsE np kes) clk) :: (SH ++ (SA ++ F)))))
def ov : Option Nd → Value
  | some n => np n.b
  | none => .pointer none
theorem perm_k {α : Type} (A B C : List α) (x y : α) : (A ++ x :: y :: B).Perm (y :: (A ++ x :: B)) := by
  classical
  exact List.perm_iff_count.2 fun a => by simp only [List.count_append, List.count_cons]; omega
theorem WkAt.turn {hv av : Value} {SH SA : List (Nat × Obj)} (h1 : SlIs 41 1 hv H.length (H.map fun n => np n.b) SH) (h2 : SlIs 41 1 av A.length (A.map fun n => np n.b) SA)
    (hst : St B w0 w (objsL L ++ ((wb, .cells #[hv, av, .map (some kb)] 60) :: ((kb, .map (entsE np kes) clk) :: (SH ++ (SA ++ F)))))) {kes' : List (Ent Nat)} {clk' : Nat} (hk : KnAt L kes' K) :
    St B w0 (setBlock w kb (.map (entsE np kes') clk')) (objsL L ++ ((wb, .cells #[hv, av, .map (some kb)] 60) :: ((kb, .map (entsE np kes') clk') :: (SH ++ (SA ++ F))))) :=
  ((hst.perm (perm_k _ _ [] _ _)).block0 (o' := .map (entsE np kes') clk')).perm (perm_k _ _ [] _ _).symm

/-- What pass leaves; what it knows at its label. -/
def PassR (B : Nat) (w0 : World) (wb : Nat) (L H A : List Nd) (K : Kn) (F : List (Nat × Obj)) (e : Ending) (w' : World) : Prop :=
  e = .returned (.tuple #[]) ∧ ∃ K', KOk L K' ∧ PassK K K' ∧ WkAt B w0 w' wb L H A K' F
def PassAt (B : Nat) (w0 : World) (wb : Nat) (L H A : List Nd) (K0 : Kn) (F : List (Nat × Obj)) (g : Nat) (a' : Act) (w' : World) : Prop :=
  ∃ (o : Option Nd) (K : Kn), (match o with | some n => n.p.length + 1 | none => 0) = g ∧ (∀ n, o = some n → n ∈ L ∧ ∃ m ∈ L, ∃ v, m.p = n.p ++ [v] ∧ K m.p ≠ 0) ∧ Fr 38 [(0, np wb), (1, ov o)] a' ∧ KOk L K ∧ PassK K0 K ∧ WkAt B w0 w' wb L H A K F

set_option maxHeartbeats 1000000 in
theorem pass_any (h : WkAt B w0 w wb L H A K F) (ht : TreeOk L tb c) (hc : c ≤ 900000) (hk : KOk L K) {o : Option Nd} (ho : ∀ n, o = some n → n ∈ L ∧ ∃ m ∈ L, ∃ v, m.p = n.p ++ [v] ∧ K m.p ≠ 0) :
    Calls Try.prog 39 #[np wb, ov o] w (PassR B w0 wb L H A K F) := by
  have start : Hid (PassAt B w0 wb L H A K F _ ⟨#[np wb, ov o, undef, undef, undef, undef, undef, undef, undef, undef, undef, undef, undef, undef, undef, undef, undef, undef, undef, undef, undef, undef, undef, undef, undef, undef, undef, undef, undef, undef, undef, undef, undef, undef, undef, undef, undef, undef], []⟩ w) :=
    Lib.hid ⟨o, K, rfl, ho, ⟨rfl, rfl, by intro p hp; simp only [List.mem_cons, List.not_mem_nil, or_false] at hp; rcases hp with rfl | rfl <;> rfl⟩, hk, PassK.refl _, h⟩
  replace ht := Lib.hid ht
  clear h hk ho
  generalize ov o = nv at *
  go_enter Try.func39, Try.ntmps39
  go_wp2_with fail
  refine wp_scope_ghost 0 (PassAt B w0 wb L H A K F) rfl ?_ ?_
  · clear start
    rintro g a' w' ⟨o, K1, hg, ho, hfr, hk, hpk, hw⟩
    obtain ⟨f, rfl, hl'⟩ := hfr.lit
    clear hfr
    simp only [List.mem_cons, List.not_mem_nil, or_false, forall_eq_or_imp, forall_eq] at hl'
    obtain ⟨f0, f1⟩ := hl'
    simp only [List.range, List.range.loop, List.map, f0, f1]
    clear f0 f1
    have stop : Hid (PassR B w0 wb L H A K F (.returned (.tuple #[])) w') := Lib.hid ⟨rfl, K1, hk, hpk, hw⟩
    cases o with
    | none =>
      have e1 : ov none = .pointer none := rfl
      rw [e1]
      clear hk hpk hw ht
      go_wp2_with fail
      simp only [Exit.jump]
      exact bodyPost_end (results_none rfl _ _ _) rfl stop.out
    | some n =>
      have e1 : ov (some n) = np n.b := rfl
      rw [e1]
      obtain ⟨hn, m, hm, v, hmv, hmk⟩ := ho n rfl
      obtain ⟨hv, av, SH, SA, kb, kes, clk, s1, s2, s3, hst⟩ := hw
      have ci := Lib.hid (countI_any (hst.tabI hn) fun e => ((ht.out.oks n hn).2.bare e).1)
      have cs := Lib.hid (countS_any (hst.tabS hn) fun e => ((ht.out.oks n hn).1.bare e).1)
      have hkb : w'.heap[kb]? = some (.map (entsE np kes) clk) := hst.get (b := kb) (by simp)
      have hlk := s3.look hst hn hkb
      have cw := hst.cell (b := wb) (c := #[hv, av, .map (some kb)]) (T := 60) (fr := (0, 0)) (by simp) (i := 2) (v := .map (some kb)) rfl
      by_cases hi : n.i.es = []
      · rw [hi] at ci
        by_cases hs : n.s.es.length ≤ 1
        · by_cases h2 : K1 n.p = 2
          · rw [h2] at hlk
            have hs' : ¬ (1 : Int) < n.s.es.length := by omega
            generalize n.s.es.length = l at *
            clear hst s1 s2 s3 hkb hk hpk ho hn hm hmv hmk ht hi
            go_wp2_with fail
            refine ci.out.mono ?_
            rintro e w2 ⟨rfl, rfl⟩
            go_wp2_with fail
            refine cs.out.mono ?_
            rintro e w2 ⟨rfl, rfl⟩
            go_wp2_with fail
            simp only [Exit.jump]
            exact bodyPost_end (results_none rfl _ _ _) rfl stop.out
          · obtain ⟨kes', clk', hmu, hkn⟩ := s3.put ht.out hst hn hkb 2
            have hst2 := WkAt.turn s1 s2 hst (clk' := clk') hkn
            have hk2 : K1 n.p ≤ 1 := by
              have := hk.few n.p
              omega
            have hkp := hk.pass ht.out hn hi hs hm hmv hmk
            have hpk2 := hpk.step n.p
            have d0 := hst2.node hn (j := 0) (v := upV n.u) rfl
            have hmu : (Instr.mapUpdate 57 (.map (some kb)) (np n.b) (.int .i64 2)).run Try.prog w' = .ok () (setBlock w' kb (.map (entsE np kes') clk')) := hmu
            generalize hW : setBlock w' kb (.map (entsE np kes') clk') = W at *
            obtain ⟨o', e2, hg', ho'⟩ : ∃ o', upV n.u = ov o' ∧ (match o' with | some n => n.p.length + 1 | none => 0) < g ∧ (∀ q, o' = some q → q ∈ L ∧ ∃ m ∈ L, ∃ v, m.p = q.p ++ [v] ∧ (K1.set n.p 2) m.p ≠ 0) := by
              rcases ht.out.up hn with ⟨_, e⟩ | ⟨q, hq, v', e, e3⟩
              · exact ⟨none, e, by rw [← hg]; simp, by simp⟩
              · refine ⟨some q, e3, ?_, fun q' hq' => ?_⟩
                · rw [← hg]
                  simp [e]
                · cases hq'
                  exact ⟨hq, n, hn, v', e, by rw [Kn.set_same]; decide⟩
            rw [e2] at d0
            have fin : Hid (∀ a', Fr 38 [(0, np wb), (1, ov o')] a' → ∃ m, m < g ∧ PassAt B w0 wb L H A K F m a' W) := Lib.hid fun a' ha => ⟨_, hg', o', _, rfl, ho', ha, hkp, hpk2, hv, av, SH, SA, kb, kes', clk', s1, s2, hkn, hst2⟩
            have hs' : ¬ (1 : Int) < n.s.es.length := by omega
            have hkne : ((K1 n.p : Int) == 2) = false := by
              rw [beq_eq_false_iff_ne]
              omega
            generalize K1 n.p = kk at *
            generalize n.s.es.length = l at *
            generalize ov o' = nx at *
            replace hW := Lib.hid hW
            clear hst hst2 s1 s2 s3 hkb hk hpk ho hn hm hmv hmk ht hi stop hkn hkp hpk2 hg ho' hg' e2 hs h2
            go_wp2_with fail
            refine ci.out.mono ?_
            rintro e w2 ⟨rfl, rfl⟩
            go_wp2_with fail
            refine cs.out.mono ?_
            rintro e w2 ⟨rfl, rfl⟩
            go_wp2_with fail
            refine wp_goto ?_
            exact ⟨rfl, fin.out _ ⟨rfl, rfl, by simp⟩⟩
        · have hs' : (1 : Int) < n.s.es.length := by omega
          generalize n.s.es.length = l at *
          clear hst s1 s2 s3 hkb hk hpk ho hn hm hmv hmk ht hi hlk
          go_wp2_with fail
          refine ci.out.mono ?_
          rintro e w2 ⟨rfl, rfl⟩
          go_wp2_with fail
          refine cs.out.mono ?_
          rintro e w2 ⟨rfl, rfl⟩
          go_wp2_with fail
          simp only [Exit.jump]
          exact bodyPost_end (results_none rfl _ _ _) rfl stop.out
      · have hpos : (0 : Int) < n.i.es.length := by
          have := List.length_pos_iff.2 hi
          omega
        generalize n.i.es.length = l at *
        clear hst s1 s2 s3 hkb hk hpk ho hn hm hmv hmk ht hi hlk cs
        go_wp2_with fail
        refine ci.out.mono ?_
        rintro e w2 ⟨rfl, rfl⟩
        go_wp2_with fail
        simp only [Exit.jump]
        exact bodyPost_end (results_none rfl _ _ _) rfl stop.out
  · intro H1
    go_wp2_with fail
    refine wp_label ?_
    go_step
    go_step
    exact H1 _ _ _ start.out
end
end Go.Proofs.Ytbfelfejelkdpaa
