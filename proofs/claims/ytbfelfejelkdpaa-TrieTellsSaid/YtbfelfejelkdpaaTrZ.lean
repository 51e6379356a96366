/- Walks over a tree, in memory: begun; what was found. -/
import Derived.Test.YtbfelfejelkdpaaTrY
import Derived.Test.YtbfelfejelkdpaaTrR
namespace Go.Proofs.Ytbfelfejelkdpaa
open Go.RowKit
open Go.ChangeMaps (setBlock)
set_option linter.unusedVariables false
set_option linter.unusedSectionVars false
set_option linter.unusedSimpArgs false
set_option maxRecDepth 100000

section
variable {B : Nat} {w0 w : World} {F S : List (Nat × Obj)} {L : List Nd} {tb c wb kb clk : Nat} {n m : Nd} {K K0 : Kn} {H A X : List Nd} {kes : List (Ent Nat)} {o0 o : Option Nd}

theorem WkAt.beside (h : WkAt B w0 w wb L H A K F) : ∃ O, St B w0 w (O ++ F) ∧ ∀ w' F', St B w0 w' (O ++ F') → WkAt B w0 w' wb L H A K F' := by
  obtain ⟨hv, av, SH, SA, kb, kes, clk, s1, s2, s3, hst⟩ := h
  have e : ∀ G : List (Nat × Obj), objsL L ++ ((wb, .cells #[hv, av, .map (some kb)] 60) :: ((kb, .map (entsE np kes) clk) :: (SH ++ (SA ++ G)))) = (objsL L ++ ((wb, .cells #[hv, av, .map (some kb)] 60) :: ((kb, .map (entsE np kes) clk) :: (SH ++ SA)))) ++ G := fun G => by simp
  refine ⟨_, (e F) ▸ hst, fun w' F' h => ⟨hv, av, SH, SA, kb, kes, clk, s1, s2, s3, (e F').symm ▸ h⟩⟩
theorem WkAt.tabI (h : WkAt B w0 w wb L H A K F) (hn : n ∈ L) : TbAt w n.b 4 encI n.i := by
  obtain ⟨hv, av, SH, SA, kb, kes, clk, s1, s2, s3, hst⟩ := h
  exact hst.tabI hn
theorem WkAt.tree (h : WkAt B w0 w wb L H A K F) : St B w0 w (objsL L ++ F) := by
  obtain ⟨hv, av, SH, SA, kb, kes, clk, s1, s2, s3, hst⟩ := h
  refine hst.sub ((List.Sublist.refl _).append ?_)
  exact ((List.sublist_append_right SA F).trans (List.sublist_append_right SH _)).trans ((List.sublist_cons_self _ _).trans (List.sublist_cons_self _ _))
theorem WkAt.growF {w' : World} (h : WkAt B w0 w wb L H A K F) (hb : Below w.heap.size w w') : WkAt B w0 w' wb L H A K F := by
  obtain ⟨O, h1, h2⟩ := h.beside
  exact h2 _ _ (h1.grow hb)

/-- A walk's beginning. -/
def StartR (B : Nat) (w0 : World) (wb : Nat) (L : List Nd) (F : List (Nat × Obj)) (e : Ending) (w' : World) : Prop :=
  e = .returned (.tuple #[]) ∧ ∃ K X, Here L [] K X ∧ WkAt B w0 w' wb L X [] K F
theorem start_any (h : WkAt B w0 w wb L [] [] (fun _ => 0) F) (ht : TreeOk L tb c) (hc : c ≤ 800000) (hn : n ∈ L) (h0 : n.p = []) (hb : n.b = tb) : Calls Try.prog 20 #[np wb, np tb] w (StartR B w0 wb L F) := by
  have c1 := reach_any h ht hc (ReachOk.start (o := some n) (KOk.zero L) (by simp) (by simp) (by simp) (fun y hy => by cases hy; exact ⟨hn, fun _ => by simp⟩))
  have e1 : ov (some n) = np tb := by rw [← hb]; rfl
  rw [e1] at c1
  replace c1 := Lib.hid c1
  have nx : Hid (∀ K X o, ReachOk L (fun _ => 0) [] (some n) K X o → Stop K o → Here L [] K X) := Lib.hid fun K X o R hs => Here.start ht hn h0 R hs
  clear h ht hn h0 hb e1
  go_enter Try.func20, Try.ntmps20
  go_wp2_with fail
  refine c1.out.mono ?_
  rintro e w1 ⟨rfl, K, X, o, R, hs, hw⟩
  have hH := Lib.hid (nx.out K X o R hs)
  have c2 := Lib.hid (step_any (by simpa using hw))
  clear R hs hw nx c1
  go_wp2_with fail
  refine c2.out.mono ?_
  rintro e w2 ⟨rfl, hw2⟩
  have fin : Hid (StartR B w0 wb L F (.returned (.tuple #[])) w2) := Lib.hid ⟨rfl, K, X, hH.out, hw2⟩
  clear hw2 c2 hH
  go_wp2_with fail
  exact bodyPost_end (results_none rfl _ _ _) rfl fin.out

/-- While a node's ids are told. -/
def IdsIn (B : Nat) (w0 : World) (wb : Nat) (L H : List Nd) (K : Kn) (F : List (Nat × Obj)) (l : List Int) (mb r : Nat) (es : List (Ent Int)) (clk : Nat) (done laid : List (Ent Int)) (v : Value) (w' : World) : Prop :=
  ∃ S seen, SlIs 3 1 v (l ++ laid.map (·.1)).length ((l ++ laid.map (·.1)).map encI) S ∧ IterAt w' mb r encI es clk done ∧ WkAt B w0 w' wb L H [] K ((r, .mapIter (some mb) clk seen clk) :: (S ++ F))
theorem perm_i {α : Type} (O S F : List α) (x : α) : (O ++ (x :: (S ++ F))).Perm ((O ++ (x :: F)) ++ S) := by
  classical
  exact List.perm_iff_count.2 fun a => by simp only [List.count_append, List.count_cons]; omega
theorem IdsIn.next {l : List Int} {mb r : Nat} {es : List (Ent Int)} {done : List (Ent Int)} {v : Value} (h : IdsIn B w0 wb L H K F l mb r es clk done done v w) (hB : Born es clk) (hn : es.Nodup) (hv : ∀ e ∈ es, e.2.1 = .agg #[]) (ty : TypeId) :
    (done.Perm es ∧ (Instr.next (.pointer (some ⟨r, 0, none⟩)) false ty).run Try.prog w = .ok (.tuple #[.bool false]) w) ∨
    ∃ e w', done.length + 1 ≤ es.length ∧ (Instr.next (.pointer (some ⟨r, 0, none⟩)) false ty).run Try.prog w = .ok (.tuple #[.bool true, .int .i64 e.1, .agg #[]]) w' ∧ (Instr.entry (.pointer (some ⟨r, 0, none⟩))).run Try.prog w' = .ok (.tuple #[.int .i64 e.1, .agg #[]]) w' ∧
      IdsIn B w0 wb L H K F l mb r es clk (done ++ [e]) done v w' := by
  obtain ⟨S, seen, h1, hI, h2⟩ := h
  rcases hI.next (P := Try.prog) hB hn ty with ⟨hp, hr⟩ | ⟨e, he, hd, w', hr, hI', hk, hs, ho, ht, hu, hen⟩
  · exact .inl ⟨hp, hr⟩
  · obtain ⟨-, seen', hs', -⟩ := id hI'
    obtain ⟨O, g1, g2⟩ := h2.beside
    have hle := nodup_len hI'.2.choose_spec.2.1 hI'.2.choose_spec.2.2.1
    rw [List.length_append, List.length_singleton] at hle
    rw [hv e he] at hr hen
    exact .inr ⟨e, w', hle, hr, hen, S, seen', h1, hI', g2 _ _ (g1.write hs' hk hs ho ht hu)⟩
theorem IdsIn.push {l : List Int} {mb r : Nat} {es : List (Ent Int)} {done : List (Ent Int)} {e : Ent Int} {v : Value} (h : IdsIn B w0 wb L H K F l mb r es clk (done ++ [e]) done v w) (hn : n ∈ L) (h1 : n.i.mv = some mb) (h2 : n.i.es = es) (h3 : n.i.clk = clk)
    (hl : (l ++ done.map (·.1)).length ≤ 1000000000000) : ∃ a ln cap, v = .slice a ln cap ∧ ∃ a' cap' W2, (Builtin.append_ #[33, 33] 0 #[.slice a ln cap, .slice (some ⟨w.heap.size, 0, none⟩) 1 1]).run Try.prog (w.alloc (.cells #[.int .i64 e.1] 3)) = .ok (.slice a' (ln + 1) cap') W2 ∧
      IdsIn B w0 wb L H K F l mb r es clk (done ++ [e]) (done ++ [e]) (.slice a' (ln + 1) cap') W2 := by
  obtain ⟨S, seen, s1, hI, hw⟩ := h
  obtain ⟨O, g1, g2⟩ := hw.beside
  obtain ⟨a, cap, rfl, a', cap', W2, S2, hr, s2, hst⟩ := ints_push s1 (g1.perm (perm_i _ _ _ _)) e.1 hl
  have hw2 := g2 _ _ (hst.perm (perm_i _ _ _ _).symm)
  refine ⟨a, _, cap, rfl, a', cap', W2, hr, S2, seen, ?_, hI.kept ?_ ?_, hw2⟩
  · have e1 : l ++ done.map (·.1) ++ [e.1] = l ++ (done ++ [e]).map (·.1) := by simp
    rw [e1] at s2
    exact s2
  · rw [hI.1]
    have := (hw2.tabI hn).map mb h1
    rw [h2, h3] at this
    exact this
  · rw [g1.get (b := r) (o := .mapIter (some mb) clk seen clk) (by simp)]
    exact hst.get (b := r) (o := .mapIter (some mb) clk seen clk) (by simp)

/-- What ids knows at its label; what it leaves. -/
def IdsAt (B : Nat) (w0 : World) (wb : Nat) (L H : List Nd) (K : Kn) (F : List (Nat × Obj)) (c g : Nat) (a' : Act) (w' : World) : Prop :=
  ∃ (at_ : Nat) (l : List Int) (v : Value) (S : List (Nat × Obj)), at_ + g = H.length ∧ SlIs 3 1 v l.length (l.map encI) S ∧ (∀ k, k ∈ l ↔ ∃ n ∈ H.take at_, k ∈ n.i.es.map (·.1)) ∧ l.length ≤ at_ * c ∧ WkAt B w0 w' wb L H [] K (S ++ F) ∧ Fr 36 [(0, np wb), (3, v), (4, .int .i64 at_)] a'
def IdsR (B : Nat) (w0 : World) (L H : List Nd) (F : List (Nat × Obj)) (e : Ending) (w' : World) : Prop :=
  ∃ (v : Value) (l : List Int) (S : List (Nat × Obj)), e = .returned v ∧ SlIs 3 1 v l.length (l.map encI) S ∧ (∀ k, k ∈ l ↔ ∃ n ∈ H, k ∈ n.i.es.map (·.1)) ∧ l.length ≤ 1000000000000 ∧ St B w0 w' (objsL L ++ (S ++ F))

set_option maxHeartbeats 2000000 in
theorem ids_any (h : WkAt B w0 w wb L H [] K F) (ht : TreeOk L tb c) (hc : c ≤ 800000) (hm : ∀ n ∈ H, n ∈ L) (hHl : H.length ≤ c) : Calls Try.prog 23 #[np wb] w (IdsR B w0 L H F) := by
  have start : Hid (∀ a', Fr 36 [(0, np wb), (3, .slice none 0 0), (4, .int .i64 (0 : Nat))] a' → IdsAt B w0 wb L H K F c H.length a' w) := Lib.hid fun a' ha => ⟨0, [], _, [], by omega, SlIs.nil, by simp, by simp, h, ha⟩
  replace ht := Lib.hid ht
  clear h
  have hmul : H.length * c ≤ 1000000000000 := Nat.le_trans (Nat.mul_le_mul hHl (Nat.le_refl c)) (Nat.le_trans (Nat.mul_le_mul hc hc) (by decide))
  replace hmul := Lib.hid hmul
  go_enter Try.func23, Try.ntmps23
  go_wp2_with fail
  refine wp_scope_ghost 0 (IdsAt B w0 wb L H K F c) rfl ?_ ?_
  · clear start
    rintro g a' w' ⟨at_, l, v, S, hg, s1, hl, hll, hw, hfr⟩
    obtain ⟨f, rfl, hl'⟩ := hfr.lit
    clear hfr
    simp only [List.mem_cons, List.not_mem_nil, or_false, forall_eq_or_imp, forall_eq] at hl'
    obtain ⟨f0, f3, f4⟩ := hl'
    simp only [List.range, List.range.loop, List.map, f0, f3, f4]
    clear f0 f3 f4
    obtain ⟨a, cap, ch, hat⟩ := hw.hereAt
    have hat0 : (0 : Int) ≤ at_ := by omega
    have hl0 : (H.length : Int) ≤ 800000 := by omega
    by_cases hlt : at_ < H.length
    · have hnx : H[at_]? = some H[at_] := List.getElem?_eq_getElem hlt
      generalize H[at_] = n at hnx
      obtain ⟨gb, off, rfl, hcell⟩ := hat at_ n hnx
      have hnH : n ∈ H := List.mem_of_getElem? hnx
      have hn := hm n hnH
      have hneB : ((at_ : Int) == (H.length : Int)) = false := by
        rw [beq_eq_false_iff_ne]
        omega
      have hlt' : (at_ : Int) < H.length := by omega
      have htab := hw.tabI hn
      have hc4 := htab.c0
      have hok := (ht.out.oks n hn).2
      have htake : H.take (at_ + 1) = H.take at_ ++ [n] := by rw [List.take_add_one, hnx]; rfl
      have hmem : ∀ l2 : List Int, (∀ k, k ∈ l2 ↔ k ∈ l ∨ k ∈ n.i.es.map (·.1)) → ∀ k, k ∈ l2 ↔ ∃ n ∈ H.take (at_ + 1), k ∈ n.i.es.map (·.1) := fun l2 h2 k => by
        rw [h2, hl, htake]
        constructor
        · rintro (⟨m, hm, hk⟩ | hk)
          · exact ⟨m, List.mem_append_left _ hm, hk⟩
          · exact ⟨n, by simp, hk⟩
        · rintro ⟨m, hm, hk⟩
          rcases List.mem_append.1 hm with hm | hm
          · exact .inl ⟨m, hm, hk⟩
          · rw [List.mem_singleton] at hm
            subst hm
            exact .inr hk
      have hac : (at_ + 1) * c = at_ * c + c := by rw [Nat.add_mul, Nat.one_mul]
      have hacl : at_ * c ≤ 1000000000000 := Nat.le_trans (Nat.mul_le_mul_right _ (by omega)) hmul.out
      have nextAt : Hid (∀ (l2 : List Int) v2 S2 W, SlIs 3 1 v2 l2.length (l2.map encI) S2 → (∀ k, k ∈ l2 ↔ k ∈ l ∨ k ∈ n.i.es.map (·.1)) → l2.length ≤ l.length + c → WkAt B w0 W wb L H [] K (S2 ++ F) → ∀ a2, Fr 36 [(0, np wb), (3, v2), (4, .int .i64 ((at_ : Int) + 1))] a2 → ∃ m, m < g ∧ IdsAt B w0 wb L H K F c m a2 W) :=
        Lib.hid fun l2 v2 S2 W g1 g2 g3 g4 a2 ha => ⟨H.length - (at_ + 1), by omega, at_ + 1, l2, v2, S2, by omega, g1, hmem l2 g2, by omega, g4, ha⟩
      cases hmv : n.i.mv with
      | none =>
        rw [hmv] at hc4
        have hrg := run_range_nilMap (P := Try.prog) w' 45 _ _ uMapI
        have hnx := run_next_nilMap (P := Try.prog) w' 0 0 0 #[]
        have hes := (hok.bare hmv).1
        have fin := Lib.hid (nextAt.out l v S (w'.alloc (.mapIter none 0 #[] 0)) s1 (fun k => by rw [hes]; simp) (by omega) (hw.growF (new_below _ _)))
        clear s1 hl hw hm hHl hat hn hnH htab hok htake hmem hac hacl nextAt hes ht hmul
        generalize w'.alloc (.mapIter none 0 #[] 0) = W at *
        go_wp2_with fail
        go_loopg [3, 5] 0 (fun g v3 v5 wr => v3 = v ∧ wr = W)
        case atStart => exact ⟨rfl, rfl⟩
        case round =>
          obtain ⟨rfl, rfl⟩ := hrel
          go_wp2_with fail
          refine wp_goto ?_
          refine ⟨rfl, fin.out _ ?_⟩
          exact ⟨rfl, rfl, by simp⟩
      | some mb =>
        rw [hmv] at hc4
        have hg := htab.map mb hmv
        have hrg := run_range_map (P := Try.prog) w' 45 _ _ mb _ _ uMapI hg
        obtain ⟨O, g1, g2⟩ := hw.beside
        have hwI := g2 _ ((w'.heap.size, .mapIter (some mb) n.i.clk #[] n.i.clk) :: (S ++ F)) ((g1.alloc (.mapIter (some mb) n.i.clk #[] n.i.clk)).perm (perm_w O (S ++ F) _).symm)
        have hg2 := (hwI.tabI hn).map mb hmv
        have first : Hid (IdsIn B w0 wb L H K F l mb w'.heap.size n.i.es n.i.clk [] [] v (w'.alloc (.mapIter (some mb) n.i.clk #[] n.i.clk))) := Lib.hid ⟨S, #[], by simpa using s1, ⟨hg2, #[], (MapKept.heap_alloc w' _).1, by simp, by simp, by simp⟩, hwI⟩
        have hbare := Lib.hid (ht.out.bare n hn)
        have hborn := Lib.hid hok.born
        have hnd : Hid (n.i.es.Nodup) := Lib.hid (List.Pairwise.of_map (S := fun a b => a ≠ b) _ (fun a b h e => h (by rw [e])) hok.keys)
        have hlc := hok.len
        have fin : Hid (∀ done v2 W, done.Perm n.i.es → IdsIn B w0 wb L H K F l mb w'.heap.size n.i.es n.i.clk done done v2 W → ∀ a2, Fr 36 [(0, np wb), (3, v2), (4, .int .i64 ((at_ : Int) + 1))] a2 → ∃ m, m < g ∧ IdsAt B w0 wb L H K F c m a2 W) := Lib.hid fun done v2 W hp hI => by
          obtain ⟨S2, seen, q1, -, q3⟩ := hI
          obtain ⟨O2, q4, q5⟩ := q3.beside
          refine nextAt.out (l ++ done.map (·.1)) v2 S2 W q1 (fun k => ?_) ?_ (q5 _ _ (q4.sub ((List.Sublist.refl _).append (List.sublist_cons_self _ _))))
          · rw [List.mem_append, (hp.map (·.1)).mem_iff]
          · rw [List.length_append, List.length_map, hp.length_eq]
            omega
        have pu : Hid (∀ done (e : Ent Int) v2 W, done.length + 1 ≤ n.i.es.length → IdsIn B w0 wb L H K F l mb w'.heap.size n.i.es n.i.clk (done ++ [e]) done v2 W → ∃ a ln cap, v2 = .slice a ln cap ∧ ∃ a' cap' W2, (Builtin.append_ #[33, 33] 0 #[.slice a ln cap, .slice (some ⟨W.heap.size, 0, none⟩) 1 1]).run Try.prog (W.alloc (.cells #[.int .i64 e.1] 3)) = .ok (.slice a' (ln + 1) cap') W2 ∧
            IdsIn B w0 wb L H K F l mb w'.heap.size n.i.es n.i.clk (done ++ [e]) (done ++ [e]) (.slice a' (ln + 1) cap') W2) := Lib.hid fun done e v2 W hd hI => hI.push hn hmv rfl rfl (by
          rw [List.length_append, List.length_map]
          have h1 : at_ * c + c ≤ 1000000000000 := by
            rw [← hac]
            exact Nat.le_trans (Nat.mul_le_mul_right _ (by omega)) hmul.out
          omega)
        clear s1 hl hw hm hHl hat hn hnH htab hok htake hmem hac hacl nextAt ht hmul g1 g2 hwI hg2 hg hlc hmv
        generalize w'.alloc (.mapIter (some mb) n.i.clk #[] n.i.clk) = W at *
        generalize w'.heap.size = r at *
        generalize n.i.clk = clk at *
        have hbare : Hid (∀ e ∈ n.i.es, e.2.1 = .agg #[]) := hbare
        generalize n.i.es = es at *
        go_wp2_with fail
        go_loopg [3, 5] es.length (fun g v3 v5 wr => ∃ done, done.length + g = es.length ∧ Hid (IdsIn B w0 wb L H K F l mb r es clk done done v3 wr))
        case atStart => exact ⟨[], by simp, first⟩
        case round =>
          obtain ⟨done, hg, hI⟩ := hrel
          rcases hI.out.next hborn.out hnd.out hbare.out 0 with ⟨hp, hnx⟩ | ⟨e, w2, hle, hnx, hen, hI2⟩
          · have fin := Lib.hid (fin.out done _ _ hp hI.out)
            clear hI pu first
            go_wp2_with fail
            refine wp_goto ?_
            refine ⟨rfl, fin.out _ ?_⟩
            exact ⟨rfl, rfl, by simp⟩
          · obtain ⟨a3, ln, cap3, rfl, a', cap', W2, hrun, hI3⟩ := pu.out done e _ _ hle hI2
            replace hI3 := Lib.hid hI3
            clear hI hI2 pu fin first
            go_wp2_with (at_builtin; refine wpList_append_go rfl (.tmp 30) (.tmp 32) 33 33 rfl _ _ rfl rfl hrun ?_)
            go_roundg (es.length - (done.length + 1))
            case measure => omega
            case rel => exact ⟨done ++ [e], by rw [List.length_append, List.length_singleton]; omega, hI3⟩
    · obtain rfl : at_ = H.length := by omega
      rw [List.take_length] at hl
      have fin : Hid (IdsR B w0 L H F (.returned v) w') := Lib.hid ⟨v, l, S, rfl, s1, hl, Nat.le_trans hll hmul.out, hw.tree⟩
      clear s1 hl hll hw hat ht hmul hm hHl
      go_wp2_with fail
      simp only [Exit.jump]
      go_ret
      exact fin.out
  · intro H1
    go_wp2_with fail
    refine wp_label ?_
    go_step
    go_step
    refine H1 _ _ _ (start.out _ ?_)
    exact ⟨rfl, rfl, by simp⟩
end
end Go.Proofs.Ytbfelfejelkdpaa
