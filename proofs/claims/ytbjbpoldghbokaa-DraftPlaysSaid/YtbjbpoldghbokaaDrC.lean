/- A draft: an ack, a publish noted. -/
import Derived.Test.YtbjbpoldghbokaaDrB
namespace Go.Proofs.Ytbjbpoldghbokaa
open Go.RowKit
open Go.ChangeMaps (setBlock)
set_option linter.unusedVariables false
set_option linter.unusedSectionVars false
set_option linter.unusedSimpArgs false
set_option maxRecDepth 100000

section
variable {B : Nat} {w0 w w' : World} {db : Nat} {F F' S : List (Nat × Obj)} {P : List (Ent × Int)} {A : List (Int × Int)}
set_option maxHeartbeats 1000000 in
theorem dr_ack (h : DrIs B w0 w db P A F) (hl : A.length ≤ 100000) (t b : Int) : Calls Try.prog 8 #[dptr db, .int .i64 t, .int .i64 b] w fun r w' => r = .returned (.tuple #[]) ∧ DrIs B w0 w' db P (A ++ [(t, b)]) F := by
  obtain ⟨a1, k1, a2, k2, m, S1, S2, X, hP, hA, ht, hst⟩ := h
  have hmk := fun w : World => run_makeMap (P := Try.prog) 46 w
  have heq := uEqTags
  have c2 := hst.cell (b := db) List.mem_cons_self (i := 2) rfl
  replace hP := Lib.hid hP
  replace hA := Lib.hid hA
  generalize hav : Value.slice a2 A.length k2 = av at *
  generalize hpv : Value.slice a1 P.length k1 = pv at *
  replace hav := Lib.hid hav
  replace hpv := Lib.hid hpv
  go_enter Try.func8, Try.ntmps8
  go_upto_if 10 with fail
  go_cut [] (fun wy => ∃ mb es clk, Hid (MapFn es clk (tagG A)) ∧ Hid (St B w0 wy ((db, drO pv av (some mb)) :: (mb, .map (entsE encI es) clk) :: (S1 ++ (S2 ++ F)))))
  case first =>
    rcases ht with ⟨rfl, hA0, rfl⟩ | ⟨mb, es, clk, rfl, hM, rfl⟩
    · have hs2 := (hst.alloc (.map #[] 0)).perm (List.Perm.swap _ _ _)
      have f2 := hs2.soft (b := db) List.mem_cons_self 2
      have d2 := hs2.cell (b := db) List.mem_cons_self (i := 2) rfl
      have hs3 := hs2.set0 2 (.map (some w.heap.size))
      simp only [List.setIfInBounds_toArray, List.set_cons_zero, List.set_cons_succ] at hs3
      have fin : Hid (∃ mb es clk, Hid (MapFn es clk (tagG A)) ∧ Hid (St B w0 ((w.alloc (.map #[] 0)).setCell ⟨db, 2, none⟩ (.map (some w.heap.size))) ((db, drO pv av (some mb)) :: (mb, .map (entsE encI es) clk) :: (S1 ++ (S2 ++ F))))) := Lib.hid
        ⟨w.heap.size, [], 0, Lib.hid (MapFn.nil.congr fun k => by rw [hA0]; rfl), Lib.hid hs3⟩
      clear hs2 hs3 hst hA0
      go_wp2_with fail
      go_meet
      case rel => exact fin.out
    · have fin : Hid (∃ mb es clk, Hid (MapFn es clk (tagG A)) ∧ Hid (St B w0 w ((db, drO pv av (some mb)) :: (mb, .map (entsE encI es) clk) :: (S1 ++ (S2 ++ F))))) := Lib.hid
        ⟨mb, es, clk, Lib.hid hM, Lib.hid (hst.perm (by
          classical
          exact List.perm_iff_count.2 fun a => by simp only [List.count_append, List.count_cons, List.count_nil]; omega))⟩
      clear hst hM
      go_wp2_with fail
      go_meet
      case rel => exact fin.out
  case rest =>
    clear ht hst c2 heq hmk
    obtain ⟨mb, es, clk, hM, hst⟩ := hcut
    have c2 := hst.out.cell (b := db) List.mem_cons_self (i := 2) rfl
    obtain ⟨ds, d2, hput, hM2⟩ := hM.out.run_put keyI uTags (hst.out.get (b := mb) (by simp)) t (.agg #[])
    have hs2 := ((hst.out.perm (List.Perm.swap _ _ _)).block0 (o' := .map (entsE encI ds) d2)).perm (List.Perm.swap _ _ _)
    obtain ⟨W2, hW2⟩ : ∃ W2, W2 = setBlock wc mb (.map (entsE encI ds) d2) := ⟨_, rfl⟩
    rw [← hW2] at hput hs2
    clear hW2
    have c1 := hs2.cell (b := db) List.mem_cons_self (i := 1) rfl
    have pm : ∀ Z : List (Nat × Obj), ((db, drO pv av (some mb)) :: (mb, .map (entsE encI ds) d2) :: (S1 ++ (Z ++ F))).Perm (Z ++ ((db, drO pv av (some mb)) :: (mb, .map (entsE encI ds) d2) :: (S1 ++ F))) := fun Z => by
      classical
      exact List.perm_iff_count.2 fun a => by simp only [List.count_append, List.count_cons]; omega
    obtain ⟨a3, k3, W3, S3, hrun, hA3, hs3⟩ := prs_push (by have := hA.out; rw [← hav.out] at this; exact this) (hs2.perm (pm S2)) t b hl
    rw [hav.out] at hrun
    replace hs3 := hs3.perm (pm S3).symm
    have e1 := hs3.cell (b := db) List.mem_cons_self (i := 1) rfl
    have g1 := hs3.soft (b := db) List.mem_cons_self 1
    have hs4 := hs3.set0 1 (.slice a3 (A ++ [(t, b)]).length k3)
    simp only [List.setIfInBounds_toArray, List.set_cons_zero, List.set_cons_succ] at hs4
    have fin : Hid (DrIs B w0 (W3.setCell ⟨db, 1, none⟩ (.slice a3 (A ++ [(t, b)]).length k3)) db P (A ++ [(t, b)]) F) := Lib.hid
      ⟨a1, k1, a3, k3, some mb, S1, S3, [(mb, .map (entsE encI ds) d2)], by have := hP.out; rw [← hpv.out] at this; exact this, hA3, .inr ⟨mb, ds, d2, rfl, hM2.congr (tagG_snoc A t b), rfl⟩, by
        rw [hpv.out]
        refine (show St B w0 _ ((db, drO pv (.slice a3 (A ++ [(t, b)]).length k3) (some mb)) :: (mb, .map (entsE encI ds) d2) :: (S1 ++ (S3 ++ F))) from hs4).perm ?_
        classical
        exact List.perm_iff_count.2 fun a => by simp only [List.count_append, List.count_cons, List.count_nil]; omega⟩
    clear hs2 hs3 hs4 pm hA3 hM2 hst hM hA hP hl
    generalize (A ++ [(t, b)]).length = q at *
    go_wp2_with (at_builtin; refine wpList_append_go rfl (.tmp 25) (.tmp 29) 28 28 rfl _ _ rfl rfl hrun ?_)
    exact bodyPost_end (results_none rfl _ _ _) rfl ⟨rfl, fin.out⟩

set_option maxHeartbeats 2000000 in
theorem dr_publish (h : DrIs B w0 w db P A F) (hl : P.length ≤ 100000) (e : Ent) (h1 : e.exch.length ≤ 140737488351232) (h2 : e.key.length ≤ 140737488351232) (b : Int) : Calls Try.prog 7 #[dptr db, enV e, .int .i64 b] w fun r w' => r = .returned (.tuple #[]) ∧ DrIs B w0 w' db (P ++ [(e, b)]) A F := by
  have ha := h.alloc (enO e)
  obtain ⟨a1, k1, a2, k2, m, S1, S2, X, hP, hA, ht, hst⟩ := ha
  obtain ⟨W1, hW⟩ : ∃ W1, W1 = w.alloc (enO e) := ⟨_, rfl⟩
  rw [← hW] at hst
  have hW' : Hid (w.alloc (.cells #[.int .i64 e.id, .int .i64 e.body, .int .i64 e.size, tx e.exch, tx e.key, .int .i64 e.prio, .int .i64 e.ttl, .int .i64 e.til, .bool e.again, .int .i64 e.hops] 30) = W1) := Lib.hid hW.symm
  generalize hpv : Value.slice a1 P.length k1 = pv at *
  have hx : Hid (∀ w2, Below W1.heap.size W1 w2 → w2.cell? ⟨db, 0, none⟩ = some pv ∧ EnAt w2 w.heap.size e) := Lib.hid fun w2 hb2 =>
    ⟨cellUp (hst.cell (b := db) List.mem_cons_self (i := 0) rfl) hb2, (hst.enAt (b := w.heap.size) (e := e) (by simp)).step hb2⟩
  have ap : Hid (∀ w2, Below W1.heap.size W1 w2 → ∃ a3 n3 k3 W3, (Builtin.append_ #[45, 45] 0 #[pv, .slice (some ⟨w2.heap.size, 0, none⟩) 1 1]).run Try.prog (w2.alloc (puO e b)) = .ok (.slice a3 n3 k3) W3 ∧
      (W3.cell? ⟨db, 0, none⟩ = some pv ∧ W3.frozen? ⟨db, 0, none⟩ = false) ∧ DrIs B w0 (W3.setCell ⟨db, 0, none⟩ (.slice a3 n3 k3)) db (P ++ [(e, b)]) A F) := Lib.hid fun w2 hb2 => by
    have pm : ∀ Z : List (Nat × Obj), ((db, drO pv (.slice a2 A.length k2) m) :: (Z ++ (S2 ++ (X ++ ((w.heap.size, enO e) :: F))))).Perm (Z ++ ((db, drO pv (.slice a2 A.length k2) m) :: (S2 ++ (X ++ ((w.heap.size, enO e) :: F))))) := fun Z => by
      classical
      exact List.perm_iff_count.2 fun a => by simp only [List.count_append, List.count_cons]; omega
    obtain ⟨a3, k3, W3, S3, hrun, hP3, hs3⟩ := pubs_push (by have := hP; rw [← hpv] at this; exact this) ((hst.grow hb2).perm (pm S1)) e b hl
    rw [hpv] at hrun
    replace hs3 := hs3.perm (pm S3).symm
    refine ⟨a3, _, k3, W3, hrun, ⟨hs3.cell (b := db) List.mem_cons_self (i := 0) rfl, hs3.soft (b := db) List.mem_cons_self 0⟩, ?_⟩
    have hs4 := hs3.set0 0 (.slice a3 (P ++ [(e, b)]).length k3)
    simp only [List.setIfInBounds_toArray, List.set_cons_zero, List.set_cons_succ] at hs4
    have hd : DrIs B w0 (W3.setCell ⟨db, 0, none⟩ (.slice a3 (P ++ [(e, b)]).length k3)) db (P ++ [(e, b)]) A ((w.heap.size, enO e) :: F) := ⟨a3, k3, a2, k2, m, S3, S2, X, hP3, hA, ht, hs4⟩
    exact hd.sub (List.sublist_cons_self _ _)
  have co := Lib.hid (fun w2 => drown_any e h1 h2 w2)
  obtain ⟨ct, z0, z1, z2, z3, z4, z5, z6, z7, z8, z9⟩ := hx.out W1 (Below.refl _ _)
  have toX : Hid (∀ w3, Below W1.drew.heap.size W1.drew w3 → Below W1.heap.size W1 w3) := Lib.hid fun w3 hb3 => bel (drew_b _) hb3
  clear h hst hP hA ht hW hl h1 h2 hpv
  obtain ⟨e0, e1, e2, e3, e4, e5, e6, e7, e8, e9⟩ := e
  simp only at z0 z1 z2 z3 z4 z5 z6 z7 z8 z9
  go_enter Try.func7, Try.ntmps7
  go_upto_region 1 with fail
  rw [hW'.out]
  go_region_law (first
    | (refine step_app (.tmp 10) (.tmp 15) 45 ⟨hrun⟩ rfl rfl (by simp [Act.eval, Act.put]) (by simp [Act.eval, Act.put]) ?_)
    | (go_simp; go_at_call 15; refine (co.out _).mono ?_; rintro r w3 ⟨rfl, hb3⟩; obtain ⟨ct3, y0, y1, y2, y3, y4, y5, y6, y7, y8, y9⟩ := hx.out _ (toX.out _ hb3); obtain ⟨a3, n3, k3, W3, hrun, ⟨j0, j1⟩, fin⟩ := ap.out _ (toX.out _ hb3); replace fin := Lib.hid fin; have ct4 := cellUp ct3 (new_below w3 (.cells #[.int .i64 e0, .int .i64 e1, .int .i64 e2, tx e3, tx e4, .int .i64 e5, .int .i64 e6, .int .i64 e7, .bool e8, .int .i64 e9, .int .i64 b] 51)); clear hb3))
  all_goals
    go_wp2_with fail
    exact bodyPost_end (results_none rfl _ _ _) rfl ⟨rfl, fin.out⟩
end
end Go.Proofs.Ytbjbpoldghbokaa
