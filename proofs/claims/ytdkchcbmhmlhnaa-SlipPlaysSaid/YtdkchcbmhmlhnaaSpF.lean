/- Slips: the two maps copied; room given back. -/
import Derived.Test.YtdkchcbmhmlhnaaSpE
namespace Go.Proofs.Ytdkchcbmhmlhnaa
open Go.RowKit
open Go.ChangeMaps (setBlock)
set_option linter.unusedVariables false
set_option linter.unusedSectionVars false
set_option linter.unusedSimpArgs false
set_option maxRecDepth 100000

theorem mk_mapH (w : World) (k : Int) : (Instr.makeMap 52 (some (.int .i64 k))).run Try.prog w = .ok (.map (some w.heap.size)) (w.alloc (.map #[] 0)) := by
  simp [Instr.makeMap, run_underlying uMapSl, asInt, asIntOf]
theorem mk_mapN (w : World) (k : Int) : (Instr.makeMap 53 (some (.int .i64 k))).run Try.prog w = .ok (.map (some w.heap.size)) (w.alloc (.map #[] 0)) := by
  simp [Instr.makeMap, run_underlying uMapN, asInt, asIntOf]
section
variable {α : Type} [DecidableEq α]
def CopyR (enc : α → Value) (B : Nat) (w0 : World) (db sb : Nat) (es : List (MapRow α)) (clk : Nat) (F : List (Nat × Obj)) (g : α → Option Value) (e : Ending) (w' : World) : Prop :=
  e = .returned (.tuple #[]) ∧ ∃ ds c2, MapFn ds c2 g ∧ St B w0 w' ((db, .map (entsE enc ds) c2) :: (sb, .map (entsE enc es) clk) :: F)
def MovedR (enc : α → Value) (B : Nat) (w0 : World) (sb : Nat) (es : List (MapRow α)) (clk : Nat) (F : List (Nat × Obj)) (g : α → Option Value) (e : Ending) (w' : World) : Prop :=
  ∃ db, e = .returned (.map (some db)) ∧ ∃ ds c2, MapFn ds c2 g ∧ St B w0 w' ((db, .map (entsE enc ds) c2) :: (sb, .map (entsE enc es) clk) :: F)
end
section
variable {B : Nat} {w0 w w' : World} {db sb hb nb eb most : Nat} {es : List (MapRow Int)} {cs : List (MapRow (List UInt8))} {clk ck : Nat} {g1 : Int → Option Value} {g2 : List UInt8 → Option Value} {M : List Slp} {F : List (Nat × Obj)} {tv : Value}
theorem mem_val {α : Type} [DecidableEq α] {es : List (MapRow α)} {clk : Nat} {g : α → Option Value} (h : MapFn es clk g) {e : MapRow α} (he : e ∈ es) : g e.1 = some e.2.1 := by
  rw [← h.look e.1, seek_some h.keys he]
  rfl

set_option maxHeartbeats 1000000 in
theorem copyH_any (hst : St B w0 w ((db, .map (entsE encI []) 0) :: (sb, .map (entsE encI es) clk) :: F)) (ho : MapFn es clk (heldG M)) :
    Calls Try.prog 49 #[.map (some db), .map (some sb)] w (CopyR encI B w0 db sb es clk F (heldG M)) := by
  have hg := hst.get (b := sb) (List.mem_cons_of_mem _ List.mem_cons_self)
  have hrg := run_range_map (P := Try.prog) w 52 _ _ sb _ _ uMapSl hg
  have hs4 := (hst.alloc (.mapIter (some sb) clk #[] clk)).perm ((List.Perm.swap _ _ _).trans ((List.Perm.swap _ _ _).cons _))
  have start : Hid (CopyG encI B w0 db sb w.heap.size es clk F [] [] (w.alloc (.mapIter (some sb) clk #[] clk))) := Lib.hid ⟨⟨hs4.get (b := sb) (by simp), #[], hs4.get (b := w.heap.size) (by simp), by simp, by simp, by simp⟩, #[], [], 0, rfl, ⟨by simp, by simp⟩, hs4⟩
  have hob := Lib.hid ho.born
  have hkn := Lib.hid ho.keys
  have hnd : Hid es.Nodup := Lib.hid (List.Pairwise.of_map (S := fun a b => a ≠ b) _ (fun a b h e => h (by rw [e])) ho.keys)
  have hva : Hid (∀ e ∈ es, ∃ x : Slp, e.2.1 = slV x) := Lib.hid fun e he => by
    have h1 := mem_val ho he
    unfold heldG at h1
    rw [Option.map_eq_some_iff] at h1
    obtain ⟨x, -, e1⟩ := h1
    exact ⟨x, e1.symm⟩
  have fin : Hid (∀ done w', CopyG encI B w0 db sb w.heap.size es clk F done done w' → done.Perm es → CopyR encI B w0 db sb es clk F (heldG M) (.returned (.tuple #[])) w') := Lib.hid (by
    rintro done w' ⟨-, seen, ds, c2, g1, g2, g3⟩ hp
    refine ⟨rfl, ds, c2, ho.perm g2 ?_, g3.sub ?_⟩
    · rw [g1]
      exact hp.map _
    · exact ((List.sublist_cons_self _ _).cons_cons _).cons_cons _)
  clear hst hg hs4 ho
  generalize w.heap.size = r at *
  generalize w.alloc (.mapIter (some sb) clk #[] clk) = W4 at *
  go_enter Try.func49, Try.ntmps49
  go_wp2_with fail
  go_loopg [4] es.length (fun g v4 wr => ∃ done, done.length + g = es.length ∧ Hid (CopyG encI B w0 db sb r es clk F done done wr))
  case atStart => exact ⟨[], by simp, start⟩
  case round =>
    obtain ⟨done, hg, hM⟩ := hrel
    rcases hM.out.next (P := Try.prog) hob.out hnd.out 0 with ⟨hp, hnx⟩ | ⟨e, w', he, hd, hnx, hen, hM2⟩
    · have fin := Lib.hid (fin.out _ _ hM.out hp)
      go_wp2_with fail
      exact bodyPost_end (results_none rfl _ _ _) rfl fin.out
    · obtain ⟨x, hev⟩ := hva.out e he
      have hle : done.length + 1 ≤ es.length := by
        have := nodup_len (l := done ++ [e]) (m := es) (hM2.1.2.choose_spec.2.1) hM2.1.2.choose_spec.2.2.1
        simpa using this
      have hM3 := hM2.grow (new_below w' (slO x))
      obtain ⟨w5, hup, hM4⟩ := hM3.laid (P := Try.prog) keyI uMapSl hkn.out he hd
      replace hM4 := Lib.hid hM4
      rw [hev] at hnx hen hup
      clear hM hM2 hM3 hd he fin start hev
      go_wp2_with fail
      go_roundg (es.length - (done.length + 1))
      case measure => omega
      case rel => exact ⟨done ++ [e], by rw [List.length_append, List.length_singleton]; omega, hM4⟩

set_option maxHeartbeats 1000000 in
theorem copyN_any (hst : St B w0 w ((db, .map (entsE encS []) 0) :: (sb, .map (entsE encS cs) clk) :: F)) (ho : MapFn cs clk (cntG M)) :
    Calls Try.prog 50 #[.map (some db), .map (some sb)] w (CopyR encS B w0 db sb cs clk F (cntG M)) := by
  have hg := hst.get (b := sb) (List.mem_cons_of_mem _ List.mem_cons_self)
  have hrg := run_range_map (P := Try.prog) w 53 _ _ sb _ _ uMapN hg
  have hs4 := (hst.alloc (.mapIter (some sb) clk #[] clk)).perm ((List.Perm.swap _ _ _).trans ((List.Perm.swap _ _ _).cons _))
  have start : Hid (CopyG encS B w0 db sb w.heap.size cs clk F [] [] (w.alloc (.mapIter (some sb) clk #[] clk))) := Lib.hid ⟨⟨hs4.get (b := sb) (by simp), #[], hs4.get (b := w.heap.size) (by simp), by simp, by simp, by simp⟩, #[], [], 0, rfl, ⟨by simp, by simp⟩, hs4⟩
  have hob := Lib.hid ho.born
  have hkn := Lib.hid ho.keys
  have hnd : Hid cs.Nodup := Lib.hid (List.Pairwise.of_map (S := fun a b => a ≠ b) _ (fun a b h e => h (by rw [e])) ho.keys)
  have hva : Hid (∀ e ∈ cs, ∃ n : Int, e.2.1 = .int .i64 n) := Lib.hid fun e he => by
    have h1 := mem_val ho he
    unfold cntG at h1
    split at h1
    · cases h1
    · exact ⟨_, (Option.some.inj h1).symm⟩
  have fin : Hid (∀ done w', CopyG encS B w0 db sb w.heap.size cs clk F done done w' → done.Perm cs → CopyR encS B w0 db sb cs clk F (cntG M) (.returned (.tuple #[])) w') := Lib.hid (by
    rintro done w' ⟨-, seen, ds, c2, g1, g2, g3⟩ hp
    refine ⟨rfl, ds, c2, ho.perm g2 ?_, g3.sub ?_⟩
    · rw [g1]
      exact hp.map _
    · exact ((List.sublist_cons_self _ _).cons_cons _).cons_cons _)
  clear hst hg hs4 ho
  generalize w.heap.size = r at *
  generalize w.alloc (.mapIter (some sb) clk #[] clk) = W4 at *
  go_enter Try.func50, Try.ntmps50
  go_wp2_with fail
  go_loopg [4, 5] cs.length (fun g v4 v5 wr => ∃ done, done.length + g = cs.length ∧ Hid (CopyG encS B w0 db sb r cs clk F done done wr))
  case atStart => exact ⟨[], by simp, start⟩
  case round =>
    obtain ⟨done, hg, hM⟩ := hrel
    rcases hM.out.next (P := Try.prog) hob.out hnd.out 0 with ⟨hp, hnx⟩ | ⟨e, w', he, hd, hnx, hen, hM2⟩
    · have fin := Lib.hid (fin.out _ _ hM.out hp)
      go_wp2_with fail
      exact bodyPost_end (results_none rfl _ _ _) rfl fin.out
    · obtain ⟨x, hev⟩ := hva.out e he
      have hle : done.length + 1 ≤ cs.length := by
        have := nodup_len (l := done ++ [e]) (m := cs) (hM2.1.2.choose_spec.2.1) hM2.1.2.choose_spec.2.2.1
        simpa using this
      obtain ⟨w5, hup, hM4⟩ := hM2.laid (P := Try.prog) keyS uMapN hkn.out he hd
      replace hM4 := Lib.hid hM4
      rw [hev] at hnx hen hup
      clear hM hM2 hd he fin start hev
      go_wp2_with fail
      go_roundg (cs.length - (done.length + 1))
      case measure => omega
      case rel => exact ⟨done ++ [e], by rw [List.length_append, List.length_singleton]; omega, hM4⟩

theorem movedH_any (hst : St B w0 w ((sb, .map (entsE encI es) clk) :: F)) (ho : MapFn es clk (heldG M)) : Calls Try.prog 42 #[.map (some sb)] w (MovedR encI B w0 sb es clk F (heldG M)) := by
  have gl := fun ty => run_lenE (P := Try.prog) (ty := ty) uMapSl (hst.get (b := sb) List.mem_cons_self)
  have hmk := mk_mapH w
  have cc := Lib.hid (copyH_any (hst.alloc (.map #[] 0)) ho)
  clear hst ho
  generalize es.length = L at *
  go_enter Try.func42, Try.ntmps42
  go_wp2_with fail
  refine cc.out.mono ?_
  rintro e w' ⟨rfl, ds, c2, h1, h2⟩
  have fin : Hid (MovedR encI B w0 sb es clk F (heldG M) (.returned (.map (some w.heap.size))) w') := Lib.hid ⟨_, rfl, ds, c2, h1, h2⟩
  clear cc h1 h2 gl hmk
  go_wp2_with fail
  go_ret
  exact fin.out
theorem movedN_any (hst : St B w0 w ((sb, .map (entsE encS cs) clk) :: F)) (ho : MapFn cs clk (cntG M)) : Calls Try.prog 43 #[.map (some sb)] w (MovedR encS B w0 sb cs clk F (cntG M)) := by
  have gl := fun ty => run_lenE (P := Try.prog) (ty := ty) uMapN (hst.get (b := sb) List.mem_cons_self)
  have hmk := mk_mapN w
  have cc := Lib.hid (copyN_any (hst.alloc (.map #[] 0)) ho)
  clear hst ho
  generalize cs.length = L at *
  go_enter Try.func43, Try.ntmps43
  go_wp2_with fail
  refine cc.out.mono ?_
  rintro e w' ⟨rfl, ds, c2, h1, h2⟩
  have fin : Hid (MovedR encS B w0 sb cs clk F (cntG M) (.returned (.map (some w.heap.size))) w') := Lib.hid ⟨_, rfl, ds, c2, h1, h2⟩
  clear cc h1 h2 gl hmk
  go_wp2_with fail
  go_ret
  exact fin.out

/-! ### as they come in giveRoomBack -/
def MvH (B : Nat) (w0 : World) (sb : Nat) (tv : Value) (hb nb most : Nat) (M : List Slp) (F : List (Nat × Obj)) (db : Nat) (w' : World) : Prop :=
  ∃ ds c2, MapFn ds c2 (heldG M) ∧ WithM B w0 w' sb tv hb nb most (heldG M) (cntG M) ((db, .map (entsE encI ds) c2) :: F)
def MvN (B : Nat) (w0 : World) (sb : Nat) (tv : Value) (L : Nat) (M : List Slp) (F : List (Nat × Obj)) (db eb : Nat) (w' : World) : Prop :=
  WithM B w0 (((w'.setCell ⟨sb, 1, none⟩ (.map (some db))).setCell ⟨sb, 2, none⟩ (.map (some eb))).setCell ⟨sb, 3, none⟩ (.int .i64 L)) sb tv db eb L (heldG M) (cntG M) F
theorem mvH_op (h : WithM B w0 w sb tv hb nb most (heldG M) (cntG M) F) : Calls Try.prog 42 #[.map (some hb)] w fun e w' => ∃ db, e = .returned (.map (some db)) ∧ MvH B w0 sb tv hb nb most M F db w' ∧
    (w'.cell? ⟨sb, 1, none⟩ = some (.map (some hb)) ∧ w'.cell? ⟨sb, 2, none⟩ = some (.map (some nb))) := by
  obtain ⟨es, clk, cs, ck, h1, h2, h3⟩ := h
  have pm : ∀ a b c d (X : List (Nat × Obj)), ((a :: b :: c :: d :: X) : List (Nat × Obj)).Perm (c :: b :: d :: a :: X) := fun a b c d X => by
    classical
    exact List.perm_iff_count.2 fun z => by simp only [List.count_cons]; omega
  refine (movedH_any (h3.perm (swap_sb _ _ _ _)) h1).mono ?_
  rintro e w' ⟨db, rfl, ds, c2, q1, q2⟩
  have hW : WithM B w0 w' sb tv hb nb most (heldG M) (cntG M) ((db, .map (entsE encI ds) c2) :: F) := ⟨es, clk, cs, ck, h1, h2, q2.perm (pm _ _ _ _ _)⟩
  exact ⟨db, rfl, ⟨ds, c2, q1, hW⟩, hW.head.2.1, hW.head.2.2.1⟩
theorem mvN_op (hM : OkS M) {L : Nat} (hL : L = M.length) (h : MvH B w0 sb tv hb nb most M F db w) : Calls Try.prog 43 #[.map (some nb)] w fun e w' => ∃ eb, e = .returned (.map (some eb)) ∧ MvN B w0 sb tv L M F db eb w' ∧
    (w'.cell? ⟨sb, 1, none⟩ = some (.map (some hb)) ∧ w'.cell? ⟨sb, 2, none⟩ = some (.map (some nb))) ∧ w'.cell? ⟨sb, 3, none⟩ = some (.int .i64 most) ∧ (∀ i, w'.frozen? ⟨sb, i, none⟩ = false) ∧ ∀ ty, (Builtin.len_ #[52] ty #[.map (some hb)]).run Try.prog w' = .ok (.int .i64 L) w' := by
  subst hL
  obtain ⟨ds, c2, hd, es, clk, cs, ck, h1, h2, h3⟩ := h
  refine (movedN_any (h3.perm (swap_sb2 _ _ _ _)) h2).mono ?_
  rintro e w' ⟨eb, rfl, ds2, c3, q1, q2⟩
  have q3 := q2.perm (H' := (sb, slipsO tv (some hb) (some nb) most) :: (db, .map (entsE encI ds) c2) :: (eb, .map (entsE encS ds2) c3) :: ((hb, .map (entsE encI es) clk) :: (nb, .map (entsE encS cs) ck) :: F)) (by
    classical
    exact List.perm_iff_count.2 fun z => by simp only [List.count_cons]; omega)
  have hW : WithM B w0 w' sb tv hb nb most (heldG M) (cntG M) ((db, .map (entsE encI ds) c2) :: (eb, .map (entsE encS ds2) c3) :: F) := ⟨es, clk, cs, ck, h1, h2, q3.perm (by
    classical
    exact List.perm_iff_count.2 fun z => by simp only [List.count_cons]; omega)⟩
  have q4 := ((q3.set0 1 (.map (some db))).set0 2 (.map (some eb))).set0 3 (.int .i64 M.length)
  have hd' : WithM B w0 (((w'.setCell ⟨sb, 1, none⟩ (.map (some db))).setCell ⟨sb, 2, none⟩ (.map (some eb))).setCell ⟨sb, 3, none⟩ (.int .i64 M.length)) sb tv db eb M.length (heldG M) (cntG M) ((hb, .map (entsE encI es) clk) :: (nb, .map (entsE encS cs) ck) :: F) := ⟨ds, c2, ds2, c3, hd, q1, q4⟩
  obtain ⟨S, s1, -, s2⟩ := hd'.beside
  obtain ⟨-, c1, c2', c3', cf⟩ := hW.head
  exact ⟨eb, rfl, s2 _ _ (s1.sub ((List.Sublist.refl S).append ((List.sublist_cons_self _ _).trans (List.sublist_cons_self _ _)))), ⟨c1, c2'⟩, c3', cf, fun ty => hW.lenH hM ty⟩

set_option maxHeartbeats 2000000 in
theorem give_any (h : WithM B w0 w sb tv hb nb most (heldG M) (cntG M) F) (hM : OkS M) (hm : most ≤ 1000000) : Calls Try.prog 33 #[gptr sb] w fun e w' => e = .returned (.tuple #[]) ∧ ∃ hb nb m, m ≤ 1000000 ∧ WithM B w0 w' sb tv hb nb m (heldG M) (cntG M) F := by
  obtain ⟨-, c1, -, c3, -⟩ := h.head
  have gl := fun ty n => (h.grow (drewN_below _ n)).lenH hM ty
  have hLm := hM.few
  obtain ⟨L, hL⟩ : ∃ L, L = M.length := ⟨_, rfl⟩
  obtain ⟨d, hd⟩ : ∃ d, d = most / 4 := ⟨_, rfl⟩
  rw [← hL] at gl hLm
  have hkeep := Lib.hid (fun n => (⟨hb, nb, most, hm, h.grow (drewN_below _ n)⟩ : ∃ hb nb m, m ≤ 1000000 ∧ WithM B w0 (w.drewN n) sb tv hb nb m (heldG M) (cntG M) F))
  replace hL := Lib.hid hL
  replace h := Lib.hid h
  replace hM := Lib.hid hM
  replace hLm := Lib.hid hLm
  by_cases h8 : (most : Int) ≤ 8
  · clear hd
    go_enter Try.func33, Try.ntmps33
    go_wp2_with fail
    go_quiet (fail)
    go_wp2_with fail
    exact bodyPost_ret (results_none rfl _ _ _) rfl ⟨rfl, hkeep.out _⟩
  have hq0 : (0 : Int) ≤ most := by omega
  have hq1 : (most : Int) ≤ 1000000 := by omega
  have hd1 : (most : Int) / 4 = d := by omega
  have hd3 : (most : Int).tdiv 4 = d := by rw [Int.tdiv_eq_ediv_of_nonneg (by omega)]; omega
  have hd2 : IntKind.i64.wrap (d : Int) = d := IntWalk.i64_in _ (by omega)
  have hd0 : (0 : Int) ≤ d := by omega
  have hd4 : (d : Int) ≤ 1000000 := by omega
  by_cases hc : (d : Int) < L
  · clear hd
    go_enter Try.func33, Try.ntmps33
    go_wp2_with fail
    go_quiet (fail)
    go_wp2_with fail
    exact bodyPost_ret (results_none rfl _ _ _) rfl ⟨rfl, hkeep.out _⟩
  have hW := Lib.hid (fun n => h.out.grow (drewN_below _ n))
  clear hkeep h
  replace hd := Lib.hid hd
  go_enter Try.func33, Try.ntmps33
  go_wp2_with fail
  go_quiet (fail)
  go_upto_region 1 with fail
  have h2 : WithM B w0 (w.drewN nq).drew sb tv hb nb most (heldG M) (cntG M) F := (hW.out nq).grow (drew_b _)
  obtain ⟨-, e1, e2, -⟩ := h2.head
  have hs0 := Lib.hid (And.intro e1 e2)
  have ca := Lib.hid (fun W (h : WithM B w0 W sb tv hb nb most (heldG M) (cntG M) F) => mvH_op h)
  have cb := Lib.hid (fun W db (h : MvH B w0 sb tv hb nb most M F db W) => mvN_op hM.out hL.out h)
  have fin : Hid (∀ w' db eb, MvN B w0 sb tv L M F db eb w' → ∃ hb nb m, m ≤ 1000000 ∧ WithM B w0 (((w'.setCell ⟨sb, 1, none⟩ (.map (some db))).setCell ⟨sb, 2, none⟩ (.map (some eb))).setCell ⟨sb, 3, none⟩ (.int .i64 L)) sb tv hb nb m (heldG M) (cntG M) F) := Lib.hid fun w' db eb h => ⟨db, eb, L, hLm.out, h⟩
  clear e1 e2 c1 c3 gl hW hd h8 hc hd1 hd2 hd3 hd0 hd4 hq0 hq1 hm
  generalize w.drewN nq = w at *
  obtain ⟨e1, e2⟩ := hs0.out
  go_region_law (go_simp; first
    | (go_at_call 42; refine (ca.out _ (by assumption)).mono ?_; rintro r w4 ⟨db, rfl, hA, kS1, kS2⟩)
    | (go_at_call 43; refine (cb.out _ _ (by assumption)).mono ?_; rintro r w5 ⟨eb, rfl, hN, ⟨kS1, kS2⟩, c3, cf, gl⟩))
  all_goals
    have hf := Lib.hid (fin.out _ _ _ hN)
    go_wp2_with fail
    exact bodyPost_end (results_none rfl _ _ _) rfl ⟨rfl, hf.out⟩
end
end Go.Proofs.Ytdkchcbmhmlhnaa
