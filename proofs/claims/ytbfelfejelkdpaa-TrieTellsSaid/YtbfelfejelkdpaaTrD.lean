/- Tables of ids: a row dropped; what is left is laid anew where much went. -/
import Derived.Test.YtbfelfejelkdpaaTrC
namespace Go.Proofs.Ytbfelfejelkdpaa
open Go.RowKit
open Go.ChangeMaps (setBlock)
set_option linter.unusedVariables false
set_option linter.unusedSectionVars false
set_option linter.unusedSimpArgs false
set_option maxRecDepth 100000

section
variable {α : Type} [DecidableEq α]
theorem keys_rows2 (t : Tb α) : t.rows.map (·.1) = t.es.map (·.1) := keys_rows t
/-- The rows that are left. -/
def restE (es : List (Ent α)) (k : α) : List (Ent α) := es.eraseP (fun x => decide (x.1 = k))
theorem rest_sub (es : List (Ent α)) (k : α) : (restE es k).Sublist es := List.eraseP_sublist
theorem rest_eq {es : List (Ent α)} (hn : (es.map (·.1)).Nodup) (k : α) : restE es k = es.filter fun x => decide (x.1 ≠ k) := by
  unfold restE
  induction es with
  | nil => rfl
  | cons x es ih =>
    rw [List.map_cons, List.nodup_cons] at hn
    by_cases hx : x.1 = k
    · rw [List.eraseP_cons_of_pos (by simpa using hx), List.filter_cons_of_neg (by simpa using hx)]
      refine (List.filter_eq_self.2 fun y hy => ?_).symm
      have : y.1 ≠ k := fun e => hn.1 (hx ▸ e ▸ List.mem_map_of_mem hy)
      simpa using this
    · rw [List.eraseP_cons_of_neg (by simpa using hx), List.filter_cons_of_pos (by simpa using hx), ih hn.2]
theorem TbOk.rest {t : Tb α} {n : Nat} (h : TbOk t n) (hm : t.mv ≠ none) (k : α) : TbOk (⟨t.mv, restE t.es k, t.clk, t.most⟩ : Tb α) n :=
  ⟨((rest_sub t.es k).map _).nodup h.keys, ⟨((rest_sub t.es k).map _).nodup h.born.1, fun e he => h.born.2 e ((rest_sub t.es k).subset he)⟩, fun e => absurd e hm, Nat.le_trans (rest_sub t.es k).length_le h.len, h.most⟩
theorem rows_filter (t : Tb α) (k : α) : t.rows.filter (fun x => decide (x.1 ≠ k)) = (t.es.filter fun x => decide (x.1 ≠ k)).map fun e => (e.1, e.2.1) := by
  unfold Tb.rows
  rw [List.filter_map]
  rfl
end

section
variable {B : Nat} {w0 w : World} {F : List (Nat × Obj)} {b o : Nat} {c : Array Value} {T : TypeId} {t : Tb Int} {n : Nat} {k : Int}

/-- While what is left is laid anew: done came, those of rows are laid. -/
def Moved (B : Nat) (w0 : World) (b o : Nat) (c : Array Value) (T : TypeId) (F : List (Nat × Obj)) (mb r : Nat) (es : List (Ent Int)) (clk : Nat) (done laid : List (Ent Int)) (w' : World) : Prop :=
  IterAt w' mb r encI es clk done ∧ ∃ seen t2, t2.rows = laid.map (fun e => (e.1, e.2.1)) ∧ TbOk t2 laid.length ∧ St B w0 w' ((b, .cells (tabC c o t2.mv t2.most) T) :: (tabH encI t2 ++ ((mb, .map (entsE encI es) clk) :: (r, .mapIter (some mb) clk seen clk) :: F)))

theorem perm_m {α : Type} (x y z : α) (A F : List α) : (x :: (A ++ (y :: z :: F))).Perm ((x :: A) ++ z :: (y :: F)) := by
  classical
  exact List.perm_iff_count.2 fun a => by simp only [List.count_append, List.count_cons]; omega

theorem Moved.next {mb r : Nat} {es : List (Ent Int)} {clk : Nat} {done : List (Ent Int)} (h : Moved B w0 b o c T F mb r es clk done done w) (hB : Born es clk) (hn : es.Nodup) (ty : TypeId) :
    (done.Perm es ∧ (Instr.next (.pointer (some ⟨r, 0, none⟩)) false ty).run Try.prog w = .ok (.tuple #[.bool false]) w) ∨
    ∃ e w', e ∈ es ∧ e ∉ done ∧ (Instr.next (.pointer (some ⟨r, 0, none⟩)) false ty).run Try.prog w = .ok (.tuple #[.bool true, encI e.1, e.2.1]) w' ∧ (Instr.entry (.pointer (some ⟨r, 0, none⟩))).run Try.prog w' = .ok (.tuple #[encI e.1, e.2.1]) w' ∧
      Moved B w0 b o c T F mb r es clk (done ++ [e]) done w' := by
  obtain ⟨hI, seen, t2, h1, h2, h3⟩ := h
  rcases hI.next (P := Try.prog) hB hn ty with ⟨hp, hr⟩ | ⟨e, he, hd, w', hr, hI', hk, hs, ho, ht, hu, hen⟩
  · exact .inl ⟨hp, hr⟩
  · obtain ⟨-, seen', hs', -⟩ := id hI'
    have h3' := h3.perm (perm_m _ _ _ _ _)
    have h4 := (h3'.write hs' hk hs ho ht hu).perm (perm_m _ _ _ _ _).symm
    exact .inr ⟨e, w', he, hd, hr, hen, hI', seen', t2, h1, h2, h4⟩

theorem Moved.laid {mb r : Nat} {es : List (Ent Int)} {clk : Nat} {done : List (Ent Int)} {e : Ent Int} (h : Moved B w0 b o c T F mb r es clk (done ++ [e]) done w) (hv : e.2.1 = .agg #[]) (hk : (es.map (·.1)).Nodup) (he : e ∈ es) (hd : e ∉ done) (hl : done.length ≤ 1000000) (hc : o + 1 < c.size) {w1 : World} (hb : Below w.heap.size w w1) :
    Calls Try.prog 19 #[.pointer (some ⟨b, o, none⟩), .int .i64 e.1, .agg #[]] w1 fun e2 w' => e2 = .returned (.tuple #[]) ∧ Moved B w0 b o c T F mb r es clk (done ++ [e]) (done ++ [e]) w' := by
  obtain ⟨hI, seen, t2, h1, h2, h3o⟩ := h
  have h3 := h3o.grow hb
  have hnk : e.1 ∉ t2.es.map (·.1) := by
    rw [← keys_rows, h1]
    intro hm
    simp only [List.map_map, List.mem_map, Function.comp_apply] at hm
    obtain ⟨x, hx, e1⟩ := hm
    have hxe := hI.2.choose_spec.2.2.1 x (by simp [hx])
    have := (seek_some hk he).symm.trans (e1 ▸ seek_some hk hxe)
    rw [Option.some.inj this] at hd
    exact hd hx
  refine (putI_is h3 (tabC_0 _ _ (by omega)) (tabC_1 _ _ hc) h2 hl hnk).mono ?_
  rintro e2 w' ⟨rfl, t3, ⟨h4, h5⟩, h6⟩
  rw [tabC_tabC] at h6
  refine ⟨rfl, hI.kept ?_ ?_, seen, t3, ?_, by rw [List.length_append]; exact h5, h6⟩
  · exact (h6.get (b := mb) (o := .map (entsE encI es) clk) (by simp)).trans hI.1.symm
  · exact (h6.get (b := r) (o := .mapIter (some mb) clk seen clk) (by simp)).trans (h3o.get (b := r) (by simp)).symm
  · rw [h4, h1, List.map_append]
    simp [hv]

set_option maxHeartbeats 1000000 in
theorem dropI_any (hst : St B w0 w ((b, .cells c T) :: (tabH encI t ++ F))) (h0 : c[o]? = some (.map t.mv)) (h1 : c[o + 1]? = some (.int .i64 t.most)) (hok : TbOk t n) (hv : Bare t) (hn : n ≤ 1000000) (hk : k ∈ t.es.map (·.1)) :
    Calls Try.prog 16 #[.pointer (some ⟨b, o, none⟩), .int .i64 k] w (TabR encI B w0 b o c T F (fun t' => t'.rows.Perm (t.rows.filter fun x => decide (x.1 ≠ k)) ∧ TbOk t' n)) := by
  obtain ⟨mb, hmv⟩ : ∃ mb, t.mv = some mb := by
    cases h : t.mv with
    | some mb => exact ⟨mb, rfl⟩
    | none => rw [(hok.bare h).1] at hk; simp at hk
  have hst' : St B w0 w ((b, .cells c T) :: ((mb, .map (entsE encI t.es) t.clk) :: F)) := by
    unfold tabH at hst; rw [hmv] at hst; exact hst
  have c0 : w.cell? ⟨b, o, none⟩ = some (.map (some mb)) := hst'.cell (b := b) List.mem_cons_self (hmv ▸ h0)
  have hg := hst'.get (b := mb) (List.mem_cons_of_mem _ List.mem_cons_self)
  have hs1 := ((hst'.perm (List.Perm.swap _ _ _)).block0 (o' := .map (entsE encI (restE t.es k)) t.clk)).perm (List.Perm.swap _ _ _)
  have hrest := hok.rest (by rw [hmv]; simp) k
  have hre := rest_eq hok.keys k
  have hmost := hok.most
  have hlt : (restE t.es k).length ≤ n := hrest.len
  -- what is left stays
  have fin1 : ∀ w', St B w0 w' ((b, .cells c T) :: ((mb, .map (entsE encI (restE t.es k)) t.clk) :: F)) → TabR encI B w0 b o c T F (fun t' => t'.rows.Perm (t.rows.filter fun x => decide (x.1 ≠ k)) ∧ TbOk t' n) (.returned (.tuple #[])) w' := fun w' h => by
    refine ⟨rfl, ⟨t.mv, restE t.es k, t.clk, t.most⟩, ⟨?_, hrest⟩, ?_⟩
    · rw [rows_filter, ← hre]
      exact List.Perm.refl _
    · rw [tabC_same h0 h1]
      unfold tabH
      rw [hmv]
      exact h
  generalize hW : setBlock w mb (.map (entsE encI (restE t.es k)) t.clk) = W at *
  have d0 : W.cell? ⟨b, o, none⟩ = some (.map (some mb)) := hs1.cell (b := b) List.mem_cons_self (hmv ▸ h0)
  have d1 : W.cell? ⟨b, o + 1, none⟩ = some (.int .i64 t.most) := hs1.cell (b := b) List.mem_cons_self h1
  have gl := fun ty => run_lenE (P := Try.prog) (ty := ty) uMapI (hs1.drew.get (b := mb) (List.mem_cons_of_mem _ List.mem_cons_self))
  replace hs1 := Lib.hid hs1
  replace fin1 := Lib.hid fin1
  replace hW := Lib.hid hW
  go_enter Try.func16, Try.ntmps16
  go_wp2_with (at_delete; refine wpList_delE rfl (.tmp 10) (.tmp 11) rfl keyI uMapI rfl hg (k := k) trivial (fun _ _ => trivial) rfl ?_; intro w2 hw2; replace hw2 := Lib.hid (hw2.out.trans hW.out); rw [hw2.out])
  clear hst hst' h0 hg c0 gl
  replace hre := Lib.hid hre
  obtain ⟨L, hLn⟩ : ∃ L, L = (restE t.es k).length := ⟨_, rfl⟩
  obtain ⟨q, hqn⟩ : ∃ q, q = t.most := ⟨_, rfl⟩
  obtain ⟨d, hd⟩ : ∃ d, d = q / 4 := ⟨_, rfl⟩
  have gl2 := fun ty n => run_lenE (P := Try.prog) (ty := ty) uMapI ((hs1.out.drewN n).get (b := mb) (List.mem_cons_of_mem _ List.mem_cons_self))
  rw [← hLn] at gl2 hlt
  rw [← hqn] at d1 hmost
  have hL : (L : Int) ≤ 1000000 := by omega
  have hd1 : (q : Int) / 4 = d := by omega
  have hd2 : IntKind.i64.wrap (d : Int) = d := IntWalk.i64_in _ (by omega)
  have f0 : W.frozen? ⟨b, o, none⟩ = false := hs1.out.soft (b := b) List.mem_cons_self o
  have f1 : W.frozen? ⟨b, o + 1, none⟩ = false := hs1.out.soft (b := b) List.mem_cons_self (o + 1)
  have hq0 : (0 : Int) ≤ q := by omega
  replace hLn := Lib.hid hLn
  replace hqn := Lib.hid hqn
  replace hd := Lib.hid hd
  by_cases hc : (d : Int) < L
  · have fin := Lib.hid (fun n => fin1.out _ (hs1.out.drewN n))
    go_quiet (fail)
    go_wp2_with fail
    exact bodyPost_end (results_none rfl _ _ _) rfl (fin.out _)
  · have hs2 := Lib.hid (hs1.out.drewN 1)
    go_quiet (fail)
    go_upto_region 4 with fail
    have hs3 : St B w0 (((W.drewN nq).setCell ⟨b, o, none⟩ (.map none)).setCell ⟨b, o + 1, none⟩ (.int .i64 0)) ((b, .cells (tabC c o none 0) T) :: ((mb, .map (entsE encI (restE t.es k)) t.clk) :: F)) := ((hs1.out.drewN nq).set0 o (.map none)).set0 (o + 1) (.int .i64 0)
    generalize ((W.drewN nq).setCell ⟨b, o, none⟩ (.map none)).setCell ⟨b, o + 1, none⟩ (.int .i64 0) = W3 at *
    have hg3 := hs3.get (b := mb) (List.mem_cons_of_mem _ List.mem_cons_self)
    have hrg := run_range_map (P := Try.prog) W3 45 _ _ mb _ _ uMapI hg3
    have hs4 := (hs3.alloc (.mapIter (some mb) t.clk #[] t.clk)).perm ((List.Perm.swap _ _ _).trans ((List.Perm.swap _ _ _).cons _))
    have start : Hid (Moved B w0 b o c T F mb W3.heap.size (restE t.es k) t.clk [] [] (W3.alloc (.mapIter (some mb) t.clk #[] t.clk))) := Lib.hid ⟨⟨hs4.get (b := mb) (by simp), #[], hs4.get (b := W3.heap.size) (by simp), by simp, by simp, by simp⟩, #[], Tb.new, rfl, TbOk.new _, hs4⟩
    have hob := Lib.hid hrest.born
    have hkn := Lib.hid hrest.keys
    have hnd : (restE t.es k).Nodup := List.Pairwise.of_map (S := fun a b => a ≠ b) _ (fun a b h e => h (by rw [e])) hrest.keys
    have hva : Hid (∀ e ∈ restE t.es k, e.2.1 = .agg #[]) := Lib.hid fun e he => hv e ((rest_sub t.es k).subset he)
    have hcs : o + 1 < c.size := (Array.getElem?_eq_some_iff.1 h1).1
    have fin : Hid (∀ done w', Moved B w0 b o c T F mb W3.heap.size (restE t.es k) t.clk done done w' → done.Perm (restE t.es k) → TabR encI B w0 b o c T F (fun t' => t'.rows.Perm (t.rows.filter fun x => decide (x.1 ≠ k)) ∧ TbOk t' n) (.returned (.tuple #[])) w') := Lib.hid (by
      rintro done w' ⟨-, seen, t2, g1, g2, g3⟩ hp
      refine ⟨rfl, t2, ⟨?_, g2.mono ?_⟩, g3.sub ?_⟩
      · rw [g1, rows_filter, ← hre.out]
        exact hp.map _
      · rw [hp.length_eq]
        have := hLn.out
        omega
      · refine List.Sublist.cons_cons _ ((List.Sublist.refl _).append ?_)
        exact (List.sublist_cons_self _ _).trans (List.sublist_cons_self _ _))
    replace hlt := Lib.hid (show (restE t.es k).length ≤ 1000000 by have := hLn.out; omega)
    replace hnd := Lib.hid hnd
    clear hs1 hs2 hs3 hs4 hg3 hrest fin1 hW gl2 d0 d1 f0 f1 h1 hok hv hk hLn hqn hd hre hd1 hd2 hc hL hq0 hmost
    generalize restE t.es k = es at *
    generalize t.clk = clk at *
    generalize W3.heap.size = r at *
    generalize W3.alloc (.mapIter (some mb) clk #[] clk) = W4 at *
    go_wp2_with fail
    go_loopg [5] es.length (fun g v5 wr => ∃ done, done.length + g = es.length ∧ Hid (Moved B w0 b o c T F mb r es clk done done wr))
    case atStart => exact ⟨[], by simp, start⟩
    case round =>
      obtain ⟨done, hg, hM⟩ := hrel
      rcases hM.out.next hob.out hnd.out 0 with ⟨hp, hnx⟩ | ⟨e, w', he, hd, hnx, hen, hM2⟩
      · have fin := Lib.hid (fin.out _ _ hM.out hp)
        go_wp2_with fail
        exact bodyPost_end (results_none rfl _ _ _) rfl fin.out
      · have hev := hva.out e he
        rw [hev] at hnx hen
        have hle : done.length + 1 ≤ es.length := by
          have := nodup_len (l := done ++ [e]) (m := es) (hM2.1.2.choose_spec.2.1) hM2.1.2.choose_spec.2.2.1
          simpa using this
        have cp := Lib.hid (fun w1 hb => hM2.laid hev hkn.out he hd (by have := hlt.out; omega) hcs (w1 := w1) hb)
        have hnew := Lib.hid (new_below w' (.cells #[] 54))
        clear hM hM2 hd he fin start
        go_wp2_with fail
        refine (cp.out _ hnew.out).mono ?_
        rintro e2 w5 ⟨rfl, hM3⟩
        go_wp2_with fail
        go_roundg (es.length - (done.length + 1))
        case measure => omega
        case rel => exact ⟨done ++ [e], by rw [List.length_append, List.length_singleton]; omega, Lib.hid hM3⟩
end
end Go.Proofs.Ytbfelfejelkdpaa
