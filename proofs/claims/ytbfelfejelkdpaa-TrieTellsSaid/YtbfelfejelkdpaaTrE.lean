/- Tables of nodes by words: counted, put into, a row dropped. -/
import Derived.Test.YtbfelfejelkdpaaTrD
import Derived.Test.YtbfelfejelkdpaaOcA
namespace Go.Proofs.Ytbfelfejelkdpaa
open Go.RowKit
open Go.ChangeMaps (setBlock)
set_option linter.unusedVariables false
set_option linter.unusedSectionVars false
set_option linter.unusedSimpArgs false
set_option maxRecDepth 100000

abbrev encS : List UInt8 → Value := fun l => tx l
abbrev np (b : Nat) : Value := .pointer (some ⟨b, 0, none⟩)
theorem uStr12 : Try.prog.underlying 9 = some .string := by kernel_rfl
theorem uMapS : Try.prog.underlying 42 = some (.map 9 41) := by kernel_rfl
theorem tx_beq (a b : List UInt8) : ((⟨a.toArray⟩ : ByteArray) == ⟨b.toArray⟩) = decide (b = a) := by
  show (a.toArray == b.toArray) = _
  rw [Bool.eq_iff_iff, beq_iff_eq, decide_eq_true_iff]
  constructor
  · intro h
    have := congrArg Array.toList h
    simpa using this.symm
  · rintro rfl; rfl
theorem keyS : KeyBy Try.prog 9 encS (fun _ _ => True) := keyBy_now uStr12 (fun em n k w => by simp [Instr.checkKey, run_underlying uStr12])
  (fun a b => by
    have h : Instr.sameNow .string (encS a) (encS b) = some ((⟨a.toArray⟩ : ByteArray) == ⟨b.toArray⟩) := rfl
    rw [h, tx_beq]) (fun k => by
    have h : Instr.sameBits 10000 (encS k) (encS k) = ((⟨k.toArray⟩ : ByteArray) == ⟨k.toArray⟩) := rfl
    rw [h, tx_beq]
    simp)
theorem zNode (w : World) : (zeroValue 41).run Try.prog w = .ok (.pointer none) w := Try.zeroValue41 w

section
variable {B : Nat} {w0 w : World} {F : List (Nat × Obj)} {b o : Nat} {c : Array Value} {T : TypeId} {t : Tb (List UInt8)} {n : Nat} {k : List UInt8} {v : Value}

theorem countS_any (h : TbAt w b o encS t) (hb : t.mv = none → t.es = []) : Calls Try.prog 28 #[.pointer (some ⟨b, o, none⟩)] w fun e w' => e = .returned (.int .i64 t.es.length) ∧ w' = w := by
  obtain ⟨c0, -, hm⟩ := h
  cases hmv : t.mv with
  | none =>
    rw [hmv] at c0
    have hl := fun ty => run_lenE_nil (P := Try.prog) (w := w) (ty := ty) uMapS
    rw [hb hmv]
    go_enter Try.func28, Try.ntmps28
    go_wp2_with fail
    go_ret
    exact ⟨rfl, rfl⟩
  | some mb =>
    rw [hmv] at c0
    have hl := fun ty => run_lenE (P := Try.prog) (ty := ty) uMapS (hm mb hmv)
    generalize t.es.length = L at *
    go_enter Try.func28, Try.ntmps28
    go_wp2_with fail
    go_ret
    exact ⟨rfl, rfl⟩

theorem uEqMapS (w : World) (m : Option Nat) : (binOp .eql 42 (.map m) (.map none)).run Try.prog w = .ok (.bool m.isNone) w := by
  simp only [binOp]
  simp [run_equal_map_nil w 42 _ _ m uMapS]

set_option maxHeartbeats 1000000 in
theorem putS_any (hst : St B w0 w ((b, .cells c T) :: (tabH encS t ++ F))) (h0 : c[o]? = some (.map t.mv)) (h1 : c[o + 1]? = some (.int .i64 t.most)) (hok : TbOk t n) (hn : n ≤ 1000000) (hk : k ∉ t.es.map (·.1)) :
    Calls Try.prog 37 #[.pointer (some ⟨b, o, none⟩), tx k, v] w (PutR encS B w0 b o c T F t k v n) := by
  have hmk := fun w : World => run_makeMap (P := Try.prog) 42 w
  have heq := uEqMapS
  have hso : w.cell? ⟨b, o, none⟩ = some (.map t.mv) := hst.cell (b := b) List.mem_cons_self h0
  have hlen := hok.len
  have hmost := hok.most
  replace hok := Lib.hid hok
  replace h0 := Lib.hid h0
  replace h1 := Lib.hid h1
  replace hst := Lib.hid hst
  go_enter Try.func37, Try.ntmps37
  go_upto_if 10 with fail
  go_cut [] (fun wy => ∃ mb, Hid (St B w0 wy ((b, .cells (c.setIfInBounds o (.map (some mb))) T) :: ((mb, .map (entsE encS t.es) t.clk) :: F))))
  case first =>
    cases hmv : t.mv with
    | none =>
      rw [hmv] at hso
      obtain ⟨he, hclk⟩ := hok.out.bare hmv
      have hs2 := hst.out.alloc (.map #[] 0)
      unfold tabH at hs2
      rw [hmv] at hs2
      have hs2' := hs2.perm (List.Perm.swap _ _ _)
      have f2 := hs2'.soft (b := b) List.mem_cons_self o
      have c2 := hs2'.cell (b := b) List.mem_cons_self h0.out
      have hs3 := hs2'.set0 o (.map (some w.heap.size))
      have fin : Hid (∃ mb, Hid (St B w0 ((w.alloc (.map #[] 0)).setCell ⟨b, o, none⟩ (.map (some w.heap.size))) ((b, .cells (c.setIfInBounds o (.map (some mb))) T) :: ((mb, .map (entsE encS t.es) t.clk) :: F)))) := by
        refine Lib.hid ⟨w.heap.size, Lib.hid ?_⟩
        rw [he, hclk]
        exact hs3
      clear hs2 hs2' hs3 hst
      go_wp2_with fail
      go_meet
      case rel => exact fin.out
    | some mb =>
      rw [hmv] at hso
      have hs2 := hst.out
      unfold tabH at hs2
      rw [hmv] at hs2
      have hsame : c.setIfInBounds o (.map (some mb)) = c := by
        rw [hmv] at h0
        have := h0.out
        apply Array.ext_getElem?
        intro i
        rw [Array.getElem?_setIfInBounds]
        split
        · rename_i e
          subst e
          rw [this, if_pos (Array.getElem?_eq_some_iff.1 this).1]
        · rfl
      have fin : Hid (∃ mb, Hid (St B w0 w ((b, .cells (c.setIfInBounds o (.map (some mb))) T) :: ((mb, .map (entsE encS t.es) t.clk) :: F)))) := Lib.hid ⟨mb, Lib.hid (by rw [hsame]; exact hs2)⟩
      clear hs2 hsame hst
      go_wp2_with fail
      go_meet
      case rel => exact fin.out
  case rest =>
    clear hst
    obtain ⟨mb, hst⟩ := hcut
    clear hso heq hmk
    have hlt : o < c.size := (Array.getElem?_eq_some_iff.1 h0.out).1
    have e0 := hst.out.cell (b := b) (i := o) (v := .map (some mb)) List.mem_cons_self (by simp [hlt])
    have hg : wc.heap[mb]? = some (.map (entsE encS t.es) t.clk) := hst.out.get (b := mb) (List.mem_cons_of_mem _ List.mem_cons_self)
    have hmu := run_mapE_new keyS uMapS hg (k := k) trivial (fun _ _ => trivial) v (seek_none.2 hk)
    have hs2 := (hst.out.perm (List.Perm.swap _ _ _)).block0 (o' := .map (entsE encS (t.es ++ [(k, v, t.clk)])) (t.clk + 1))
    generalize hW : setBlock wc mb (.map (entsE encS (t.es ++ [(k, v, t.clk)])) (t.clk + 1)) = W at *
    replace hW := Lib.hid hW
    have g0 := hs2.cell (b := b) (i := o) (v := .map (some mb)) (List.mem_cons_of_mem _ List.mem_cons_self) (by simp [hlt])
    have g1 := hs2.cell (b := b) (i := o + 1) (v := .int .i64 t.most) (List.mem_cons_of_mem _ List.mem_cons_self) (by rw [Array.getElem?_setIfInBounds_ne (by omega)]; exact h1.out)
    have gf := hs2.soft (b := b) (List.mem_cons_of_mem _ List.mem_cons_self) (o + 1)
    have gl := fun ty => run_lenE (P := Try.prog) (ty := ty) uMapS (hs2.drew.get (b := mb) List.mem_cons_self)
    rw [List.length_append, List.length_singleton] at gl
    have hs3d := (hs2.drew.perm (List.Perm.swap _ _ _)).set0 (o + 1) (.int .i64 (max t.most (t.es.length + 1) : Nat))
    have fin : Hid (PutR encS B w0 b o c T F t k v n (.returned (.tuple #[])) (W.drew.setCell ⟨b, o + 1, none⟩ (.int .i64 (max t.most (t.es.length + 1) : Nat)))) := Lib.hid ⟨rfl, mb, hs3d⟩
    have hL : (t.es.length + 1 : Nat) ≤ 1000001 := by omega
    generalize t.es.length + 1 = L at *
    generalize t.most = q at *
    clear hs2 hs3d hst
    go_upto_region 3 with fail
    clear e0 hg hmu hW
    by_cases hm : q < L
    · rw [Nat.max_eq_right (Nat.le_of_lt hm)] at fin
      have hm1 : (q : Int) < L := by omega
      go_still_tail 13, (by kernel_rfl)
      change wpList _ _ _ _ _ W.drew
      go_wp2_with fail
      exact bodyPost_end (results_none rfl _ _ _) rfl fin.out
    · rw [Nat.max_eq_left (by omega)] at fin
      have hm1 : ¬ (q : Int) < L := by omega
      go_still_tail 13, (by kernel_rfl)
      change wpList _ _ _ _ _ W.drew
      go_wp2_with fail
      exact bodyPost_end (results_none rfl _ _ _) rfl fin.out

theorem putS_is (hst : St B w0 w ((b, .cells c T) :: (tabH encS t ++ F))) (h0 : c[o]? = some (.map t.mv)) (h1 : c[o + 1]? = some (.int .i64 t.most)) (hok : TbOk t n) (hn : n ≤ 1000000) (hk : k ∉ t.es.map (·.1)) :
    Calls Try.prog 37 #[.pointer (some ⟨b, o, none⟩), tx k, v] w (TabR encS B w0 b o c T F (fun t' => t'.rows = t.rows ++ [(k, v)] ∧ TbOk t' (n + 1))) := by
  refine (putS_any hst h0 h1 hok hn hk).mono ?_
  rintro e w' ⟨rfl, mb, h⟩
  exact ⟨rfl, ⟨some mb, _, _, _⟩, ⟨by simp [Tb.rows], hok.push hk _ mb⟩, h⟩
/-- While what is left is laid anew: done came, those of rows are laid. -/
def MovedS (B : Nat) (w0 : World) (b o : Nat) (c : Array Value) (T : TypeId) (F : List (Nat × Obj)) (mb r : Nat) (es : List (Ent (List UInt8))) (clk : Nat) (done laid : List (Ent (List UInt8))) (w' : World) : Prop :=
  IterAt w' mb r encS es clk done ∧ ∃ seen t2, t2.rows = laid.map (fun e => (e.1, e.2.1)) ∧ TbOk t2 laid.length ∧ St B w0 w' ((b, .cells (tabC c o t2.mv t2.most) T) :: (tabH encS t2 ++ ((mb, .map (entsE encS es) clk) :: (r, .mapIter (some mb) clk seen clk) :: F)))

theorem perm_mS {α : Type} (x y z : α) (A F : List α) : (x :: (A ++ (y :: z :: F))).Perm ((x :: A) ++ z :: (y :: F)) := by
  classical
  exact List.perm_iff_count.2 fun a => by simp only [List.count_append, List.count_cons]; omega

theorem MovedS.next {mb r : Nat} {es : List (Ent (List UInt8))} {clk : Nat} {done : List (Ent (List UInt8))} (h : MovedS B w0 b o c T F mb r es clk done done w) (hB : Born es clk) (hn : es.Nodup) (ty : TypeId) :
    (done.Perm es ∧ (Instr.next (.pointer (some ⟨r, 0, none⟩)) false ty).run Try.prog w = .ok (.tuple #[.bool false]) w) ∨
    ∃ e w', e ∈ es ∧ e ∉ done ∧ (Instr.next (.pointer (some ⟨r, 0, none⟩)) false ty).run Try.prog w = .ok (.tuple #[.bool true, encS e.1, e.2.1]) w' ∧ (Instr.entry (.pointer (some ⟨r, 0, none⟩))).run Try.prog w' = .ok (.tuple #[encS e.1, e.2.1]) w' ∧
      MovedS B w0 b o c T F mb r es clk (done ++ [e]) done w' := by
  obtain ⟨hI, seen, t2, h1, h2, h3⟩ := h
  rcases hI.next (P := Try.prog) hB hn ty with ⟨hp, hr⟩ | ⟨e, he, hd, w', hr, hI', hk, hs, ho, ht, hu, hen⟩
  · exact .inl ⟨hp, hr⟩
  · obtain ⟨-, seen', hs', -⟩ := id hI'
    have h3' := h3.perm (perm_mS _ _ _ _ _)
    have h4 := (h3'.write hs' hk hs ho ht hu).perm (perm_mS _ _ _ _ _).symm
    exact .inr ⟨e, w', he, hd, hr, hen, hI', seen', t2, h1, h2, h4⟩

theorem MovedS.laid {mb r : Nat} {es : List (Ent (List UInt8))} {clk : Nat} {done : List (Ent (List UInt8))} {e : Ent (List UInt8)} (h : MovedS B w0 b o c T F mb r es clk (done ++ [e]) done w) (hk : (es.map (·.1)).Nodup) (he : e ∈ es) (hd : e ∉ done) (hl : done.length ≤ 1000000) (hc : o + 1 < c.size) {w1 : World} (hb : Below w.heap.size w w1) :
    Calls Try.prog 37 #[.pointer (some ⟨b, o, none⟩), tx e.1, e.2.1] w1 fun e2 w' => e2 = .returned (.tuple #[]) ∧ MovedS B w0 b o c T F mb r es clk (done ++ [e]) (done ++ [e]) w' := by
  obtain ⟨hI, seen, t2, h1, h2, h3o⟩ := h
  have h3 := h3o.grow hb
  have hnk : e.1 ∉ t2.es.map (·.1) := by
    rw [← keys_rows, h1]
    intro hm
    simp only [List.map_map, List.mem_map, Function.comp_apply] at hm
    obtain ⟨x, hx, e1⟩ := hm
    have hxe := hI.2.choose_spec.2.2.1 x (by simp [hx])
    have := (seek_some hk he).symm.trans (e1 ▸ seek_some hk hxe)
    rw [Option.some.inj this] at hd
    exact hd hx
  refine (putS_is h3 (tabC_0 _ _ (by omega)) (tabC_1 _ _ hc) h2 hl hnk).mono ?_
  rintro e2 w' ⟨rfl, t3, ⟨h4, h5⟩, h6⟩
  rw [tabC_tabC] at h6
  refine ⟨rfl, hI.kept ?_ ?_, seen, t3, ?_, by rw [List.length_append]; exact h5, h6⟩
  · exact (h6.get (b := mb) (o := .map (entsE encS es) clk) (by simp)).trans hI.1.symm
  · exact (h6.get (b := r) (o := .mapIter (some mb) clk seen clk) (by simp)).trans (h3o.get (b := r) (by simp)).symm
  · rw [h4, h1, List.map_append]
    simp

set_option maxHeartbeats 1000000 in
theorem dropS_any (hst : St B w0 w ((b, .cells c T) :: (tabH encS t ++ F))) (h0 : c[o]? = some (.map t.mv)) (h1 : c[o + 1]? = some (.int .i64 t.most)) (hok : TbOk t n) (hn : n ≤ 1000000) (hk : k ∈ t.es.map (·.1)) :
    Calls Try.prog 29 #[.pointer (some ⟨b, o, none⟩), tx k] w (TabR encS B w0 b o c T F (fun t' => t'.rows.Perm (t.rows.filter fun x => decide (x.1 ≠ k)) ∧ TbOk t' n)) := by
  obtain ⟨mb, hmv⟩ : ∃ mb, t.mv = some mb := by
    cases h : t.mv with
    | some mb => exact ⟨mb, rfl⟩
    | none => rw [(hok.bare h).1] at hk; simp at hk
  have hst' : St B w0 w ((b, .cells c T) :: ((mb, .map (entsE encS t.es) t.clk) :: F)) := by
    unfold tabH at hst; rw [hmv] at hst; exact hst
  have c0 : w.cell? ⟨b, o, none⟩ = some (.map (some mb)) := hst'.cell (b := b) List.mem_cons_self (hmv ▸ h0)
  have hg := hst'.get (b := mb) (List.mem_cons_of_mem _ List.mem_cons_self)
  have hs1 := ((hst'.perm (List.Perm.swap _ _ _)).block0 (o' := .map (entsE encS (restE t.es k)) t.clk)).perm (List.Perm.swap _ _ _)
  have hrest := hok.rest (by rw [hmv]; simp) k
  have hre := rest_eq hok.keys k
  have hmost := hok.most
  have hlt : (restE t.es k).length ≤ n := hrest.len
  -- what is left stays
  have fin1 : ∀ w', St B w0 w' ((b, .cells c T) :: ((mb, .map (entsE encS (restE t.es k)) t.clk) :: F)) → TabR encS B w0 b o c T F (fun t' => t'.rows.Perm (t.rows.filter fun x => decide (x.1 ≠ k)) ∧ TbOk t' n) (.returned (.tuple #[])) w' := fun w' h => by
    refine ⟨rfl, ⟨t.mv, restE t.es k, t.clk, t.most⟩, ⟨?_, hrest⟩, ?_⟩
    · rw [rows_filter, ← hre]
      exact List.Perm.refl _
    · rw [tabC_same h0 h1]
      unfold tabH
      rw [hmv]
      exact h
  generalize hW : setBlock w mb (.map (entsE encS (restE t.es k)) t.clk) = W at *
  have d0 : W.cell? ⟨b, o, none⟩ = some (.map (some mb)) := hs1.cell (b := b) List.mem_cons_self (hmv ▸ h0)
  have d1 : W.cell? ⟨b, o + 1, none⟩ = some (.int .i64 t.most) := hs1.cell (b := b) List.mem_cons_self h1
  have gl := fun ty => run_lenE (P := Try.prog) (ty := ty) uMapS (hs1.drew.get (b := mb) (List.mem_cons_of_mem _ List.mem_cons_self))
  replace hs1 := Lib.hid hs1
  replace fin1 := Lib.hid fin1
  replace hW := Lib.hid hW
  go_enter Try.func29, Try.ntmps29
  go_wp2_with (at_delete; refine wpList_delE rfl (.tmp 10) (.tmp 11) rfl keyS uMapS rfl hg (k := k) trivial (fun _ _ => trivial) rfl ?_; intro w2 hw2; replace hw2 := Lib.hid (hw2.out.trans hW.out); rw [hw2.out])
  clear hst hst' h0 hg c0 gl
  replace hre := Lib.hid hre
  obtain ⟨L, hLn⟩ : ∃ L, L = (restE t.es k).length := ⟨_, rfl⟩
  obtain ⟨q, hqn⟩ : ∃ q, q = t.most := ⟨_, rfl⟩
  obtain ⟨d, hd⟩ : ∃ d, d = q / 4 := ⟨_, rfl⟩
  have gl2 := fun ty n => run_lenE (P := Try.prog) (ty := ty) uMapS ((hs1.out.drewN n).get (b := mb) (List.mem_cons_of_mem _ List.mem_cons_self))
  rw [← hLn] at gl2 hlt
  rw [← hqn] at d1 hmost
  have hL : (L : Int) ≤ 1000000 := by omega
  have hd1 : (q : Int) / 4 = d := by omega
  have hd2 : IntKind.i64.wrap (d : Int) = d := IntWalk.i64_in _ (by omega)
  have f0 : W.frozen? ⟨b, o, none⟩ = false := hs1.out.soft (b := b) List.mem_cons_self o
  have f1 : W.frozen? ⟨b, o + 1, none⟩ = false := hs1.out.soft (b := b) List.mem_cons_self (o + 1)
  have hq0 : (0 : Int) ≤ q := by omega
  replace hLn := Lib.hid hLn
  replace hqn := Lib.hid hqn
  replace hd := Lib.hid hd
  by_cases hc : (d : Int) < L
  · have fin := Lib.hid (fun n => fin1.out _ (hs1.out.drewN n))
    go_quiet (fail)
    go_wp2_with fail
    exact bodyPost_end (results_none rfl _ _ _) rfl (fin.out _)
  · have hs2 := Lib.hid (hs1.out.drewN 1)
    go_quiet (fail)
    go_upto_region 4 with fail
    have hs3 : St B w0 (((W.drewN nq).setCell ⟨b, o, none⟩ (.map none)).setCell ⟨b, o + 1, none⟩ (.int .i64 0)) ((b, .cells (tabC c o none 0) T) :: ((mb, .map (entsE encS (restE t.es k)) t.clk) :: F)) := ((hs1.out.drewN nq).set0 o (.map none)).set0 (o + 1) (.int .i64 0)
    generalize ((W.drewN nq).setCell ⟨b, o, none⟩ (.map none)).setCell ⟨b, o + 1, none⟩ (.int .i64 0) = W3 at *
    have hg3 := hs3.get (b := mb) (List.mem_cons_of_mem _ List.mem_cons_self)
    have hrg := run_range_map (P := Try.prog) W3 42 _ _ mb _ _ uMapS hg3
    have hs4 := (hs3.alloc (.mapIter (some mb) t.clk #[] t.clk)).perm ((List.Perm.swap _ _ _).trans ((List.Perm.swap _ _ _).cons _))
    have start : Hid (MovedS B w0 b o c T F mb W3.heap.size (restE t.es k) t.clk [] [] (W3.alloc (.mapIter (some mb) t.clk #[] t.clk))) := Lib.hid ⟨⟨hs4.get (b := mb) (by simp), #[], hs4.get (b := W3.heap.size) (by simp), by simp, by simp, by simp⟩, #[], Tb.new, rfl, TbOk.new _, hs4⟩
    have hob := Lib.hid hrest.born
    have hkn := Lib.hid hrest.keys
    have hnd : (restE t.es k).Nodup := List.Pairwise.of_map (S := fun a b => a ≠ b) _ (fun a b h e => h (by rw [e])) hrest.keys
    have hcs : o + 1 < c.size := (Array.getElem?_eq_some_iff.1 h1).1
    have fin : Hid (∀ done w', MovedS B w0 b o c T F mb W3.heap.size (restE t.es k) t.clk done done w' → done.Perm (restE t.es k) → TabR encS B w0 b o c T F (fun t' => t'.rows.Perm (t.rows.filter fun x => decide (x.1 ≠ k)) ∧ TbOk t' n) (.returned (.tuple #[])) w') := Lib.hid (by
      rintro done w' ⟨-, seen, t2, g1, g2, g3⟩ hp
      refine ⟨rfl, t2, ⟨?_, g2.mono ?_⟩, g3.sub ?_⟩
      · rw [g1, rows_filter, ← hre.out]
        exact hp.map _
      · rw [hp.length_eq]
        have := hLn.out
        omega
      · refine List.Sublist.cons_cons _ ((List.Sublist.refl _).append ?_)
        exact (List.sublist_cons_self _ _).trans (List.sublist_cons_self _ _))
    replace hlt := Lib.hid (show (restE t.es k).length ≤ 1000000 by have := hLn.out; omega)
    replace hnd := Lib.hid hnd
    clear hs1 hs2 hs3 hs4 hg3 hrest fin1 hW gl2 d0 d1 f0 f1 h1 hok hk hLn hqn hd hre hd1 hd2 hc hL hq0 hmost
    generalize restE t.es k = es at *
    generalize t.clk = clk at *
    generalize W3.heap.size = r at *
    generalize W3.alloc (.mapIter (some mb) clk #[] clk) = W4 at *
    go_wp2_with fail
    go_loopg [5] es.length (fun g v5 wr => ∃ done, done.length + g = es.length ∧ Hid (MovedS B w0 b o c T F mb r es clk done done wr))
    case atStart => exact ⟨[], by simp, start⟩
    case round =>
      obtain ⟨done, hg, hM⟩ := hrel
      rcases hM.out.next hob.out hnd.out 0 with ⟨hp, hnx⟩ | ⟨e, w', he, hd, hnx, hen, hM2⟩
      · have fin := Lib.hid (fin.out _ _ hM.out hp)
        go_wp2_with fail
        exact bodyPost_end (results_none rfl _ _ _) rfl fin.out
      · have hle : done.length + 1 ≤ es.length := by
          have := nodup_len (l := done ++ [e]) (m := es) (hM2.1.2.choose_spec.2.1) hM2.1.2.choose_spec.2.2.1
          simpa using this
        have cp := Lib.hid (fun w1 hb => hM2.laid hkn.out he hd (by have := hlt.out; omega) hcs (w1 := w1) hb)
        clear hM hM2 hd he fin start
        go_wp2_with fail
        refine (cp.out _ (Below.refl _ _)).mono ?_
        rintro e2 w5 ⟨rfl, hM3⟩
        go_wp2_with fail
        go_roundg (es.length - (done.length + 1))
        case measure => omega
        case rel => exact ⟨done ++ [e], by rw [List.length_append, List.length_singleton]; omega, Lib.hid hM3⟩
end
end Go.Proofs.Ytbfelfejelkdpaa
