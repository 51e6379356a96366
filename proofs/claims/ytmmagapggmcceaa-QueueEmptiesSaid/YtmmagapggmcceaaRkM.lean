/- An entry dropped from a rack; the first one taken. -/
import Derived.Test.YtmmagapggmcceaaRkL
namespace Go.Proofs.Ytmmagapggmcceaa
open Go.RowKit
open Go.ChangeMaps (setBlock)
set_option linter.unusedVariables false
set_option linter.unusedSectionVars false
set_option linter.unusedSimpArgs false
set_option maxRecDepth 100000

section
variable {B : Nat} {w0 w : World} {rk q rb i k : Nat} {rbs : List Nat} {R : List (List Int)} {H M : List Ent} {F : List (Nat × Obj)} {e e0 : Ent}
theorem RkAt.at_block (h : RkAt B w0 w rk q rbs R H F) (hm : (k, enO e) ∈ F) : EnAt w k e ∧ ∀ i, w.frozen? ⟨k, i, none⟩ = false := by
  obtain ⟨S, hs, -⟩ := h.beside
  exact ⟨hs.enAt (List.mem_append_right _ hm), fun i => hs.soft (List.mem_append_right _ hm) i⟩
theorem RackIs.at_block (h : RackIs B w0 w rk M F) (hm : (k, enO e) ∈ F) : EnAt w k e ∧ ∀ i, w.frozen? ⟨k, i, none⟩ = false := by
  obtain ⟨S, hs⟩ := h.st
  exact ⟨hs.enAt (List.mem_append_right _ hm), fun i => hs.soft (List.mem_append_right _ hm) i⟩
theorem RackIs.enPut (h : RackIs B w0 w rk M ((k, enO e0) :: F)) : RackIs B w0 (enPut w k e) rk M F ∧ EnAt (enPut w k e) k e := by
  obtain ⟨S, h1, h2⟩ := h.beside
  have h3 := (h1.perm List.perm_middle).enPut (e := e)
  exact ⟨h2 _ _ (h3.sub (List.sublist_cons_self _ _)), h3.enAt List.mem_cons_self⟩
theorem RackIs.at (h : RackIs B w0 w rk M F) (he : e ∈ M) : RkOk M ∧ ∃ q rbs, RkAt B w0 w rk q rbs (rowsM M) M F := by
  obtain ⟨h1, ⟨rfl, h3⟩ | h2⟩ := h
  · simp at he
  · exact ⟨h1, h2⟩

set_option maxHeartbeats 1000000 in
theorem rk_drop_miss (h : RackIs B w0 w rk M F) {n : Int} (hn : n ∉ M.map (·.id)) : Calls Try.prog 22 #[rptr rk, .int .i64 n] w fun r w' => r = .returned (.tuple #[enV z0E, .bool false]) ∧ RackIs B w0 w' rk M F := by
  have h1 := h.alloc (enO z0E)
  obtain ⟨mv, c1, hl⟩ : ∃ mv, (w.alloc (enO z0E)).cell? ⟨rk, 1, none⟩ = some (.map mv) ∧ (Instr.lookup 55 (.map mv) (.int .i64 n) true).run Try.prog (w.alloc (enO z0E)) = .ok (.tuple #[enV z0E, .bool false]) (w.alloc (enO z0E)) := by
    obtain ⟨-, ⟨rfl, h3⟩ | ⟨q, rbs, h2⟩⟩ := h1
    · exact ⟨none, h3.cell (b := rk) List.mem_cons_self rfl, run_lookE_nil (P := Try.prog) (c := true) keyI uMapE (zEnt _) (k := n) trivial⟩
    · obtain ⟨mb, hl, -⟩ := h2.look
      exact ⟨some mb, hl.c1, hl.miss n hn true⟩
  obtain ⟨z0, z1, z2, z3, z4, z5, z6, z7, z8, z9⟩ := ((h1.alloc (enO z0E)).at_block (k := w.heap.size) (e := z0E) (by simp)).1
  have zs := ((h1.alloc (enO z0E)).at_block (k := w.heap.size) (e := z0E) (by simp)).2
  have finR := Lib.hid ((h1.alloc (enO z0E)).sub ((List.sublist_cons_self _ _).trans (List.sublist_cons_self _ _)))
  have finE := Lib.hid ((h1.alloc (enO z0E)).at_block (k := w.heap.size) (e := z0E) (by simp)).1
  clear h h1 hn
  go_enter Try.func22, Try.ntmps22
  go_wp2_with fail
  exact bodyPost_ret (ret_entry2 rfl rfl rfl finE.out rfl) rfl ⟨rfl, finR.out⟩

set_option maxHeartbeats 2000000 in
theorem rk_drop_hit (h : RackIs B w0 w rk M F) (he : e ∈ M) : Calls Try.prog 22 #[rptr rk, .int .i64 e.id] w fun r w' => r = .returned (.tuple #[enV e, .bool true]) ∧ RackIs B w0 w' rk (delM M e.id) F := by
  obtain ⟨hok, q, rbs, hA⟩ := h.at he
  have hA1 := hA.alloc (enO z0E)
  have hA2 := hA1.alloc (enO e)
  obtain ⟨mb, hl, -⟩ := hA1.look
  have c1 := hl.c1
  have hlk := hl.hit e he true
  rw [if_pos rfl] at hlk
  have hsz : (w.alloc (enO z0E)).heap.size = w.heap.size + 1 := World.size_alloc _ _
  rw [hsz] at hA2
  obtain ⟨i, hi, hpi⟩ := row_no (hok.prio e he)
  obtain ⟨rb, hb⟩ := hA.row_at hi
  have hgl := rows_get (M := M) hi
  rw [← hpi] at hgl
  have hrl := row_le M e.prio
  have hfew := hA.few
  have hin : e.id ∈ M.map (·.id) := List.mem_map_of_mem he
  have cro := Lib.hid (rowOf_any (e := e) hA2 hi hpi hb)
  obtain ⟨N, hN⟩ : ∃ N, N = cntL (rowP M e.prio) e.id := ⟨_, rfl⟩
  have eAt := Lib.hid (fun (R : List (List Int)) (H : List Ent) (W : World) (h : RkAt B w0 W rk q rbs R H ((w.heap.size + 1, enO e) :: (w.heap.size, enO z0E) :: F)) => (h.at_block (k := w.heap.size + 1) (e := e) List.mem_cons_self).1)
  have ca : Hid (∀ W, RkAt B w0 W rk q rbs (rowsM M) M ((w.heap.size + 1, enO e) :: (w.heap.size, enO z0E) :: F) → Calls Try.prog 36 #[rptr rk, rptr rb, enV e] W fun r w' => r = .returned (.int .i64 N) ∧ RkAt B w0 w' rk q rbs (rowsM M) M ((w.heap.size + 1, enO e) :: (w.heap.size, enO z0E) :: F)) := Lib.hid fun W h => by
    rw [hN]
    refine (ahead_any (e := e) h hb hgl (row_up hok _) (fun k hk => row_mem hk) (hok.prio e he) (by omega)).mono ?_
    rintro r w' ⟨rfl, hb⟩
    exact ⟨rfl, h.grow hb⟩
  have cl : Hid (∀ W, RkAt B w0 W rk q rbs (rowsM M) M ((w.heap.size + 1, enO e) :: (w.heap.size, enO z0E) :: F) → Calls Try.prog 38 #[rptr rb, .int .i64 N] W fun r w' => r = .returned (.tuple #[]) ∧ RkAt B w0 w' rk q rbs (rowsM (delM M e.id)) M ((w.heap.size + 1, enO e) :: (w.heap.size, enO z0E) :: F)) := Lib.hid fun W h => by
    obtain ⟨Z, hr, hback⟩ := h.ring hb hgl
    rw [hN]
    refine (lift_any hr (del_cnt hok he) (by omega)).mono ?_
    rintro r w' ⟨rfl, h'⟩
    have h2 := hback _ _ _ h'
    rw [rows_cut hok he hi hpi] at h2
    exact ⟨rfl, h2⟩
  have cg := Lib.hid (fun W (h : RkAt B w0 W rk q rbs (rowsM (delM M e.id)) (delM M e.id) ((w.heap.size + 1, enO e) :: (w.heap.size, enO z0E) :: F)) => giveRk_any h)
  have hdel : Hid (∀ W, RkAt B w0 W rk q rbs (rowsM (delM M e.id)) M ((w.heap.size + 1, enO e) :: (w.heap.size, enO z0E) :: F) → ∃ (mb : Nat) (es : List (MapRow Int)) (clk : Nat), W.cell? ⟨rk, 1, none⟩ = some (.map (some mb)) ∧ W.heap[mb]? = some (.map (entsE encI es) clk) ∧
      RkAt B w0 (setBlock W mb (.map (entsE encI (restE es e.id)) clk)) rk q rbs (rowsM (delM M e.id)) (delM M e.id) ((w.heap.size + 1, enO e) :: (w.heap.size, enO z0E) :: F)) := Lib.hid fun W h => by
    obtain ⟨mb, es, clk, c1, hg, ho, hback⟩ := h.map
    exact ⟨mb, es, clk, c1, hg, hback _ _ _ (ho.del e.id) (by have := del_len hok he; have := h.few; omega)⟩
  have hok2 := Lib.hid (hok.del e.id)
  obtain ⟨k0, k1, k2, k3, k4, k5, k6, k7, k8, k9⟩ := eAt.out _ _ _ hA2
  replace hA2 := Lib.hid hA2
  clear hA hA1 h he hl hb hgl hrl hfew hin hpi hok hN
  go_enter Try.func22, Try.ntmps22
  go_wp2_with fail
  refine cro.out.mono ?_
  rintro r w1 ⟨rfl, hb1⟩
  have hA3 := hA2.out.grow hb1
  obtain ⟨k0, k1, k2, k3, k4, k5, k6, k7, k8, k9⟩ := eAt.out _ _ _ hA3
  have ca1 := Lib.hid (ca.out _ hA3)
  clear hA2 hb1 cro hA3 ca
  go_wp2_with fail
  refine ca1.out.mono ?_
  rintro r w2 ⟨rfl, hA4⟩
  obtain ⟨k0, k1, k2, k3, k4, k5, k6, k7, k8, k9⟩ := eAt.out _ _ _ hA4
  have cl1 := Lib.hid (cl.out _ hA4)
  clear hA4 ca1 cl
  go_wp2_with fail
  refine cl1.out.mono ?_
  rintro r w3 ⟨rfl, hA5⟩
  obtain ⟨mb2, es, clk, d1, hg, hA6⟩ := hdel.out _ hA5
  obtain ⟨k0, k1, k2, k3, k4, k5, k6, k7, k8, k9⟩ := eAt.out _ _ _ hA6
  have cg1 := Lib.hid (cg.out _ hA6)
  clear hA5 cl1 hdel hA6 cg
  generalize hW : setBlock w3 mb2 (.map (entsE encI (restE es e.id)) clk) = W at *
  replace hW := Lib.hid hW
  go_wp2_with (at_delete; refine wpList_delE rfl (.tmp 33) (.tmp 34) rfl keyI uMapE rfl hg (k := e.id) trivial (fun _ _ => trivial) rfl ?_; intro w9 hw9; replace hw9 := Lib.hid (hw9.out.trans hW.out); rw [hw9.out])
  refine cg1.out.mono ?_
  rintro r w4 ⟨rfl, hA7⟩
  obtain ⟨k0, k1, k2, k3, k4, k5, k6, k7, k8, k9⟩ := eAt.out _ _ _ hA7
  obtain ⟨z0, z1, z2, z3, z4, z5, z6, z7, z8, z9⟩ := (hA7.at_block (k := w.heap.size) (e := z0E) (by simp)).1
  have zs := (hA7.at_block (k := w.heap.size) (e := z0E) (by simp)).2
  have hRk : RackIs B w0 w4 rk (delM M e.id) ((w.heap.size + 1, enO e) :: (w.heap.size, enO z0E) :: F) := ⟨hok2.out, .inr ⟨q, rbs, hA7⟩⟩
  have fin := (hRk.permF (List.Perm.swap _ _ _)).enPut (e := e)
  have finR := Lib.hid (fin.1.sub (List.sublist_cons_self _ _))
  have finE := Lib.hid fin.2
  clear fin hRk hA7 cg1 hW hok2 d1 hg eAt c1 hlk
  go_wp2_with fail
  exact bodyPost_ret (ret_entry2 rfl rfl rfl finE.out rfl) rfl ⟨rfl, finR.out⟩

def TakeR (B : Nat) (w0 : World) (rk : Nat) (M : List Ent) (F : List (Nat × Obj)) (r : Ending) (w' : World) : Prop := r = .returned (firstV M) ∧ RackIs B w0 w' rk M.tail F
set_option maxHeartbeats 1000000 in
theorem rk_take (h : RackIs B w0 w rk M F) : Calls Try.prog 26 #[rptr rk] w (TakeR B w0 rk M F) := by
  have h1 := h.alloc (enO z0E)
  have cf := Lib.hid (rk_first h1)
  have hsz : ∀ w' : World, Below (w.alloc (enO z0E)).heap.size (w.alloc (enO z0E)) w' → w'.heap.size ≠ w.heap.size := fun w' hb => by
    have := hb.size
    rw [World.size_alloc] at this
    omega
  cases M with
  | nil =>
    have fin : Hid (∀ w', Below (w.alloc (enO z0E)).heap.size (w.alloc (enO z0E)) w' → EnAt (w'.alloc (enO z0E)) w.heap.size z0E ∧ (∀ i, (w'.alloc (enO z0E)).frozen? ⟨w.heap.size, i, none⟩ = false) ∧ TakeR B w0 rk [] F (.returned (.tuple #[enV z0E, .bool false])) (enPut (w'.alloc (enO z0E)) w.heap.size z0E) ∧ EnAt (enPut (w'.alloc (enO z0E)) w.heap.size z0E) w.heap.size z0E) := Lib.hid fun w' hb => by
      have h2 := ((h1.grow hb).alloc (enO z0E)).permF (List.Perm.swap _ _ _)
      have h3 := h2.at_block (k := w.heap.size) (e := z0E) List.mem_cons_self
      have h4 := h2.enPut (e := z0E)
      exact ⟨h3.1, h3.2, ⟨rfl, h4.1.sub (List.sublist_cons_self _ _)⟩, h4.2⟩
    clear h h1 hsz
    go_enter Try.func26, Try.ntmps26
    go_wp2_with fail
    refine cf.out.mono ?_
    rintro r w1 ⟨rfl, hb⟩
    obtain ⟨⟨z0, z1, z2, z3, z4, z5, z6, z7, z8, z9⟩, zs, finR, finE⟩ := fin.out _ hb
    replace finR := Lib.hid finR
    replace finE := Lib.hid finE
    have hfv : firstV [] = .tuple #[enV z0E, .bool false] := rfl
    rw [hfv]
    clear fin cf hb hfv
    go_wp2_with fail
    exact bodyPost_ret (ret_entry2 rfl rfl rfl finE.out rfl) rfl finR.out
  | cons e L =>
    have fin : Hid (∀ w', Below (w.alloc (enO z0E)).heap.size (w.alloc (enO z0E)) w' → (w'.alloc (enO e)).cell? ⟨w'.heap.size, 0, none⟩ = some (.int .i64 e.id) ∧
        Calls Try.prog 22 #[rptr rk, .int .i64 e.id] (w'.alloc (enO e)) fun r w'' => r = .returned (.tuple #[enV e, .bool true]) ∧ EnAt w'' w.heap.size z0E ∧ (∀ i, w''.frozen? ⟨w.heap.size, i, none⟩ = false) ∧ TakeR B w0 rk (e :: L) F (.returned (.tuple #[enV e, .bool true])) (enPut w'' w.heap.size e) ∧ EnAt (enPut w'' w.heap.size e) w.heap.size e) := Lib.hid fun w' hb => by
      have h2 := (h1.grow hb).alloc (enO e)
      refine ⟨(h2.at_block (k := w'.heap.size) (e := e) List.mem_cons_self).1.1, ?_⟩
      refine (rk_drop_hit h2 (e := e) List.mem_cons_self).mono ?_
      rintro r w'' ⟨rfl, h3⟩
      rw [del_head h.ok] at h3
      have h4 := h3.permF (List.Perm.swap _ _ _)
      have h5 := h4.at_block (k := w.heap.size) (e := z0E) List.mem_cons_self
      have h6 := h4.enPut (e := e)
      exact ⟨rfl, h5.1, h5.2, ⟨rfl, h6.1.sub (List.sublist_cons_self _ _)⟩, h6.2⟩
    clear h h1 hsz
    go_enter Try.func26, Try.ntmps26
    go_wp2_with fail
    refine cf.out.mono ?_
    rintro r w1 ⟨rfl, hb⟩
    obtain ⟨q0, cd⟩ := fin.out _ hb
    replace cd := Lib.hid cd
    have hfv : firstV (e :: L) = .tuple #[enV e, .bool true] := rfl
    rw [hfv]
    clear fin cf hb hfv
    go_wp2_with fail
    refine cd.out.mono ?_
    rintro r w2 ⟨rfl, ⟨z0, z1, z2, z3, z4, z5, z6, z7, z8, z9⟩, zs, finR, finE⟩
    replace finR := Lib.hid finR
    replace finE := Lib.hid finE
    clear cd q0
    go_wp2_with fail
    exact bodyPost_ret (ret_entry2 rfl rfl rfl finE.out rfl) rfl finR.out
end
end Go.Proofs.Ytmmagapggmcceaa
