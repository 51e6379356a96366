/- Dials: add. -/
import Derived.Test.YtldocgpnmfmnaaaDlH
namespace Go.Proofs.Ytldocgpnmfmnaaa
open Go.RowKit
set_option linter.unusedVariables false

section
variable {B : Nat} {w0 w : World} {db : Nat} {M M' : List Mk} {hv : Value} {hF F R A : List (Nat × Obj)} {mv : Option Nat} {es : List (Int × Value × Nat)} {clk : Nat} {i j p n : Nat} {m o : Mk}

theorem mksO_push (M : List Mk) (m : Mk) : mksO (M ++ [m]) = mksO M ++ [mkO M.length m] := by
  simp [mksO, List.mapIdx_append]
theorem perm_i {α : Type} (x y d : α) (A R F : List α) : (y :: (x :: (d :: ((A ++ R) ++ F)))).Perm (y :: ((d :: ((A ++ [x]) ++ R)) ++ F)) := by
  classical
  exact List.perm_iff_count.2 fun a => by simp only [List.count_append, List.count_cons, List.count_nil]; omega
theorem place00 : Value.complex .f64 0 0 = placeV 0 := place0.symm

/-- Behind the mark's making: the append onto the heap, its header, the map. -/
theorem DmAt.pushed {mb : Nat} (h : DmAt B w0 w db M hv hF (some mb) es clk F) (id : Int) (hid : id ∉ M.map Mk.id) (hfew : M.length < 5000) :
    ∃ a2 c2 W2, (Builtin.append_ #[51, 51] 0 #[hv, .slice (some ⟨w.heap.size + 1, 0, none⟩) 1 1]).run Try.prog
        ((w.alloc (.cells #[.int .i64 id, .complex .f64 0 0, .int .i64 (M.length : Int)] 59)).alloc (.cells #[mp w.heap.size] 55)) = .ok (.slice a2 (M.length + 1) c2) W2 ∧
      W2.cell? ⟨db, 0, none⟩ = some hv ∧ W2.frozen? ⟨db, 0, none⟩ = false ∧ (W2.setCell ⟨db, 0, none⟩ (.slice a2 (M.length + 1) c2)).cell? ⟨db, 1, none⟩ = some (.map (some mb)) ∧
      ∃ W3, (Instr.mapUpdate 52 (.map (some mb)) (.int .i64 id) (mp w.heap.size)).run Try.prog (W2.setCell ⟨db, 0, none⟩ (.slice a2 (M.length + 1) c2)) = .ok () W3 ∧
      ∃ F3 es3 clk3, DmAt B w0 W3 db (M ++ [⟨w.heap.size, id, 0⟩]) (.slice a2 (M.length + 1) c2) F3 (some mb) es3 clk3 F := by
  obtain ⟨i0, hi0, hz0, hz1, hz2⟩ := info_parts5 infPMark
  rw [place00]
  have s1 := h.at_.st.alloc (.cells (mkC M.length ⟨w.heap.size, id, 0⟩) 59)
  have s2 := s1.alloc (.cells #[mp w.heap.size] 55)
  rw [World.size_alloc] at s2
  have hrd := Reads.one (w.alloc (.cells (mkC M.length ⟨w.heap.size, id, 0⟩) 59)) (mp w.heap.size) 55
  rw [World.size_alloc] at hrd
  have s3 := s2.perm (perm_i (w.heap.size, Obj.cells (mkC M.length ⟨w.heap.size, id, 0⟩) 59) (w.heap.size + 1, Obj.cells #[mp w.heap.size] 55) (db, dialO hv (some mb)) (mksO M) (mapH (some mb) es clk ++ F) hF)
  rw [← List.cons_append] at s3
  obtain ⟨v2, W2, F2, hr, hs, hst⟩ := run_append_sl (P := Try.prog) 51 0 55 i0 _ 1 8 uMarks hi0 hz0 hz1 hz2 rfl h.at_.sl s3 hrd (by intro u hu; obtain rfl := List.mem_singleton.1 hu; rfl) (by unfold maxLen; omega) (by omega)
  obtain ⟨a2, c2, rfl, -, -, -⟩ := hs.form
  have hd : (db, dialO hv (some mb)) ∈ ((w.heap.size + 1, Obj.cells #[mp w.heap.size] 55) :: ((db, dialO hv (some mb)) :: ((mksO M ++ [(w.heap.size, Obj.cells (mkC M.length ⟨w.heap.size, id, 0⟩) 59)]) ++ (mapH (some mb) es clk ++ F)))) ++ F2 := by simp
  have hst4 : St B w0 W2 ((db, dialO hv (some mb)) :: ((mksO (M ++ [⟨w.heap.size, id, 0⟩]) ++ (mapH (some mb) es clk ++ F)) ++ F2)) := by
    rw [mksO_push]
    exact hst.sub (List.sublist_cons_self _ _)
  have hst5 := hst4.set0 0 (.slice a2 (M.length + 1) c2)
  have hD : DlAt B w0 (W2.setCell ⟨db, 0, none⟩ (.slice a2 (M.length + 1) c2)) db (M ++ [⟨w.heap.size, id, 0⟩]) (.slice a2 (M.length + 1) c2) F2 (some mb) (mapH (some mb) es clk ++ F) := by
    refine ⟨?_, hst5, ?_, ?_⟩
    · rw [List.length_append, List.length_singleton, show ptrs (M ++ [⟨w.heap.size, id, 0⟩]) = ptrs M ++ [mp w.heap.size] by simp [ptrs]]
      exact hs
    · intro x hx
      rcases List.mem_append.1 hx with hx | hx
      · exact h.at_.times x hx
      · obtain rfl := List.mem_singleton.1 hx
        show T64 0
        exact ⟨by decide, by decide⟩
    · rw [List.length_append, List.length_singleton]; omega
  refine ⟨a2, c2, W2, hr, hst.cell hd rfl, St.soft hst hd 0, hD.c1, _, run_mapUpdateI_new uMmap uInt5 hD.mapGet id (mp w.heap.size) (h.map.none hid), F2, _, _, hD.setMap, h.map.push ⟨w.heap.size, id, 0⟩ clk, ?_, fun e => by cases e⟩
  rw [List.map_append, List.map_singleton]
  refine List.nodup_append.2 ⟨h.ids, by simp, ?_⟩
  rintro a ha b hb rfl
  obtain rfl := List.mem_singleton.1 hb
  exact hid ha

/-- Behind add: a mark more, at time 0. -/
def AddedR (B : Nat) (w0 : World) (db : Nat) (M : List Mk) (id : Int) (F : List (Nat × Obj)) (e : Ending) (w' : World) : Prop :=
  ∃ b, e = .returned (mp b) ∧ ∃ hv hF mv es clk, DmAt B w0 w' db (M ++ [⟨b, id, 0⟩]) hv hF mv es clk F

theorem eql_map_nil (w : World) (r : Option Nat) : (binOp .eql 52 (.map r) (.map none)).run Try.prog w = .ok (.bool r.isNone) w := by
  have h := run_neq_map_nil (P := Try.prog) w 52 3 55 r uMmap
  simp only [binOp] at h ⊢
  simp [run_equal_map_nil w 52 3 55 r uMmap]

set_option maxHeartbeats 2000000 in
set_option maxRecDepth 100000 in
theorem add_any (h : DmAt B w0 w db M hv hF mv es clk F) (id : Int) (hid : id ∉ M.map Mk.id) (hfew : M.length < 5000) :
    Calls Try.prog 21 #[mp db, .int .i64 id] w (AddedR B w0 db M id F) := by
  have c0 := h.at_.c0
  have c1 := h.at_.c1
  have f1 := h.at_.soft 1
  have heq := eql_map_nil
  have hl1 : (M.length : Int) ≤ 5000 := by omega
  have hl0 : (0 : Int) ≤ M.length := by omega
  cases mv with
  | some mb =>
    obtain ⟨a2, c2, W2, hr, d0, df, d1, W3, hu, F3, es3, clk3, fin⟩ := h.pushed id hid hfew
    obtain ⟨a, c, rfl⟩ := h.at_.form
    replace fin := Lib.hid fin
    have e1 := (World.cell?_alloc_lt w (.cells #[.int .i64 id, .complex .f64 0 0, .int .i64 (M.length : Int)] 59) _ (World.block_lt_of_cell? w _ c0)).trans c0
    clear h hid
    go_enter Try.func21, Try.ntmps21
    go_wp2_with (at_builtin; refine wpList_append_go rfl (.tmp 27) (.tmp 29) 51 51 rfl _ _ rfl rfl hr ?_)
    go_ret
    exact ⟨_, rfl, _, _, _, _, _, fin.out⟩
  | none =>
    have hes := h.bare rfl
    subst hes
    have hlt := h.at_.st.lt (b := db) (o := dialO hv none) (by simp)
    have s1 := h.at_.st.alloc (.map #[] 0)
    have s2 : St B w0 (w.alloc (.map #[] 0)) (((db, dialO hv none) :: (mksO M ++ (mapH (some w.heap.size) [] 0 ++ F))) ++ hF) := s1.perm (perm_g _ _ _ _ _)
    have h2 := h.at_.remap (mv' := some w.heap.size) s2
    rw [World.setCell_alloc_past _ _ _ _ hlt] at h2
    have h3 : DmAt B w0 ((w.setCell ⟨db, 1, none⟩ (.map (some w.heap.size))).alloc (.map #[] 0)) db M hv hF (some w.heap.size) [] 0 F := ⟨h2, h.map, h.ids, fun e => by cases e⟩
    obtain ⟨a2, c2, W2, hr, d0, df, d1, W3, hu, F3, es3, clk3, fin⟩ := h3.pushed id hid hfew
    have c3 := h3.at_.c0
    have e1 := (World.cell?_alloc_lt _ (.cells #[.int .i64 id, .complex .f64 0 0, .int .i64 (M.length : Int)] 59) _ (World.block_lt_of_cell? _ _ c3)).trans c3
    simp only [World.size_alloc, World.size_setCell] at hr hu fin
    obtain ⟨a, c, rfl⟩ := h.at_.form
    replace fin := Lib.hid fin
    clear h hid s1 s2 h2 h3
    have hmk := @run_makeMap Try.prog
    go_enter Try.func21, Try.ntmps21
    go_wp2_with (at_builtin; refine wpList_append_go rfl (.tmp 27) (.tmp 29) 51 51 rfl _ _ rfl rfl hr ?_)
    go_ret
    exact ⟨_, rfl, _, _, _, _, _, fin.out⟩
end
end Go.Proofs.Ytldocgpnmfmnaaa
