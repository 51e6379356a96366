/- A rack's rows made; its rows and its map as they turn. -/
import Derived.Test.YtmmagapggmcceaaRkJ
namespace Go.Proofs.Ytmmagapggmcceaa
open Go.RowKit
open Go.ChangeMaps (setBlock)
set_option linter.unusedVariables false
set_option linter.unusedSectionVars false
set_option linter.unusedSimpArgs false
set_option maxRecDepth 100000

/-- The rows' numbers. -/
theorem row_no {p : Int} (h : 0 ≤ p ∧ p ≤ 3) : ∃ i : Nat, i < 4 ∧ p = 3 - (i : Int) := ⟨(3 - p).toNat, by omega, by omega⟩
theorem rows_get {M : List Ent} {i : Nat} (h : i < 4) : (rowsM M)[i]? = some (rowP M (3 - (i : Int))) := by
  rcases (by omega : i = 0 ∨ i = 1 ∨ i = 2 ∨ i = 3) with rfl | rfl | rfl | rfl <;> rfl
theorem rows_put {M : List Ent} (h : RkOk M) {e : Ent} (hn : ∀ x ∈ M, x.id ≠ e.id) {i : Nat} (hi : i < 4) (hp : e.prio = 3 - (i : Int)) : (rowsM M).set i (putRow (rowP M e.prio) e.id) = rowsM (insM e M) := by
  unfold rowsM
  rw [ins_row h hn 3, ins_row h hn 2, ins_row h hn 1, ins_row h hn 0]
  rcases (by omega : i = 0 ∨ i = 1 ∨ i = 2 ∨ i = 3) with rfl | rfl | rfl | rfl
  · have : e.prio = 3 := by simpa using hp
    simp [this]
  · have : e.prio = 2 := by simpa using hp
    simp [this]
  · have : e.prio = 1 := by simpa using hp
    simp [this]
  · have : e.prio = 0 := by simpa using hp
    simp [this]
theorem rows_cut {M : List Ent} (h : RkOk M) {e : Ent} (he : e ∈ M) {i : Nat} (hi : i < 4) (hp : e.prio = 3 - (i : Int)) : (rowsM M).set i ((rowP M e.prio).eraseIdx (cntL (rowP M e.prio) e.id)) = rowsM (delM M e.id) := by
  unfold rowsM
  rw [del_rows h he 3, del_rows h he 2, del_rows h he 1, del_rows h he 0]
  rcases (by omega : i = 0 ∨ i = 1 ∨ i = 2 ∨ i = 3) with rfl | rfl | rfl | rfl
  · have : e.prio = 3 := by simpa using hp
    simp [this]
  · have : e.prio = 2 := by simpa using hp
    simp [this]
  · have : e.prio = 1 := by simpa using hp
    simp [this]
  · have : e.prio = 0 := by simpa using hp
    simp [this]
theorem row_le (M : List Ent) (p : Int) : (rowP M p).length ≤ M.length := by
  unfold rowP entP
  rw [List.length_map]
  exact List.length_filter_le _ _
theorem row_mem {M : List Ent} {p k : Int} (h : k ∈ rowP M p) : ∃ x ∈ M, x.id = k ∧ x.prio = p := by
  obtain ⟨x, hx, e⟩ := List.mem_map.1 h
  exact ⟨x, (mem_entP.1 hx).1, e, (mem_entP.1 hx).2⟩

section
variable {B : Nat} {w0 w w' : World} {rk q rb i : Nat} {rbs : List Nat} {R : List (List Int)} {H : List Ent} {F F' : List (Nat × Obj)} {l : List Int} {e : Ent}
theorem RkAt.row_at (h : RkAt B w0 w rk q rbs R H F) (hi : i < 4) : ∃ rb, rbs[i]? = some rb := ⟨rbs[i]'(by have := h.len; omega), List.getElem?_eq_getElem _⟩
/-- How many there were at most. -/
theorem RkAt.most (h : RkAt B w0 w rk q rbs R H F) : ∃ m : Nat, m ≤ 100000 ∧ w.cell? ⟨rk, 2, none⟩ = some (.int .i64 m) ∧ ∀ n : Nat, n ≤ 100000 → RkAt B w0 (w.setCell ⟨rk, 2, none⟩ (.int .i64 n)) rk q rbs R H F := by
  obtain ⟨mb, es, clk, most, G, ⟨a1, a2, a3, a4, a5, a6⟩, h2⟩ := h
  exact ⟨most, a5, h2.cell (b := rk) List.mem_cons_self rfl, fun n hn => ⟨mb, es, clk, n, G, ⟨a1, a2, a3, a4, hn, a6⟩, h2.set0 2 (.int .i64 n)⟩⟩
/-- One put into the map. -/
theorem RkAt.put (h : RkAt B w0 w rk q rbs R H F) (he : e.id ∉ H.map (·.id)) (hl : H.length < 100000) : ∃ mb W, w.cell? ⟨rk, 1, none⟩ = some (.map (some mb)) ∧
    (∀ w', Below w.heap.size w w' → ∃ W, (Instr.mapUpdate 55 (.map (some mb)) (.int .i64 e.id) (enV e)).run Try.prog w' = .ok () W ∧ RkAt B w0 W rk q rbs R (e :: H) F) ∧ W = w := by
  obtain ⟨mb, es, clk, c1, hg, ho, hback⟩ := h.map
  refine ⟨mb, w, c1, fun w' hb => ?_, rfl⟩
  have h' := h.grow hb
  obtain ⟨mb', es', clk', c1', hg', ho', hback'⟩ := h'.map
  have e1 := (cellUp c1 hb).symm.trans c1'
  simp only [Option.some.injEq, Value.map.injEq] at e1
  subst e1
  exact ⟨_, run_mapE_new keyI uMapE hg' (k := e.id) trivial (fun _ _ => trivial) (enV e) (ho'.none he), hback' _ _ _ (ho'.put he) (by rw [List.length_cons]; omega)⟩

/-! ### rows made -/
def emptyG : RG := ⟨none, [], 0, 0⟩
def rowsPart (rbs : List Nat) : Obj := .cells (rbs.map rptr ++ List.replicate (4 - rbs.length) (Value.pointer none)).toArray 60
theorem infRing : (Try.prog.info? 60).map (fun i => (i.zero, i.size, i.bytes)) = some (some (.pointer none), 1, 8) := by kernel_rfl
theorem uRings : Try.prog.underlying 54 = some (.slice 60) := by kernel_rfl
theorem mk_rings (w : World) : (Instr.makeSlice 54 (.int .i64 4) (.int .i64 4)).run Try.prog w = .ok (.slice (some ⟨w.heap.size, 0, none⟩) 4 4) (w.alloc (rowsPart [])) := by
  obtain ⟨i0, hi, hz0, hz1, hz2⟩ := info_parts infRing
  have h := run_make (P := Try.prog) w 54 60 i0 (.pointer none) uRings hi hz0 .i64 .i64 4 4 (by decide) (Int.le_refl _) (by rw [hz2]; omega) (by omega)
  rw [h]
  congr 2
  unfold rowsPart
  congr 1
  apply Array.toList_inj.1
  rw [hz1, Nat.mul_one, show (Value.pointer none).cells = #[Value.pointer none] from rfl, toList_madeCells_one]
  simp
def MadeJ (B : Nat) (w0 : World) (q : Nat) (F : List (Nat × Obj)) (g : Nat) (a' : Act) (w' : World) : Prop :=
  ∃ (rbs : List Nat) (G : List RG), rbs.length + g = 4 ∧ G.length = rbs.length ∧ (∀ x ∈ G, x.Wf ∧ x.row = []) ∧ Fr 15 [(1, .slice (some ⟨q, 0, none⟩) 4 4), (2, .int .i64 rbs.length)] a' ∧ St B w0 w' ((q, rowsPart rbs) :: (ringsH rbs G ++ F))
theorem rings_snoc : ∀ {bs : List Nat} {gs : List RG} {b : Nat} {g : RG}, gs.length = bs.length → (ringsH (bs ++ [b]) (gs ++ [g])).Perm ((b, g.obj) :: (g.cellsH ++ ringsH bs gs))
  | [], [], b, g, _ => List.Perm.refl _
  | c :: bs, f :: gs, b, g, h => by
    have ih := rings_snoc (bs := bs) (gs := gs) (b := b) (g := g) (by simpa using h)
    classical
    have h1 := List.perm_iff_count.1 ih
    refine List.perm_iff_count.2 fun a => ?_
    have h2 := h1 a
    simp only [List.cons_append, ringsH, List.count_append, List.count_cons] at h2 ⊢
    omega
  | [], _ :: _, b, g, h => by simp at h
  | _ :: _, [], b, g, h => by simp at h

set_option maxHeartbeats 1000000 in
theorem newRows_any (h : St B w0 w F) : Calls Try.prog 33 #[] w fun r w' => ∃ q rbs G, r = .returned (.slice (some ⟨q, 0, none⟩) 4 4) ∧ rbs.length = 4 ∧ (∀ x ∈ G, RG.Wf x) ∧ G.map RG.row = [[], [], [], []] ∧ St B w0 w' ((q, rowsO rbs) :: (ringsH rbs G ++ F)) := by
  have hmk := mk_rings w
  have h1 : St B w0 (w.alloc (rowsPart [])) ((w.heap.size, rowsPart []) :: (ringsH [] [] ++ F)) := h.alloc _
  replace h1 := Lib.hid h1
  clear h
  go_enter Try.func33, Try.ntmps33
  go_wp2_with fail
  refine wp_scope_ghost 0 (MadeJ B w0 w.heap.size F) rfl ?_ ?_
  · rintro g a' wr ⟨rbs, G, hg, hG, hW, hfr, hst⟩
    generalize w.heap.size = q at *
    obtain ⟨fr, rfl, hl'⟩ := hfr.lit
    clear hfr h1 hmk
    simp only [List.mem_cons, List.not_mem_nil, or_false, forall_eq_or_imp, forall_eq] at hl'
    obtain ⟨f1, f2⟩ := hl'
    simp only [List.range, List.range.loop, List.map, f1, f2]
    clear f1 f2
    obtain ⟨n, hn⟩ : ∃ n, n = rbs.length := ⟨_, rfl⟩
    rw [← hn] at hg hG ⊢
    by_cases hlt : n < 4
    · have cn := Lib.hid (ring_new hst)
      have n0 : (0 : Int) ≤ n := by omega
      have n1 : (n : Int) < 4 := by omega
      have fin : Hid (∀ w', RingIs B w0 w' wr.heap.size [] ((q, rowsPart rbs) :: (ringsH rbs G ++ F)) → w'.cell? ⟨q, n, none⟩ = some (.pointer none) ∧ w'.frozen? ⟨q, n, none⟩ = false ∧
          ∀ a', Fr 15 [(1, .slice (some ⟨q, 0, none⟩) 4 4), (2, .int .i64 ((n : Int) + 1))] a' → ∃ m, m < g ∧ MadeJ B w0 q F m a' (w'.setCell ⟨q, n, none⟩ (rptr wr.heap.size))) := by
        refine Lib.hid ?_
        rintro w' ⟨g0, wf0, r0, hR⟩
        have hR1 : St B w0 w' ((wr.heap.size, g0.obj) :: (g0.cellsH ++ ((q, rowsPart rbs) :: (ringsH rbs G ++ F)))) := hR
        have pm : ∀ o : Obj, ((wr.heap.size, g0.obj) :: (g0.cellsH ++ ((q, o) :: (ringsH rbs G ++ F)))).Perm ((q, o) :: (ringsH (rbs ++ [wr.heap.size]) (G ++ [g0]) ++ F)) := fun o => by
          classical
          have h1 := List.perm_iff_count.1 (rings_snoc (bs := rbs) (gs := G) (b := wr.heap.size) (g := g0) (by omega))
          refine List.perm_iff_count.2 fun a => ?_
          have h2 := h1 a
          simp only [List.count_append, List.count_cons] at h2 ⊢
          omega
        have hR2 := hR1.perm (pm _)
        have hset := hR2.set0 n (rptr wr.heap.size)
        have e1 : (rbs.map rptr ++ List.replicate (4 - rbs.length) (Value.pointer none)).toArray.setIfInBounds n (rptr wr.heap.size) = ((rbs ++ [wr.heap.size]).map rptr ++ List.replicate (4 - (rbs ++ [wr.heap.size]).length) (Value.pointer none)).toArray := by
          rw [List.setIfInBounds_toArray]
          congr 1
          rw [List.set_append_right _ _ (by rw [List.length_map]; omega), List.length_map, hn, Nat.sub_self, show 4 - rbs.length = (4 - (rbs ++ [wr.heap.size]).length) + 1 by rw [List.length_append, List.length_singleton]; omega, List.replicate_succ, List.set_cons_zero]
          simp
        rw [e1] at hset
        refine ⟨hR2.cell (b := q) List.mem_cons_self ?_, hR2.soft (b := q) List.mem_cons_self n, fun a' hf => ⟨g - 1, by omega, rbs ++ [wr.heap.size], G ++ [g0], ?_, ?_, ?_, ?_, hset⟩⟩
        · have h0 : (rbs.map rptr).length ≤ n := by rw [List.length_map]; omega
          rw [List.getElem?_toArray, List.getElem?_append_right h0, List.length_map, hn, Nat.sub_self, show 4 - rbs.length = (4 - rbs.length - 1) + 1 by omega, List.replicate_succ]
          rfl
        · rw [List.length_append, List.length_singleton]; omega
        · rw [List.length_append, List.length_append, List.length_singleton, List.length_singleton]; omega
        · intro x hx
          rcases List.mem_append.1 hx with hx | hx
          · exact hW x hx
          · rw [List.mem_singleton] at hx
            subst hx
            exact ⟨wf0, r0⟩
        · rw [List.length_append, List.length_singleton, ← hn]
          exact hf
      have hne : ((n : Int) == 4) = false := by rw [beq_eq_false_iff_ne]; omega
      clear hst hW hn hG
      go_wp2_with fail
      refine cn.out.mono ?_
      rintro r w2 ⟨rfl, h2⟩
      obtain ⟨k1, k2, fin2⟩ := fin.out _ h2
      replace fin2 := Lib.hid fin2
      clear fin cn h2
      generalize wr.heap.size = nb at *
      go_wp2_with fail
      refine wp_goto ?_
      exact ⟨rfl, fin2.out _ ⟨rfl, rfl, by simp⟩⟩
    · have hn4 : n = 4 := by omega
      have fin : Hid (∃ q' rbs G, (Ending.returned (.slice (some ⟨q, 0, none⟩) 4 4)) = .returned (.slice (some ⟨q', 0, none⟩) 4 4) ∧ rbs.length = 4 ∧ (∀ x ∈ G, RG.Wf x) ∧ G.map RG.row = [[], [], [], []] ∧ St B w0 wr ((q', rowsO rbs) :: (ringsH rbs G ++ F))) := Lib.hid (by
        refine ⟨q, rbs, G, rfl, by omega, fun x hx => (hW x hx).1, ?_, ?_⟩
        · have : G.map RG.row = List.replicate G.length [] := by
            rw [List.eq_replicate_iff]
            refine ⟨by simp, fun x hx => ?_⟩
            obtain ⟨y, hy, e⟩ := List.mem_map.1 hx
            rw [← e, (hW y hy).2]
          rw [this, hG, hn4]
          rfl
        · have e1 : rowsPart rbs = rowsO rbs := by
            unfold rowsPart rowsO
            rw [show 4 - rbs.length = 0 by omega]
            simp
          rw [← e1]
          exact hst)
      subst hn4
      clear hst hW hn hG
      simp only [Int.cast_ofNat_Int]
      go_wp2_with fail
      simp only [Exit.jump]
      go_ret
      exact fin.out
  · intro HJ
    go_wp2_with fail
    refine wp_label ?_
    go_step
    go_step
    exact HJ 4 _ _ ⟨[], [], rfl, rfl, by simp, ⟨rfl, rfl, by simp⟩, h1.out⟩
end
end Go.Proofs.Ytmmagapggmcceaa
