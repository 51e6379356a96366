/- Dials: giveRoomBack. -/
import Derived.Test.YtldocgpnmfmnaaaDlF
namespace Go.Proofs.Ytldocgpnmfmnaaa
open Go.RowKit
set_option linter.unusedVariables false

section
variable {B : Nat} {w0 w : World} {db : Nat} {M : List Mk} {hv : Value} {hF F R A : List (Nat × Obj)} {mv : Option Nat} {es : List (Int × Value × Nat)} {clk : Nat} {i j p : Nat} {m o : Mk}

theorem DmAt.drewN (h : DmAt B w0 w db M hv hF mv es clk F) (n : Nat) : DmAt B w0 (w.drewN n) db M hv hF mv es clk F := ⟨h.at_.drewN n, h.map, h.ids, h.bare⟩

/-- Behind a call without results: the marks are as they were. -/
def BackR (B : Nat) (w0 : World) (db : Nat) (M : List Mk) (F : List (Nat × Obj)) (e : Ending) (w' : World) : Prop :=
  e = .returned (.tuple #[]) ∧ ∃ hv hF mv es clk, DmAt B w0 w' db M hv hF mv es clk F

theorem run_makeMap5 (w : World) (k : Int) : (Instr.makeMap 52 (some (.int .i64 k))).run Try.prog w = .ok (.map (some w.heap.size)) (w.alloc (.map #[] 0)) := by
  simp [Instr.makeMap, run_underlying uMmap, asInt, asIntOf]

theorem perm_g {α : Type} (x d : α) (A F H : List α) : (x :: (d :: (A ++ F) ++ H)).Perm ((d :: (A ++ ([x] ++ F))) ++ H) := (perm_f d x A F H).symm

/-- The loop of giveRoomBack: the first i marks lie in the map. -/
def Refilled (B : Nat) (w0 : World) (db : Nat) (M : List Mk) (hv : Value) (hF : List (Nat × Obj)) (mb : Nat) (F : List (Nat × Obj)) (i : Nat) (w' : World) : Prop :=
  ∃ es clk, es.map pairE = (M.take i).map pairM ∧ DlAt B w0 w' db M hv hF (some mb) (mapH (some mb) es clk ++ F)

theorem Refilled.step {mb : Nat} (h : Refilled B w0 db M hv hF mb F i w) (hn : (M.map Mk.id).Nodup) (hi : M[i]? = some m) :
    ∃ W, (Instr.mapUpdate 52 (.map (some mb)) (.int .i64 m.id) (mp m.b)).run Try.prog w = .ok () W ∧ Refilled B w0 db M hv hF mb F (i + 1) W := by
  obtain ⟨es, clk, he, h⟩ := h
  have hm : MapIs es (M.take i) := List.Perm.of_eq he
  have hk : m.id ∉ (M.take i).map Mk.id := by
    intro hmem
    obtain ⟨o, ho, hoid⟩ := List.mem_map.1 hmem
    obtain ⟨j, hj⟩ := List.getElem?_of_mem ho
    have hjl : j < i := by
      have := (List.getElem?_eq_some_iff.1 hj).1
      rw [List.length_take] at this
      omega
    rw [List.getElem?_take, if_pos hjl] at hj
    have := id_inj hn hj hi hoid
    omega
  refine ⟨_, run_mapUpdateI_new uMmap uInt5 h.mapGet m.id (mp m.b) (hm.none hk), es ++ [(m.id, mp m.b, clk)], clk + 1, ?_, h.setMap⟩
  rw [List.map_append, he, List.take_add_one, hi, List.map_append]
  rfl

set_option maxHeartbeats 2000000 in
set_option maxRecDepth 100000 in
theorem giveBack_any (h : DmAt B w0 w db M hv hF mv es clk F) :
    Calls Try.prog 29 #[mp db] w (BackR B w0 db M F) := by
  have c0 := h.at_.c0
  have stay : Hid (∀ n, BackR B w0 db M F (.returned (.tuple #[])) (w.drewN n)) := Lib.hid fun n => ⟨rfl, _, _, _, _, _, h.drewN n⟩
  have cl := Lib.hid (fun n => cloneM_any h.at_.sl (h.at_.drewN n).st (by have := h.at_.few; omega) (ptrs_one M))
  obtain ⟨a, cap, rfl, hc1, hc2, -⟩ := h.at_.sl.form
  have hcm : (cap : Int) ≤ 9223372036854775807 := by unfold maxLen at hc2; omega
  have hcp : (0 : Int) ≤ cap := by omega
  have hl0 : (0 : Int) ≤ M.length := by omega
  have hfew := h.at_.few
  have hl5 : (M.length : Int) ≤ 5000 := by omega
  have hall := Lib.hid h
  clear h hc1 hc2 hfew
  by_cases h8 : (cap : Int) ≤ 8
  · clear cl hall
    go_enter Try.func29, Try.ntmps29
    go_wp2_with fail
    go_quiet (fail)
    go_wp2_with fail
    exact bodyPost_end (results_none rfl _ _ _) rfl (stay.out _)
  · have h8' : decide ((cap : Int) ≤ 8) = false := by simpa using h8
    by_cases hq : (cap : Int) / 4 < (M.length : Int)
    · clear cl hall
      go_enter Try.func29, Try.ntmps29
      go_wp2_with fail
      go_quiet (fail)
      go_wp2_with fail
      exact bodyPost_end (results_none rfl _ _ _) rfl (stay.out _)
    · have hq' : decide ((cap : Int) / 4 < (M.length : Int)) = false := by simpa using hq
      clear stay hq h8
      go_enter Try.func29, Try.ntmps29
      go_wp2_with fail
      go_quiet (fail)
      go_wp2_with fail
      refine (cl.out _).mono ?_
      rintro e w1 ⟨s', F', rfl, h1, h2⟩
      obtain ⟨a', cap', rfl, -, -, -⟩ := h1.form
      have st1 : St B w0 w1 (((db, dialO (.slice a M.length cap) mv) :: (mksO M ++ (mapH mv es clk ++ F))) ++ F') := h2.sub ((List.sublist_append_left _ _).append (List.Sublist.refl _))
      have k0 : w1.frozen? ⟨db, 0, none⟩ = false := St.soft st1 (List.mem_append_left _ List.mem_cons_self) 0
      have k1 : w1.cell? ⟨db, 0, none⟩ = some (.slice a M.length cap) := st1.cell (b := db) (List.mem_append_left _ List.mem_cons_self) rfl
      have h3 := hall.out.at_.relaid h1 st1
      clear h1 h2 st1 cl c0
      have h4 := h3.st.alloc (.map #[] 0)
      rw [World.size_setCell] at h4
      have h5 : St B w0 ((w1.setCell ⟨db, 0, none⟩ (.slice a' M.length cap')).alloc (.map #[] 0)) (((db, dialO (.slice a' M.length cap') mv) :: (mksO M ++ (mapH (some w1.heap.size) [] 0 ++ F))) ++ F') := by
        refine (h4.perm (perm_g _ _ _ _ _)).sub ?_
        refine List.Sublist.append (List.Sublist.cons_cons _ (List.Sublist.append (List.Sublist.refl _) ?_)) (List.Sublist.refl _)
        refine List.Sublist.append (List.Sublist.refl _) (List.sublist_append_right _ _)
      have h6 := h3.remap (mv' := some w1.heap.size) h5
      have hlt := h3.st.lt (b := db) (o := dialO (.slice a' M.length cap') mv) (by simp)
      rw [World.setCell_alloc_past _ _ _ _ hlt] at h6
      rw [World.size_setCell] at hlt
      have d0 := h3.c0
      have d1 := h3.c1
      have df := h3.soft 1
      replace h6 := Lib.hid h6
      clear h3 h4 h5
      have hmk := run_makeMap5
      go_wp2_with fail
      have start : Hid (Refilled B w0 db M (.slice a' M.length cap') F' w1.heap.size F 0 (((w1.setCell ⟨db, 0, none⟩ (.slice a' M.length cap')).setCell ⟨db, 1, none⟩ (.map (some w1.heap.size))).alloc (.map #[] 0))) := Lib.hid ⟨[], 0, by simp, h6.out⟩
      have hmap := Lib.hid hall.out.map
      have hids := Lib.hid hall.out.ids
      generalize ((w1.setCell ⟨db, 0, none⟩ (.slice a' M.length cap')).setCell ⟨db, 1, none⟩ (.map (some w1.heap.size))).alloc (.map #[] 0) = W0 at *
      clear h6 d0 d1 df k0 k1 hlt hall
      generalize w1.heap.size = mb at *
      go_loopg [46] M.length (fun g v46 wr => ∃ i : Nat, v46 = .int .i64 i ∧ i + g = M.length ∧ Refilled B w0 db M (.slice a' M.length cap') F' mb F i wr)
      case atStart => exact ⟨0, rfl, by omega, start.out⟩
      case round =>
        obtain ⟨i, rfl, hi, hR⟩ := hrel
        by_cases hlt : i < M.length
        · have hg := V_get hlt
          obtain ⟨es2, clk2, he2, hD⟩ := id hR
          have e0 := hD.c1
          have em := hD.m0 hg
          obtain ⟨gb, off, cap2, hcap, hcell, -⟩ := hD.head hg
          simp only [Value.slice.injEq] at hcap
          obtain ⟨rfl, -, rfl⟩ := hcap
          have ci := hcell i _ hg
          have hR2 : Refilled B w0 db M (.slice (some ⟨gb, off, none⟩) M.length cap') F' mb F i wr.drew := ⟨es2, clk2, he2, hD.drewN 1⟩
          obtain ⟨W, hmu, hnext⟩ := hR2.step hids.out hg
          replace hnext := Lib.hid hnext
          generalize V M i = m at *
          have hi1 : (i : Int) < M.length := by omega
          have hi0 : (0 : Int) ≤ i := by omega
          clear hR hR2 hD he2 hg hcell start
          go_wp2_with fail
          go_still_tail 9, (by kernel_rfl)
          change wpList _ _ _ _ _ wr.drew
          go_wp2_with fail
          go_roundg (M.length - (i + 1))
          case measure => omega
          case rel => exact ⟨i + 1, by go_num, by omega, hnext.out⟩
        · obtain rfl : i = M.length := by omega
          have fin : BackR B w0 db M F (.returned (.tuple #[])) wr := by
            obtain ⟨es2, clk2, he2, hD⟩ := hR
            rw [List.take_length] at he2
            exact ⟨rfl, _, _, _, es2, clk2, hD, List.Perm.of_eq he2, hids.out, fun e => by cases e⟩
          replace fin := Lib.hid fin
          clear hR start
          go_wp2_with fail
          exact bodyPost_end (results_none rfl _ _ _) rfl fin.out
end
end Go.Proofs.Ytldocgpnmfmnaaa
