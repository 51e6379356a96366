/- Those whose time is over taken out of a rack. -/
import Derived.Test.YtmmagapggmcceaaRkP
namespace Go.Proofs.Ytmmagapggmcceaa
open Go.RowKit
open Go.ChangeMaps (setBlock)
set_option linter.unusedVariables false
set_option linter.unusedSectionVars false
set_option linter.unusedSimpArgs false
set_option maxRecDepth 100000

/-- So many rows gone through. -/
def sifted (M : List Ent) (now : Int) (i : Nat) : List Ent := M.filter fun x => !(goneE x now && decide (3 - (i : Int) < x.prio))
section
variable {M : List Ent} {now : Int} {i : Nat}
theorem sifted_zero (h : RkOk M) : sifted M now 0 = M := by
  unfold sifted
  rw [List.filter_eq_self]
  intro x hx
  have := (h.prio x hx).2
  have h2 : ¬ (3 - ((0 : Nat) : Int) < x.prio) := by omega
  rw [decide_eq_false h2, Bool.and_false]
  rfl
theorem sifted_end (h : RkOk M) : sifted M now 4 = M.filter fun x => !goneE x now := by
  unfold sifted
  apply List.filter_congr
  intro x hx
  have := (h.prio x hx).1
  have h2 : (3 - ((4 : Nat) : Int) < x.prio) := by omega
  rw [decide_eq_true h2, Bool.and_true]
theorem sifted_ok (h : RkOk M) : RkOk (sifted M now i) := h.sub List.filter_sublist
theorem sifted_ent (p : Int) : entP (sifted M now i) p = if 3 - (i : Int) < p then (entP M p).filter (fun x => !goneE x now) else entP M p := by
  unfold entP sifted
  rw [List.filter_filter]
  split
  · rename_i hp
    rw [List.filter_filter]
    apply List.filter_congr
    intro x _
    by_cases h1 : x.prio = p
    · have : 3 - (i : Int) < x.prio := by omega
      rw [decide_eq_true this, Bool.and_true, Bool.and_comm]
    · simp [h1]
  · rename_i hp
    apply List.filter_congr
    intro x _
    by_cases h1 : x.prio = p
    · have : ¬ 3 - (i : Int) < x.prio := by omega
      rw [decide_eq_false this, Bool.and_false]
      simp
    · simp [h1]
theorem sifted_rows (hi : i < 4) : (rowsM (sifted M now i)).set i (((entP M (3 - (i : Int))).filter fun x => !goneE x now).map (·.id)) = rowsM (sifted M now (i + 1)) := by
  unfold rowsM rowP
  simp only [sifted_ent]
  rcases (by omega : i = 0 ∨ i = 1 ∨ i = 2 ∨ i = 3) with rfl | rfl | rfl | rfl <;> simp
theorem sifted_cut (h : RkOk M) : cutIds (sifted M now i) (((entP M (3 - (i : Int))).filter fun x => goneE x now).map (·.id)) = sifted M now (i + 1) := by
  unfold cutIds sifted
  rw [List.filter_filter]
  apply List.filter_congr
  intro x hx
  have key : x.id ∈ ((entP M (3 - (i : Int))).filter fun x => goneE x now).map (·.id) ↔ x.prio = 3 - (i : Int) ∧ goneE x now = true := by
    constructor
    · intro hm
      obtain ⟨y, hy, e⟩ := List.mem_map.1 hm
      rw [List.mem_filter, mem_entP] at hy
      rw [← h.inj hy.1.1 hx e]
      exact ⟨hy.1.2, hy.2⟩
    · intro hm
      exact List.mem_map_of_mem (List.mem_filter.2 ⟨mem_entP.2 ⟨hx, hm.1⟩, hm.2⟩)
  cases hg : goneE x now with
  | false =>
    have : x.id ∉ ((entP M (3 - (i : Int))).filter fun x => goneE x now).map (·.id) := by
      rw [key, hg]
      simp
    simp [this]
  | true =>
    by_cases h1 : x.prio = 3 - (i : Int)
    · have h2 : x.id ∈ ((entP M (3 - (i : Int))).filter fun x => goneE x now).map (·.id) := key.2 ⟨h1, hg⟩
      have h3 : 3 - ((i + 1 : Nat) : Int) < x.prio := by omega
      rw [decide_eq_false (fun hc => hc h2), decide_eq_true h3]
      rfl
    · have h2 : x.id ∉ ((entP M (3 - (i : Int))).filter fun x => goneE x now).map (·.id) := fun hm => h1 (key.1 hm).1
      rw [decide_eq_true h2]
      by_cases h3 : 3 - (i : Int) < x.prio
      · have h4 : 3 - ((i + 1 : Nat) : Int) < x.prio := by omega
        rw [decide_eq_true h3, decide_eq_true h4]
        rfl
      · have h4 : ¬ 3 - ((i + 1 : Nat) : Int) < x.prio := by omega
        rw [decide_eq_false h3, decide_eq_false h4]
        rfl
end

section
variable {B : Nat} {w0 w : World} {rk q rb i k : Nat} {rbs : List Nat} {M : List Ent} {F : List (Nat × Obj)} {now : Int}
theorem giveRk_none (h : St B w0 w ((rk, rack0) :: F)) : Calls Try.prog 39 #[rptr rk] w fun e w' => e = .returned (.tuple #[]) ∧ St B w0 w' ((rk, rack0) :: F) := by
  have c2 : w.cell? ⟨rk, 2, none⟩ = some (.int .i64 0) := h.cell (b := rk) List.mem_cons_self rfl
  have c1 : w.cell? ⟨rk, 1, none⟩ = some (.map none) := h.cell (b := rk) List.mem_cons_self rfl
  have hdr := Lib.hid (fun n => h.drewN n)
  clear h
  go_enter Try.func39, Try.ntmps39
  go_wp2_with fail
  go_quiet (fail)
  go_wp2_with fail
  exact bodyPost_ret (results_none rfl _ _ _) rfl ⟨rfl, hdr.out _⟩

def GoneJ (B : Nat) (w0 : World) (rk q : Nat) (rbs : List Nat) (M : List Ent) (F : List (Nat × Obj)) (now : Int) (g : Nat) (a' : Act) (w' : World) : Prop :=
  ∃ (i : Nat) (a : Option Addr) (c : Nat) (S : List (Nat × Obj)), i + g = 4 ∧ Fr 31 [(0, rptr rk), (1, .int .i64 now), (5, .slice a ((uptoE M i).filter fun x => goneE x now).length c), (6, .int .i64 i)] a' ∧ EnsIs (.slice a ((uptoE M i).filter fun x => goneE x now).length c) ((uptoE M i).filter fun x => goneE x now) S ∧
    RkAt B w0 w' rk q rbs (rowsM (sifted M now i)) (sifted M now i) (S ++ F)
def GoneR (B : Nat) (w0 : World) (rk : Nat) (M : List Ent) (F : List (Nat × Obj)) (now : Int) (r : Ending) (w' : World) : Prop :=
  ∃ a c S, r = .returned (.slice a (M.filter fun x => goneE x now).length c) ∧ EnsIs (.slice a (M.filter fun x => goneE x now).length c) (M.filter fun x => goneE x now) S ∧ RackIs B w0 w' rk (M.filter fun x => !goneE x now) (S ++ F)

set_option maxHeartbeats 2000000 in
theorem gone_some (hok : RkOk M) (h : RkAt B w0 w rk q rbs (rowsM M) M F) (now : Int) : Calls Try.prog 28 #[rptr rk, .int .i64 now] w (GoneR B w0 rk M F now) := by
  have hfew := h.few
  have h1 : RkAt B w0 w rk q rbs (rowsM (sifted M now 0)) (sifted M now 0) F := by rw [sifted_zero hok]; exact h
  replace h1 := Lib.hid h1
  replace hok := Lib.hid hok
  clear h
  go_enter Try.func28, Try.ntmps28
  go_wp2_with fail
  refine wp_scope_ghost 0 (GoneJ B w0 rk q rbs M F now) rfl ?_ ?_
  · clear h1
    rintro g a' wr ⟨i, a, c, S, hi, hfr, hs, hR⟩
    obtain ⟨fr, rfl, hl'⟩ := hfr.lit
    clear hfr
    simp only [List.mem_cons, List.not_mem_nil, or_false, forall_eq_or_imp, forall_eq] at hl'
    obtain ⟨f0, f1, f5, f6⟩ := hl'
    simp only [List.range, List.range.loop, List.map, f0, f1, f5, f6]
    clear f0 f1 f5 f6
    have c0 := hR.c0
    by_cases hlt : i < 4
    · obtain ⟨rb, hb⟩ := hR.row_at hlt
      have c1 := hR.at_ hb
      have hgl : (rowsM (sifted M now i))[i]? = some ((entP M (3 - (i : Int))).map (·.id)) := by
        rw [rows_get hlt]
        unfold rowP
        rw [sifted_ent, if_neg (by omega)]
      have hsub : ∀ x ∈ entP M (3 - (i : Int)), x ∈ sifted M now i := fun x hx => by
        obtain ⟨h1, h2⟩ := mem_entP.1 hx
        unfold sifted
        rw [List.mem_filter]
        refine ⟨h1, ?_⟩
        have : ¬ 3 - (i : Int) < x.prio := by omega
        simp [this]
      have hnd : ((entP M (3 - (i : Int))).map (·.id)).Nodup := hok.out.ids.sublist (List.filter_sublist.map _)
      have hle := upto_len hok.out hlt
      have hle2 : ((uptoE M i).filter fun x => goneE x now).length + ((entP M (3 - (i : Int))).filter fun x => goneE x now).length ≤ 100000 := by
        have := List.length_filter_le (fun x => goneE x now) (uptoE M i)
        have := List.length_filter_le (fun x => goneE x now) (entP M (3 - (i : Int)))
        omega
      have cs : Hid (Calls Try.prog 44 #[rptr rk, rptr rb, .int .i64 now] wr fun r w'' => ∃ a2 n2 c2, r = .returned (.slice a2 n2 c2) ∧
          ∃ a' c' W, (Builtin.append_ #[28, 28] 0 #[.slice a ((uptoE M i).filter fun x => goneE x now).length c, .slice a2 n2 c2]).run Try.prog w'' = .ok (.slice a' ((uptoE M (i + 1)).filter fun x => goneE x now).length c') W ∧
            ∀ a9, Fr 31 [(0, rptr rk), (1, .int .i64 now), (5, .slice a' ((uptoE M (i + 1)).filter fun x => goneE x now).length c'), (6, .int .i64 ((i : Int) + 1))] a9 → ∃ m, m < g ∧ GoneJ B w0 rk q rbs M F now m a9 W) := Lib.hid (by
        refine (sift_any hR hb hgl hsub hnd (by omega) now).mono ?_
        rintro r w'' ⟨a2, c2, S2, rfl, h5, h6⟩
        rw [sifted_rows hlt, sifted_cut hok.out] at h6
        obtain ⟨a', c', W, S', q1, q2, q3⟩ := RkAt.app h6 hs h5 hle2
        rw [← List.filter_append, ← upto_succ] at q1 q2
        exact ⟨a2, _, c2, rfl, a', c', W, q1, fun a9 hf => ⟨g - 1, by omega, i + 1, a', c', S', by omega, hf, q2, q3⟩⟩)
      have i0 : (0 : Int) ≤ i := by omega
      have i1 : (i : Int) < 4 := by omega
      clear hR hs hb hgl hle hsub hnd hle2 hi
      generalize ((uptoE M (i + 1)).filter fun x => goneE x now).length = n1 at *
      generalize ((uptoE M i).filter fun x => goneE x now).length = n0 at *
      go_wp2_with fail
      refine cs.out.mono ?_
      rintro r w2 ⟨a2, n2, c2, rfl, a3, c3, W, hrun, fin⟩
      replace fin := Lib.hid fin
      clear cs
      go_wp2_with (at_builtin; refine wpList_append_go rfl (.tmp 17) (.tmp 27) 28 28 rfl _ _ rfl rfl hrun ?_)
      refine wp_goto ?_
      exact ⟨rfl, fin.out _ ⟨rfl, rfl, by simp⟩⟩
    · have hin : i = 4 := by omega
      subst hin
      rw [upto_all hok.out] at hs ⊢
      have cg := Lib.hid (giveRk_any hR)
      have fin : Hid (∀ w', RkAt B w0 w' rk q rbs (rowsM (sifted M now 4)) (sifted M now 4) (S ++ F) → GoneR B w0 rk M F now (.returned (.slice a (M.filter fun x => goneE x now).length c)) w') := Lib.hid fun w' h => by
        rw [sifted_end hok.out] at h
        exact ⟨a, c, S, rfl, hs, hok.out.sub List.filter_sublist, .inr ⟨q, rbs, h⟩⟩
      clear hR hs hi
      simp only [Int.cast_ofNat_Int]
      go_wp2_with fail
      refine cg.out.mono ?_
      rintro r w2 ⟨rfl, h2⟩
      have fin2 := Lib.hid (fin.out _ h2)
      clear fin h2 cg
      go_wp2_with fail
      simp only [Exit.jump]
      go_ret
      exact fin2.out
  · intro HJ
    go_wp2_with fail
    refine wp_label ?_
    go_step
    go_step
    exact HJ 4 _ _ ⟨0, none, 0, [], rfl, ⟨rfl, rfl, by simp [upto_zero]⟩, by rw [upto_zero]; exact EnsIs.nil, h1.out⟩
theorem gone_none (h : St B w0 w ((rk, rack0) :: F)) (now : Int) : Calls Try.prog 28 #[rptr rk, .int .i64 now] w (GoneR B w0 rk [] F now) := by
  have c0 : w.cell? ⟨rk, 0, none⟩ = some (.slice none 0 0) := h.cell (b := rk) List.mem_cons_self rfl
  have cg := Lib.hid (giveRk_none h)
  have fin : Hid (∀ w', St B w0 w' ((rk, rack0) :: F) → GoneR B w0 rk [] F now (.returned (.slice none 0 0)) w') := Lib.hid fun w' h => ⟨none, 0, [], rfl, EnsIs.nil, RkOk.nil, .inl ⟨rfl, h⟩⟩
  clear h
  go_enter Try.func28, Try.ntmps28
  go_wp2_with fail
  refine wp_scope_ghost 0 (fun g a' w' => Fr 31 [(0, rptr rk), (5, .slice none 0 0), (6, .int .i64 0)] a' ∧ w' = w) rfl ?_ ?_
  · rintro g a' wr ⟨hfr, rfl⟩
    obtain ⟨fr, rfl, hl'⟩ := hfr.lit
    clear hfr
    simp only [List.mem_cons, List.not_mem_nil, or_false, forall_eq_or_imp, forall_eq] at hl'
    obtain ⟨f0, f3, f4⟩ := hl'
    simp only [List.range, List.range.loop, List.map, f0, f3, f4]
    clear f0 f3 f4
    go_wp2_with fail
    refine cg.out.mono ?_
    rintro r w2 ⟨rfl, h2⟩
    have fin2 := Lib.hid (fin.out _ h2)
    clear fin h2 cg
    go_wp2_with fail
    simp only [Exit.jump]
    go_ret
    exact fin2.out
  · intro HJ
    go_wp2_with fail
    refine wp_label ?_
    go_step
    go_step
    exact HJ 0 _ _ ⟨⟨rfl, rfl, by simp⟩, rfl⟩
theorem rk_gone (h : RackIs B w0 w rk M F) (now : Int) : Calls Try.prog 28 #[rptr rk, .int .i64 now] w (GoneR B w0 rk M F now) := by
  obtain ⟨h1, ⟨rfl, h3⟩ | ⟨q, rbs, h2⟩⟩ := h
  · exact gone_none h3 now
  · exact gone_some h1 h2 now
end
end Go.Proofs.Ytmmagapggmcceaa
