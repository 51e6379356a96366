import Derived.Test.YtknjamfjonapiaaGreatDoorY08
import Derived.Test.YtknjamfjonapiaaGreatDoorY03
import Derived.Test.YtknjamfjonapiaaGreatDoorY04
namespace Go.Proofs.YtknjamfjonapiaaGreatDoor
open Go.RowKit
open Go.ChangeMaps (setBlock)
set_option linter.unusedVariables false
set_option linter.unusedSectionVars false
set_option linter.unusedSimpArgs false
set_option maxRecDepth 100000
def uptoE (M : List Ent) (i : Nat) : List Ent := (List.range i).flatMap fun (j : Nat) => entP M (3 - (j : Int))
theorem upto_succ (M : List Ent) (i : Nat) : uptoE M (i + 1) = uptoE M i ++ entP M (3 - (i : Int)) := by simp [uptoE, List.range_succ]
theorem upto_zero (M : List Ent) : uptoE M 0 = [] := rfl
theorem upto_all {M : List Ent} (h : RkOk M) : uptoE M 4 = M := by
 have := by_rows h
 simp only [uptoE, List.range, List.range.loop, List.flatMap_cons, List.flatMap_nil]
 simp only [Int.cast_ofNat_Int, Int.sub_zero, List.append_nil]
 exact this.symm
theorem upto_len {M : List Ent} (h : RkOk M) {i : Nat} (hi : i < 4) : (uptoE M i).length + (entP M (3 - (i : Int))).length ≤ M.length := by
 have h4 := congrArg List.length (upto_all h)
 rw [show 4 = 3 + 1 from rfl, upto_succ, show 3 = 2 + 1 from rfl, upto_succ, show 2 = 1 + 1 from rfl, upto_succ, show 1 = 0 + 1 from rfl, upto_succ] at h4
 simp only [List.length_append, Int.cast_ofNat_Int] at h4
 rcases (by omega : i = 0 ∨ i = 1 ∨ i = 2 ∨ i = 3) with rfl | rfl | rfl | rfl
 ·simp only [Int.cast_ofNat_Int] at h4 ⊢; omega
 ·rw [show (1 : Nat) = 0 + 1 from rfl, upto_succ, List.length_append]; simp only [Int.cast_ofNat_Int] at h4 ⊢; omega
 ·rw [show (2 : Nat) = 1 + 1 from rfl, upto_succ, show (1 : Nat) = 0 + 1 from rfl, upto_succ, List.length_append, List.length_append]; simp only [Int.cast_ofNat_Int] at h4 ⊢; omega
 ·rw [show (3 : Nat) = 2 + 1 from rfl, upto_succ, show (2 : Nat) = 1 + 1 from rfl, upto_succ, show (1 : Nat) = 0 + 1 from rfl, upto_succ, List.length_append, List.length_append, List.length_append]; simp only [Int.cast_ofNat_Int] at h4 ⊢; omega
section
variable {B : Nat} {w0 w : World} {rk q rb i k : Nat} {rbs : List Nat} {R : List (List Int)} {H M L : List Ent} {F A S : List (Nat × Obj)} {e e0 : Ent} {E : List Ent} {l : List Int}
theorem RkAt.ring_all (h : RkAt B w0 w rk q rbs R H F) (hb : rbs[i]? = some rb) (hl : R[i]? = some l) : Calls Tryz.prog 192 #[rptr rb] w fun r w' => ∃ a c A, r = .returned (.slice a l.length c) ∧ SlIs 3 1 (.slice a l.length c) l.length (ints l) A ∧ RkAt B w0 w' rk q rbs R H (A ++ F) := by
 obtain ⟨Z, hr, hback⟩ := h.ring hb hl
 refine (Go.Proofs.YtknjamfjonapiaaGreatDoor.ring_all hr).mono ?_
 rintro r w' ⟨v, A, rfl, hs, h'⟩
 obtain ⟨a, c, rfl, -⟩ := hs.form
 have h2 := hback w' l (A ++ F) (h'.perm (by
  classical
  exact List.perm_iff_count.2 fun a => by simp only [List.count_append]; omega))
 have e1 : R.set i l = R := by
  apply List.ext_getElem?
  intro j
  rw [List.getElem?_set]
  split
  ·rename_i hj
   subst hj
   split
   ·exact hl.symm
   ·rename_i h9
    rw [List.getElem?_eq_none (by omega)]
  ·rfl
 rw [e1] at h2
 exact ⟨a, c, A, rfl, hs, h2⟩
theorem RkAt.app {a a2 : Option Addr} {c c2 : Nat} {Y : List (Nat × Obj)} (h : RkAt B w0 w rk q rbs R H (Y ++ (S ++ F))) (hs : EnsIs (.slice a L.length c) L S) (h2 : EnsIs (.slice a2 E.length c2) E Y) (hl : L.length + E.length ≤ 100000) :
  ∃ a' c' W S', (Builtin.append_ #[46, 46] 0 #[.slice a L.length c, .slice a2 E.length c2]).run Tryz.prog w = .ok (.slice a' (L ++ E).length c') W ∧ EnsIs (.slice a' (L ++ E).length c') (L ++ E) S' ∧ RkAt B w0 W rk q rbs R H (S' ++ F) := by
 obtain ⟨Z, z1, z2⟩ := h.beside
 have p1 : (Z ++ (Y ++ (S ++ F))).Perm ((Z ++ (Y ++ F)) ++ S) := by
  classical
  exact List.perm_iff_count.2 fun a => by simp only [List.count_append]; omega
 have p2 : (Z ++ (Y ++ (S ++ F))).Perm ((Z ++ (S ++ F)) ++ Y) := by
  classical
  exact List.perm_iff_count.2 fun a => by simp only [List.count_append]; omega
 obtain ⟨a', c', W, S', q1, q2, q3⟩ := ens_app hs (z1.perm p1) h2 (z1.perm p2) hl
 refine ⟨a', c', W, S', q1, q2, z2 _ _ ((q3.perm (H' := (Z ++ (S' ++ F)) ++ Y) ?_).sub (List.sublist_append_left _ _))⟩
 classical
 exact List.perm_iff_count.2 fun a => by simp only [List.count_append]; omega
theorem EnsIs.made (t : Nat) (E : List Ent) (h : E.length ≤ 100000) : EnsIs (.slice (some ⟨t, 0, none⟩) E.length E.length) E [(t, ensO E)] := SlIs.made (entsV_len E) (by unfold maxLen; omega)
def AllJ (B : Nat) (w0 : World) (rk q : Nat) (rbs : List Nat) (M : List Ent) (F : List (Nat × Obj)) (g : Nat) (a' : Act) (w' : World) : Prop :=
 ∃ (i : Nat) (a : Option Addr) (c : Nat) (S : List (Nat × Obj)), i + g = 4 ∧ Fr 27 [(0, rptr rk), (3, .slice a (uptoE M i).length c), (4, .int .i64 i)] a' ∧ EnsIs (.slice a (uptoE M i).length c) (uptoE M i) S ∧ RkAt B w0 w' rk q rbs (rowsM M) M (S ++ F)
def AllR (B : Nat) (w0 : World) (rk : Nat) (M : List Ent) (F : List (Nat × Obj)) (r : Ending) (w' : World) : Prop :=
 ∃ a c S, r = .returned (.slice a M.length c) ∧ EnsIs (.slice a M.length c) M S ∧ RackIs B w0 w' rk M (S ++ F)
set_option maxHeartbeats 2000000 in
theorem all_some (hok : RkOk M) (h : RkAt B w0 w rk q rbs (rowsM M) M F) : Calls Tryz.prog 129 #[rptr rk] w (AllR B w0 rk M F) := by
 have hfew := h.few
 have hlen4 := Lib.hid h.len
 replace h := Lib.hid h
 replace hok := Lib.hid hok
 go_enter Tryz.func129, Tryz.ntmps129
 go_wp2_with fail
 refine wp_scope_ghost 0 (AllJ B w0 rk q rbs M F) rfl ?_ ?_
 ·clear h
  rintro g a' wr ⟨i, a, c, S, hi, hfr, hs, hR⟩
  obtain ⟨fr, rfl, hl'⟩ := hfr.lit
  clear hfr
  simp only [List.mem_cons, List.not_mem_nil, or_false, forall_eq_or_imp, forall_eq] at hl'
  obtain ⟨f0, f3, f4⟩ := hl'
  simp only [List.range, List.range.loop, List.map, f0, f3, f4]
  clear f0 f3 f4
  have c0 := hR.c0
  by_cases hlt : i < 4
  ·obtain ⟨rb, hb⟩ := hR.row_at hlt
   have hgl := rows_get (M := M) hlt
   have c1 := hR.at_ hb
   have hle := upto_len hok.out hlt
   have hsub : ∀ x ∈ entP M (3 - (i : Int)), x ∈ M := fun x hx => (mem_entP.1 hx).1
   have hrl : (rowP M (3 - (i : Int))).length = (entP M (3 - (i : Int))).length := by unfold rowP; rw [List.length_map]
   have ca := hR.ring_all hb hgl
   rw [hrl] at ca
   replace ca := Lib.hid ca
   have ce : Hid (∀ w' a1 c1 A, SlIs 3 1 (.slice a1 (entP M (3 - (i : Int))).length c1) (entP M (3 - (i : Int))).length (ints (rowP M (3 - (i : Int)))) A → RkAt B w0 w' rk q rbs (rowsM M) M (A ++ (S ++ F)) → Calls Tryz.prog 191 #[rptr rk, .slice a1 (entP M (3 - (i : Int))).length c1] w' fun r w'' => ∃ t, r = .returned (.slice (some ⟨t, 0, none⟩) (entP M (3 - (i : Int))).length (entP M (3 - (i : Int))).length) ∧
     ∃ a' c' W S', (Builtin.append_ #[46, 46] 0 #[.slice a (uptoE M i).length c, .slice (some ⟨t, 0, none⟩) (entP M (3 - (i : Int))).length (entP M (3 - (i : Int))).length]).run Tryz.prog w'' = .ok (.slice a' (uptoE M (i + 1)).length c') W ∧
      ∀ a9, Fr 27 [(0, rptr rk), (3, .slice a' (uptoE M (i + 1)).length c'), (4, .int .i64 ((i : Int) + 1))] a9 → ∃ m, m < g ∧ AllJ B w0 rk q rbs M F m a9 W) := Lib.hid fun w' a1 c1 A hA hR' => by
    refine (entries_any (E := entP M (3 - (i : Int))) hR' hA hsub (by omega)).mono ?_
    rintro r w'' ⟨t, rfl, h5⟩
    obtain ⟨a', c', W, S', q1, q2, q3⟩ := RkAt.app (Y := [(t, ensO (entP M (3 - (i : Int))))]) h5 hs (EnsIs.made t _ (by omega)) (by omega)
    rw [← upto_succ] at q1 q2
    exact ⟨t, rfl, a', c', W, S', q1, fun a9 hf => ⟨g - 1, by omega, i + 1, a', c', S', by omega, hf, q2, q3⟩⟩
   have i0 : (0 : Int) ≤ i := by omega
   have i1 : (i : Int) < 4 := by omega
   clear hR hs hb hgl hle hsub hrl hi
   generalize (uptoE M (i + 1)).length = n1 at *
   generalize (uptoE M i).length = n0 at *
   generalize (entP M (3 - (i : Int))).length = n2 at *
   go_wp2_with fail
   refine ca.out.mono ?_
   rintro r w1 ⟨a1, c1, A, rfl, hA, hR1⟩
   have ce1 := Lib.hid (ce.out _ _ _ _ hA hR1)
   clear ca ce hA hR1
   go_wp2_with fail
   refine ce1.out.mono ?_
   rintro r w2 ⟨t, rfl, a3, c3, W, S', hrun, fin⟩
   replace fin := Lib.hid fin
   clear ce1
   go_wp2_with (at_builtin; refine wpList_append_go rfl (.tmp 13) (.tmp 23) 46 46 rfl _ _ rfl rfl hrun ?_)
   refine wp_goto ?_
   exact ⟨rfl, fin.out _ ⟨rfl, rfl, by simp⟩⟩
  ·have hin : i = 4 := by omega
   subst hin
   rw [upto_all hok.out] at hs ⊢
   have fin : Hid (AllR B w0 rk M F (.returned (.slice a M.length c)) wr) := Lib.hid ⟨a, c, S, rfl, hs, hok.out, .inr ⟨q, rbs, hR⟩⟩
   clear hR hs hi
   simp only [Int.cast_ofNat_Int]
   go_wp2_with fail
   simp only [Exit.jump]
   go_ret
   exact fin.out
 ·intro HJ
  go_wp2_with fail
  refine wp_label ?_
  go_step
  go_step
  exact HJ 4 _ _ ⟨0, none, 0, [], rfl, ⟨rfl, rfl, by simp [upto_zero]⟩, by rw [upto_zero]; exact EnsIs.nil, h.out⟩
theorem all_none (h : St B w0 w ((rk, rack0) :: F)) : Calls Tryz.prog 129 #[rptr rk] w (AllR B w0 rk [] F) := by
 have c0 : w.cell? ⟨rk, 0, none⟩ = some (.slice none 0 0) := h.cell (b := rk) List.mem_cons_self rfl
 have fin : Hid (AllR B w0 rk [] F (.returned (.slice none 0 0)) w) := Lib.hid ⟨none, 0, [], rfl, EnsIs.nil, RkOk.nil, .inl ⟨rfl, h⟩⟩
 clear h
 go_enter Tryz.func129, Tryz.ntmps129
 go_wp2_with fail
 refine wp_scope_ghost 0 (fun g a' w' => Fr 27 [(0, rptr rk), (3, .slice none 0 0), (4, .int .i64 0)] a' ∧ w' = w) rfl ?_ ?_
 ·rintro g a' wr ⟨hfr, rfl⟩
  obtain ⟨fr, rfl, hl'⟩ := hfr.lit
  clear hfr
  simp only [List.mem_cons, List.not_mem_nil, or_false, forall_eq_or_imp, forall_eq] at hl'
  obtain ⟨f0, f3, f4⟩ := hl'
  simp only [List.range, List.range.loop, List.map, f0, f3, f4]
  clear f0 f3 f4
  go_wp2_with fail
  simp only [Exit.jump]
  go_ret
  exact fin.out
 ·intro HJ
  go_wp2_with fail
  refine wp_label ?_
  go_step
  go_step
  exact HJ 0 _ _ ⟨⟨rfl, rfl, by simp⟩, rfl⟩
theorem rk_all (h : RackIs B w0 w rk M F) : Calls Tryz.prog 129 #[rptr rk] w (AllR B w0 rk M F) := by
 obtain ⟨h1, ⟨rfl, h3⟩ | ⟨q, rbs, h2⟩⟩ := h
 ·exact all_none h3
 ·exact all_some h1 h2
end
end Go.Proofs.YtknjamfjonapiaaGreatDoor
namespace Go.Proofs.YtknjamfjonapiaaGreatDoor
open Go.RowKit
open Go.ChangeMaps (setBlock)
set_option linter.unusedVariables false
set_option linter.unusedSectionVars false
set_option linter.unusedSimpArgs false
set_option maxRecDepth 100000
def cutIds (H : List Ent) (l : List Int) : List Ent := H.filter fun x => decide (x.id ∉ l)
theorem cutIds_nil (H : List Ent) : cutIds H [] = H := by
 unfold cutIds
 rw [List.filter_eq_self]
 simp
theorem cutIds_snoc (H : List Ent) (l : List Int) (k : Int) : delM (cutIds H l) k = cutIds H (l ++ [k]) := by
 unfold delM cutIds
 rw [List.filter_filter]
 apply List.filter_congr
 intro x _
 by_cases h1 : x.id ∈ l <;> by_cases h2 : x.id = k <;> simp [h1, h2]
def goneU (E : List Ent) (j : Nat) (now : Int) : List Ent := (E.take j).filter fun x => goneE x now
def leftU (E : List Ent) (j : Nat) (now : Int) : List Ent := (E.take j).filter fun x => !goneE x now
def rowAt (E : List Ent) (j : Nat) (now : Int) : List Int := (E.drop j).map (·.id) ++ (leftU E j now).map (·.id)
theorem rowAt_zero (E : List Ent) (now : Int) : rowAt E 0 now = E.map (·.id) := by simp [rowAt, leftU]
theorem rowAt_end (E : List Ent) (now : Int) : rowAt E E.length now = (E.filter fun x => !goneE x now).map (·.id) := by simp [rowAt, leftU]
theorem goneU_end (E : List Ent) (now : Int) : goneU E E.length now = E.filter fun x => goneE x now := by simp [goneU]
section
variable {E : List Ent} {j : Nat} {x : Ent} {now : Int}
theorem rowAt_head (h : E[j]? = some x) : rowAt E j now = x.id :: ((E.drop (j + 1)).map (·.id) ++ (leftU E j now).map (·.id)) := by
 obtain ⟨h1, h2⟩ := List.getElem?_eq_some_iff.1 h
 unfold rowAt
 rw [List.drop_eq_getElem_cons h1, h2]
 rfl
theorem step_gone (h : E[j]? = some x) (hg : goneE x now = true) : goneU E (j + 1) now = goneU E j now ++ [x] ∧ rowAt E (j + 1) now = (E.drop (j + 1)).map (·.id) ++ (leftU E j now).map (·.id) := by
 unfold rowAt goneU leftU
 rw [List.take_add_one, h, Option.toList_some, List.filter_append, List.filter_append]
 simp [hg]
theorem step_left (h : E[j]? = some x) (hg : goneE x now = false) : goneU E (j + 1) now = goneU E j now ∧ rowAt E (j + 1) now = ((E.drop (j + 1)).map (·.id) ++ (leftU E j now).map (·.id)) ++ [x.id] := by
 unfold rowAt goneU leftU
 rw [List.take_add_one, h, Option.toList_some, List.filter_append, List.filter_append]
 simp [hg]
theorem goneU_len : (goneU E j now).length ≤ E.length := by
 unfold goneU
 refine Nat.le_trans (List.length_filter_le _ _) ?_
 rw [List.length_take]
 omega
theorem not_gone (hn : (E.map (·.id)).Nodup) (h : E[j]? = some x) : x.id ∉ (goneU E j now).map (·.id) := by
 intro hm
 obtain ⟨y, hy, e⟩ := List.mem_map.1 hm
 have hy2 := (List.mem_filter.1 hy).1
 obtain ⟨p, hp⟩ := List.getElem?_of_mem hy2
 have hpl := (List.getElem?_eq_some_iff.1 hp).1
 rw [List.length_take] at hpl
 rw [List.getElem?_take, if_pos (by omega)] at hp
 have : p = j := (List.getElem?_inj (by rw [List.length_map]; exact (List.getElem?_eq_some_iff.1 hp).1) hn).1 (by simp [hp, h, e])
 omega
end
section
variable {B : Nat} {w0 w : World} {rk q rb i k : Nat} {rbs : List Nat} {R : List (List Int)} {H M L : List Ent} {F A S Y : List (Nat × Obj)} {e e0 : Ent} {E : List Ent} {l : List Int} {now : Int}
theorem RkAt.ring_shift {n : Int} (h : RkAt B w0 w rk q rbs R H F) (hb : rbs[i]? = some rb) (hl : R[i]? = some (n :: l)) : Calls Tryz.prog 253 #[rptr rb] w fun r w' => r = .returned (.tuple #[.int .i64 n, .bool true]) ∧ RkAt B w0 w' rk q rbs (R.set i l) H F := by
 obtain ⟨Z, hr, hback⟩ := h.ring hb hl
 refine (Go.Proofs.YtknjamfjonapiaaGreatDoor.ring_shift hr).mono ?_
 rintro r w' ⟨rfl, h'⟩
 exact ⟨rfl, hback _ _ _ h'⟩
theorem RkAt.ring_push (h : RkAt B w0 w rk q rbs R H F) (hb : rbs[i]? = some rb) (hl : R[i]? = some l) (hn : l.length ≤ 1000000) (n : Int) : Calls Tryz.prog 255 #[rptr rb, .int .i64 n] w fun r w' => r = .returned (.tuple #[]) ∧ RkAt B w0 w' rk q rbs (R.set i (l ++ [n])) H F := by
 obtain ⟨Z, hr, hback⟩ := h.ring hb hl
 refine (Go.Proofs.YtknjamfjonapiaaGreatDoor.ring_push hr (by omega) n).mono ?_
 rintro r w' ⟨rfl, h'⟩
 exact ⟨rfl, hback _ _ _ h'⟩
theorem RkAt.ring_len (h : RkAt B w0 w rk q rbs R H F) (hb : rbs[i]? = some rb) (hl : R[i]? = some l) : Calls Tryz.prog 252 #[rptr rb] w fun r w' => r = .returned (.int .i64 l.length) ∧ w = w' := by
 obtain ⟨Z, hr, -⟩ := h.ring hb hl
 exact Go.Proofs.YtknjamfjonapiaaGreatDoor.ring_len hr
theorem RkAt.ensPush {a : Option Addr} {c : Nat} (h : RkAt B w0 w rk q rbs R H (S ++ Y)) (hs : EnsIs (.slice a L.length c) L S) (e : Ent) (hl : L.length ≤ 100000) :
  ∃ a' c' W S', (Builtin.append_ #[46, 46] 0 #[.slice a L.length c, .slice (some ⟨w.heap.size, 0, none⟩) 1 1]).run Tryz.prog (w.alloc (enO e)) = .ok (.slice a' (L ++ [e]).length c') W ∧ EnsIs (.slice a' (L ++ [e]).length c') (L ++ [e]) S' ∧ RkAt B w0 W rk q rbs R H (S' ++ Y) := by
 obtain ⟨Z, z1, z2⟩ := h.beside
 have p1 : ∀ S : List (Nat × Obj), (Z ++ (S ++ Y)).Perm ((Z ++ Y) ++ S) := fun S => by
  classical
  exact List.perm_iff_count.2 fun a => by simp only [List.count_append]; omega
 obtain ⟨a', c', W, S', q1, q2, q3⟩ := ens_push hs (z1.perm (p1 _)) e hl
 exact ⟨a', c', W, S', q1, q2, z2 _ _ (q3.perm (p1 _).symm)⟩
theorem RkAt.del (h : RkAt B w0 w rk q rbs R H F) (n : Int) : ∃ (mb : Nat) (es : List (MapRow Int)) (clk : Nat), w.cell? ⟨rk, 1, none⟩ = some (.map (some mb)) ∧ w.heap[mb]? = some (.map (entsE encI es) clk) ∧ RkAt B w0 (setBlock w mb (.map (entsE encI (restE es n)) clk)) rk q rbs R (delM H n) F := by
 obtain ⟨mb, es, clk, c1, hg, ho, hback⟩ := h.map
 exact ⟨mb, es, clk, c1, hg, hback _ _ _ (ho.del n) (Nat.le_trans (List.length_filter_le _ _) h.few)⟩
def SiftJ (B : Nat) (w0 : World) (rk q i rb : Nat) (rbs : List Nat) (R : List (List Int)) (H : List Ent) (F : List (Nat × Obj)) (E : List Ent) (now : Int) (g : Nat) (a' : Act) (w' : World) : Prop :=
 ∃ (j : Nat) (a : Option Addr) (c : Nat) (S : List (Nat × Obj)), j + g = E.length ∧ Fr 45 [(0, rptr rk), (1, rptr rb), (2, .int .i64 now), (7, .slice a (goneU E j now).length c), (8, .int .i64 g)] a' ∧ EnsIs (.slice a (goneU E j now).length c) (goneU E j now) S ∧
  RkAt B w0 w' rk q rbs (R.set i (rowAt E j now)) (cutIds H ((goneU E j now).map (·.id))) (S ++ F)
def SiftR (B : Nat) (w0 : World) (rk q i : Nat) (rbs : List Nat) (R : List (List Int)) (H : List Ent) (F : List (Nat × Obj)) (E : List Ent) (now : Int) (r : Ending) (w' : World) : Prop :=
 ∃ a c S, r = .returned (.slice a (E.filter fun x => goneE x now).length c) ∧ EnsIs (.slice a (E.filter fun x => goneE x now).length c) (E.filter fun x => goneE x now) S ∧
  RkAt B w0 w' rk q rbs (R.set i ((E.filter fun x => !goneE x now).map (·.id))) (cutIds H ((E.filter fun x => goneE x now).map (·.id))) (S ++ F)
set_option maxHeartbeats 2000000 in
theorem sift_any (h : RkAt B w0 w rk q rbs R H F) (hb : rbs[i]? = some rb) (hl : R[i]? = some (E.map (·.id))) (hE : ∀ x ∈ E, x ∈ H) (hn : (E.map (·.id)).Nodup) (hlen : E.length ≤ 100000) (now : Int) :
  Calls Tryz.prog 211 #[rptr rk, rptr rb, .int .i64 now] w (SiftR B w0 rk q i rbs R H F E now) := by
 have hiR := (List.getElem?_eq_some_iff.1 hl).1
 have cl := h.ring_len hb hl
 rw [List.length_map] at cl
 replace cl := Lib.hid cl
 have h1 : RkAt B w0 w rk q rbs (R.set i (rowAt E 0 now)) (cutIds H []) F := by
  rw [cutIds_nil, rowAt_zero]
  have e1 : R.set i (E.map (·.id)) = R := by
   apply List.ext_getElem?
   intro j
   rw [List.getElem?_set]
   split
   ·rename_i hj
    subst hj
    exact hl.symm
   ·rfl
  rw [e1]
  exact h
 replace h1 := Lib.hid h1
 replace hE := Lib.hid hE
 replace hn := Lib.hid hn
 clear h hl
 go_enter Tryz.func211, Tryz.ntmps211
 go_wp2_with fail
 refine wp_scope_ghost 0 (SiftJ B w0 rk q i rb rbs R H F E now) rfl ?_ ?_
 ·clear h1 cl
  rintro g a' wr ⟨j, a, c, S, hj, hfr, hs, hR⟩
  obtain ⟨fr, rfl, hl'⟩ := hfr.lit
  clear hfr
  simp only [List.mem_cons, List.not_mem_nil, or_false, forall_eq_or_imp, forall_eq] at hl'
  obtain ⟨f0, f1, f2, f7, f8⟩ := hl'
  simp only [List.range, List.range.loop, List.map, f0, f1, f2, f7, f8]
  clear f0 f1 f2 f7 f8
  by_cases hz : g = 0
  ·subst hz
   have hjE : j = E.length := by omega
   subst hjE
   rw [rowAt_end, goneU_end] at hR
   rw [goneU_end] at hs
   have fin : Hid (SiftR B w0 rk q i rbs R H F E now (.returned (.slice a (E.filter fun x => goneE x now).length c)) wr) := Lib.hid ⟨a, c, S, rfl, hs, hR⟩
   rw [goneU_end]
   clear hR hs hj hE hn
   simp only [Int.cast_ofNat_Int]
   go_wp2_with fail
   simp only [Exit.jump]
   go_ret
   exact fin.out
  ·have hlt : j < E.length := by omega
   have hx : E[j]? = some E[j] := List.getElem?_eq_getElem hlt
   generalize E[j] = x at hx
   have hnx := not_gone (now := now) hn.out hx
   have hxH : x ∈ cutIds H ((goneU E j now).map (·.id)) := by
    unfold cutIds
    rw [List.mem_filter]
    exact ⟨hE.out x (List.mem_of_getElem? hx), by simpa using hnx⟩
   obtain ⟨tl, htl⟩ : ∃ tl, tl = (E.drop (j + 1)).map (·.id) ++ (leftU E j now).map (·.id) := ⟨_, rfl⟩
   have htlen : tl.length ≤ 100000 := by
    rw [htl, List.length_append, List.length_map, List.length_map, List.length_drop]
    have : (leftU E j now).length ≤ j := by
     unfold leftU
     refine Nat.le_trans (List.length_filter_le _ _) ?_
     rw [List.length_take]
     omega
    omega
   have hgl := goneU_len (E := E) (j := j) (now := now)
   have hget : ∀ l : List Int, (R.set i l)[i]? = some l := fun l => by rw [List.getElem?_set_self hiR]
   have cs := hR.ring_shift hb (n := x.id) (l := tl) (by rw [hget, rowAt_head hx, htl])
   rw [List.set_set] at cs
   replace cs := Lib.hid cs
   have e1 : (g : Int) - 1 = ((g - 1 : Nat) : Int) := by omega
   have hg0 : (0 : Int) ≤ g := by omega
   have hg1 : (g : Int) ≤ 100000 := by omega
   have hgB : ((g : Int) == 0) = false := by rw [beq_eq_false_iff_ne]; omega
   have look : Hid (∀ w', RkAt B w0 w' rk q rbs (R.set i tl) (cutIds H ((goneU E j now).map (·.id))) (S ++ F) → ∃ mb, w'.cell? ⟨rk, 1, none⟩ = some (.map (some mb)) ∧ (Instr.lookup 255 (.map (some mb)) (.int .i64 x.id) false).run Tryz.prog w' = .ok (enV x) w' ∧
     RkAt B w0 (w'.alloc (enO x)) rk q rbs (R.set i tl) (cutIds H ((goneU E j now).map (·.id))) (S ++ ((w'.heap.size, enO x) :: F))) := Lib.hid fun w' h => by
    obtain ⟨mb, hlk, -⟩ := h.look
    exact ⟨mb, hlk.c1, hlk.hit x hxH false, (h.alloc (enO x)).permF List.perm_middle.symm⟩
   have cg := Lib.hid (fun w' => gone_any x now w')
   have eAt : Hid (∀ w' R H nb, RkAt B w0 w' rk q rbs R H (S ++ ((nb, enO x) :: F)) → EnAt w' nb x) := Lib.hid fun w' R H nb h => (h.at_block (k := nb) (e := x) (by simp)).1
   clear hR hxH hnx
   cases hgx : goneE x now with
   | true =>
    obtain ⟨s1, s2⟩ := step_gone hx hgx
    rw [← htl] at s2
    have push : Hid (∀ w' nb, RkAt B w0 w' rk q rbs (R.set i tl) (cutIds H ((goneU E j now).map (·.id))) (S ++ ((nb, enO x) :: F)) → ∃ a' c' W, (Builtin.append_ #[46, 46] 0 #[.slice a (goneU E j now).length c, .slice (some ⟨w'.heap.size, 0, none⟩) 1 1]).run Tryz.prog (w'.alloc (enO x)) = .ok (.slice a' (goneU E (j + 1) now).length c') W ∧
      ∃ (mb : Nat) (es : List (MapRow Int)) (clk : Nat), W.cell? ⟨rk, 1, none⟩ = some (.map (some mb)) ∧ W.heap[mb]? = some (.map (entsE encI es) clk) ∧
      ∀ a9, Fr 45 [(0, rptr rk), (1, rptr rb), (2, .int .i64 now), (7, .slice a' (goneU E (j + 1) now).length c'), (8, .int .i64 ((g : Int) - 1))] a9 → ∃ m, m < g ∧ SiftJ B w0 rk q i rb rbs R H F E now m a9 (setBlock W mb (.map (entsE encI (restE es x.id)) clk))) := Lib.hid fun w' nb h => by
     obtain ⟨a', c', W, S', q1, q2, q3⟩ := RkAt.ensPush h hs x (by omega)
     rw [← s1] at q1 q2
     obtain ⟨mb, es, clk, d1, d2, d3⟩ := q3.del x.id
     refine ⟨a', c', W, q1, mb, es, clk, d1, d2, fun a9 hf => ⟨g - 1, by omega, j + 1, a', c', S', by omega, by rw [← e1]; exact hf, q2, ?_⟩⟩
     rw [s2, s1, List.map_append, List.map_singleton, ← cutIds_snoc]
     exact d3.sub ((List.Sublist.refl _).append (List.sublist_cons_self _ _))
    rw [hgx] at cg
    clear hs s1 s2 hx hget hgl htlen htl hE hn
    generalize (goneU E (j + 1) now).length = n1 at *
    generalize (goneU E j now).length = n0 at *
    replace e1 := Lib.hid e1
    go_wp2_with fail
    refine cs.out.mono ?_
    rintro r w1 ⟨rfl, h2⟩
    obtain ⟨mb, c1, hlk, h3⟩ := look.out _ h2
    obtain ⟨k0, k1, k2, k3, k4, k5, k6, k7, k8, k9⟩ := eAt.out _ _ _ _ h3
    replace h3 := Lib.hid h3
    clear cs look h2
    go_wp2_with fail
    refine (cg.out _).mono ?_
    rintro r w2 ⟨rfl, hb2⟩
    have h4 := h3.out.grow hb2
    obtain ⟨k0, k1, k2, k3, k4, k5, k6, k7, k8, k9⟩ := eAt.out _ _ _ _ h4
    obtain ⟨a', c', W, hrun, mb2, es, clk, d1, hg, fin⟩ := push.out _ _ h4
    replace fin := Lib.hid fin
    generalize hW : setBlock W mb2 (.map (entsE encI (restE es x.id)) clk) = W2 at *
    replace hW := Lib.hid hW
    clear cg h3 hb2 h4 push eAt c1 hlk
    go_wp2_with (first | (at_builtin; refine wpList_append_go rfl (.tmp 31) (.tmp 33) 46 46 rfl _ _ rfl rfl hrun ?_) | (at_delete; refine wpList_delE rfl (.tmp 38) (.tmp 39) rfl keyI uMapE rfl hg (k := x.id) trivial (fun _ _ => trivial) rfl ?_; intro w9 hw9; replace hw9 := Lib.hid (hw9.out.trans hW.out); rw [hw9.out]))
    refine wp_goto ?_
    exact ⟨rfl, fin.out _ ⟨rfl, rfl, by simp⟩⟩
   | false =>
    obtain ⟨s1, s2⟩ := step_left hx hgx
    rw [← htl] at s2
    have push : Hid (∀ w' nb, RkAt B w0 w' rk q rbs (R.set i tl) (cutIds H ((goneU E j now).map (·.id))) (S ++ ((nb, enO x) :: F)) → Calls Tryz.prog 255 #[rptr rb, .int .i64 x.id] w' fun r w'' => r = .returned (.tuple #[]) ∧
      ∀ a9, Fr 45 [(0, rptr rk), (1, rptr rb), (2, .int .i64 now), (7, .slice a (goneU E j now).length c), (8, .int .i64 ((g : Int) - 1))] a9 → ∃ m, m < g ∧ SiftJ B w0 rk q i rb rbs R H F E now m a9 w'') := Lib.hid fun w' nb h => by
     refine (h.ring_push hb (l := tl) (hget _) (by omega) x.id).mono ?_
     rintro r w'' ⟨rfl, h'⟩
     rw [List.set_set] at h'
     refine ⟨rfl, fun a9 hf => ⟨g - 1, by omega, j + 1, a, c, S, by omega, by rw [← e1, s1]; exact hf, by rw [s1]; exact hs, ?_⟩⟩
     rw [s2, s1]
     exact h'.sub ((List.Sublist.refl _).append (List.sublist_cons_self _ _))
    rw [hgx] at cg
    clear hs s1 s2 hx hget hgl htlen htl hE hn
    generalize (goneU E j now).length = n0 at *
    replace e1 := Lib.hid e1
    go_wp2_with fail
    refine cs.out.mono ?_
    rintro r w1 ⟨rfl, h2⟩
    obtain ⟨mb, c1, hlk, h3⟩ := look.out _ h2
    obtain ⟨k0, k1, k2, k3, k4, k5, k6, k7, k8, k9⟩ := eAt.out _ _ _ _ h3
    replace h3 := Lib.hid h3
    clear cs look h2
    go_wp2_with fail
    refine (cg.out _).mono ?_
    rintro r w2 ⟨rfl, hb2⟩
    have cp := Lib.hid (push.out _ _ (h3.out.grow hb2))
    clear cg h3 hb2 push eAt c1 hlk
    go_wp2_with fail
    refine cp.out.mono ?_
    rintro r w3 ⟨rfl, fin⟩
    replace fin := Lib.hid fin
    clear cp
    go_wp2_with fail
    refine wp_goto ?_
    exact ⟨rfl, fin.out _ ⟨rfl, rfl, by simp⟩⟩
 ·intro HJ
  go_wp2_with fail
  refine cl.out.mono ?_
  rintro r w1 ⟨rfl, rfl⟩
  go_wp2_with fail
  refine wp_label ?_
  go_step
  go_step
  exact HJ E.length _ _ ⟨0, none, 0, [], by omega, ⟨rfl, rfl, by simp [goneU]⟩, EnsIs.nil, h1.out⟩
end
end Go.Proofs.YtknjamfjonapiaaGreatDoor
namespace Go.Proofs.YtknjamfjonapiaaGreatDoor
open Go.RowKit
open Go.ChangeMaps (setBlock)
set_option linter.unusedVariables false
set_option linter.unusedSectionVars false
set_option linter.unusedSimpArgs false
set_option maxRecDepth 100000
def sifted (M : List Ent) (now : Int) (i : Nat) : List Ent := M.filter fun x => !(goneE x now && decide (3 - (i : Int) < x.prio))
section
variable {M : List Ent} {now : Int} {i : Nat}
theorem sifted_zero (h : RkOk M) : sifted M now 0 = M := by
 unfold sifted
 rw [List.filter_eq_self]
 intro x hx
 have := (h.prio x hx).2
 have h2 : ¬ (3 - ((0 : Nat) : Int) < x.prio) := by omega
 rw [decide_eq_false h2, Bool.and_false]
 rfl
theorem sifted_end (h : RkOk M) : sifted M now 4 = M.filter fun x => !goneE x now := by
 unfold sifted
 apply List.filter_congr
 intro x hx
 have := (h.prio x hx).1
 have h2 : (3 - ((4 : Nat) : Int) < x.prio) := by omega
 rw [decide_eq_true h2, Bool.and_true]
theorem sifted_ent (p : Int) : entP (sifted M now i) p = if 3 - (i : Int) < p then (entP M p).filter (fun x => !goneE x now) else entP M p := by
 unfold entP sifted
 rw [List.filter_filter]
 split
 ·rename_i hp
  rw [List.filter_filter]
  apply List.filter_congr
  intro x _
  by_cases h1 : x.prio = p
  ·have : 3 - (i : Int) < x.prio := by omega
   rw [decide_eq_true this, Bool.and_true, Bool.and_comm]
  ·simp [h1]
 ·rename_i hp
  apply List.filter_congr
  intro x _
  by_cases h1 : x.prio = p
  ·have : ¬ 3 - (i : Int) < x.prio := by omega
   rw [decide_eq_false this, Bool.and_false]
   simp
  ·simp [h1]
theorem sifted_rows (hi : i < 4) : (rowsM (sifted M now i)).set i (((entP M (3 - (i : Int))).filter fun x => !goneE x now).map (·.id)) = rowsM (sifted M now (i + 1)) := by
 unfold rowsM rowP
 simp only [sifted_ent]
 rcases (by omega : i = 0 ∨ i = 1 ∨ i = 2 ∨ i = 3) with rfl | rfl | rfl | rfl <;> simp
theorem sifted_cut (h : RkOk M) : cutIds (sifted M now i) (((entP M (3 - (i : Int))).filter fun x => goneE x now).map (·.id)) = sifted M now (i + 1) := by
 unfold cutIds sifted
 rw [List.filter_filter]
 apply List.filter_congr
 intro x hx
 have key : x.id ∈ ((entP M (3 - (i : Int))).filter fun x => goneE x now).map (·.id) ↔ x.prio = 3 - (i : Int) ∧ goneE x now = true := by
  constructor
  ·intro hm
   obtain ⟨y, hy, e⟩ := List.mem_map.1 hm
   rw [List.mem_filter, mem_entP] at hy
   rw [← h.inj hy.1.1 hx e]
   exact ⟨hy.1.2, hy.2⟩
  ·intro hm
   exact List.mem_map_of_mem (List.mem_filter.2 ⟨mem_entP.2 ⟨hx, hm.1⟩, hm.2⟩)
 cases hg : goneE x now with
 | false =>
  have : x.id ∉ ((entP M (3 - (i : Int))).filter fun x => goneE x now).map (·.id) := by
   rw [key, hg]
   simp
  simp [this]
 | true =>
  by_cases h1 : x.prio = 3 - (i : Int)
  ·have h2 : x.id ∈ ((entP M (3 - (i : Int))).filter fun x => goneE x now).map (·.id) := key.2 ⟨h1, hg⟩
   have h3 : 3 - ((i + 1 : Nat) : Int) < x.prio := by omega
   rw [decide_eq_false (fun hc => hc h2), decide_eq_true h3]
   rfl
  ·have h2 : x.id ∉ ((entP M (3 - (i : Int))).filter fun x => goneE x now).map (·.id) := fun hm => h1 (key.1 hm).1
   rw [decide_eq_true h2]
   by_cases h3 : 3 - (i : Int) < x.prio
   ·have h4 : 3 - ((i + 1 : Nat) : Int) < x.prio := by omega
    rw [decide_eq_true h3, decide_eq_true h4]
    rfl
   ·have h4 : ¬ 3 - ((i + 1 : Nat) : Int) < x.prio := by omega
    rw [decide_eq_false h3, decide_eq_false h4]
    rfl
end
section
variable {B : Nat} {w0 w : World} {rk q rb i k : Nat} {rbs : List Nat} {M : List Ent} {F : List (Nat × Obj)} {now : Int}
theorem giveRk_none (h : St B w0 w ((rk, rack0) :: F)) : Calls Tryz.prog 210 #[rptr rk] w fun e w' => e = .returned (.tuple #[]) ∧ St B w0 w' ((rk, rack0) :: F) := by
 have c2 : w.cell? ⟨rk, 2, none⟩ = some (.int .i64 0) := h.cell (b := rk) List.mem_cons_self rfl
 have c1 : w.cell? ⟨rk, 1, none⟩ = some (.map none) := h.cell (b := rk) List.mem_cons_self rfl
 have hdr := Lib.hid (fun n => h.drewN n)
 clear h
 go_enter Tryz.func210, Tryz.ntmps210
 go_wp2_with fail
 go_quiet (fail)
 go_wp2_with fail
 exact bodyPost_ret (results_none rfl _ _ _) rfl ⟨rfl, hdr.out _⟩
def GoneJ (B : Nat) (w0 : World) (rk q : Nat) (rbs : List Nat) (M : List Ent) (F : List (Nat × Obj)) (now : Int) (g : Nat) (a' : Act) (w' : World) : Prop :=
 ∃ (i : Nat) (a : Option Addr) (c : Nat) (S : List (Nat × Obj)), i + g = 4 ∧ Fr 31 [(0, rptr rk), (1, .int .i64 now), (5, .slice a ((uptoE M i).filter fun x => goneE x now).length c), (6, .int .i64 i)] a' ∧ EnsIs (.slice a ((uptoE M i).filter fun x => goneE x now).length c) ((uptoE M i).filter fun x => goneE x now) S ∧
  RkAt B w0 w' rk q rbs (rowsM (sifted M now i)) (sifted M now i) (S ++ F)
def GoneR (B : Nat) (w0 : World) (rk : Nat) (M : List Ent) (F : List (Nat × Obj)) (now : Int) (r : Ending) (w' : World) : Prop :=
 ∃ a c S, r = .returned (.slice a (M.filter fun x => goneE x now).length c) ∧ EnsIs (.slice a (M.filter fun x => goneE x now).length c) (M.filter fun x => goneE x now) S ∧ RackIs B w0 w' rk (M.filter fun x => !goneE x now) (S ++ F)
set_option maxHeartbeats 2000000 in
theorem gone_some (hok : RkOk M) (h : RkAt B w0 w rk q rbs (rowsM M) M F) (now : Int) : Calls Tryz.prog 149 #[rptr rk, .int .i64 now] w (GoneR B w0 rk M F now) := by
 have hfew := h.few
 have h1 : RkAt B w0 w rk q rbs (rowsM (sifted M now 0)) (sifted M now 0) F := by rw [sifted_zero hok]; exact h
 replace h1 := Lib.hid h1
 replace hok := Lib.hid hok
 clear h
 go_enter Tryz.func149, Tryz.ntmps149
 go_wp2_with fail
 refine wp_scope_ghost 0 (GoneJ B w0 rk q rbs M F now) rfl ?_ ?_
 ·clear h1
  rintro g a' wr ⟨i, a, c, S, hi, hfr, hs, hR⟩
  obtain ⟨fr, rfl, hl'⟩ := hfr.lit
  clear hfr
  simp only [List.mem_cons, List.not_mem_nil, or_false, forall_eq_or_imp, forall_eq] at hl'
  obtain ⟨f0, f1, f5, f6⟩ := hl'
  simp only [List.range, List.range.loop, List.map, f0, f1, f5, f6]
  clear f0 f1 f5 f6
  have c0 := hR.c0
  by_cases hlt : i < 4
  ·obtain ⟨rb, hb⟩ := hR.row_at hlt
   have c1 := hR.at_ hb
   have hgl : (rowsM (sifted M now i))[i]? = some ((entP M (3 - (i : Int))).map (·.id)) := by
    rw [rows_get hlt]
    unfold rowP
    rw [sifted_ent, if_neg (by omega)]
   have hsub : ∀ x ∈ entP M (3 - (i : Int)), x ∈ sifted M now i := fun x hx => by
    obtain ⟨h1, h2⟩ := mem_entP.1 hx
    unfold sifted
    rw [List.mem_filter]
    refine ⟨h1, ?_⟩
    have : ¬ 3 - (i : Int) < x.prio := by omega
    simp [this]
   have hnd : ((entP M (3 - (i : Int))).map (·.id)).Nodup := hok.out.ids.sublist (List.filter_sublist.map _)
   have hle := upto_len hok.out hlt
   have hle2 : ((uptoE M i).filter fun x => goneE x now).length + ((entP M (3 - (i : Int))).filter fun x => goneE x now).length ≤ 100000 := by
    have := List.length_filter_le (fun x => goneE x now) (uptoE M i)
    have := List.length_filter_le (fun x => goneE x now) (entP M (3 - (i : Int)))
    omega
   have cs : Hid (Calls Tryz.prog 211 #[rptr rk, rptr rb, .int .i64 now] wr fun r w'' => ∃ a2 n2 c2, r = .returned (.slice a2 n2 c2) ∧
     ∃ a' c' W, (Builtin.append_ #[46, 46] 0 #[.slice a ((uptoE M i).filter fun x => goneE x now).length c, .slice a2 n2 c2]).run Tryz.prog w'' = .ok (.slice a' ((uptoE M (i + 1)).filter fun x => goneE x now).length c') W ∧
      ∀ a9, Fr 31 [(0, rptr rk), (1, .int .i64 now), (5, .slice a' ((uptoE M (i + 1)).filter fun x => goneE x now).length c'), (6, .int .i64 ((i : Int) + 1))] a9 → ∃ m, m < g ∧ GoneJ B w0 rk q rbs M F now m a9 W) := Lib.hid (by
    refine (sift_any hR hb hgl hsub hnd (by omega) now).mono ?_
    rintro r w'' ⟨a2, c2, S2, rfl, h5, h6⟩
    rw [sifted_rows hlt, sifted_cut hok.out] at h6
    obtain ⟨a', c', W, S', q1, q2, q3⟩ := RkAt.app h6 hs h5 hle2
    rw [← List.filter_append, ← upto_succ] at q1 q2
    exact ⟨a2, _, c2, rfl, a', c', W, q1, fun a9 hf => ⟨g - 1, by omega, i + 1, a', c', S', by omega, hf, q2, q3⟩⟩)
   have i0 : (0 : Int) ≤ i := by omega
   have i1 : (i : Int) < 4 := by omega
   clear hR hs hb hgl hle hsub hnd hle2 hi
   generalize ((uptoE M (i + 1)).filter fun x => goneE x now).length = n1 at *
   generalize ((uptoE M i).filter fun x => goneE x now).length = n0 at *
   go_wp2_with fail
   refine cs.out.mono ?_
   rintro r w2 ⟨a2, n2, c2, rfl, a3, c3, W, hrun, fin⟩
   replace fin := Lib.hid fin
   clear cs
   go_wp2_with (at_builtin; refine wpList_append_go rfl (.tmp 17) (.tmp 27) 46 46 rfl _ _ rfl rfl hrun ?_)
   refine wp_goto ?_
   exact ⟨rfl, fin.out _ ⟨rfl, rfl, by simp⟩⟩
  ·have hin : i = 4 := by omega
   subst hin
   rw [upto_all hok.out] at hs ⊢
   have cg := Lib.hid (giveRk_any hR)
   have fin : Hid (∀ w', RkAt B w0 w' rk q rbs (rowsM (sifted M now 4)) (sifted M now 4) (S ++ F) → GoneR B w0 rk M F now (.returned (.slice a (M.filter fun x => goneE x now).length c)) w') := Lib.hid fun w' h => by
    rw [sifted_end hok.out] at h
    exact ⟨a, c, S, rfl, hs, hok.out.sub List.filter_sublist, .inr ⟨q, rbs, h⟩⟩
   clear hR hs hi
   simp only [Int.cast_ofNat_Int]
   go_wp2_with fail
   refine cg.out.mono ?_
   rintro r w2 ⟨rfl, h2⟩
   have fin2 := Lib.hid (fin.out _ h2)
   clear fin h2 cg
   go_wp2_with fail
   simp only [Exit.jump]
   go_ret
   exact fin2.out
 ·intro HJ
  go_wp2_with fail
  refine wp_label ?_
  go_step
  go_step
  exact HJ 4 _ _ ⟨0, none, 0, [], rfl, ⟨rfl, rfl, by simp [upto_zero]⟩, by rw [upto_zero]; exact EnsIs.nil, h1.out⟩
theorem gone_none (h : St B w0 w ((rk, rack0) :: F)) (now : Int) : Calls Tryz.prog 149 #[rptr rk, .int .i64 now] w (GoneR B w0 rk [] F now) := by
 have c0 : w.cell? ⟨rk, 0, none⟩ = some (.slice none 0 0) := h.cell (b := rk) List.mem_cons_self rfl
 have cg := Lib.hid (giveRk_none h)
 have fin : Hid (∀ w', St B w0 w' ((rk, rack0) :: F) → GoneR B w0 rk [] F now (.returned (.slice none 0 0)) w') := Lib.hid fun w' h => ⟨none, 0, [], rfl, EnsIs.nil, RkOk.nil, .inl ⟨rfl, h⟩⟩
 clear h
 go_enter Tryz.func149, Tryz.ntmps149
 go_wp2_with fail
 refine wp_scope_ghost 0 (fun g a' w' => Fr 31 [(0, rptr rk), (5, .slice none 0 0), (6, .int .i64 0)] a' ∧ w' = w) rfl ?_ ?_
 ·rintro g a' wr ⟨hfr, rfl⟩
  obtain ⟨fr, rfl, hl'⟩ := hfr.lit
  clear hfr
  simp only [List.mem_cons, List.not_mem_nil, or_false, forall_eq_or_imp, forall_eq] at hl'
  obtain ⟨f0, f3, f4⟩ := hl'
  simp only [List.range, List.range.loop, List.map, f0, f3, f4]
  clear f0 f3 f4
  go_wp2_with fail
  refine cg.out.mono ?_
  rintro r w2 ⟨rfl, h2⟩
  have fin2 := Lib.hid (fin.out _ h2)
  clear fin h2 cg
  go_wp2_with fail
  simp only [Exit.jump]
  go_ret
  exact fin2.out
 ·intro HJ
  go_wp2_with fail
  refine wp_label ?_
  go_step
  go_step
  exact HJ 0 _ _ ⟨⟨rfl, rfl, by simp⟩, rfl⟩
theorem rk_gone (h : RackIs B w0 w rk M F) (now : Int) : Calls Tryz.prog 149 #[rptr rk, .int .i64 now] w (GoneR B w0 rk M F now) := by
 obtain ⟨h1, ⟨rfl, h3⟩ | ⟨q, rbs, h2⟩⟩ := h
 ·exact gone_none h3 now
 ·exact gone_some h1 h2 now
end
end Go.Proofs.YtknjamfjonapiaaGreatDoor
namespace Go.Proofs.YtknjamfjonapiaaGreatDoor
open Go.RowKit
set_option linter.unusedVariables false
structure Opt where
 dead : List UInt8
 deadKey : List UInt8
 maxLen : Int
 ttl : Int
 prio : Int
 bits : Int
abbrev opV (o : Opt) : Value := .agg #[tx o.dead, tx o.deadKey, .int .i64 o.maxLen, .int .i64 o.ttl, .int .i64 o.prio, .int .i64 o.bits]
abbrev opO (o : Opt) : Obj := .cells #[tx o.dead, tx o.deadKey, .int .i64 o.maxLen, .int .i64 o.ttl, .int .i64 o.prio, .int .i64 o.bits] 34
def limitO (o : Opt) : Int := if 1 ≤ o.maxLen ∧ o.maxLen ≤ 60 then o.maxLen else 60
def shorter (t u : Int) : Int := if 0 < t then (if 0 < u ∧ u < t then u else t) else if 0 < u then u else 0
def forE (e : Ent) (o : Opt) (now : Int) : Ent :=
 { e with prio := max (min e.prio o.prio) 0, til := if 0 < shorter e.ttl o.ttl then IntKind.i64.wrap (now + shorter e.ttl o.ttl) else 0 }
def isO (o : Opt) : Bool := decide ((0 ≤ o.maxLen ∧ o.maxLen ≤ 60) ∧ (0 ≤ o.ttl ∧ o.ttl ≤ 10000) ∧ (0 ≤ o.prio ∧ o.prio ≤ 3) ∧ (0 ≤ o.bits ∧ o.bits ≤ 15) ∧ o.dead.length ≤ 12 ∧ o.deadKey.length ≤ 40)
def lastB (n : Int) : Int := bits .andNot .i64 n 8
def lastO (o : Opt) : Opt := { o with bits := lastB o.bits }
def sameO (a b : Opt) : Bool := decide (a.dead = b.dead ∧ a.deadKey = b.deadKey ∧ a.maxLen = b.maxLen ∧ a.ttl = b.ttl ∧ a.prio = b.prio ∧ lastB a.bits = lastB b.bits)
end Go.Proofs.YtknjamfjonapiaaGreatDoor
namespace Go.Proofs.YtknjamfjonapiaaGreatDoor
open Go.RowKit
set_option linter.unusedVariables false
set_option maxRecDepth 100000
theorem limit_any (o : Opt) (w : World) : Calls Tryz.prog 361 #[opV o] w fun r w' => r = .returned (.int .i64 (limitO o)) ∧ Below w.heap.size w w' := by
 have hb := Lib.hid (new_below w (opO o))
 by_cases h1 : o.maxLen < 1
 ·have f : limitO o = 60 := by unfold limitO; rw [if_neg (by omega)]
  rw [f]
  clear f
  go_enter Tryz.func361, Tryz.ntmps361
  go_wp2_with fail
  go_ret
  exact ⟨rfl, hb.out⟩
 by_cases h2 : o.maxLen > 60
 ·have f : limitO o = 60 := by unfold limitO; rw [if_neg (by omega)]
  rw [f]
  clear f
  go_enter Tryz.func361, Tryz.ntmps361
  go_wp2_with fail
  go_ret
  exact ⟨rfl, hb.out⟩
 have f : limitO o = o.maxLen := by unfold limitO; rw [if_pos (by omega)]
 rw [f]
 clear f
 go_enter Tryz.func361, Tryz.ntmps361
 go_wp2_with fail
 go_ret
 exact ⟨rfl, hb.out⟩
end Go.Proofs.YtknjamfjonapiaaGreatDoor
namespace Go.Proofs.YtknjamfjonapiaaGreatDoor
open Go.RowKit
open Go.ChangeMaps (setBlock)
set_option linter.unusedVariables false
set_option linter.unusedSectionVars false
set_option linter.unusedSimpArgs false
set_option maxRecDepth 100000
inductive Sheds (M : List Ent) : List Ent → List Ent → Prop
 | nil : Sheds M [] M
 | snoc {W N : List Ent} {x : Ent} : Sheds M W N → IsWorst N x → Sheds M (W ++ [x]) (delM N x.id)
theorem Sheds.sub {M W N : List Ent} (h : Sheds M W N) : N.Sublist M := by
 induction h with
 | nil => exact List.Sublist.refl _
 | snoc _ _ ih => exact List.filter_sublist.trans ih
theorem Sheds.len {M W N : List Ent} (hM : RkOk M) (h : Sheds M W N) : W.length + N.length = M.length := by
 induction h with
 | nil => simp
 | snoc h1 hx ih =>
  have := del_len (hM.sub h1.sub) hx.mem
  rw [List.length_append, List.length_singleton]
  omega
theorem Sheds.one {M W N : List Ent} (h : Sheds M W N) (h1 : W.length = 1) : ∃ x, W = [x] ∧ IsWorst M x ∧ N = delM M x.id := by
 cases h with
 | nil => simp at h1
 | snoc h2 hx =>
  rw [List.length_append, List.length_singleton] at h1
  cases h2 with
  | nil => exact ⟨_, rfl, hx, rfl⟩
  | snoc _ _ => rw [List.length_append, List.length_singleton] at h1; omega
theorem del_ins {M : List Ent} {e : Ent} (hn : ∀ x ∈ M, x.id ≠ e.id) : delM (insM e M) e.id = M := by
 have h0 : delM M e.id = M := by
  unfold delM
  rw [List.filter_eq_self]
  intro x hx
  simpa using hn x hx
 have h1 : ∀ (L : List Ent), delM (insM e L) e.id = delM L e.id := fun L => by
  induction L with
  | nil => simp [insM, delM]
  | cons y L ih =>
   unfold insM
   split
   ·simp [delM]
   ·unfold delM at *
    rw [List.filter_cons, List.filter_cons, ih]
 rw [h1, h0]
abbrev quO (o : Opt) (p : Option Addr) : Obj := .cells #[tx o.dead, tx o.deadKey, .int .i64 o.maxLen, .int .i64 o.ttl, .int .i64 o.prio, .int .i64 o.bits, .pointer p] 253
abbrev OpC (w : World) (b : Nat) (o : Opt) : Prop := w.cell? ⟨b, 0, none⟩ = some (tx o.dead) ∧ w.cell? ⟨b, 1, none⟩ = some (tx o.deadKey) ∧ w.cell? ⟨b, 2, none⟩ = some (.int .i64 o.maxLen) ∧ w.cell? ⟨b, 3, none⟩ = some (.int .i64 o.ttl) ∧ w.cell? ⟨b, 4, none⟩ = some (.int .i64 o.prio) ∧ w.cell? ⟨b, 5, none⟩ = some (.int .i64 o.bits)
def QuAt (B : Nat) (w0 w : World) (qb rk : Nat) (o : Opt) (M : List Ent) (F : List (Nat × Obj)) : Prop := RackIs B w0 w rk M ((qb, quO o (some ⟨rk, 0, none⟩)) :: F)
def QuIs (B : Nat) (w0 w : World) (qb : Nat) (o : Opt) (M : List Ent) (F : List (Nat × Obj)) : Prop := (M = [] ∧ St B w0 w ((qb, quO o none) :: F)) ∨ ∃ rk, QuAt B w0 w qb rk o M F
section
variable {B : Nat} {w0 w w' : World} {qb rk b k : Nat} {o : Opt} {M L : List Ent} {F F' S Y : List (Nat × Obj)} {e e0 : Ent}
theorem RackIs.setF {c : Array Value} {T : TypeId} {fr : Nat × Nat} (h : RackIs B w0 w rk M ((b, .cells c T fr) :: F)) (i : Nat) (v : Value) : RackIs B w0 (w.setCell ⟨b, i, none⟩ v) rk M ((b, .cells (c.setIfInBounds i v) T fr) :: F) := by
 obtain ⟨S, h1, h2⟩ := h.beside
 exact h2 _ _ (h1.set i v)
theorem QuAt.is (h : QuAt B w0 w qb rk o M F) : QuIs B w0 w qb o M F := .inr ⟨rk, h⟩
theorem QuIs.ok (h : QuIs B w0 w qb o M F) : RkOk M := by
 obtain ⟨rfl, -⟩ | ⟨rk, h⟩ := h
 ·exact RkOk.nil
 ·exact RackIs.ok h
theorem QuIs.beside (h : QuIs B w0 w qb o M F) : ∃ S, St B w0 w (S ++ F) ∧ (∃ p, (qb, quO o p) ∈ S) ∧ ∀ w' F', St B w0 w' (S ++ F') → QuIs B w0 w' qb o M F' := by
 obtain ⟨rfl, h⟩ | ⟨rk, h⟩ := h
 ·exact ⟨[(qb, quO o none)], h, ⟨_, List.mem_cons_self⟩, fun w' F' h' => .inl ⟨rfl, h'⟩⟩
 ·obtain ⟨S, h1, h2⟩ := RackIs.beside h
  exact ⟨S ++ [(qb, quO o (some ⟨rk, 0, none⟩))], by rw [List.append_assoc]; exact h1, ⟨_, List.mem_append_right _ List.mem_cons_self⟩, fun w' F' h' => .inr ⟨rk, h2 _ _ (by rw [List.append_assoc] at h'; exact h')⟩⟩
theorem QuIs.ops (h : QuIs B w0 w qb o M F) : OpC w qb o ∧ ∀ i, w.frozen? ⟨qb, i, none⟩ = false := by
 obtain ⟨S, h1, ⟨p, hm⟩, -⟩ := h.beside
 have m := List.mem_append_left F hm
 exact ⟨⟨h1.cell m rfl, h1.cell m rfl, h1.cell m rfl, h1.cell m rfl, h1.cell m rfl, h1.cell m rfl⟩, fun i => h1.soft m i⟩
theorem QuIs.grow (h : QuIs B w0 w qb o M F) (hb : Below w.heap.size w w') : QuIs B w0 w' qb o M F := by
 obtain ⟨S, h1, -, h2⟩ := h.beside
 exact h2 _ _ (h1.grow hb)
theorem QuIs.sub (h : QuIs B w0 w qb o M F) (hs : F'.Sublist F) : QuIs B w0 w qb o M F' := by
 obtain ⟨S, h1, -, h2⟩ := h.beside
 exact h2 _ _ (h1.sub ((List.Sublist.refl S).append hs))
theorem QuIs.permF (h : QuIs B w0 w qb o M F) (hp : F.Perm F') : QuIs B w0 w qb o M F' := by
 obtain ⟨S, h1, -, h2⟩ := h.beside
 exact h2 _ _ (h1.perm (hp.append_left S))
theorem QuIs.alloc (h : QuIs B w0 w qb o M F) (x : Obj) : QuIs B w0 (w.alloc x) qb o M ((w.heap.size, x) :: F) := by
 obtain ⟨S, h1, -, h2⟩ := h.beside
 exact h2 _ _ ((h1.alloc x).perm List.perm_middle.symm)
theorem QuIs.below (h : QuIs B w0 w qb o M F) : Below B w0 w := by
 obtain ⟨S, h1, -⟩ := h.beside
 exact h1.below
theorem QuIs.setF {c : Array Value} {T : TypeId} {fr : Nat × Nat} (h : QuIs B w0 w qb o M ((b, .cells c T fr) :: F)) (i : Nat) (v : Value) : QuIs B w0 (w.setCell ⟨b, i, none⟩ v) qb o M ((b, .cells (c.setIfInBounds i v) T fr) :: F) := by
 obtain ⟨S, h1, -, h2⟩ := h.beside
 exact h2 _ _ (h1.set i v)
theorem QuIs.at_block (h : QuIs B w0 w qb o M F) (hm : (k, enO e) ∈ F) : EnAt w k e ∧ ∀ i, w.frozen? ⟨k, i, none⟩ = false := by
 obtain ⟨S, hs, -⟩ := h.beside
 exact ⟨hs.enAt (List.mem_append_right _ hm), fun i => hs.soft (List.mem_append_right _ hm) i⟩
theorem QuIs.enPut (h : QuIs B w0 w qb o M ((k, enO e0) :: F)) : QuIs B w0 (enPut w k e) qb o M ((k, enO e) :: F) := by
 obtain ⟨S, h1, -, h2⟩ := h.beside
 exact h2 _ _ (((h1.perm List.perm_middle).enPut (e := e)).perm List.perm_middle.symm)
theorem QuIs.ensPush {a : Option Addr} {c : Nat} (h : QuIs B w0 w qb o M (S ++ Y)) (hs : EnsIs (.slice a L.length c) L S) (e : Ent) (hl : L.length ≤ 100000) :
  ∃ a' c' W S', (Builtin.append_ #[46, 46] 0 #[.slice a L.length c, .slice (some ⟨w.heap.size, 0, none⟩) 1 1]).run Tryz.prog (w.alloc (enO e)) = .ok (.slice a' (L ++ [e]).length c') W ∧ EnsIs (.slice a' (L ++ [e]).length c') (L ++ [e]) S' ∧ QuIs B w0 W qb o M (S' ++ Y) := by
 obtain ⟨Z, z1, -, z2⟩ := h.beside
 have p1 : ∀ S : List (Nat × Obj), (Z ++ (S ++ Y)).Perm ((Z ++ Y) ++ S) := fun S => by
  classical
  exact List.perm_iff_count.2 fun a => by simp only [List.count_append]; omega
 obtain ⟨a', c', W, S', q1, q2, q3⟩ := ens_push hs (z1.perm (p1 _)) e hl
 exact ⟨a', c', W, S', q1, q2, z2 _ _ (q3.perm (p1 _).symm)⟩
theorem QuIs.reads {a : Option Addr} {c : Nat} {X : List (Nat × Obj)} (h : QuIs B w0 w qb o M F) (hs : EnsIs (.slice a L.length c) L S) (hp : F.Perm (X ++ S)) : ReadEs w a L := by
 obtain ⟨Z, z1, -⟩ := h.beside
 refine hs.read (X := Z ++ X) (z1.perm ?_)
 rw [List.append_assoc]
 exact hp.append_left Z
set_option maxHeartbeats 400000 in
theorem ready_any (h : QuIs B w0 w qb o M F) : Calls Tryz.prog 128 #[rptr qb] w fun r w' => ∃ rk, r = .returned (rptr rk) ∧ QuAt B w0 w' qb rk o M F := by
 obtain ⟨rfl, h⟩ | ⟨rk, h⟩ := h
 ·have c6 : w.cell? ⟨qb, 6, none⟩ = some (.pointer none) := h.cell (b := qb) List.mem_cons_self rfl
  have cn := Lib.hid (rk_new h)
  have hf : Hid (∀ w' rk, RackIs B w0 w' rk [] ((qb, quO o none) :: F) → w'.frozen? ⟨qb, 6, none⟩ = false ∧ w'.cell? ⟨qb, 6, none⟩ = some (.pointer none) ∧ (w'.setCell ⟨qb, 6, none⟩ (rptr rk)).cell? ⟨qb, 6, none⟩ = some (rptr rk) ∧ QuAt B w0 (w'.setCell ⟨qb, 6, none⟩ (rptr rk)) qb rk o [] F) := Lib.hid fun w' rk h1 => by
   obtain ⟨S, hs⟩ := h1.st
   have h2 := h1.setF 6 (rptr rk)
   obtain ⟨S2, hs2⟩ := h2.st
   exact ⟨hs.soft (List.mem_append_right _ List.mem_cons_self) 6, hs.cell (b := qb) (List.mem_append_right _ List.mem_cons_self) rfl, hs2.cell (b := qb) (List.mem_append_right _ List.mem_cons_self) rfl, h2⟩
  clear h
  go_enter Tryz.func128, Tryz.ntmps128
  go_wp2_with fail
  refine cn.out.mono ?_
  rintro r w1 ⟨rfl, h1⟩
  obtain ⟨f6, c6', d6, fin⟩ := hf.out _ _ h1
  replace fin := Lib.hid fin
  clear cn hf h1
  generalize w.heap.size = rk at *
  go_wp2_with fail
  go_ret
  exact ⟨_, rfl, fin.out⟩
 ·obtain ⟨S, hs⟩ := RackIs.st h
  have c6 : w.cell? ⟨qb, 6, none⟩ = some (rptr rk) := hs.cell (b := qb) (List.mem_append_right _ List.mem_cons_self) rfl
  replace h := Lib.hid h
  clear hs
  go_enter Tryz.func128, Tryz.ntmps128
  go_wp2_with fail
  go_ret
  exact ⟨_, rfl, h.out⟩
end
end Go.Proofs.YtknjamfjonapiaaGreatDoor
namespace Go.Proofs.YtknjamfjonapiaaGreatDoor
open Go.RowKit
open Go.ChangeMaps (setBlock)
set_option linter.unusedVariables false
set_option linter.unusedSectionVars false
set_option linter.unusedSimpArgs false
set_option maxRecDepth 100000
def rejO (o : Opt) : Bool := !(bits .and .i64 o.bits 4 == 0)
section
variable {B : Nat} {w0 w w' : World} {qb rk b k : Nat} {o : Opt} {M L : List Ent} {F F' S Y : List (Nat × Obj)} {e e0 : Ent}
theorem qu_len (h : QuIs B w0 w qb o M F) : Calls Tryz.prog 73 #[rptr qb] w fun r w' => r = .returned (.int .i64 M.length) ∧ QuIs B w0 w' qb o M F := by
 have cr := Lib.hid (ready_any h)
 clear h
 go_enter Tryz.func73, Tryz.ntmps73
 go_wp2_with fail
 refine cr.out.mono ?_
 rintro r w1 ⟨rk, rfl, h1⟩
 have cl := Lib.hid (rk_len h1)
 replace h1 := Lib.hid h1
 clear cr
 go_wp2_with fail
 refine cl.out.mono ?_
 rintro r w2 ⟨rfl, rfl⟩
 clear cl
 go_wp2_with fail
 go_ret
 exact ⟨rfl, h1.out.is⟩
def QAllR (B : Nat) (w0 : World) (qb : Nat) (o : Opt) (M : List Ent) (F : List (Nat × Obj)) (L N : List Ent) (r : Ending) (w' : World) : Prop :=
 ∃ a c S, r = .returned (.slice a L.length c) ∧ EnsIs (.slice a L.length c) L S ∧ QuIs B w0 w' qb o N (S ++ F)
theorem qu_all (h : QuIs B w0 w qb o M F) : Calls Tryz.prog 69 #[rptr qb] w (QAllR B w0 qb o M F M M) := by
 have cr := Lib.hid (ready_any h)
 clear h
 go_enter Tryz.func69, Tryz.ntmps69
 go_wp2_with fail
 refine cr.out.mono ?_
 rintro r w1 ⟨rk, rfl, h1⟩
 have cl := Lib.hid (rk_all h1)
 clear cr h1
 go_wp2_with fail
 refine cl.out.mono ?_
 rintro r w2 ⟨a, c, S, rfl, hs, h2⟩
 have fin : Hid (QAllR B w0 qb o M F M M (.returned (.slice a M.length c)) w2) := Lib.hid ⟨a, c, S, rfl, hs, .inr ⟨rk, h2.permF List.perm_middle⟩⟩
 clear cl hs h2
 go_wp2_with fail
 go_ret
 exact fin.out
theorem qu_gone (h : QuIs B w0 w qb o M F) (now : Int) : Calls Tryz.prog 82 #[rptr qb, .int .i64 now] w (QAllR B w0 qb o M F (M.filter fun x => goneE x now) (M.filter fun x => !goneE x now)) := by
 have cr := Lib.hid (ready_any h)
 clear h
 go_enter Tryz.func82, Tryz.ntmps82
 go_wp2_with fail
 refine cr.out.mono ?_
 rintro r w1 ⟨rk, rfl, h1⟩
 have cl := Lib.hid (rk_gone h1 now)
 clear cr h1
 go_wp2_with fail
 refine cl.out.mono ?_
 rintro r w2 ⟨a, c, S, rfl, hs, h2⟩
 have fin : Hid (QAllR B w0 qb o M F (M.filter fun x => goneE x now) (M.filter fun x => !goneE x now) (.returned (.slice a (M.filter fun x => goneE x now).length c)) w2) := Lib.hid ⟨a, c, S, rfl, hs, .inr ⟨rk, h2.permF List.perm_middle⟩⟩
 clear cl hs h2
 generalize (M.filter fun x => goneE x now).length = n at *
 go_wp2_with fail
 go_ret
 exact fin.out
theorem qu_rejects (h : QuIs B w0 w qb o M F) : Calls Tryz.prog 362 #[rptr qb] w fun r w' => r = .returned (.bool (rejO o)) ∧ w' = w := by
 obtain ⟨-, -, -, -, -, c5⟩ := h.ops.1
 clear h
 go_enter Tryz.func362, Tryz.ntmps362
 go_wp2_with fail
 go_ret
 exact ⟨rfl, rfl⟩
end
abbrev z0O : Opt := ⟨[], [], 0, 0, 0, 0⟩
abbrev opPut (w : World) (b : Nat) (o : Opt) : World := (((((w.setCell ⟨b, 0, none⟩ (tx o.dead)).setCell ⟨b, 1, none⟩ (tx o.deadKey)).setCell ⟨b, 2, none⟩ (.int .i64 o.maxLen)).setCell ⟨b, 3, none⟩ (.int .i64 o.ttl)).setCell ⟨b, 4, none⟩ (.int .i64 o.prio)).setCell ⟨b, 5, none⟩ (.int .i64 o.bits)
theorem St.opPut {B : Nat} {w0 w : World} {b : Nat} {o o1 : Opt} {C : List (Nat × Obj)} (h : St B w0 w ((b, opO o1) :: C)) : St B w0 (opPut w b o) ((b, opO o) :: C) := by
 have h10 := (((((h.set0 0 (tx o.dead)).set0 1 (tx o.deadKey)).set0 2 (.int .i64 o.maxLen)).set0 3 (.int .i64 o.ttl)).set0 4 (.int .i64 o.prio)).set0 5 (.int .i64 o.bits)
 simp only [List.setIfInBounds_toArray, List.set_cons_zero, List.set_cons_succ] at h10
 exact h10
theorem St.opC {B : Nat} {w0 w : World} {b : Nat} {o : Opt} {H : List (Nat × Obj)} (h : St B w0 w H) (m : (b, opO o) ∈ H) : OpC w b o :=
 ⟨h.cell m rfl, h.cell m rfl, h.cell m rfl, h.cell m rfl, h.cell m rfl, h.cell m rfl⟩
theorem ret_opts {P : Program} {fn : Func} {d : Nat} {tmps : Array Value} {w : World} {o : Opt} (hr : fn.results = #[.cell 2 34]) (h2 : tmps[2]? = some (.pointer (some ⟨d, 0, none⟩))) (q : OpC w d o) (hP : P = Tryz.prog) :
  (results fn tmps).run P w = .ok (opV o) w := by
 subst hP
 obtain ⟨q0, q1, q2, q3, q4, q5⟩ := q
 simp [results, hr, go_sem, h2, q0, q1, q2, q3, q4, q5]
section
variable {B : Nat} {w0 w w' : World} {qb rk b k : Nat} {o : Opt} {M L : List Ent} {F F' S Y : List (Nat × Obj)} {e e0 : Ent}
set_option maxHeartbeats 400000 in
theorem qu_opts (h : QuIs B w0 w qb o M F) : Calls Tryz.prog 138 #[rptr qb] w fun r w' => r = .returned (opV o) ∧ QuIs B w0 w' qb o M F := by
 have h1 := h.alloc (opO z0O)
 obtain ⟨c0, c1, c2, c3, c4, c5⟩ := h1.ops.1
 obtain ⟨S, s1, -, s2⟩ := h1.beside
 obtain ⟨z0, z1, z2, z3, z4, z5⟩ := (s1.perm List.perm_middle).opC List.mem_cons_self
 have zs := fun i => (s1.perm List.perm_middle).soft (b := w.heap.size) List.mem_cons_self i
 have h2 := h.alloc (opO o)
 obtain ⟨S2, s3, -, -⟩ := h2.beside
 have finE := Lib.hid ((s3.perm List.perm_middle).opC List.mem_cons_self)
 have fin := Lib.hid (h2.sub (List.sublist_cons_self _ _))
 clear h h1 s1 s2 h2 s3
 go_enter Tryz.func138, Tryz.ntmps138
 go_wp2_with fail
 exact bodyPost_ret (ret_opts rfl rfl finE.out rfl) rfl ⟨rfl, fin.out⟩
end
end Go.Proofs.YtknjamfjonapiaaGreatDoor
namespace Go.Proofs.YtknjamfjonapiaaGreatDoor
open Go.RowKit
open Go.ChangeMaps (setBlock)
set_option linter.unusedVariables false
set_option linter.unusedSectionVars false
set_option linter.unusedSimpArgs false
set_option maxRecDepth 100000
section
variable {w w' : World} {o : Opt}
def OOwnS (w : World) (o : Opt) (w' : World) : Prop := St w.heap.size w w' [(w.heap.size, opO o), (w.heap.size + 1, opO z0O)]
theorem OOwnS.start (w : World) (o : Opt) : OOwnS w o ((w.alloc (opO o)).alloc (opO z0O)) := by
 have h := ((St.start w).alloc (opO o)).alloc (opO z0O)
 rw [World.size_alloc] at h
 exact h.perm (List.Perm.swap _ _ _)
theorem OOwnS.from (h : OOwnS w o w') : w'.cell? ⟨w.heap.size, 0, none⟩ = some (tx o.dead) ∧ w'.cell? ⟨w.heap.size, 1, none⟩ = some (tx o.deadKey) :=
 ⟨St.cell h List.mem_cons_self rfl, St.cell h List.mem_cons_self rfl⟩
theorem OOwnS.st0 (h : OOwnS w o w') : OOwnS w o (w'.setCell ⟨w.heap.size, 0, none⟩ (tx o.dead)) := St.set0 h 0 (tx o.dead)
theorem OOwnS.st1 (h : OOwnS w o w') : OOwnS w o (w'.setCell ⟨w.heap.size, 1, none⟩ (tx o.deadKey)) := St.set0 h 1 (tx o.deadKey)
theorem oclone_own (h : OOwnS w o w') {l : List UInt8} (hl : l.length ≤ 140737488351232) : Calls Tryz.prog 154 #[tx l] w' fun r w2 => r = .returned (tx l) ∧ OOwnS w o w2 ∧
  (w2.cell? ⟨w.heap.size, 0, none⟩ = some (tx o.dead) ∧ w2.cell? ⟨w.heap.size, 1, none⟩ = some (tx o.deadKey)) ∧
  (w2.frozen? ⟨w.heap.size, 0, none⟩ = false ∧ w2.frozen? ⟨w.heap.size, 1, none⟩ = false) := by
 refine (clone_any l w' hl).mono ?_
 rintro r w2 ⟨rfl, hb⟩
 have h2 : OOwnS w o w2 := St.grow h hb
 exact ⟨rfl, h2, h2.from, St.soft h2 List.mem_cons_self 0, St.soft h2 List.mem_cons_self 1⟩
structure OOwnC (w : World) (o : Opt) (w' : World) : Prop where
 src : OpC w' w.heap.size o
 dst : OpC w' (w.heap.size + 1) z0O
 soft : ∀ i, w'.frozen? ⟨w.heap.size + 1, i, none⟩ = false
theorem OOwnS.cells (h : OOwnS w o w') : OOwnC w o w' :=
 have m0 : (w.heap.size, opO o) ∈ [(w.heap.size, opO o), (w.heap.size + 1, opO z0O)] := List.mem_cons_self
 have m1 : (w.heap.size + 1, opO z0O) ∈ [(w.heap.size, opO o), (w.heap.size + 1, opO z0O)] := List.mem_cons_of_mem _ List.mem_cons_self
 ⟨St.opC h m0, St.opC h m1, fun i => St.soft h m1 i⟩
set_option maxHeartbeats 2000000 in
theorem oown_any (o : Opt) (h1 : o.dead.length ≤ 140737488351232) (h2 : o.deadKey.length ≤ 140737488351232) (w : World) : Calls Tryz.prog 240 #[opV o] w fun r w' => r = .returned (opV o) ∧ Below w.heap.size w w' := by
 have hs0 : OOwnS w o ((w.alloc (opO o)).alloc (opO z0O)).drew := St.drew (OOwnS.start w o)
 have hs1 := Lib.hid hs0.from
 have cc := Lib.hid (fun (w' : World) (h : OOwnS w o w') (l : List UInt8) (hl : l.length ≤ 140737488351232) => oclone_own h hl)
 go_enter Tryz.func240, Tryz.ntmps240
 go_wp2_with fail
 go_region_held3 (fun wr => wr.cell? ⟨w.heap.size, 0, none⟩ = some (tx o.dead) ∧ wr.cell? ⟨w.heap.size, 1, none⟩ = some (tx o.deadKey)) (first | exact hS | exact hs1.out | exact (OOwnS.st0 hO).from | exact (OOwnS.st1 (OOwnS.st0 hO)).from | go_keep) ((go_at_call 154; refine (cc.out _ (by assumption) _ (by assumption)).mono ?_; rintro r w'' ⟨rfl, hO, hS, f3, f4⟩))
 have hO2 := OOwnS.st1 (OOwnS.st0 hO)
 clear cc hs1 hs0 f3 f4 hS hO h1 h2
 obtain ⟨W, hW⟩ : ∃ W, W = (w''.setCell ⟨w.heap.size, 0, none⟩ (tx o.dead)).setCell ⟨w.heap.size, 1, none⟩ (tx o.deadKey) := ⟨_, rfl⟩
 rw [← hW] at hO2 ⊢
 clear hW
 obtain ⟨⟨k0, k1, k2, k3, k4, k5⟩, ⟨d0, d1, d2, d3, d4, d5⟩, sf⟩ := hO2.cells
 have hO3 : St w.heap.size w (opPut W (w.heap.size + 1) o) [(w.heap.size + 1, opO o), (w.heap.size, opO o)] := St.opPut (St.perm hO2 (List.Perm.swap _ _ _))
 have hE := Lib.hid (St.opC hO3 List.mem_cons_self)
 have hB := Lib.hid hO3.below
 clear hO2 hO3
 go_wp2_with fail
 exact bodyPost_ret (ret_opts rfl rfl hE.out rfl) rfl ⟨rfl, hB.out⟩
end
section
variable {B : Nat} {w0 w w' : World} {qb rk b k : Nat} {o : Opt} {M L : List Ent} {F F' S Y : List (Nat × Obj)} {e e0 : Ent}
theorem qu_new (h : St B w0 w F) (h1 : o.dead.length ≤ 140737488351232) (h2 : o.deadKey.length ≤ 140737488351232) : Calls Tryz.prog 199 #[opV o] w fun r w' => ∃ qb, r = .returned (rptr qb) ∧ QuIs B w0 w' qb o [] F := by
 have co := Lib.hid (oown_any o h1 h2 (w.alloc (opO o)))
 have hn : Hid (∀ w', Below (w.alloc (opO o)).heap.size (w.alloc (opO o)) w' → QuIs B w0 (w'.alloc (quO o none)) w'.heap.size o [] F) := Lib.hid fun w' hb =>
  .inl ⟨rfl, (((h.alloc (opO o)).grow hb).sub (List.sublist_cons_self _ _)).alloc _⟩
 clear h h1 h2
 go_enter Tryz.func199, Tryz.ntmps199
 go_wp2_with fail
 refine co.out.mono ?_
 rintro r w1 ⟨rfl, hb⟩
 have fin := Lib.hid (hn.out _ hb)
 clear co hn hb
 go_wp2_with fail
 go_ret
 exact ⟨_, rfl, fin.out⟩
end
end Go.Proofs.YtknjamfjonapiaaGreatDoor
