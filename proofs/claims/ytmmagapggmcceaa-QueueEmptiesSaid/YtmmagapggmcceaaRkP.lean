/- A row of a rack gone round: those whose time is over are taken out. -/
import Derived.Test.YtmmagapggmcceaaRkO
namespace Go.Proofs.Ytmmagapggmcceaa
open Go.RowKit
open Go.ChangeMaps (setBlock)
set_option linter.unusedVariables false
set_option linter.unusedSectionVars false
set_option linter.unusedSimpArgs false
set_option maxRecDepth 100000

def cutIds (H : List Ent) (l : List Int) : List Ent := H.filter fun x => decide (x.id ∉ l)
theorem cutIds_nil (H : List Ent) : cutIds H [] = H := by
  unfold cutIds
  rw [List.filter_eq_self]
  simp
theorem cutIds_snoc (H : List Ent) (l : List Int) (k : Int) : delM (cutIds H l) k = cutIds H (l ++ [k]) := by
  unfold delM cutIds
  rw [List.filter_filter]
  apply List.filter_congr
  intro x _
  by_cases h1 : x.id ∈ l <;> by_cases h2 : x.id = k <;> simp [h1, h2]
def goneU (E : List Ent) (j : Nat) (now : Int) : List Ent := (E.take j).filter fun x => goneE x now
def leftU (E : List Ent) (j : Nat) (now : Int) : List Ent := (E.take j).filter fun x => !goneE x now
def rowAt (E : List Ent) (j : Nat) (now : Int) : List Int := (E.drop j).map (·.id) ++ (leftU E j now).map (·.id)
theorem rowAt_zero (E : List Ent) (now : Int) : rowAt E 0 now = E.map (·.id) := by simp [rowAt, leftU]
theorem rowAt_end (E : List Ent) (now : Int) : rowAt E E.length now = (E.filter fun x => !goneE x now).map (·.id) := by simp [rowAt, leftU]
theorem goneU_end (E : List Ent) (now : Int) : goneU E E.length now = E.filter fun x => goneE x now := by simp [goneU]
section
variable {E : List Ent} {j : Nat} {x : Ent} {now : Int}
theorem rowAt_head (h : E[j]? = some x) : rowAt E j now = x.id :: ((E.drop (j + 1)).map (·.id) ++ (leftU E j now).map (·.id)) := by
  obtain ⟨h1, h2⟩ := List.getElem?_eq_some_iff.1 h
  unfold rowAt
  rw [List.drop_eq_getElem_cons h1, h2]
  rfl
theorem step_gone (h : E[j]? = some x) (hg : goneE x now = true) : goneU E (j + 1) now = goneU E j now ++ [x] ∧ rowAt E (j + 1) now = (E.drop (j + 1)).map (·.id) ++ (leftU E j now).map (·.id) := by
  unfold rowAt goneU leftU
  rw [List.take_add_one, h, Option.toList_some, List.filter_append, List.filter_append]
  simp [hg]
theorem step_left (h : E[j]? = some x) (hg : goneE x now = false) : goneU E (j + 1) now = goneU E j now ∧ rowAt E (j + 1) now = ((E.drop (j + 1)).map (·.id) ++ (leftU E j now).map (·.id)) ++ [x.id] := by
  unfold rowAt goneU leftU
  rw [List.take_add_one, h, Option.toList_some, List.filter_append, List.filter_append]
  simp [hg]
theorem goneU_len : (goneU E j now).length ≤ E.length := by
  unfold goneU
  refine Nat.le_trans (List.length_filter_le _ _) ?_
  rw [List.length_take]
  omega
theorem not_gone (hn : (E.map (·.id)).Nodup) (h : E[j]? = some x) : x.id ∉ (goneU E j now).map (·.id) := by
  intro hm
  obtain ⟨y, hy, e⟩ := List.mem_map.1 hm
  have hy2 := (List.mem_filter.1 hy).1
  obtain ⟨p, hp⟩ := List.getElem?_of_mem hy2
  have hpl := (List.getElem?_eq_some_iff.1 hp).1
  rw [List.length_take] at hpl
  rw [List.getElem?_take, if_pos (by omega)] at hp
  have : p = j := (List.getElem?_inj (by rw [List.length_map]; exact (List.getElem?_eq_some_iff.1 hp).1) hn).1 (by simp [hp, h, e])
  omega
end

section
variable {B : Nat} {w0 w : World} {rk q rb i k : Nat} {rbs : List Nat} {R : List (List Int)} {H M L : List Ent} {F A S Y : List (Nat × Obj)} {e e0 : Ent} {E : List Ent} {l : List Int} {now : Int}
theorem RkAt.ring_shift {n : Int} (h : RkAt B w0 w rk q rbs R H F) (hb : rbs[i]? = some rb) (hl : R[i]? = some (n :: l)) : Calls Try.prog 56 #[rptr rb] w fun r w' => r = .returned (.tuple #[.int .i64 n, .bool true]) ∧ RkAt B w0 w' rk q rbs (R.set i l) H F := by
  obtain ⟨Z, hr, hback⟩ := h.ring hb hl
  refine (Go.Proofs.Ytmmagapggmcceaa.ring_shift hr).mono ?_
  rintro r w' ⟨rfl, h'⟩
  exact ⟨rfl, hback _ _ _ h'⟩
theorem RkAt.ring_push (h : RkAt B w0 w rk q rbs R H F) (hb : rbs[i]? = some rb) (hl : R[i]? = some l) (hn : l.length ≤ 1000000) (n : Int) : Calls Try.prog 58 #[rptr rb, .int .i64 n] w fun r w' => r = .returned (.tuple #[]) ∧ RkAt B w0 w' rk q rbs (R.set i (l ++ [n])) H F := by
  obtain ⟨Z, hr, hback⟩ := h.ring hb hl
  refine (Go.Proofs.Ytmmagapggmcceaa.ring_push hr (by omega) n).mono ?_
  rintro r w' ⟨rfl, h'⟩
  exact ⟨rfl, hback _ _ _ h'⟩
theorem RkAt.ring_len (h : RkAt B w0 w rk q rbs R H F) (hb : rbs[i]? = some rb) (hl : R[i]? = some l) : Calls Try.prog 48 #[rptr rb] w fun r w' => r = .returned (.int .i64 l.length) ∧ w = w' := by
  obtain ⟨Z, hr, -⟩ := h.ring hb hl
  exact Go.Proofs.Ytmmagapggmcceaa.ring_len hr
theorem RkAt.ensPush {a : Option Addr} {c : Nat} (h : RkAt B w0 w rk q rbs R H (S ++ Y)) (hs : EnsIs (.slice a L.length c) L S) (e : Ent) (hl : L.length ≤ 100000) :
    ∃ a' c' W S', (Builtin.append_ #[28, 28] 0 #[.slice a L.length c, .slice (some ⟨w.heap.size, 0, none⟩) 1 1]).run Try.prog (w.alloc (enO e)) = .ok (.slice a' (L ++ [e]).length c') W ∧ EnsIs (.slice a' (L ++ [e]).length c') (L ++ [e]) S' ∧ RkAt B w0 W rk q rbs R H (S' ++ Y) := by
  obtain ⟨Z, z1, z2⟩ := h.beside
  have p1 : ∀ S : List (Nat × Obj), (Z ++ (S ++ Y)).Perm ((Z ++ Y) ++ S) := fun S => by
    classical
    exact List.perm_iff_count.2 fun a => by simp only [List.count_append]; omega
  obtain ⟨a', c', W, S', q1, q2, q3⟩ := ens_push hs (z1.perm (p1 _)) e hl
  exact ⟨a', c', W, S', q1, q2, z2 _ _ (q3.perm (p1 _).symm)⟩
theorem RkAt.del (h : RkAt B w0 w rk q rbs R H F) (n : Int) : ∃ (mb : Nat) (es : List (MapRow Int)) (clk : Nat), w.cell? ⟨rk, 1, none⟩ = some (.map (some mb)) ∧ w.heap[mb]? = some (.map (entsE encI es) clk) ∧ RkAt B w0 (setBlock w mb (.map (entsE encI (restE es n)) clk)) rk q rbs R (delM H n) F := by
  obtain ⟨mb, es, clk, c1, hg, ho, hback⟩ := h.map
  exact ⟨mb, es, clk, c1, hg, hback _ _ _ (ho.del n) (Nat.le_trans (List.length_filter_le _ _) h.few)⟩

def SiftJ (B : Nat) (w0 : World) (rk q i rb : Nat) (rbs : List Nat) (R : List (List Int)) (H : List Ent) (F : List (Nat × Obj)) (E : List Ent) (now : Int) (g : Nat) (a' : Act) (w' : World) : Prop :=
  ∃ (j : Nat) (a : Option Addr) (c : Nat) (S : List (Nat × Obj)), j + g = E.length ∧ Fr 45 [(0, rptr rk), (1, rptr rb), (2, .int .i64 now), (7, .slice a (goneU E j now).length c), (8, .int .i64 g)] a' ∧ EnsIs (.slice a (goneU E j now).length c) (goneU E j now) S ∧
    RkAt B w0 w' rk q rbs (R.set i (rowAt E j now)) (cutIds H ((goneU E j now).map (·.id))) (S ++ F)
def SiftR (B : Nat) (w0 : World) (rk q i : Nat) (rbs : List Nat) (R : List (List Int)) (H : List Ent) (F : List (Nat × Obj)) (E : List Ent) (now : Int) (r : Ending) (w' : World) : Prop :=
  ∃ a c S, r = .returned (.slice a (E.filter fun x => goneE x now).length c) ∧ EnsIs (.slice a (E.filter fun x => goneE x now).length c) (E.filter fun x => goneE x now) S ∧
    RkAt B w0 w' rk q rbs (R.set i ((E.filter fun x => !goneE x now).map (·.id))) (cutIds H ((E.filter fun x => goneE x now).map (·.id))) (S ++ F)

set_option maxHeartbeats 2000000 in
theorem sift_any (h : RkAt B w0 w rk q rbs R H F) (hb : rbs[i]? = some rb) (hl : R[i]? = some (E.map (·.id))) (hE : ∀ x ∈ E, x ∈ H) (hn : (E.map (·.id)).Nodup) (hlen : E.length ≤ 100000) (now : Int) :
    Calls Try.prog 44 #[rptr rk, rptr rb, .int .i64 now] w (SiftR B w0 rk q i rbs R H F E now) := by
  have hiR := (List.getElem?_eq_some_iff.1 hl).1
  have cl := h.ring_len hb hl
  rw [List.length_map] at cl
  replace cl := Lib.hid cl
  have h1 : RkAt B w0 w rk q rbs (R.set i (rowAt E 0 now)) (cutIds H []) F := by
    rw [cutIds_nil, rowAt_zero]
    have e1 : R.set i (E.map (·.id)) = R := by
      apply List.ext_getElem?
      intro j
      rw [List.getElem?_set]
      split
      · rename_i hj
        subst hj
        exact hl.symm
      · rfl
    rw [e1]
    exact h
  replace h1 := Lib.hid h1
  replace hE := Lib.hid hE
  replace hn := Lib.hid hn
  clear h hl
  go_enter Try.func44, Try.ntmps44
  go_wp2_with fail
  refine wp_scope_ghost 0 (SiftJ B w0 rk q i rb rbs R H F E now) rfl ?_ ?_
  · clear h1 cl
    rintro g a' wr ⟨j, a, c, S, hj, hfr, hs, hR⟩
    obtain ⟨fr, rfl, hl'⟩ := hfr.lit
    clear hfr
    simp only [List.mem_cons, List.not_mem_nil, or_false, forall_eq_or_imp, forall_eq] at hl'
    obtain ⟨f0, f1, f2, f7, f8⟩ := hl'
    simp only [List.range, List.range.loop, List.map, f0, f1, f2, f7, f8]
    clear f0 f1 f2 f7 f8
    by_cases hz : g = 0
    · subst hz
      have hjE : j = E.length := by omega
      subst hjE
      rw [rowAt_end, goneU_end] at hR
      rw [goneU_end] at hs
      have fin : Hid (SiftR B w0 rk q i rbs R H F E now (.returned (.slice a (E.filter fun x => goneE x now).length c)) wr) := Lib.hid ⟨a, c, S, rfl, hs, hR⟩
      rw [goneU_end]
      clear hR hs hj hE hn
      simp only [Int.cast_ofNat_Int]
      go_wp2_with fail
      simp only [Exit.jump]
      go_ret
      exact fin.out
    · have hlt : j < E.length := by omega
      have hx : E[j]? = some E[j] := List.getElem?_eq_getElem hlt
      generalize E[j] = x at hx
      have hnx := not_gone (now := now) hn.out hx
      have hxH : x ∈ cutIds H ((goneU E j now).map (·.id)) := by
        unfold cutIds
        rw [List.mem_filter]
        exact ⟨hE.out x (List.mem_of_getElem? hx), by simpa using hnx⟩
      obtain ⟨tl, htl⟩ : ∃ tl, tl = (E.drop (j + 1)).map (·.id) ++ (leftU E j now).map (·.id) := ⟨_, rfl⟩
      have htlen : tl.length ≤ 100000 := by
        rw [htl, List.length_append, List.length_map, List.length_map, List.length_drop]
        have : (leftU E j now).length ≤ j := by
          unfold leftU
          refine Nat.le_trans (List.length_filter_le _ _) ?_
          rw [List.length_take]
          omega
        omega
      have hgl := goneU_len (E := E) (j := j) (now := now)
      have hget : ∀ l : List Int, (R.set i l)[i]? = some l := fun l => by rw [List.getElem?_set_self hiR]
      have cs := hR.ring_shift hb (n := x.id) (l := tl) (by rw [hget, rowAt_head hx, htl])
      rw [List.set_set] at cs
      replace cs := Lib.hid cs
      have e1 : (g : Int) - 1 = ((g - 1 : Nat) : Int) := by omega
      have hg0 : (0 : Int) ≤ g := by omega
      have hg1 : (g : Int) ≤ 100000 := by omega
      have hgB : ((g : Int) == 0) = false := by rw [beq_eq_false_iff_ne]; omega
      have look : Hid (∀ w', RkAt B w0 w' rk q rbs (R.set i tl) (cutIds H ((goneU E j now).map (·.id))) (S ++ F) → ∃ mb, w'.cell? ⟨rk, 1, none⟩ = some (.map (some mb)) ∧ (Instr.lookup 55 (.map (some mb)) (.int .i64 x.id) false).run Try.prog w' = .ok (enV x) w' ∧
          RkAt B w0 (w'.alloc (enO x)) rk q rbs (R.set i tl) (cutIds H ((goneU E j now).map (·.id))) (S ++ ((w'.heap.size, enO x) :: F))) := Lib.hid fun w' h => by
        obtain ⟨mb, hlk, -⟩ := h.look
        exact ⟨mb, hlk.c1, hlk.hit x hxH false, (h.alloc (enO x)).permF List.perm_middle.symm⟩
      have cg := Lib.hid (fun w' => gone_any x now w')
      have eAt : Hid (∀ w' R H nb, RkAt B w0 w' rk q rbs R H (S ++ ((nb, enO x) :: F)) → EnAt w' nb x) := Lib.hid fun w' R H nb h => (h.at_block (k := nb) (e := x) (by simp)).1
      clear hR hxH hnx
      cases hgx : goneE x now with
      | true =>
        obtain ⟨s1, s2⟩ := step_gone hx hgx
        rw [← htl] at s2
        have push : Hid (∀ w' nb, RkAt B w0 w' rk q rbs (R.set i tl) (cutIds H ((goneU E j now).map (·.id))) (S ++ ((nb, enO x) :: F)) → ∃ a' c' W, (Builtin.append_ #[28, 28] 0 #[.slice a (goneU E j now).length c, .slice (some ⟨w'.heap.size, 0, none⟩) 1 1]).run Try.prog (w'.alloc (enO x)) = .ok (.slice a' (goneU E (j + 1) now).length c') W ∧
            ∃ (mb : Nat) (es : List (MapRow Int)) (clk : Nat), W.cell? ⟨rk, 1, none⟩ = some (.map (some mb)) ∧ W.heap[mb]? = some (.map (entsE encI es) clk) ∧
            ∀ a9, Fr 45 [(0, rptr rk), (1, rptr rb), (2, .int .i64 now), (7, .slice a' (goneU E (j + 1) now).length c'), (8, .int .i64 ((g : Int) - 1))] a9 → ∃ m, m < g ∧ SiftJ B w0 rk q i rb rbs R H F E now m a9 (setBlock W mb (.map (entsE encI (restE es x.id)) clk))) := Lib.hid fun w' nb h => by
          obtain ⟨a', c', W, S', q1, q2, q3⟩ := RkAt.ensPush h hs x (by omega)
          rw [← s1] at q1 q2
          obtain ⟨mb, es, clk, d1, d2, d3⟩ := q3.del x.id
          refine ⟨a', c', W, q1, mb, es, clk, d1, d2, fun a9 hf => ⟨g - 1, by omega, j + 1, a', c', S', by omega, by rw [← e1]; exact hf, q2, ?_⟩⟩
          rw [s2, s1, List.map_append, List.map_singleton, ← cutIds_snoc]
          exact d3.sub ((List.Sublist.refl _).append (List.sublist_cons_self _ _))
        rw [hgx] at cg
        clear hs s1 s2 hx hget hgl htlen htl hE hn
        generalize (goneU E (j + 1) now).length = n1 at *
        generalize (goneU E j now).length = n0 at *
        replace e1 := Lib.hid e1
        go_wp2_with fail
        refine cs.out.mono ?_
        rintro r w1 ⟨rfl, h2⟩
        obtain ⟨mb, c1, hlk, h3⟩ := look.out _ h2
        obtain ⟨k0, k1, k2, k3, k4, k5, k6, k7, k8, k9⟩ := eAt.out _ _ _ _ h3
        replace h3 := Lib.hid h3
        clear cs look h2
        go_wp2_with fail
        refine (cg.out _).mono ?_
        rintro r w2 ⟨rfl, hb2⟩
        have h4 := h3.out.grow hb2
        obtain ⟨k0, k1, k2, k3, k4, k5, k6, k7, k8, k9⟩ := eAt.out _ _ _ _ h4
        obtain ⟨a', c', W, hrun, mb2, es, clk, d1, hg, fin⟩ := push.out _ _ h4
        replace fin := Lib.hid fin
        generalize hW : setBlock W mb2 (.map (entsE encI (restE es x.id)) clk) = W2 at *
        replace hW := Lib.hid hW
        clear cg h3 hb2 h4 push eAt c1 hlk
        go_wp2_with (first | (at_builtin; refine wpList_append_go rfl (.tmp 31) (.tmp 33) 28 28 rfl _ _ rfl rfl hrun ?_) | (at_delete; refine wpList_delE rfl (.tmp 38) (.tmp 39) rfl keyI uMapE rfl hg (k := x.id) trivial (fun _ _ => trivial) rfl ?_; intro w9 hw9; replace hw9 := Lib.hid (hw9.out.trans hW.out); rw [hw9.out]))
        refine wp_goto ?_
        exact ⟨rfl, fin.out _ ⟨rfl, rfl, by simp⟩⟩
      | false =>
        obtain ⟨s1, s2⟩ := step_left hx hgx
        rw [← htl] at s2
        have push : Hid (∀ w' nb, RkAt B w0 w' rk q rbs (R.set i tl) (cutIds H ((goneU E j now).map (·.id))) (S ++ ((nb, enO x) :: F)) → Calls Try.prog 58 #[rptr rb, .int .i64 x.id] w' fun r w'' => r = .returned (.tuple #[]) ∧
            ∀ a9, Fr 45 [(0, rptr rk), (1, rptr rb), (2, .int .i64 now), (7, .slice a (goneU E j now).length c), (8, .int .i64 ((g : Int) - 1))] a9 → ∃ m, m < g ∧ SiftJ B w0 rk q i rb rbs R H F E now m a9 w'') := Lib.hid fun w' nb h => by
          refine (h.ring_push hb (l := tl) (hget _) (by omega) x.id).mono ?_
          rintro r w'' ⟨rfl, h'⟩
          rw [List.set_set] at h'
          refine ⟨rfl, fun a9 hf => ⟨g - 1, by omega, j + 1, a, c, S, by omega, by rw [← e1, s1]; exact hf, by rw [s1]; exact hs, ?_⟩⟩
          rw [s2, s1]
          exact h'.sub ((List.Sublist.refl _).append (List.sublist_cons_self _ _))
        rw [hgx] at cg
        clear hs s1 s2 hx hget hgl htlen htl hE hn
        generalize (goneU E j now).length = n0 at *
        replace e1 := Lib.hid e1
        go_wp2_with fail
        refine cs.out.mono ?_
        rintro r w1 ⟨rfl, h2⟩
        obtain ⟨mb, c1, hlk, h3⟩ := look.out _ h2
        obtain ⟨k0, k1, k2, k3, k4, k5, k6, k7, k8, k9⟩ := eAt.out _ _ _ _ h3
        replace h3 := Lib.hid h3
        clear cs look h2
        go_wp2_with fail
        refine (cg.out _).mono ?_
        rintro r w2 ⟨rfl, hb2⟩
        have cp := Lib.hid (push.out _ _ (h3.out.grow hb2))
        clear cg h3 hb2 push eAt c1 hlk
        go_wp2_with fail
        refine cp.out.mono ?_
        rintro r w3 ⟨rfl, fin⟩
        replace fin := Lib.hid fin
        clear cp
        go_wp2_with fail
        refine wp_goto ?_
        exact ⟨rfl, fin.out _ ⟨rfl, rfl, by simp⟩⟩
  · intro HJ
    go_wp2_with fail
    refine cl.out.mono ?_
    rintro r w1 ⟨rfl, rfl⟩
    go_wp2_with fail
    refine wp_label ?_
    go_step
    go_step
    exact HJ E.length _ _ ⟨0, none, 0, [], by omega, ⟨rfl, rfl, by simp [goneU]⟩, EnsIs.nil, h1.out⟩
end
end Go.Proofs.Ytmmagapggmcceaa
