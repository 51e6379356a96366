/- The rack and the document's own row, side by side. -/
import Derived.Test.YtofkakcnipaheaaRfC
import Derived.Test.YtofkakcnipaheaaRkW
namespace Go.Proofs.Ytofkakcnipaheaa
open Go.RowKit
open Go.ChangeMaps (setBlock)
set_option linter.unusedVariables false
set_option linter.unusedSectionVars false
set_option linter.unusedSimpArgs false
set_option maxRecDepth 100000

theorem del_at {M : List Ent} (h : RkOk M) {i : Nat} {e : Ent} (hi : M[i]? = some e) : delM M e.id = M.take i ++ M.drop (i + 1) := by
  induction M generalizing i with
  | nil => simp at hi
  | cons y l ih =>
    have hn := h.ids
    rw [List.map_cons, List.nodup_cons] at hn
    cases i with
    | zero =>
      simp at hi
      subst hi
      rw [del_head h]
      rfl
    | succ i =>
      have hi' : l[i]? = some e := by simpa using hi
      have hne : y.id ≠ e.id := fun e1 => hn.1 (e1 ▸ List.mem_map_of_mem (List.mem_of_getElem? hi'))
      have := ih (h.sub (List.sublist_cons_self _ _)) hi'
      unfold delM at this ⊢
      rw [List.filter_cons_of_pos (by simpa using hne), this]
      rfl
theorem put_len (M : List Ent) (e : Ent) : (putM M e).length ≤ M.length + 1 := by
  unfold putM
  split
  · rw [ins_len]; omega
  · omega

section
variable {B : Nat} {w0 w w' W : World} {rk k : Nat} {M N L : List Ent} {F S Y Y' : List (Nat × Obj)} {a : Option Addr} {c : Nat} {e : Ent} {o : Obj}
theorem RackIs.join (h : RackIs B w0 w rk M F) (hk : St w.heap.size w w' Y) : RackIs B w0 w' rk M (Y ++ F) := by
  obtain ⟨Z, z1, z2⟩ := h.beside
  refine z2 _ _ ((z1.join hk).perm ?_)
  classical
  exact List.perm_iff_count.2 fun a => by simp only [List.count_append]; omega
/-- The rack holds M, the slice at a reads N; Y beside. -/
def TwoK (B : Nat) (w0 W : World) (rk : Nat) (M N : List Ent) (a : Option Addr) (c : Nat) (Y : List (Nat × Obj)) : Prop := ∃ S, EnsIs (.slice a N.length c) N S ∧ RackIs B w0 W rk M (S ++ Y)
theorem TwoK.ok (h : TwoK B w0 W rk M N a c Y) : RkOk M := by obtain ⟨S, -, h2⟩ := h; exact h2.ok
theorem TwoK.below (h : TwoK B w0 W rk M N a c Y) : Below B w0 W := by obtain ⟨S, -, h2⟩ := h; exact h2.below
theorem TwoK.grow (h : TwoK B w0 w rk M N a c Y) (hb : Below w.heap.size w w') : TwoK B w0 w' rk M N a c Y := by obtain ⟨S, h1, h2⟩ := h; exact ⟨S, h1, h2.grow hb⟩
theorem TwoK.alloc (h : TwoK B w0 w rk M N a c Y) (o : Obj) : TwoK B w0 (w.alloc o) rk M N a c ((w.heap.size, o) :: Y) := by obtain ⟨S, h1, h2⟩ := h; exact ⟨S, h1, (h2.alloc o).permF List.perm_middle.symm⟩
theorem TwoK.sub (h : TwoK B w0 w rk M N a c Y) (hs : Y'.Sublist Y) : TwoK B w0 w rk M N a c Y' := by obtain ⟨S, h1, h2⟩ := h; exact ⟨S, h1, h2.sub ((List.Sublist.refl S).append hs)⟩
theorem TwoK.permY (h : TwoK B w0 w rk M N a c Y) (hs : Y.Perm Y') : TwoK B w0 w rk M N a c Y' := by obtain ⟨S, h1, h2⟩ := h; exact ⟨S, h1, h2.permF (hs.append_left S)⟩
theorem TwoK.read (h : TwoK B w0 w rk M N a c Y) : ReadEs w a N := by
  obtain ⟨S, h1, h2⟩ := h
  exact h2.reads (X := Y) h1 List.perm_append_comm
theorem TwoK.reads {a2 : Option Addr} {c2 : Nat} {X : List (Nat × Obj)} (h : TwoK B w0 w rk M N a c Y) (hs : EnsIs (.slice a2 L.length c2) L S) (hp : Y.Perm (X ++ S)) : ReadEs w a2 L := by
  obtain ⟨S0, h1, h2⟩ := h
  refine h2.reads (X := S0 ++ X) hs ?_
  rw [List.append_assoc]
  exact hp.append_left S0
theorem TwoK.block (h : TwoK B w0 w rk M N a c Y) (hm : (k, enO e) ∈ Y) : EnAt w k e := by
  obtain ⟨S, h1, h2⟩ := h
  exact (h2.at_block (k := k) (e := e) (List.mem_append_right _ hm)).1
theorem TwoK.cell {cs : Array Value} {T : TypeId} (h : TwoK B w0 w rk M N a c Y) (hm : (k, .cells cs T) ∈ Y) {i : Nat} {v : Value} (hi : cs[i]? = some v) : w.cell? ⟨k, i, none⟩ = some v := by
  obtain ⟨S, h1, h2⟩ := h
  obtain ⟨Z, z1⟩ := h2.st
  exact z1.cell (b := k) (List.mem_append_right _ (List.mem_append_right _ hm)) hi

theorem two_rput (h : TwoK B w0 w rk M M a c Y) (hl : M.length ≤ 1000) (e : Ent) : Calls Try.prog 9 #[.slice a M.length c, enV e] w fun r w' => ∃ a' c', r = .returned (.tuple #[.slice a' (putM M e).length c', .bool (putOk M e)]) ∧ TwoK B w0 w' rk M (putM M e) a' c' Y := by
  refine (rput_any h.read (by omega) h.ok.ids e).mono ?_
  rintro r w' (⟨h1, rfl, h2⟩ | ⟨h1, a', c', S', rfl, h2, h3⟩)
  · have hp : putM M e = M := by unfold putM; rw [h1]; rfl
    rw [hp, h1]
    exact ⟨a, c, rfl, h.grow h2⟩
  · have hp : putM M e = insM e M := by unfold putM; rw [if_pos h1]
    rw [hp, h1]
    obtain ⟨S, -, hR⟩ := h
    exact ⟨a', c', rfl, S', h2, (hR.join h3).sub ((List.Sublist.refl _).append (List.sublist_append_right _ _))⟩
theorem two_put (h : TwoK B w0 w rk M N a c Y) (hl : M.length ≤ 1000) (hf : FitT e) : Calls Try.prog 10 #[rptr rk, enV e] w fun r w' => r = .returned (.bool (putOk M e)) ∧ TwoK B w0 w' rk (putM M e) N a c Y := by
  obtain ⟨S, h1, h2⟩ := h
  refine (rk_put (e := e) h2 hf.1 hf.2 (by omega)).mono ?_
  rintro r w' ⟨rfl, h3⟩
  exact ⟨rfl, S, h1, h3⟩
theorem two_take (h : TwoK B w0 w rk M N a c Y) : Calls Try.prog 11 #[rptr rk] w fun r w' => r = .returned (firstV M) ∧ TwoK B w0 w' rk M.tail N a c Y := by
  obtain ⟨S, h1, h2⟩ := h
  refine (rk_take h2).mono ?_
  rintro r w' ⟨rfl, h3⟩
  exact ⟨rfl, S, h1, h3⟩
theorem two_at (h : TwoK B w0 w rk M N a c Y) (hl : N.length ≤ 1000) (n : Int) : Calls Try.prog 12 #[.slice a N.length c, .int .i64 n] w fun r w' => r = .returned (.int .i64 (atM N n)) ∧ TwoK B w0 w' rk M N a c Y := by
  refine (rat_any h.read (by omega) n).mono ?_
  rintro r w' ⟨rfl, m, rfl⟩
  exact ⟨rfl, h.grow (drewN_below _ _)⟩
theorem two_drop_hit (h : TwoK B w0 w rk M N a c Y) (he : e ∈ M) : Calls Try.prog 13 #[rptr rk, .int .i64 e.id] w fun r w' => r = .returned (.tuple #[enV e, .bool true]) ∧ TwoK B w0 w' rk (delM M e.id) N a c Y := by
  obtain ⟨S, h1, h2⟩ := h
  refine (rk_drop_hit h2 he).mono ?_
  rintro r w' ⟨rfl, h3⟩
  exact ⟨rfl, S, h1, h3⟩
theorem two_drop_miss (h : TwoK B w0 w rk M N a c Y) {n : Int} (hn : n ∉ M.map (·.id)) : Calls Try.prog 13 #[rptr rk, .int .i64 n] w fun r w' => r = .returned (.tuple #[enV z0E, .bool false]) ∧ TwoK B w0 w' rk M N a c Y := by
  obtain ⟨S, h1, h2⟩ := h
  refine (rk_drop_miss h2 hn).mono ?_
  rintro r w' ⟨rfl, h3⟩
  exact ⟨rfl, S, h1, h3⟩
theorem two_without (h : TwoK B w0 w rk M N a c Y) (hk : k < N.length) (hl : N.length ≤ 1000) : Calls Try.prog 14 #[.slice a N.length c, .int .i64 k] w fun r w' => ∃ a' c', r = .returned (.slice a' (N.take k ++ N.drop (k + 1)).length c') ∧ TwoK B w0 w' rk M (N.take k ++ N.drop (k + 1)) a' c' Y := by
  obtain ⟨S, h1, h2⟩ := h
  obtain ⟨Z, z1, z2⟩ := h2.beside
  have pm : ∀ S : List (Nat × Obj), (Z ++ (S ++ Y)).Perm ((Z ++ Y) ++ S) := fun S => by
    classical
    exact List.perm_iff_count.2 fun a => by simp only [List.count_append]; omega
  refine (rwithout_any h1 (z1.perm (pm _)) hk hl).mono ?_
  rintro r w' ⟨a', c', S', rfl, q1, q2⟩
  exact ⟨a', c', rfl, S', q1, z2 _ _ (q2.perm (pm _).symm)⟩
theorem two_late (h : TwoK B w0 w rk M M a c Y) (hl : M.length ≤ 1000) (now : Int) : Calls Try.prog 15 #[.slice a M.length c, .int .i64 now] w fun r w' => ∃ a1 c1 a2 c2 S1, r = .returned (.tuple #[.slice a1 (M.filter fun x => goneE x now).length c1, .slice a2 (M.filter fun x => !goneE x now).length c2]) ∧
    EnsIs (.slice a1 (M.filter fun x => goneE x now).length c1) (M.filter fun x => goneE x now) S1 ∧ TwoK B w0 w' rk M (M.filter fun x => !goneE x now) a2 c2 (S1 ++ Y) := by
  refine (rlate_any h.read (by omega) now).mono ?_
  rintro r w' ⟨v1, v2, rfl, a1, c1, S1, a2, c2, S2, rfl, rfl, h1, h2, h3⟩
  rw [List.take_length] at h1 h2 ⊢
  obtain ⟨S, -, hR⟩ := h
  have h4 := (hR.join h3).sub ((List.Sublist.refl (S1 ++ S2)).append (List.sublist_append_right S Y))
  refine ⟨a1, c1, a2, c2, S1, rfl, h1, S2, h2, h4.permF ?_⟩
  classical
  exact List.perm_iff_count.2 fun a => by simp only [List.count_append]; omega
theorem two_gone (h : TwoK B w0 w rk M N a c Y) (now : Int) : Calls Try.prog 17 #[rptr rk, .int .i64 now] w fun r w' => ∃ a3 c3 S3, r = .returned (.slice a3 (M.filter fun x => goneE x now).length c3) ∧
    EnsIs (.slice a3 (M.filter fun x => goneE x now).length c3) (M.filter fun x => goneE x now) S3 ∧ TwoK B w0 w' rk (M.filter fun x => !goneE x now) N a c (S3 ++ Y) := by
  obtain ⟨S, h1, h2⟩ := h
  refine (rk_gone h2 now).mono ?_
  rintro r w' ⟨a3, c3, S3, rfl, h3, h4⟩
  refine ⟨a3, c3, S3, rfl, h3, S, h1, h4.permF ?_⟩
  classical
  exact List.perm_iff_count.2 fun a => by simp only [List.count_append]; omega
theorem two_all (h : TwoK B w0 w rk M N a c Y) : Calls Try.prog 21 #[rptr rk] w fun r w' => ∃ a3 c3 S3, r = .returned (.slice a3 M.length c3) ∧ EnsIs (.slice a3 M.length c3) M S3 ∧ TwoK B w0 w' rk M N a c (S3 ++ Y) := by
  obtain ⟨S, h1, h2⟩ := h
  refine (rk_all h2).mono ?_
  rintro r w' ⟨a3, c3, S3, rfl, h3, h4⟩
  refine ⟨a3, c3, S3, rfl, h3, S, h1, h4.permF ?_⟩
  classical
  exact List.perm_iff_count.2 fun a => by simp only [List.count_append]; omega
theorem two_first (h : TwoK B w0 w rk M N a c Y) : Calls Try.prog 18 #[rptr rk] w fun r w' => r = .returned (firstV M) ∧ TwoK B w0 w' rk M N a c Y := by
  have h0 := h
  obtain ⟨S, h1, h2⟩ := h
  refine (rk_first h2).mono ?_
  rintro r w' ⟨rfl, hb⟩
  exact ⟨rfl, h0.grow hb⟩
theorem two_worst (h : TwoK B w0 w rk M N a c Y) : Calls Try.prog 19 #[rptr rk] w fun r w' => (∃ (x : Ent) (b : Bool), r = .returned (.tuple #[enV x, .bool b]) ∧ WorstR M x b) ∧ TwoK B w0 w' rk M N a c Y := by
  have h0 := h
  obtain ⟨S, h1, h2⟩ := h
  refine (rk_worst h2).mono ?_
  rintro r w' ⟨hx, hb⟩
  exact ⟨hx, h0.grow hb⟩
theorem two_rworst (h : TwoK B w0 w rk M N a c Y) (hl : N.length ≤ 1000) : Calls Try.prog 20 #[.slice a N.length c] w fun r w' => ((N = [] ∧ r = .returned (.int .i64 (-1))) ∨ ∃ (k : Nat) (e : Ent), r = .returned (.int .i64 k) ∧ N[k]? = some e ∧ IsWorst N e) ∧ TwoK B w0 w' rk M N a c Y := by
  refine (rworst_any h.read (by omega)).mono ?_
  rintro r w' ⟨hx, m, rfl⟩
  exact ⟨hx, h.grow (drewN_below _ _)⟩
theorem two_len (h : TwoK B w0 w rk M N a c Y) : Calls Try.prog 22 #[rptr rk] w fun r w' => r = .returned (.int .i64 M.length) ∧ w' = w := by
  obtain ⟨S, h1, h2⟩ := h
  exact rk_len h2
/-- The first of the slice cut off. -/
theorem two_cut (h : TwoK B w0 w rk M N a c Y) {n : Nat} (hn : n ≤ N.length) : ∃ a' c', (∀ W, (Instr.slice 26 (.slice a N.length c) (some (.int .i64 n)) none none).run Try.prog W = .ok (.slice a' (N.drop n).length c') W) ∧ TwoK B w0 w rk M (N.drop n) a' c' Y := by
  obtain ⟨S, h1, h2⟩ := h
  obtain ⟨-, -, a2, c2, -, q2, -, r2⟩ := apE.piece h1 n hn
  rw [← entsV_drop _ _ hn] at q2
  have e : N.length - n = (N.drop n).length := by rw [List.length_drop]
  rw [e] at q2
  refine ⟨a2, c2, fun W => ?_, S, q2, h2⟩
  rw [← e]
  exact r2 W
end
end Go.Proofs.Ytofkakcnipaheaa
