/- Entries taken and put back: plain; a slice of entries beside a rack. -/
import Derived.Test.YtofkakcnipaheaaRkS
namespace Go.Proofs.Ytofkakcnipaheaa
open Go.RowKit
open Go.ChangeMaps (setBlock)
set_option linter.unusedVariables false
set_option linter.unusedSectionVars false
set_option linter.unusedSimpArgs false
set_option maxRecDepth 100000

theorem ents_eq {l m : List Ent} (hl : RkOk l) (hm : RkOk m) (h : ∀ x, x ∈ l ↔ x ∈ m) : l = m :=
  List.Perm.eq_of_pairwise (le := fun a b => lessE a b = true) (fun a b _ _ h1 h2 => by rw [less_iff] at h1 h2; omega) hl.sorted hm.sorted ((List.perm_ext_iff_of_nodup hl.nodup hm.nodup).2 h)

/-- On the way back: all of M, but some of the first. -/
structure Back (M : List Ent) (k i : Nat) (N : List Ent) : Prop where
  ok : RkOk N
  sub : ∀ x ∈ N, x ∈ M
  rest : ∀ x ∈ M.drop k, x ∈ N
  some : ∀ j x, j < i → M[j]? = some x → x ∈ N
theorem Back.start {M : List Ent} (h : RkOk M) (k : Nat) : Back M k 0 (M.drop k) := ⟨h.sub (List.drop_sublist _ _), fun x hx => List.mem_of_mem_drop hx, fun x hx => hx, fun j x hj => absurd hj (by omega)⟩
theorem Back.len {M N : List Ent} {k i : Nat} (h : Back M k i N) : N.length ≤ M.length := by
  classical
  have h0 : ∀ {l m : List Ent}, l.Nodup → (∀ x ∈ l, x ∈ m) → l.length ≤ m.length := by
    intro l
    induction l with
    | nil => intro m _ _; exact Nat.zero_le _
    | cons x r ih =>
      intro m hn hs
      have hx := hs x List.mem_cons_self
      obtain ⟨h1, h2⟩ := List.nodup_cons.1 hn
      have h3 := ih (m := m.erase x) h2 fun y hy => (List.mem_erase_of_ne fun e : y = x => h1 (by rw [← e]; exact hy)).2 (hs y (List.mem_cons_of_mem _ hy))
      have h4 := List.length_erase_of_mem hx
      have h5 := List.length_pos_of_mem hx
      rw [List.length_cons]
      omega
  exact h0 h.ok.nodup h.sub
theorem Back.put {M N : List Ent} {k i : Nat} (hM : RkOk M) (h : Back M k i N) {x : Ent} (hx : x ∈ M) : Back M k i (putM N x) ∧ x ∈ putM N x := by
  by_cases hin : x.id ∈ N.map (·.id)
  · have h0 : putOk N x = false := by
      simp only [putOk, decide_eq_false_iff_not]
      exact fun hc => hc.1 hin
    have h1 : putM N x = N := by
      unfold putM
      rw [h0]
      rfl
    rw [h1]
    obtain ⟨y, hy, e⟩ := List.mem_map.1 hin
    refine ⟨h, ?_⟩
    rw [← hM.inj (h.sub y hy) hx e]
    exact hy
  · have hp := hM.prio x hx
    have h0 : putOk N x = true := by
      simp only [putOk, decide_eq_true_eq]
      exact ⟨hin, hp⟩
    have h1 : putM N x = insM x N := by
      unfold putM
      rw [h0]
      rfl
    rw [h1]
    refine ⟨⟨h.ok.ins hp fun y hy e => hin (e ▸ List.mem_map_of_mem hy), fun y hy => ?_, fun y hy => mem_ins.2 (.inr (h.rest y hy)), fun j y hj hy => mem_ins.2 (.inr (h.some j y hj hy))⟩, mem_ins.2 (.inl rfl)⟩
    rcases mem_ins.1 hy with rfl | hy
    · exact hx
    · exact h.sub y hy
theorem Back.next {M N : List Ent} {k i : Nat} (hM : RkOk M) (h : Back M k i N) {x : Ent} (hx : M[i]? = Option.some x) : Back M k (i + 1) (putM N x) := by
  obtain ⟨h1, h2⟩ := h.put hM (List.mem_of_getElem? hx)
  refine ⟨h1.ok, h1.sub, h1.rest, fun j y hj hy => ?_⟩
  rcases (by omega : j < i ∨ j = i) with h9 | rfl
  · exact h1.some j y h9 hy
  · rw [hx] at hy
    cases hy
    exact h2
theorem Back.done {M N : List Ent} {k : Nat} (hM : RkOk M) (h : Back M k k N) : N = M := by
  refine ents_eq h.ok hM fun x => ⟨h.sub x, fun hx => ?_⟩
  obtain ⟨j, hj⟩ := List.getElem?_of_mem hx
  by_cases hjk : j < k
  · exact h.some j x hjk hj
  · refine h.rest x ?_
    refine List.mem_of_getElem? (i := j - k) ?_
    rw [List.getElem?_drop, show k + (j - k) = j by omega]
    exact hj

section
variable {B : Nat} {w0 w : World} {rk : Nat} {M N L : List Ent} {F S Y : List (Nat × Obj)}
theorem RackIs.ensPush {a : Option Addr} {c : Nat} (h : RackIs B w0 w rk M (S ++ Y)) (hs : EnsIs (.slice a L.length c) L S) (e : Ent) (hl : L.length ≤ 100000) :
    ∃ a' c' W S', (Builtin.append_ #[26, 26] 0 #[.slice a L.length c, .slice (some ⟨w.heap.size, 0, none⟩) 1 1]).run Try.prog (w.alloc (enO e)) = .ok (.slice a' (L ++ [e]).length c') W ∧ EnsIs (.slice a' (L ++ [e]).length c') (L ++ [e]) S' ∧ RackIs B w0 W rk M (S' ++ Y) := by
  obtain ⟨Z, z1, z2⟩ := h.beside
  have p1 : ∀ S : List (Nat × Obj), (Z ++ (S ++ Y)).Perm ((Z ++ Y) ++ S) := fun S => by
    classical
    exact List.perm_iff_count.2 fun a => by simp only [List.count_append]; omega
  obtain ⟨a', c', W, S', q1, q2, q3⟩ := ens_push hs (z1.perm (p1 _)) e hl
  exact ⟨a', c', W, S', q1, q2, z2 _ _ (q3.perm (p1 _).symm)⟩
/-- A slice that is owned beside a rack reads as its entries. -/
theorem RackIs.reads {a : Option Addr} {c : Nat} {X : List (Nat × Obj)} (h : RackIs B w0 w rk M F) (hs : EnsIs (.slice a L.length c) L S) (hp : F.Perm (X ++ S)) : ReadEs w a L := by
  obtain ⟨Z, z1⟩ := h.st
  refine hs.read (X := Z ++ X) (z1.perm ?_)
  rw [List.append_assoc]
  exact hp.append_left Z
end
end Go.Proofs.Ytofkakcnipaheaa
