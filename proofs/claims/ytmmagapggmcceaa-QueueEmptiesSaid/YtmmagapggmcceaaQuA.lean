/- A queue in memory: its options, a rack that is made when it is first asked for; what its worst ones leave behind. -/
import Derived.Test.YtmmagapggmcceaaRkQ
import Derived.Test.YtmmagapggmcceaaEnBo
namespace Go.Proofs.Ytmmagapggmcceaa
open Go.RowKit
open Go.ChangeMaps (setBlock)
set_option linter.unusedVariables false
set_option linter.unusedSectionVars false
set_option linter.unusedSimpArgs false
set_option maxRecDepth 100000

/-- The worst ones gone, one behind the other. -/
inductive Sheds (M : List Ent) : List Ent → List Ent → Prop
  | nil : Sheds M [] M
  | snoc {W N : List Ent} {x : Ent} : Sheds M W N → IsWorst N x → Sheds M (W ++ [x]) (delM N x.id)
theorem Sheds.sub {M W N : List Ent} (h : Sheds M W N) : N.Sublist M := by
  induction h with
  | nil => exact List.Sublist.refl _
  | snoc _ _ ih => exact List.filter_sublist.trans ih
theorem Sheds.len {M W N : List Ent} (hM : RkOk M) (h : Sheds M W N) : W.length + N.length = M.length := by
  induction h with
  | nil => simp
  | snoc h1 hx ih =>
    have := del_len (hM.sub h1.sub) hx.mem
    rw [List.length_append, List.length_singleton]
    omega
theorem Sheds.one {M W N : List Ent} (h : Sheds M W N) (h1 : W.length = 1) : ∃ x, W = [x] ∧ IsWorst M x ∧ N = delM M x.id := by
  cases h with
  | nil => simp at h1
  | snoc h2 hx =>
    rw [List.length_append, List.length_singleton] at h1
    cases h2 with
    | nil => exact ⟨_, rfl, hx, rfl⟩
    | snoc _ _ => rw [List.length_append, List.length_singleton] at h1; omega
theorem del_ins {M : List Ent} {e : Ent} (hn : ∀ x ∈ M, x.id ≠ e.id) : delM (insM e M) e.id = M := by
  have h0 : delM M e.id = M := by
    unfold delM
    rw [List.filter_eq_self]
    intro x hx
    simpa using hn x hx
  have h1 : ∀ (L : List Ent), delM (insM e L) e.id = delM L e.id := fun L => by
    induction L with
    | nil => simp [insM, delM]
    | cons y L ih =>
      unfold insM
      split
      · simp [delM]
      · unfold delM at *
        rw [List.filter_cons, List.filter_cons, ih]
  rw [h1, h0]

abbrev quO (o : Opt) (p : Option Addr) : Obj := .cells #[tx o.dead, tx o.deadKey, .int .i64 o.maxLen, .int .i64 o.ttl, .int .i64 o.prio, .int .i64 o.bits, .pointer p] 47
/-- The six cells of options, wherever they lie. -/
abbrev OpC (w : World) (b : Nat) (o : Opt) : Prop := w.cell? ⟨b, 0, none⟩ = some (tx o.dead) ∧ w.cell? ⟨b, 1, none⟩ = some (tx o.deadKey) ∧ w.cell? ⟨b, 2, none⟩ = some (.int .i64 o.maxLen) ∧ w.cell? ⟨b, 3, none⟩ = some (.int .i64 o.ttl) ∧ w.cell? ⟨b, 4, none⟩ = some (.int .i64 o.prio) ∧ w.cell? ⟨b, 5, none⟩ = some (.int .i64 o.bits)
/-- A queue that has a rack. -/
def QuAt (B : Nat) (w0 w : World) (qb rk : Nat) (o : Opt) (M : List Ent) (F : List (Nat × Obj)) : Prop := RackIs B w0 w rk M ((qb, quO o (some ⟨rk, 0, none⟩)) :: F)
/-- A queue as its callers see it: what it holds, in order. -/
def QuIs (B : Nat) (w0 w : World) (qb : Nat) (o : Opt) (M : List Ent) (F : List (Nat × Obj)) : Prop := (M = [] ∧ St B w0 w ((qb, quO o none) :: F)) ∨ ∃ rk, QuAt B w0 w qb rk o M F
section
variable {B : Nat} {w0 w w' : World} {qb rk b k : Nat} {o : Opt} {M L : List Ent} {F F' S Y : List (Nat × Obj)} {e e0 : Ent}
theorem RackIs.setF {c : Array Value} {T : TypeId} {fr : Nat × Nat} (h : RackIs B w0 w rk M ((b, .cells c T fr) :: F)) (i : Nat) (v : Value) : RackIs B w0 (w.setCell ⟨b, i, none⟩ v) rk M ((b, .cells (c.setIfInBounds i v) T fr) :: F) := by
  obtain ⟨S, h1, h2⟩ := h.beside
  exact h2 _ _ (h1.set i v)
theorem QuAt.is (h : QuAt B w0 w qb rk o M F) : QuIs B w0 w qb o M F := .inr ⟨rk, h⟩
theorem QuIs.ok (h : QuIs B w0 w qb o M F) : RkOk M := by
  obtain ⟨rfl, -⟩ | ⟨rk, h⟩ := h
  · exact RkOk.nil
  · exact RackIs.ok h
theorem QuIs.beside (h : QuIs B w0 w qb o M F) : ∃ S, St B w0 w (S ++ F) ∧ (∃ p, (qb, quO o p) ∈ S) ∧ ∀ w' F', St B w0 w' (S ++ F') → QuIs B w0 w' qb o M F' := by
  obtain ⟨rfl, h⟩ | ⟨rk, h⟩ := h
  · exact ⟨[(qb, quO o none)], h, ⟨_, List.mem_cons_self⟩, fun w' F' h' => .inl ⟨rfl, h'⟩⟩
  · obtain ⟨S, h1, h2⟩ := RackIs.beside h
    exact ⟨S ++ [(qb, quO o (some ⟨rk, 0, none⟩))], by rw [List.append_assoc]; exact h1, ⟨_, List.mem_append_right _ List.mem_cons_self⟩, fun w' F' h' => .inr ⟨rk, h2 _ _ (by rw [List.append_assoc] at h'; exact h')⟩⟩
theorem QuIs.ops (h : QuIs B w0 w qb o M F) : OpC w qb o ∧ ∀ i, w.frozen? ⟨qb, i, none⟩ = false := by
  obtain ⟨S, h1, ⟨p, hm⟩, -⟩ := h.beside
  have m := List.mem_append_left F hm
  exact ⟨⟨h1.cell m rfl, h1.cell m rfl, h1.cell m rfl, h1.cell m rfl, h1.cell m rfl, h1.cell m rfl⟩, fun i => h1.soft m i⟩
theorem QuIs.grow (h : QuIs B w0 w qb o M F) (hb : Below w.heap.size w w') : QuIs B w0 w' qb o M F := by
  obtain ⟨S, h1, -, h2⟩ := h.beside
  exact h2 _ _ (h1.grow hb)
theorem QuIs.sub (h : QuIs B w0 w qb o M F) (hs : F'.Sublist F) : QuIs B w0 w qb o M F' := by
  obtain ⟨S, h1, -, h2⟩ := h.beside
  exact h2 _ _ (h1.sub ((List.Sublist.refl S).append hs))
theorem QuIs.permF (h : QuIs B w0 w qb o M F) (hp : F.Perm F') : QuIs B w0 w qb o M F' := by
  obtain ⟨S, h1, -, h2⟩ := h.beside
  exact h2 _ _ (h1.perm (hp.append_left S))
theorem QuIs.alloc (h : QuIs B w0 w qb o M F) (x : Obj) : QuIs B w0 (w.alloc x) qb o M ((w.heap.size, x) :: F) := by
  obtain ⟨S, h1, -, h2⟩ := h.beside
  exact h2 _ _ ((h1.alloc x).perm List.perm_middle.symm)
theorem QuIs.below (h : QuIs B w0 w qb o M F) : Below B w0 w := by
  obtain ⟨S, h1, -⟩ := h.beside
  exact h1.below
theorem QuIs.setF {c : Array Value} {T : TypeId} {fr : Nat × Nat} (h : QuIs B w0 w qb o M ((b, .cells c T fr) :: F)) (i : Nat) (v : Value) : QuIs B w0 (w.setCell ⟨b, i, none⟩ v) qb o M ((b, .cells (c.setIfInBounds i v) T fr) :: F) := by
  obtain ⟨S, h1, -, h2⟩ := h.beside
  exact h2 _ _ (h1.set i v)
theorem QuIs.at_block (h : QuIs B w0 w qb o M F) (hm : (k, enO e) ∈ F) : EnAt w k e ∧ ∀ i, w.frozen? ⟨k, i, none⟩ = false := by
  obtain ⟨S, hs, -⟩ := h.beside
  exact ⟨hs.enAt (List.mem_append_right _ hm), fun i => hs.soft (List.mem_append_right _ hm) i⟩
theorem QuIs.enPut (h : QuIs B w0 w qb o M ((k, enO e0) :: F)) : QuIs B w0 (enPut w k e) qb o M ((k, enO e) :: F) := by
  obtain ⟨S, h1, -, h2⟩ := h.beside
  exact h2 _ _ (((h1.perm List.perm_middle).enPut (e := e)).perm List.perm_middle.symm)
theorem QuIs.ensPush {a : Option Addr} {c : Nat} (h : QuIs B w0 w qb o M (S ++ Y)) (hs : EnsIs (.slice a L.length c) L S) (e : Ent) (hl : L.length ≤ 100000) :
    ∃ a' c' W S', (Builtin.append_ #[28, 28] 0 #[.slice a L.length c, .slice (some ⟨w.heap.size, 0, none⟩) 1 1]).run Try.prog (w.alloc (enO e)) = .ok (.slice a' (L ++ [e]).length c') W ∧ EnsIs (.slice a' (L ++ [e]).length c') (L ++ [e]) S' ∧ QuIs B w0 W qb o M (S' ++ Y) := by
  obtain ⟨Z, z1, -, z2⟩ := h.beside
  have p1 : ∀ S : List (Nat × Obj), (Z ++ (S ++ Y)).Perm ((Z ++ Y) ++ S) := fun S => by
    classical
    exact List.perm_iff_count.2 fun a => by simp only [List.count_append]; omega
  obtain ⟨a', c', W, S', q1, q2, q3⟩ := ens_push hs (z1.perm (p1 _)) e hl
  exact ⟨a', c', W, S', q1, q2, z2 _ _ (q3.perm (p1 _).symm)⟩
/-- A slice that is owned beside a queue reads as its entries. -/
theorem QuIs.reads {a : Option Addr} {c : Nat} {X : List (Nat × Obj)} (h : QuIs B w0 w qb o M F) (hs : EnsIs (.slice a L.length c) L S) (hp : F.Perm (X ++ S)) : ReadEs w a L := by
  obtain ⟨Z, z1, -⟩ := h.beside
  refine hs.read (X := Z ++ X) (z1.perm ?_)
  rw [List.append_assoc]
  exact hp.append_left Z

set_option maxHeartbeats 400000 in
theorem ready_any (h : QuIs B w0 w qb o M F) : Calls Try.prog 19 #[rptr qb] w fun r w' => ∃ rk, r = .returned (rptr rk) ∧ QuAt B w0 w' qb rk o M F := by
  obtain ⟨rfl, h⟩ | ⟨rk, h⟩ := h
  · have c6 : w.cell? ⟨qb, 6, none⟩ = some (.pointer none) := h.cell (b := qb) List.mem_cons_self rfl
    have cn := Lib.hid (rk_new h)
    have hf : Hid (∀ w' rk, RackIs B w0 w' rk [] ((qb, quO o none) :: F) → w'.frozen? ⟨qb, 6, none⟩ = false ∧ w'.cell? ⟨qb, 6, none⟩ = some (.pointer none) ∧ (w'.setCell ⟨qb, 6, none⟩ (rptr rk)).cell? ⟨qb, 6, none⟩ = some (rptr rk) ∧ QuAt B w0 (w'.setCell ⟨qb, 6, none⟩ (rptr rk)) qb rk o [] F) := Lib.hid fun w' rk h1 => by
      obtain ⟨S, hs⟩ := h1.st
      have h2 := h1.setF 6 (rptr rk)
      obtain ⟨S2, hs2⟩ := h2.st
      exact ⟨hs.soft (List.mem_append_right _ List.mem_cons_self) 6, hs.cell (b := qb) (List.mem_append_right _ List.mem_cons_self) rfl, hs2.cell (b := qb) (List.mem_append_right _ List.mem_cons_self) rfl, h2⟩
    clear h
    go_enter Try.func19, Try.ntmps19
    go_wp2_with fail
    refine cn.out.mono ?_
    rintro r w1 ⟨rfl, h1⟩
    obtain ⟨f6, c6', d6, fin⟩ := hf.out _ _ h1
    replace fin := Lib.hid fin
    clear cn hf h1
    generalize w.heap.size = rk at *
    go_wp2_with fail
    go_ret
    exact ⟨_, rfl, fin.out⟩
  · obtain ⟨S, hs⟩ := RackIs.st h
    have c6 : w.cell? ⟨qb, 6, none⟩ = some (rptr rk) := hs.cell (b := qb) (List.mem_append_right _ List.mem_cons_self) rfl
    replace h := Lib.hid h
    clear hs
    go_enter Try.func19, Try.ntmps19
    go_wp2_with fail
    go_ret
    exact ⟨_, rfl, h.out⟩
end
end Go.Proofs.Ytmmagapggmcceaa
