/- Both dials side by side. -/
import Derived.Test.YtldocgpnmfmnaaaDlT
import Derived.Test.YtldocgpnmfmnaaaDlL
import Derived.Test.YtldocgpnmfmnaaaArgs
namespace Go.Proofs.Ytldocgpnmfmnaaa
open Go.RowKit
set_option linter.unusedVariables false

/-- At db lies the dial with the row Ld, at rb the document's with the row Lr, beside both E. -/
def Two (B : Nat) (w0 w : World) (db rb : Nat) (E : List (Nat × Obj)) (Ld Lr : List (Int × Int)) : Prop :=
  ∃ v S, SlIs 42 2 v Lr.length (duesV Lr) S ∧ DialIs B w0 w db Ld (E ++ ((rb, refO v) :: S))

section
variable {B : Nat} {w0 w : World} {db rb : Nat} {E E' S : List (Nat × Obj)} {Ld Lr L : List (Int × Int)} {id t : Int}

theorem Two.drewN (h : Two B w0 w db rb E Ld Lr) (n : Nat) : Two B w0 (w.drewN n) db rb E Ld Lr := by
  obtain ⟨v, S, h1, h2⟩ := h
  exact ⟨v, S, h1, h2.drewN n⟩
theorem Two.below (h : Two B w0 w db rb E Ld Lr) : Below B w0 w := by
  obtain ⟨v, S, h1, h2⟩ := h
  exact h2.below
theorem Two.len (h : Two B w0 w db rb E Ld Lr) : Ld.length ≤ 5000 := by
  obtain ⟨v, S, h1, h2⟩ := h
  exact h2.len
theorem Two.nodup (h : Two B w0 w db rb E L L) : (L.map (·.2)).Nodup := by
  obtain ⟨v, S, h1, M, hv, hF, mv, es, clk, k1, k2, k3⟩ := h
  have : (L.map (·.2)).Perm (M.map Mk.id) := by
    have := (k3.perm.map Prod.snd).symm
    simpa [key, Function.comp_def] using this
  exact this.nodup_iff.2 k3.ids
theorem perm_n {α : Type} (A E F : List α) : (A ++ (E ++ F)).Perm (A ++ E ++ F) := by simp
/-- What lies beside, and the way back. -/
theorem Two.open (h : Two B w0 w db rb E Ld Lr) : ∃ A, RefAt B w0 w (A ++ E) rb Lr ∧ (∀ w' So L', RefAt B w0 w' ((A ++ E) ++ So) rb L' → Two B w0 w' db rb (E ++ So) Ld L') ∧ St B w0 w (A ++ E) := by
  obtain ⟨v, S, h1, h2⟩ := h
  have h2' : DialIs B w0 w db Ld ((E ++ ((rb, refO v) :: S)) ++ []) := by rw [List.append_nil]; exact h2
  obtain ⟨A, k1, k2⟩ := h2'.beside
  have k1' : St B w0 w (((A ++ E) ++ [(rb, refO v)]) ++ S) := by simpa using k1
  refine ⟨A, ⟨v, S, h1, k1'⟩, ?_, k1'.sub ((List.sublist_append_left _ _).trans (List.sublist_append_left _ _))⟩
  rintro w' So L' ⟨v', S', h3, h4⟩
  refine ⟨v', S', h3, ?_⟩
  have := k2 w' ((E ++ So) ++ ((rb, refO v') :: S')) (by simpa using h4)
  rw [List.append_nil] at this
  exact this
theorem Two.alloc (h : Two B w0 w db rb E Ld Lr) (o : Obj) : Two B w0 (w.alloc o) db rb ((w.heap.size, o) :: E) Ld Lr := by
  obtain ⟨v, S, h1, h2⟩ := h
  have h2' : DialIs B w0 w db Ld ([] ++ (E ++ ((rb, refO v) :: S))) := h2
  obtain ⟨A, k1, k2⟩ := h2'.beside
  refine ⟨v, S, h1, ?_⟩
  have := k2 (w.alloc o) [(w.heap.size, o)] ((k1.alloc o).perm (by simpa using (List.perm_append_singleton _ _).symm))
  exact this
theorem Two.sub (h : Two B w0 w db rb E Ld Lr) (hs : E'.Sublist E) : Two B w0 w db rb E' Ld Lr := by
  obtain ⟨v, S, h1, h2⟩ := h
  have h2' : DialIs B w0 w db Ld ((E ++ ((rb, refO v) :: S)) ++ []) := by rw [List.append_nil]; exact h2
  obtain ⟨A, k1, k2⟩ := h2'.beside
  refine ⟨v, S, h1, ?_⟩
  have := k2 w (E' ++ ((rb, refO v) :: S)) (k1.sub ((List.Sublist.refl _).append (hs.append (List.Sublist.refl _))))
  rw [List.append_nil] at this
  exact this
theorem Two.cell (h : Two B w0 w db rb E Ld Lr) {b i : Nat} {c : Array Value} {T : TypeId} {u : Value} (hm : (b, .cells c T) ∈ E) (hi : c[i]? = some u) : w.cell? ⟨b, i, none⟩ = some u := by
  obtain ⟨A, -, -, k⟩ := h.open
  exact k.cell (List.mem_append_right _ hm) hi
theorem Two.ref (h : Two B w0 w db rb E Ld Lr) : ∃ a cap, w.cell? ⟨rb, 0, none⟩ = some (.slice a Lr.length cap) ∧ ∀ i x, Lr[i]? = some x → ∃ g off, a = some ⟨g, off, none⟩ ∧ w.cell? ⟨g, off + i * 2, none⟩ = some (.int .i64 x.1) ∧ w.cell? ⟨g, off + i * 2 + 1, none⟩ = some (.int .i64 x.2) := by
  obtain ⟨A, k, -⟩ := h.open
  exact k.cells

/-! ### the calls -/
theorem two_set (h : Two B w0 w db rb E Ld Lr) (id t : Int) (ht : T64 t) (hL : Ld.length < 5000) :
    Calls Try.prog 9 #[mp db, .int .i64 id, .int .i64 t] w fun e w' => e = .returned (.tuple #[]) ∧ Two B w0 w' db rb E (setL id t Ld) Lr := by
  obtain ⟨v, S, h1, h2⟩ := h
  exact (dial_set h2 id t ht hL rfl).mono fun e w' ⟨k1, k2⟩ => ⟨k1, v, S, h1, k2⟩
theorem two_rset (h : Two B w0 w db rb E Ld Lr) (id t : Int) (hL : Lr.length ≤ 5000) :
    Calls Try.prog 10 #[.pointer (some ⟨rb, 0, none⟩), .int .i64 id, .int .i64 t] w fun e w' => e = .returned (.tuple #[]) ∧ Two B w0 w' db rb E Ld (setL id t Lr) := by
  obtain ⟨A, k1, k2, -⟩ := h.open
  refine (rd_set k1 hL id t).mono fun e w' ⟨q1, q2⟩ => ⟨q1, ?_⟩
  have := k2 w' [] _ (by rw [List.append_nil]; exact q2)
  rw [List.append_nil] at this
  exact this
theorem two_clear (h : Two B w0 w db rb E Ld Lr) (id : Int) :
    Calls Try.prog 11 #[mp db, .int .i64 id] w fun e w' => e = .returned (.bool (hasL id Ld)) ∧ Two B w0 w' db rb E (del id Ld) Lr := by
  obtain ⟨v, S, h1, h2⟩ := h
  exact (dl_clear h2 id).mono fun e w' ⟨k1, k2⟩ => ⟨k1, v, S, h1, k2⟩
theorem two_rclear (h : Two B w0 w db rb E Ld Lr) (id : Int) (hL : Lr.length ≤ 5000) (hn : (Lr.map (·.2)).Nodup) :
    Calls Try.prog 12 #[.pointer (some ⟨rb, 0, none⟩), .int .i64 id] w fun e w' => e = .returned (.bool (hasL id Lr)) ∧ Two B w0 w' db rb E Ld (del id Lr) := by
  obtain ⟨A, k1, k2, -⟩ := h.open
  refine (rd_clear k1 hL id).mono fun e w' ⟨q1, q2⟩ => ⟨by rw [q1, has_del hn], ?_⟩
  have := k2 w' [] _ (by rw [List.append_nil]; exact q2)
  rw [List.append_nil] at this
  exact this
theorem two_when (h : Two B w0 w db rb E Ld Lr) (id : Int) :
    Calls Try.prog 16 #[mp db, .int .i64 id] w fun e w' => e = .returned (.tuple #[.int .i64 ((whenL id Ld).getD 0), .bool (whenL id Ld).isSome]) ∧ w' = w := by
  obtain ⟨v, S, h1, h2⟩ := h
  exact dl_when h2 id
theorem two_rwhen (h : Two B w0 w db rb E Ld Lr) (id : Int) (hL : Lr.length ≤ 5000) :
    Calls Try.prog 17 #[.pointer (some ⟨rb, 0, none⟩), .int .i64 id] w fun e w' => e = .returned (.tuple #[.int .i64 ((whenL id Lr).getD 0), .bool (whenL id Lr).isSome]) ∧ w' = w := by
  obtain ⟨A, k1, k2, -⟩ := h.open
  exact rd_when k1 hL id
theorem two_next (h : Two B w0 w db rb E Ld Lr) {r : Option Int} (hr : Ld.head?.map (·.1) = r) :
    Calls Try.prog 18 #[mp db] w fun e w' => e = .returned (.tuple #[.int .i64 (r.getD 0), .bool r.isSome]) ∧ w' = w := by
  obtain ⟨v, S, h1, h2⟩ := h
  exact dial_next h2 hr
theorem two_len (h : Two B w0 w db rb E Ld Lr) : Calls Try.prog 19 #[mp db] w fun e w' => e = .returned (.int .i64 Ld.length) ∧ w' = w := by
  obtain ⟨v, S, h1, h2⟩ := h
  exact dl_len h2
/-- What is due, of both: rows that read alike. -/
theorem two_due (h : Two B w0 w db rb E Ld Lr) (now : Int) (hn : T64 now) :
    Calls Try.prog 14 #[mp db, .int .i64 now] w fun e w' => ∃ u S, e = .returned u ∧ SlIs 3 1 u (dueL now Ld).length (idsV (dueL now Ld)) S ∧ Two B w0 w' db rb (S ++ E) (restL now Ld) Lr := by
  obtain ⟨v, S, h1, h2⟩ := h
  refine (dl_due h2 now hn h2.len).mono fun e w' ⟨u, S', k1, k2, k3⟩ => ⟨u, S', k1, k2, v, S, h1, ?_⟩
  rw [List.append_assoc]; exact k3
theorem two_rdue (h : Two B w0 w db rb (S ++ E) Ld Lr) (now : Int) (hL : Lr.length ≤ 5000) {u : Value} (hu : SlIs 3 1 u (dueL now Lr).length (idsV (dueL now Lr)) S) :
    Calls Try.prog 15 #[.pointer (some ⟨rb, 0, none⟩), .int .i64 now] w fun e w' => ∃ a cap, e = .returned (.slice a (dueL now Lr).length cap) ∧ ReadInts w' u ((dueL now Lr).map (·.2)) ∧ ReadInts w' (.slice a (dueL now Lr).length cap) ((dueL now Lr).map (·.2)) ∧ Two B w0 w' db rb E Ld (restL now Lr) := by
  obtain ⟨A, k1, k2, -⟩ := h.open
  refine (rd_due k1 hL now).mono ?_
  rintro e w' ⟨u', So, rfl, q1, q2⟩
  obtain ⟨a, cap, rfl, -, -, -⟩ := q1.form
  have hT := k2 w' So _ q2
  obtain ⟨A', -, -, k⟩ := hT.open
  have hl : (dueL now Lr).length = ((dueL now Lr).map (·.2)).length := by simp
  have r1 : ReadInts w' (.slice a (dueL now Lr).length cap) ((dueL now Lr).map (·.2)) := by
    rw [idsV_eq] at q1
    have q1' := q1
    conv at q1' => arg 3; rw [hl]
    conv at q1' => arg 4; rw [hl]
    have k' : St B w0 w' ((A' ++ (S ++ E)) ++ So) := by simpa using k
    have := q1'.readInts k'
    rwa [← hl] at this
  have r2 : ReadInts w' u ((dueL now Lr).map (·.2)) := by
    rw [idsV_eq, hl] at hu
    have k' : St B w0 w' ((A' ++ (E ++ So)) ++ S) := k.perm (by
      classical
      exact List.perm_iff_count.2 fun a => by simp only [List.count_append]; omega)
    exact hu.readInts k'
  refine ⟨a, cap, rfl, r2, r1, hT.sub ?_⟩
  exact (List.sublist_append_right _ _).trans (List.sublist_append_left _ _)
end
end Go.Proofs.Ytldocgpnmfmnaaa
