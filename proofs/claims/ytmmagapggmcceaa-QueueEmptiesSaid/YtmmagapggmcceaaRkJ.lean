/- A rack as its callers see it: what it holds, in order; new, its length, the first, the worst. -/
import Derived.Test.YtmmagapggmcceaaRkI
namespace Go.Proofs.Ytmmagapggmcceaa
open Go.RowKit
open Go.ChangeMaps (setBlock)
set_option linter.unusedVariables false
set_option linter.unusedSectionVars false
set_option linter.unusedSimpArgs false
set_option maxRecDepth 100000

abbrev rack0 : Obj := .cells #[.slice none 0 0, .map none, .int .i64 0] 57
def RackIs (B : Nat) (w0 w : World) (rk : Nat) (M : List Ent) (F : List (Nat × Obj)) : Prop := RkOk M ∧ ((M = [] ∧ St B w0 w ((rk, rack0) :: F)) ∨ ∃ q rbs, RkAt B w0 w rk q rbs (rowsM M) M F)
section
variable {B : Nat} {w0 w w' : World} {rk : Nat} {M : List Ent} {F F' : List (Nat × Obj)} {e : Ent}
theorem RackIs.ok (h : RackIs B w0 w rk M F) : RkOk M := h.1
theorem RackIs.beside (h : RackIs B w0 w rk M F) : ∃ S, St B w0 w (S ++ F) ∧ ∀ w' F', St B w0 w' (S ++ F') → RackIs B w0 w' rk M F' := by
  obtain ⟨h1, ⟨h2, h3⟩ | ⟨q, rbs, h2⟩⟩ := h
  · exact ⟨[(rk, rack0)], h3, fun w' F' h' => ⟨h1, .inl ⟨h2, h'⟩⟩⟩
  · obtain ⟨S, s1, s2⟩ := h2.beside
    exact ⟨S, s1, fun w' F' h' => ⟨h1, .inr ⟨q, rbs, s2 _ _ h'⟩⟩⟩
theorem RackIs.grow (h : RackIs B w0 w rk M F) (hb : Below w.heap.size w w') : RackIs B w0 w' rk M F := by
  obtain ⟨S, h1, h2⟩ := h.beside
  exact h2 _ _ (h1.grow hb)
theorem RackIs.sub (h : RackIs B w0 w rk M F) (hs : F'.Sublist F) : RackIs B w0 w rk M F' := by
  obtain ⟨S, h1, h2⟩ := h.beside
  exact h2 _ _ (h1.sub ((List.Sublist.refl S).append hs))
theorem RackIs.permF (h : RackIs B w0 w rk M F) (hp : F.Perm F') : RackIs B w0 w rk M F' := by
  obtain ⟨S, h1, h2⟩ := h.beside
  exact h2 _ _ (h1.perm (hp.append_left S))
theorem RackIs.alloc (h : RackIs B w0 w rk M F) (o : Obj) : RackIs B w0 (w.alloc o) rk M ((w.heap.size, o) :: F) := by
  obtain ⟨S, h1, h2⟩ := h.beside
  exact h2 _ _ ((h1.alloc o).perm List.perm_middle.symm)
theorem RackIs.below (h : RackIs B w0 w rk M F) : Below B w0 w := by
  obtain ⟨S, h1, -⟩ := h.beside
  exact h1.below
theorem RackIs.st (h : RackIs B w0 w rk M F) : ∃ S, St B w0 w (S ++ F) := by
  obtain ⟨S, h1, -⟩ := h.beside
  exact ⟨S, h1⟩
theorem RkAt.alloc {q : Nat} {rbs : List Nat} {R : List (List Int)} {H : List Ent} (h : RkAt B w0 w rk q rbs R H F) (o : Obj) : RkAt B w0 (w.alloc o) rk q rbs R H ((w.heap.size, o) :: F) := by
  obtain ⟨S, h1, h2⟩ := h.beside
  exact h2 _ _ ((h1.alloc o).perm List.perm_middle.symm)
theorem rows_in (M : List Ent) : ∀ l ∈ rowsM M, ∀ k ∈ l, ∃ x ∈ M, x.id = k := by
  intro l hl k hk
  simp only [rowsM, List.mem_cons, List.not_mem_nil, or_false] at hl
  rcases hl with rfl | rfl | rfl | rfl <;>
  · obtain ⟨x, hx, e⟩ := List.mem_map.1 hk
    exact ⟨x, (mem_entP.1 hx).1, e⟩

set_option maxHeartbeats 400000 in
theorem rk_new (h : St B w0 w F) : Calls Try.prog 31 #[] w fun e w' => e = .returned (rptr w.heap.size) ∧ RackIs B w0 w' w.heap.size [] F := by
  have h1 : RackIs B w0 (w.alloc rack0) w.heap.size [] F := ⟨RkOk.nil, .inl ⟨rfl, h.alloc _⟩⟩
  replace h1 := Lib.hid h1
  clear h
  go_enter Try.func31, Try.ntmps31
  go_wp2_with fail
  go_ret
  exact ⟨rfl, h1.out⟩

theorem rk_len (h : RackIs B w0 w rk M F) : Calls Try.prog 25 #[rptr rk] w fun e w' => e = .returned (.int .i64 M.length) ∧ w' = w := by
  obtain ⟨h1, ⟨rfl, h3⟩ | ⟨q, rbs, h2⟩⟩ := h
  · have c1 : w.cell? ⟨rk, 1, none⟩ = some (.map none) := h3.cell (b := rk) List.mem_cons_self rfl
    have gl := fun ty => run_lenE_nil (P := Try.prog) (w := w) (ty := ty) uMapE
    clear h3 h1
    go_enter Try.func25, Try.ntmps25
    go_wp2_with fail
    go_ret
    exact ⟨rfl, rfl⟩
  · obtain ⟨mb, hl, -⟩ := h2.look
    have c1 := hl.c1
    have gl := hl.len
    clear h2 h1 hl
    generalize M.length = L at *
    go_enter Try.func25, Try.ntmps25
    go_wp2_with fail
    go_ret
    exact ⟨rfl, rfl⟩

set_option maxHeartbeats 2000000 in
/-- With no rows there is nothing. -/
theorem head_none (h : St B w0 w ((rk, rack0) :: F)) {a s : Int} (ha : a = 0 ∨ a = -1) : Calls Try.prog 54 #[rptr rk, .int .i64 a, .int .i64 s] w (HeadR [] none w) := by
  have h1 := (h.alloc (enO z0E)).perm (List.Perm.swap _ _ _)
  have c0 : (w.alloc (enO z0E)).cell? ⟨rk, 0, none⟩ = some (.slice none 0 0) := h1.cell (b := rk) List.mem_cons_self rfl
  have h2 := h.alloc (enO z0E)
  obtain ⟨z0, z1, z2, z3, z4, z5, z6, z7, z8, z9⟩ := h2.enAt List.mem_cons_self
  have zs := fun i => h2.soft (b := w.heap.size) List.mem_cons_self i
  have finE := Lib.hid (h2.enAt List.mem_cons_self)
  have finB := Lib.hid (new_below w (enO z0E))
  clear h h1 h2
  replace ha := Lib.hid ha
  go_enter Try.func54, Try.ntmps54
  go_wp2_with fail
  refine wp_scope_ghost 0 (fun g a' w' => g = 0 ∧ ∃ at_ : Int, (at_ = 0 ∨ at_ = -1) ∧ Fr 43 [(0, rptr rk), (1, .int .i64 at_), (2, .int .i64 s), (6, .pointer (some ⟨w.heap.size, 0, none⟩))] a' ∧ w' = w.alloc (enO z0E)) rfl ?_ ?_
  · rintro g a' wr ⟨hg, at_, ha, hfr, rfl⟩
    obtain ⟨fr, rfl, hl'⟩ := hfr.lit
    clear hfr
    simp only [List.mem_cons, List.not_mem_nil, or_false, forall_eq_or_imp, forall_eq] at hl'
    obtain ⟨f0, f1, f2, f6⟩ := hl'
    simp only [List.range, List.range.loop, List.map, f0, f1, f2, f6]
    clear f0 f1 f2 f6
    rcases ha with rfl | rfl
    all_goals
      go_wp2_with fail
      simp only [Exit.jump]
      exact bodyPost_ret (ret_entry2 rfl rfl rfl finE.out rfl) rfl ⟨⟨_, _, rfl, rfl, rfl⟩, finB.out⟩
  · intro HJ
    go_wp2_with fail
    refine wp_label ?_
    go_step
    go_step
    exact HJ 0 _ _ ⟨rfl, a, ha.out, ⟨rfl, rfl, by simp⟩, rfl⟩

def firstV (M : List Ent) : Value := match M with | [] => .tuple #[enV z0E, .bool false] | e :: _ => .tuple #[enV e, .bool true]
theorem Ahd.first (R : List (List Int)) (h : R.length = 4) : Ahd R 0 1 R := ⟨.inl ⟨rfl, by omega, by omega, by simp⟩, h⟩
theorem Ahd.last (R : List (List Int)) (h : R.length = 4) : Ahd R 3 (-1) R.reverse := ⟨.inr ⟨rfl, by rw [List.length_reverse]; omega, by rw [List.length_reverse, List.take_length]⟩, h⟩

theorem first_head (h : RackIs B w0 w rk M F) : Calls Try.prog 54 #[rptr rk, .int .i64 0, .int .i64 1] w fun r w' => (∃ (x : Ent) (b : Bool), r = .returned (.tuple #[enV x, .bool b]) ∧ firstV M = .tuple #[enV x, .bool b]) ∧ Below w.heap.size w w' := by
  obtain ⟨h1, ⟨rfl, h3⟩ | ⟨q, rbs, h2⟩⟩ := h
  · refine (head_none h3 (a := 0) (s := 1) (.inl rfl)).mono ?_
    rintro r w' ⟨⟨x, b, rfl, rfl, rfl⟩, hb⟩
    exact ⟨⟨_, _, rfl, rfl⟩, hb⟩
  · refine (head_any h2 (rows_in M) (Ahd.first (rowsM M) rfl)).mono ?_
    rw [look_first h1]
    rintro r w' ⟨⟨x, b, rfl, hx⟩, hb⟩
    refine ⟨⟨x, b, rfl, ?_⟩, hb⟩
    cases M with
    | nil =>
      obtain ⟨rfl, rfl⟩ := hx
      rfl
    | cons y M =>
      simp only [List.head?_cons, Option.map_some] at hx
      obtain ⟨h3, h4, rfl⟩ := hx
      rw [h1.inj h3 List.mem_cons_self h4]
      rfl
def WorstR (M : List Ent) (x : Ent) (b : Bool) : Prop := (M = [] ∧ x = z0E ∧ b = false) ∨ (IsWorst M x ∧ b = true)
theorem worst_head (h : RackIs B w0 w rk M F) : ∃ n : Nat, (∃ a, w.cell? ⟨rk, 0, none⟩ = some (.slice a n n) ∧ ∀ w', Below w.heap.size w w' → w'.cell? ⟨rk, 0, none⟩ = some (.slice a n n)) ∧ n ≤ 4 ∧ Calls Try.prog 54 #[rptr rk, .int .i64 ((n : Int) - 1), .int .i64 (-1)] w fun r w' => (∃ (x : Ent) (b : Bool), r = .returned (.tuple #[enV x, .bool b]) ∧ WorstR M x b) ∧ Below w.heap.size w w' := by
  obtain ⟨h1, ⟨rfl, h3⟩ | ⟨q, rbs, h2⟩⟩ := h
  · have c0 : w.cell? ⟨rk, 0, none⟩ = some (.slice none 0 0) := h3.cell (b := rk) List.mem_cons_self rfl
    refine ⟨0, ⟨_, c0, fun w' hb => cellUp c0 hb⟩, by omega, (head_none h3 (a := ((0 : Nat) : Int) - 1) (s := -1) (.inr rfl)).mono ?_⟩
    rintro r w' ⟨⟨x, b, rfl, rfl, rfl⟩, hb⟩
    exact ⟨⟨_, _, rfl, .inl ⟨rfl, rfl, rfl⟩⟩, hb⟩
  · refine ⟨4, ⟨_, h2.c0, fun w' hb => cellUp h2.c0 hb⟩, by omega, (head_any h2 (rows_in M) (at_ := ((4 : Nat) : Int) - 1) (s := -1) (X := (rowsM M).reverse) (by rw [show (((4 : Nat) : Int) - 1) = 3 from rfl]; exact Ahd.last (rowsM M) rfl)).mono ?_⟩
    have hw := look_worst h1
    generalize lookR (rowsM M).reverse = k at *
    rintro r w' ⟨⟨x, b, rfl, hx⟩, hb⟩
    refine ⟨⟨x, b, rfl, ?_⟩, hb⟩
    cases k with
    | none =>
      obtain ⟨rfl, rfl⟩ := hx
      exact .inl ⟨hw, rfl, rfl⟩
    | some k =>
      obtain ⟨h3, h4, rfl⟩ := hx
      obtain ⟨y, h5, h6⟩ := hw
      rw [← h1.inj h6.mem h3 (by omega)]
      exact .inr ⟨h6, rfl⟩

set_option maxHeartbeats 400000 in
theorem rk_first (h : RackIs B w0 w rk M F) : Calls Try.prog 41 #[rptr rk] w fun r w' => r = .returned (firstV M) ∧ Below w.heap.size w w' := by
  have h1 := (h.alloc (enO z0E))
  have c := Lib.hid (first_head h1)
  have fin : Hid (∀ (x : Ent) w', Below (w.alloc (enO z0E)).heap.size (w.alloc (enO z0E)) w' → EnAt w' w.heap.size z0E ∧ (∀ i, w'.frozen? ⟨w.heap.size, i, none⟩ = false) ∧ EnAt (enPut w' w.heap.size x) w.heap.size x ∧ Below w.heap.size w (enPut w' w.heap.size x)) := Lib.hid fun x w' hb => by
    obtain ⟨S, hs⟩ := (h1.grow hb).st
    have hs2 := hs.perm List.perm_middle
    exact ⟨hs2.enAt List.mem_cons_self, fun i => hs2.soft (b := w.heap.size) List.mem_cons_self i, (hs2.enPut (e := x)).enAt List.mem_cons_self, Below.enPut (bel (new_below _ _) hb) (Nat.le_refl _)⟩
  clear h h1
  go_enter Try.func41, Try.ntmps41
  go_wp2_with fail
  refine c.out.mono ?_
  rintro r w1 ⟨⟨x, b, rfl, hx⟩, hb⟩
  obtain ⟨⟨z0, z1, z2, z3, z4, z5, z6, z7, z8, z9⟩, zs, finE, finB⟩ := fin.out x w1 hb
  replace finE := Lib.hid finE
  replace finB := Lib.hid finB
  replace hx := Lib.hid hx
  clear fin hb c
  go_wp2_with fail
  exact bodyPost_ret (ret_entry2 rfl rfl rfl finE.out rfl) rfl ⟨by rw [hx.out], finB.out⟩

set_option maxHeartbeats 400000 in
theorem rk_worst (h : RackIs B w0 w rk M F) : Calls Try.prog 40 #[rptr rk] w fun r w' => (∃ (x : Ent) (b : Bool), r = .returned (.tuple #[enV x, .bool b]) ∧ WorstR M x b) ∧ Below w.heap.size w w' := by
  have h1 := (h.alloc (enO z0E))
  obtain ⟨n, ⟨a, c0, -⟩, hn, c⟩ := worst_head h1
  replace c := Lib.hid c
  have fin : Hid (∀ (x : Ent) w', Below (w.alloc (enO z0E)).heap.size (w.alloc (enO z0E)) w' → EnAt w' w.heap.size z0E ∧ (∀ i, w'.frozen? ⟨w.heap.size, i, none⟩ = false) ∧ EnAt (enPut w' w.heap.size x) w.heap.size x ∧ Below w.heap.size w (enPut w' w.heap.size x)) := Lib.hid fun x w' hb => by
    obtain ⟨S, hs⟩ := (h1.grow hb).st
    have hs2 := hs.perm List.perm_middle
    exact ⟨hs2.enAt List.mem_cons_self, fun i => hs2.soft (b := w.heap.size) List.mem_cons_self i, (hs2.enPut (e := x)).enAt List.mem_cons_self, Below.enPut (bel (new_below _ _) hb) (Nat.le_refl _)⟩
  have n0 : (0 : Int) ≤ n := by omega
  have n1 : (n : Int) ≤ 4 := by omega
  clear h h1
  go_enter Try.func40, Try.ntmps40
  go_wp2_with fail
  refine c.out.mono ?_
  rintro r w1 ⟨⟨x, b, rfl, hx⟩, hb⟩
  obtain ⟨⟨z0, z1, z2, z3, z4, z5, z6, z7, z8, z9⟩, zs, finE, finB⟩ := fin.out x w1 hb
  replace finE := Lib.hid finE
  replace finB := Lib.hid finB
  replace hx := Lib.hid hx
  clear fin hb c
  go_wp2_with fail
  exact bodyPost_ret (ret_entry2 rfl rfl rfl finE.out rfl) rfl ⟨⟨x, b, rfl, hx.out⟩, finB.out⟩
end
end Go.Proofs.Ytmmagapggmcceaa
