import Derived.Test.YtknjamfjonapiaaGreatDoorY07
namespace Go.Proofs.YtknjamfjonapiaaGreatDoor
open Go.RowKit
open Go.ChangeMaps (setBlock)
set_option linter.unusedVariables false
set_option linter.unusedSectionVars false
set_option linter.unusedSimpArgs false
set_option maxRecDepth 100000
abbrev rack0 : Obj := .cells #[.slice none 0 0, .map none, .int .i64 0] 257
def RackIs (B : Nat) (w0 w : World) (rk : Nat) (M : List Ent) (F : List (Nat × Obj)) : Prop := RkOk M ∧ ((M = [] ∧ St B w0 w ((rk, rack0) :: F)) ∨ ∃ q rbs, RkAt B w0 w rk q rbs (rowsM M) M F)
section
variable {B : Nat} {w0 w w' : World} {rk : Nat} {M : List Ent} {F F' : List (Nat × Obj)} {e : Ent}
theorem RackIs.ok (h : RackIs B w0 w rk M F) : RkOk M := h.1
theorem RackIs.beside (h : RackIs B w0 w rk M F) : ∃ S, St B w0 w (S ++ F) ∧ ∀ w' F', St B w0 w' (S ++ F') → RackIs B w0 w' rk M F' := by
 obtain ⟨h1, ⟨h2, h3⟩ | ⟨q, rbs, h2⟩⟩ := h
 ·exact ⟨[(rk, rack0)], h3, fun w' F' h' => ⟨h1, .inl ⟨h2, h'⟩⟩⟩
 ·obtain ⟨S, s1, s2⟩ := h2.beside
  exact ⟨S, s1, fun w' F' h' => ⟨h1, .inr ⟨q, rbs, s2 _ _ h'⟩⟩⟩
theorem RackIs.grow (h : RackIs B w0 w rk M F) (hb : Below w.heap.size w w') : RackIs B w0 w' rk M F := by
 obtain ⟨S, h1, h2⟩ := h.beside
 exact h2 _ _ (h1.grow hb)
theorem RackIs.sub (h : RackIs B w0 w rk M F) (hs : F'.Sublist F) : RackIs B w0 w rk M F' := by
 obtain ⟨S, h1, h2⟩ := h.beside
 exact h2 _ _ (h1.sub ((List.Sublist.refl S).append hs))
theorem RackIs.permF (h : RackIs B w0 w rk M F) (hp : F.Perm F') : RackIs B w0 w rk M F' := by
 obtain ⟨S, h1, h2⟩ := h.beside
 exact h2 _ _ (h1.perm (hp.append_left S))
theorem RackIs.alloc (h : RackIs B w0 w rk M F) (o : Obj) : RackIs B w0 (w.alloc o) rk M ((w.heap.size, o) :: F) := by
 obtain ⟨S, h1, h2⟩ := h.beside
 exact h2 _ _ ((h1.alloc o).perm List.perm_middle.symm)
theorem RackIs.below (h : RackIs B w0 w rk M F) : Below B w0 w := by
 obtain ⟨S, h1, -⟩ := h.beside
 exact h1.below
theorem RackIs.st (h : RackIs B w0 w rk M F) : ∃ S, St B w0 w (S ++ F) := by
 obtain ⟨S, h1, -⟩ := h.beside
 exact ⟨S, h1⟩
theorem RkAt.alloc {q : Nat} {rbs : List Nat} {R : List (List Int)} {H : List Ent} (h : RkAt B w0 w rk q rbs R H F) (o : Obj) : RkAt B w0 (w.alloc o) rk q rbs R H ((w.heap.size, o) :: F) := by
 obtain ⟨S, h1, h2⟩ := h.beside
 exact h2 _ _ ((h1.alloc o).perm List.perm_middle.symm)
theorem rows_in (M : List Ent) : ∀ l ∈ rowsM M, ∀ k ∈ l, ∃ x ∈ M, x.id = k := by
 intro l hl k hk
 simp only [rowsM, List.mem_cons, List.not_mem_nil, or_false] at hl
 rcases hl with rfl | rfl | rfl | rfl <;>
 ·obtain ⟨x, hx, e⟩ := List.mem_map.1 hk
  exact ⟨x, (mem_entP.1 hx).1, e⟩
set_option maxHeartbeats 400000 in
theorem rk_new (h : St B w0 w F) : Calls Tryz.prog 190 #[] w fun e w' => e = .returned (rptr w.heap.size) ∧ RackIs B w0 w' w.heap.size [] F := by
 have h1 : RackIs B w0 (w.alloc rack0) w.heap.size [] F := ⟨RkOk.nil, .inl ⟨rfl, h.alloc _⟩⟩
 replace h1 := Lib.hid h1
 clear h
 go_enter Tryz.func190, Tryz.ntmps190
 go_wp2_with fail
 go_ret
 exact ⟨rfl, h1.out⟩
theorem rk_len (h : RackIs B w0 w rk M F) : Calls Tryz.prog 131 #[rptr rk] w fun e w' => e = .returned (.int .i64 M.length) ∧ w' = w := by
 obtain ⟨h1, ⟨rfl, h3⟩ | ⟨q, rbs, h2⟩⟩ := h
 ·have c1 : w.cell? ⟨rk, 1, none⟩ = some (.map none) := h3.cell (b := rk) List.mem_cons_self rfl
  have gl := fun ty => run_lenE_nil (P := Tryz.prog) (w := w) (ty := ty) uMapE
  clear h3 h1
  go_enter Tryz.func131, Tryz.ntmps131
  go_wp2_with fail
  go_ret
  exact ⟨rfl, rfl⟩
 ·obtain ⟨mb, hl, -⟩ := h2.look
  have c1 := hl.c1
  have gl := hl.len
  clear h2 h1 hl
  generalize M.length = L at *
  go_enter Tryz.func131, Tryz.ntmps131
  go_wp2_with fail
  go_ret
  exact ⟨rfl, rfl⟩
set_option maxHeartbeats 2000000 in
theorem head_none (h : St B w0 w ((rk, rack0) :: F)) {a s : Int} (ha : a = 0 ∨ a = -1) : Calls Tryz.prog 256 #[rptr rk, .int .i64 a, .int .i64 s] w (HeadR [] none w) := by
 have h1 := (h.alloc (enO z0E)).perm (List.Perm.swap _ _ _)
 have c0 : (w.alloc (enO z0E)).cell? ⟨rk, 0, none⟩ = some (.slice none 0 0) := h1.cell (b := rk) List.mem_cons_self rfl
 have h2 := h.alloc (enO z0E)
 obtain ⟨z0, z1, z2, z3, z4, z5, z6, z7, z8, z9⟩ := h2.enAt List.mem_cons_self
 have zs := fun i => h2.soft (b := w.heap.size) List.mem_cons_self i
 have finE := Lib.hid (h2.enAt List.mem_cons_self)
 have finB := Lib.hid (new_below w (enO z0E))
 clear h h1 h2
 replace ha := Lib.hid ha
 go_enter Tryz.func256, Tryz.ntmps256
 go_wp2_with fail
 refine wp_scope_ghost 0 (fun g a' w' => g = 0 ∧ ∃ at_ : Int, (at_ = 0 ∨ at_ = -1) ∧ Fr 43 [(0, rptr rk), (1, .int .i64 at_), (2, .int .i64 s), (6, .pointer (some ⟨w.heap.size, 0, none⟩))] a' ∧ w' = w.alloc (enO z0E)) rfl ?_ ?_
 ·rintro g a' wr ⟨hg, at_, ha, hfr, rfl⟩
  obtain ⟨fr, rfl, hl'⟩ := hfr.lit
  clear hfr
  simp only [List.mem_cons, List.not_mem_nil, or_false, forall_eq_or_imp, forall_eq] at hl'
  obtain ⟨f0, f1, f2, f6⟩ := hl'
  simp only [List.range, List.range.loop, List.map, f0, f1, f2, f6]
  clear f0 f1 f2 f6
  rcases ha with rfl | rfl
  all_goals
   go_wp2_with fail
   simp only [Exit.jump]
   exact bodyPost_ret (ret_entry2 rfl rfl rfl finE.out rfl) rfl ⟨⟨_, _, rfl, rfl, rfl⟩, finB.out⟩
 ·intro HJ
  go_wp2_with fail
  refine wp_label ?_
  go_step
  go_step
  exact HJ 0 _ _ ⟨rfl, a, ha.out, ⟨rfl, rfl, by simp⟩, rfl⟩
def firstV (M : List Ent) : Value := match M with | [] => .tuple #[enV z0E, .bool false] | e :: _ => .tuple #[enV e, .bool true]
theorem Ahd.first (R : List (List Int)) (h : R.length = 4) : Ahd R 0 1 R := ⟨.inl ⟨rfl, by omega, by omega, by simp⟩, h⟩
theorem Ahd.last (R : List (List Int)) (h : R.length = 4) : Ahd R 3 (-1) R.reverse := ⟨.inr ⟨rfl, by rw [List.length_reverse]; omega, by rw [List.length_reverse, List.take_length]⟩, h⟩
theorem first_head (h : RackIs B w0 w rk M F) : Calls Tryz.prog 256 #[rptr rk, .int .i64 0, .int .i64 1] w fun r w' => (∃ (x : Ent) (b : Bool), r = .returned (.tuple #[enV x, .bool b]) ∧ firstV M = .tuple #[enV x, .bool b]) ∧ Below w.heap.size w w' := by
 obtain ⟨h1, ⟨rfl, h3⟩ | ⟨q, rbs, h2⟩⟩ := h
 ·refine (head_none h3 (a := 0) (s := 1) (.inl rfl)).mono ?_
  rintro r w' ⟨⟨x, b, rfl, rfl, rfl⟩, hb⟩
  exact ⟨⟨_, _, rfl, rfl⟩, hb⟩
 ·refine (head_any h2 (rows_in M) (Ahd.first (rowsM M) rfl)).mono ?_
  rw [look_first h1]
  rintro r w' ⟨⟨x, b, rfl, hx⟩, hb⟩
  refine ⟨⟨x, b, rfl, ?_⟩, hb⟩
  cases M with
  | nil =>
   obtain ⟨rfl, rfl⟩ := hx
   rfl
  | cons y M =>
   simp only [List.head?_cons, Option.map_some] at hx
   obtain ⟨h3, h4, rfl⟩ := hx
   rw [h1.inj h3 List.mem_cons_self h4]
   rfl
def WorstR (M : List Ent) (x : Ent) (b : Bool) : Prop := (M = [] ∧ x = z0E ∧ b = false) ∨ (IsWorst M x ∧ b = true)
theorem worst_head (h : RackIs B w0 w rk M F) : ∃ n : Nat, (∃ a, w.cell? ⟨rk, 0, none⟩ = some (.slice a n n) ∧ ∀ w', Below w.heap.size w w' → w'.cell? ⟨rk, 0, none⟩ = some (.slice a n n)) ∧ n ≤ 4 ∧ Calls Tryz.prog 256 #[rptr rk, .int .i64 ((n : Int) - 1), .int .i64 (-1)] w fun r w' => (∃ (x : Ent) (b : Bool), r = .returned (.tuple #[enV x, .bool b]) ∧ WorstR M x b) ∧ Below w.heap.size w w' := by
 obtain ⟨h1, ⟨rfl, h3⟩ | ⟨q, rbs, h2⟩⟩ := h
 ·have c0 : w.cell? ⟨rk, 0, none⟩ = some (.slice none 0 0) := h3.cell (b := rk) List.mem_cons_self rfl
  refine ⟨0, ⟨_, c0, fun w' hb => cellUp c0 hb⟩, by omega, (head_none h3 (a := ((0 : Nat) : Int) - 1) (s := -1) (.inr rfl)).mono ?_⟩
  rintro r w' ⟨⟨x, b, rfl, rfl, rfl⟩, hb⟩
  exact ⟨⟨_, _, rfl, .inl ⟨rfl, rfl, rfl⟩⟩, hb⟩
 ·refine ⟨4, ⟨_, h2.c0, fun w' hb => cellUp h2.c0 hb⟩, by omega, (head_any h2 (rows_in M) (at_ := ((4 : Nat) : Int) - 1) (s := -1) (X := (rowsM M).reverse) (by rw [show (((4 : Nat) : Int) - 1) = 3 from rfl]; exact Ahd.last (rowsM M) rfl)).mono ?_⟩
  have hw := look_worst h1
  generalize lookR (rowsM M).reverse = k at *
  rintro r w' ⟨⟨x, b, rfl, hx⟩, hb⟩
  refine ⟨⟨x, b, rfl, ?_⟩, hb⟩
  cases k with
  | none =>
   obtain ⟨rfl, rfl⟩ := hx
   exact .inl ⟨hw, rfl, rfl⟩
  | some k =>
   obtain ⟨h3, h4, rfl⟩ := hx
   obtain ⟨y, h5, h6⟩ := hw
   rw [← h1.inj h6.mem h3 (by omega)]
   exact .inr ⟨h6, rfl⟩
set_option maxHeartbeats 400000 in
theorem rk_first (h : RackIs B w0 w rk M F) : Calls Tryz.prog 212 #[rptr rk] w fun r w' => r = .returned (firstV M) ∧ Below w.heap.size w w' := by
 have h1 := (h.alloc (enO z0E))
 have c := Lib.hid (first_head h1)
 have fin : Hid (∀ (x : Ent) w', Below (w.alloc (enO z0E)).heap.size (w.alloc (enO z0E)) w' → EnAt w' w.heap.size z0E ∧ (∀ i, w'.frozen? ⟨w.heap.size, i, none⟩ = false) ∧ EnAt (enPut w' w.heap.size x) w.heap.size x ∧ Below w.heap.size w (enPut w' w.heap.size x)) := Lib.hid fun x w' hb => by
  obtain ⟨S, hs⟩ := (h1.grow hb).st
  have hs2 := hs.perm List.perm_middle
  exact ⟨hs2.enAt List.mem_cons_self, fun i => hs2.soft (b := w.heap.size) List.mem_cons_self i, (hs2.enPut (e := x)).enAt List.mem_cons_self, Below.enPut (bel (new_below _ _) hb) (Nat.le_refl _)⟩
 clear h h1
 go_enter Tryz.func212, Tryz.ntmps212
 go_wp2_with fail
 refine c.out.mono ?_
 rintro r w1 ⟨⟨x, b, rfl, hx⟩, hb⟩
 obtain ⟨⟨z0, z1, z2, z3, z4, z5, z6, z7, z8, z9⟩, zs, finE, finB⟩ := fin.out x w1 hb
 replace finE := Lib.hid finE
 replace finB := Lib.hid finB
 replace hx := Lib.hid hx
 clear fin hb c
 go_wp2_with fail
 exact bodyPost_ret (ret_entry2 rfl rfl rfl finE.out rfl) rfl ⟨by rw [hx.out], finB.out⟩
set_option maxHeartbeats 400000 in
theorem rk_worst (h : RackIs B w0 w rk M F) : Calls Tryz.prog 365 #[rptr rk] w fun r w' => (∃ (x : Ent) (b : Bool), r = .returned (.tuple #[enV x, .bool b]) ∧ WorstR M x b) ∧ Below w.heap.size w w' := by
 have h1 := (h.alloc (enO z0E))
 obtain ⟨n, ⟨a, c0, -⟩, hn, c⟩ := worst_head h1
 replace c := Lib.hid c
 have fin : Hid (∀ (x : Ent) w', Below (w.alloc (enO z0E)).heap.size (w.alloc (enO z0E)) w' → EnAt w' w.heap.size z0E ∧ (∀ i, w'.frozen? ⟨w.heap.size, i, none⟩ = false) ∧ EnAt (enPut w' w.heap.size x) w.heap.size x ∧ Below w.heap.size w (enPut w' w.heap.size x)) := Lib.hid fun x w' hb => by
  obtain ⟨S, hs⟩ := (h1.grow hb).st
  have hs2 := hs.perm List.perm_middle
  exact ⟨hs2.enAt List.mem_cons_self, fun i => hs2.soft (b := w.heap.size) List.mem_cons_self i, (hs2.enPut (e := x)).enAt List.mem_cons_self, Below.enPut (bel (new_below _ _) hb) (Nat.le_refl _)⟩
 have n0 : (0 : Int) ≤ n := by omega
 have n1 : (n : Int) ≤ 4 := by omega
 clear h h1
 go_enter Tryz.func365, Tryz.ntmps365
 go_wp2_with fail
 refine c.out.mono ?_
 rintro r w1 ⟨⟨x, b, rfl, hx⟩, hb⟩
 obtain ⟨⟨z0, z1, z2, z3, z4, z5, z6, z7, z8, z9⟩, zs, finE, finB⟩ := fin.out x w1 hb
 replace finE := Lib.hid finE
 replace finB := Lib.hid finB
 replace hx := Lib.hid hx
 clear fin hb c
 go_wp2_with fail
 exact bodyPost_ret (ret_entry2 rfl rfl rfl finE.out rfl) rfl ⟨⟨x, b, rfl, hx.out⟩, finB.out⟩
end
end Go.Proofs.YtknjamfjonapiaaGreatDoor
namespace Go.Proofs.YtknjamfjonapiaaGreatDoor
open Go.RowKit
open Go.ChangeMaps (setBlock)
set_option linter.unusedVariables false
set_option linter.unusedSectionVars false
set_option linter.unusedSimpArgs false
set_option maxRecDepth 100000
theorem row_no {p : Int} (h : 0 ≤ p ∧ p ≤ 3) : ∃ i : Nat, i < 4 ∧ p = 3 - (i : Int) := ⟨(3 - p).toNat, by omega, by omega⟩
theorem rows_get {M : List Ent} {i : Nat} (h : i < 4) : (rowsM M)[i]? = some (rowP M (3 - (i : Int))) := by
 rcases (by omega : i = 0 ∨ i = 1 ∨ i = 2 ∨ i = 3) with rfl | rfl | rfl | rfl <;> rfl
theorem rows_put {M : List Ent} (h : RkOk M) {e : Ent} (hn : ∀ x ∈ M, x.id ≠ e.id) {i : Nat} (hi : i < 4) (hp : e.prio = 3 - (i : Int)) : (rowsM M).set i (rkPutRow (rowP M e.prio) e.id) = rowsM (insM e M) := by
 unfold rowsM
 rw [ins_row h hn 3, ins_row h hn 2, ins_row h hn 1, ins_row h hn 0]
 rcases (by omega : i = 0 ∨ i = 1 ∨ i = 2 ∨ i = 3) with rfl | rfl | rfl | rfl
 ·have : e.prio = 3 := by simpa using hp
  simp [this]
 ·have : e.prio = 2 := by simpa using hp
  simp [this]
 ·have : e.prio = 1 := by simpa using hp
  simp [this]
 ·have : e.prio = 0 := by simpa using hp
  simp [this]
theorem rows_cut {M : List Ent} (h : RkOk M) {e : Ent} (he : e ∈ M) {i : Nat} (hi : i < 4) (hp : e.prio = 3 - (i : Int)) : (rowsM M).set i ((rowP M e.prio).eraseIdx (cntL (rowP M e.prio) e.id)) = rowsM (delM M e.id) := by
 unfold rowsM
 rw [del_rows h he 3, del_rows h he 2, del_rows h he 1, del_rows h he 0]
 rcases (by omega : i = 0 ∨ i = 1 ∨ i = 2 ∨ i = 3) with rfl | rfl | rfl | rfl
 ·have : e.prio = 3 := by simpa using hp
  simp [this]
 ·have : e.prio = 2 := by simpa using hp
  simp [this]
 ·have : e.prio = 1 := by simpa using hp
  simp [this]
 ·have : e.prio = 0 := by simpa using hp
  simp [this]
theorem row_le (M : List Ent) (p : Int) : (rowP M p).length ≤ M.length := by
 unfold rowP entP
 rw [List.length_map]
 exact List.length_filter_le _ _
theorem row_mem {M : List Ent} {p k : Int} (h : k ∈ rowP M p) : ∃ x ∈ M, x.id = k ∧ x.prio = p := by
 obtain ⟨x, hx, e⟩ := List.mem_map.1 h
 exact ⟨x, (mem_entP.1 hx).1, e, (mem_entP.1 hx).2⟩
section
variable {B : Nat} {w0 w w' : World} {rk q rb i : Nat} {rbs : List Nat} {R : List (List Int)} {H : List Ent} {F F' : List (Nat × Obj)} {l : List Int} {e : Ent}
theorem RkAt.row_at (h : RkAt B w0 w rk q rbs R H F) (hi : i < 4) : ∃ rb, rbs[i]? = some rb := ⟨rbs[i]'(by have := h.len; omega), List.getElem?_eq_getElem _⟩
theorem RkAt.most (h : RkAt B w0 w rk q rbs R H F) : ∃ m : Nat, m ≤ 100000 ∧ w.cell? ⟨rk, 2, none⟩ = some (.int .i64 m) ∧ ∀ n : Nat, n ≤ 100000 → RkAt B w0 (w.setCell ⟨rk, 2, none⟩ (.int .i64 n)) rk q rbs R H F := by
 obtain ⟨mb, es, clk, most, G, ⟨a1, a2, a3, a4, a5, a6⟩, h2⟩ := h
 exact ⟨most, a5, h2.cell (b := rk) List.mem_cons_self rfl, fun n hn => ⟨mb, es, clk, n, G, ⟨a1, a2, a3, a4, hn, a6⟩, h2.set0 2 (.int .i64 n)⟩⟩
theorem RkAt.put (h : RkAt B w0 w rk q rbs R H F) (he : e.id ∉ H.map (·.id)) (hl : H.length < 100000) : ∃ mb W, w.cell? ⟨rk, 1, none⟩ = some (.map (some mb)) ∧
  (∀ w', Below w.heap.size w w' → ∃ W, (Instr.mapUpdate 255 (.map (some mb)) (.int .i64 e.id) (enV e)).run Tryz.prog w' = .ok () W ∧ RkAt B w0 W rk q rbs R (e :: H) F) ∧ W = w := by
 obtain ⟨mb, es, clk, c1, hg, ho, hback⟩ := h.map
 refine ⟨mb, w, c1, fun w' hb => ?_, rfl⟩
 have h' := h.grow hb
 obtain ⟨mb', es', clk', c1', hg', ho', hback'⟩ := h'.map
 have e1 := (cellUp c1 hb).symm.trans c1'
 simp only [Option.some.injEq, Value.map.injEq] at e1
 subst e1
 exact ⟨_, run_mapE_new keyI uMapE hg' (k := e.id) trivial (fun _ _ => trivial) (enV e) (ho'.none he), hback' _ _ _ (ho'.put he) (by rw [List.length_cons]; omega)⟩
def rowsPart (rbs : List Nat) : Obj := .cells (rbs.map rptr ++ List.replicate (4 - rbs.length) (Value.pointer none)).toArray 260
theorem infRing : (Tryz.prog.info? 260).map (fun i => (i.zero, i.size, i.bytes)) = some (some (.pointer none), 1, 8) := by kernel_rfl
theorem uRings : Tryz.prog.underlying 254 = some (.slice 260) := by kernel_rfl
theorem mk_rings (w : World) : (Instr.makeSlice 254 (.int .i64 4) (.int .i64 4)).run Tryz.prog w = .ok (.slice (some ⟨w.heap.size, 0, none⟩) 4 4) (w.alloc (rowsPart [])) := by
 obtain ⟨i0, hi, hz0, hz1, hz2⟩ := info_parts infRing
 have h := run_make (P := Tryz.prog) w 254 260 i0 (.pointer none) uRings hi hz0 .i64 .i64 4 4 (by decide) (Int.le_refl _) (by rw [hz2]; omega) (by omega)
 rw [h]
 congr 2
 unfold rowsPart
 congr 1
 apply Array.toList_inj.1
 rw [hz1, Nat.mul_one, show (Value.pointer none).cells = #[Value.pointer none] from rfl, toList_madeCells_one]
 simp
def MadeJ (B : Nat) (w0 : World) (q : Nat) (F : List (Nat × Obj)) (g : Nat) (a' : Act) (w' : World) : Prop :=
 ∃ (rbs : List Nat) (G : List RG), rbs.length + g = 4 ∧ G.length = rbs.length ∧ (∀ x ∈ G, x.Wf ∧ x.row = []) ∧ Fr 15 [(1, .slice (some ⟨q, 0, none⟩) 4 4), (2, .int .i64 rbs.length)] a' ∧ St B w0 w' ((q, rowsPart rbs) :: (ringsH rbs G ++ F))
theorem rings_snoc : ∀ {bs : List Nat} {gs : List RG} {b : Nat} {g : RG}, gs.length = bs.length → (ringsH (bs ++ [b]) (gs ++ [g])).Perm ((b, g.obj) :: (g.cellsH ++ ringsH bs gs))
 | [], [], b, g, _ => List.Perm.refl _
 | c :: bs, f :: gs, b, g, h => by
  have ih := rings_snoc (bs := bs) (gs := gs) (b := b) (g := g) (by simpa using h)
  classical
  have h1 := List.perm_iff_count.1 ih
  refine List.perm_iff_count.2 fun a => ?_
  have h2 := h1 a
  simp only [List.cons_append, ringsH, List.count_append, List.count_cons] at h2 ⊢
  omega
 | [], _ :: _, b, g, h => by simp at h
 | _ :: _, [], b, g, h => by simp at h
set_option maxHeartbeats 1000000 in
theorem newRows_any (h : St B w0 w F) : Calls Tryz.prog 265 #[] w fun r w' => ∃ q rbs G, r = .returned (.slice (some ⟨q, 0, none⟩) 4 4) ∧ rbs.length = 4 ∧ (∀ x ∈ G, RG.Wf x) ∧ G.map RG.row = [[], [], [], []] ∧ St B w0 w' ((q, rowsO rbs) :: (ringsH rbs G ++ F)) := by
 have hmk := mk_rings w
 have h1 : St B w0 (w.alloc (rowsPart [])) ((w.heap.size, rowsPart []) :: (ringsH [] [] ++ F)) := h.alloc _
 replace h1 := Lib.hid h1
 clear h
 go_enter Tryz.func265, Tryz.ntmps265
 go_wp2_with fail
 refine wp_scope_ghost 0 (MadeJ B w0 w.heap.size F) rfl ?_ ?_
 ·rintro g a' wr ⟨rbs, G, hg, hG, hW, hfr, hst⟩
  generalize w.heap.size = q at *
  obtain ⟨fr, rfl, hl'⟩ := hfr.lit
  clear hfr h1 hmk
  simp only [List.mem_cons, List.not_mem_nil, or_false, forall_eq_or_imp, forall_eq] at hl'
  obtain ⟨f1, f2⟩ := hl'
  simp only [List.range, List.range.loop, List.map, f1, f2]
  clear f1 f2
  obtain ⟨n, hn⟩ : ∃ n, n = rbs.length := ⟨_, rfl⟩
  rw [← hn] at hg hG ⊢
  by_cases hlt : n < 4
  ·have cn := Lib.hid (ring_new hst)
   have n0 : (0 : Int) ≤ n := by omega
   have n1 : (n : Int) < 4 := by omega
   have fin : Hid (∀ w', RingIs B w0 w' wr.heap.size [] ((q, rowsPart rbs) :: (ringsH rbs G ++ F)) → w'.cell? ⟨q, n, none⟩ = some (.pointer none) ∧ w'.frozen? ⟨q, n, none⟩ = false ∧
     ∀ a', Fr 15 [(1, .slice (some ⟨q, 0, none⟩) 4 4), (2, .int .i64 ((n : Int) + 1))] a' → ∃ m, m < g ∧ MadeJ B w0 q F m a' (w'.setCell ⟨q, n, none⟩ (rptr wr.heap.size))) := by
    refine Lib.hid ?_
    rintro w' ⟨g0, wf0, r0, hR⟩
    have hR1 : St B w0 w' ((wr.heap.size, g0.obj) :: (g0.cellsH ++ ((q, rowsPart rbs) :: (ringsH rbs G ++ F)))) := hR
    have pm : ∀ o : Obj, ((wr.heap.size, g0.obj) :: (g0.cellsH ++ ((q, o) :: (ringsH rbs G ++ F)))).Perm ((q, o) :: (ringsH (rbs ++ [wr.heap.size]) (G ++ [g0]) ++ F)) := fun o => by
     classical
     have h1 := List.perm_iff_count.1 (rings_snoc (bs := rbs) (gs := G) (b := wr.heap.size) (g := g0) (by omega))
     refine List.perm_iff_count.2 fun a => ?_
     have h2 := h1 a
     simp only [List.count_append, List.count_cons] at h2 ⊢
     omega
    have hR2 := hR1.perm (pm _)
    have hset := hR2.set0 n (rptr wr.heap.size)
    have e1 : (rbs.map rptr ++ List.replicate (4 - rbs.length) (Value.pointer none)).toArray.setIfInBounds n (rptr wr.heap.size) = ((rbs ++ [wr.heap.size]).map rptr ++ List.replicate (4 - (rbs ++ [wr.heap.size]).length) (Value.pointer none)).toArray := by
     rw [List.setIfInBounds_toArray]
     congr 1
     rw [List.set_append_right _ _ (by rw [List.length_map]; omega), List.length_map, hn, Nat.sub_self, show 4 - rbs.length = (4 - (rbs ++ [wr.heap.size]).length) + 1 by rw [List.length_append, List.length_singleton]; omega, List.replicate_succ, List.set_cons_zero]
     simp
    rw [e1] at hset
    refine ⟨hR2.cell (b := q) List.mem_cons_self ?_, hR2.soft (b := q) List.mem_cons_self n, fun a' hf => ⟨g - 1, by omega, rbs ++ [wr.heap.size], G ++ [g0], ?_, ?_, ?_, ?_, hset⟩⟩
    ·have h0 : (rbs.map rptr).length ≤ n := by rw [List.length_map]; omega
     rw [List.getElem?_toArray, List.getElem?_append_right h0, List.length_map, hn, Nat.sub_self, show 4 - rbs.length = (4 - rbs.length - 1) + 1 by omega, List.replicate_succ]
     rfl
    ·rw [List.length_append, List.length_singleton]; omega
    ·rw [List.length_append, List.length_append, List.length_singleton, List.length_singleton]; omega
    ·intro x hx
     rcases List.mem_append.1 hx with hx | hx
     ·exact hW x hx
     ·rw [List.mem_singleton] at hx
      subst hx
      exact ⟨wf0, r0⟩
    ·rw [List.length_append, List.length_singleton, ← hn]
     exact hf
   have hne : ((n : Int) == 4) = false := by rw [beq_eq_false_iff_ne]; omega
   clear hst hW hn hG
   go_wp2_with fail
   refine cn.out.mono ?_
   rintro r w2 ⟨rfl, h2⟩
   obtain ⟨k1, k2, fin2⟩ := fin.out _ h2
   replace fin2 := Lib.hid fin2
   clear fin cn h2
   generalize wr.heap.size = nb at *
   go_wp2_with fail
   refine wp_goto ?_
   exact ⟨rfl, fin2.out _ ⟨rfl, rfl, by simp⟩⟩
  ·have hn4 : n = 4 := by omega
   have fin : Hid (∃ q' rbs G, (Ending.returned (.slice (some ⟨q, 0, none⟩) 4 4)) = .returned (.slice (some ⟨q', 0, none⟩) 4 4) ∧ rbs.length = 4 ∧ (∀ x ∈ G, RG.Wf x) ∧ G.map RG.row = [[], [], [], []] ∧ St B w0 wr ((q', rowsO rbs) :: (ringsH rbs G ++ F))) := Lib.hid (by
    refine ⟨q, rbs, G, rfl, by omega, fun x hx => (hW x hx).1, ?_, ?_⟩
    ·have : G.map RG.row = List.replicate G.length [] := by
      rw [List.eq_replicate_iff]
      refine ⟨by simp, fun x hx => ?_⟩
      obtain ⟨y, hy, e⟩ := List.mem_map.1 hx
      rw [← e, (hW y hy).2]
     rw [this, hG, hn4]
     rfl
    ·have e1 : rowsPart rbs = rowsO rbs := by
      unfold rowsPart rowsO
      rw [show 4 - rbs.length = 0 by omega]
      simp
     rw [← e1]
     exact hst)
   subst hn4
   clear hst hW hn hG
   simp only [Int.cast_ofNat_Int]
   go_wp2_with fail
   simp only [Exit.jump]
   go_ret
   exact fin.out
 ·intro HJ
  go_wp2_with fail
  refine wp_label ?_
  go_step
  go_step
  exact HJ 4 _ _ ⟨[], [], rfl, rfl, by simp, ⟨rfl, rfl, by simp⟩, h1.out⟩
end
end Go.Proofs.YtknjamfjonapiaaGreatDoor
namespace Go.Proofs.YtknjamfjonapiaaGreatDoor
open Go.RowKit
open Go.ChangeMaps (setBlock)
set_option linter.unusedVariables false
set_option linter.unusedSectionVars false
set_option linter.unusedSimpArgs false
set_option maxRecDepth 100000
theorem uEqMapE (w : World) (m : Option Nat) : (binOp .eql 255 (.map m) (.map none)).run Tryz.prog w = .ok (.bool m.isNone) w := by
 simp only [binOp]
 simp [run_equal_map_nil w 255 _ _ m uMapE]
def putOk (M : List Ent) (e : Ent) : Bool := decide (e.id ∉ M.map (·.id) ∧ 0 ≤ e.prio ∧ e.prio ≤ 3)
def putM (M : List Ent) (e : Ent) : List Ent := if putOk M e = true then insM e M else M
section
variable {B : Nat} {w0 w : World} {rk : Nat} {M : List Ent} {F : List (Nat × Obj)} {e : Ent}
structure PutSee (rk : Nat) (e : Ent) (th : Bool) (y : Ent) (mv : Option Nat) (W : World) : Prop where
 c1 : W.cell? ⟨rk, 1, none⟩ = some (.map mv)
 look : (Instr.lookup 255 (.map mv) (.int .i64 e.id) true).run Tryz.prog W = .ok (.tuple #[enV y, .bool th]) W
theorem put_see (h : RackIs B w0 w rk M F) (e : Ent) {th : Bool} (hth : th = decide (e.id ∈ M.map (·.id))) : ∃ y mv, (mv = none → ∀ W, Below w.heap.size w W → M = [] ∧ St B w0 W ((rk, rack0) :: F)) ∧
  (∀ mb, mv = some mb → ∀ W, Below w.heap.size w W → ∃ q rbs, RkAt B w0 W rk q rbs (rowsM M) M F) ∧ ∀ W, Below w.heap.size w W → PutSee rk e th y mv W := by
 subst hth
 obtain ⟨h1, ⟨rfl, h3⟩ | ⟨q, rbs, h2⟩⟩ := h
 ·have c1 : w.cell? ⟨rk, 1, none⟩ = some (.map none) := h3.cell (b := rk) List.mem_cons_self rfl
  refine ⟨z0E, none, fun _ W hb => ⟨rfl, h3.grow hb⟩, (fun mb e => by cases e), fun W hb => ⟨cellUp c1 hb, ?_⟩⟩
  exact run_lookE_nil (P := Tryz.prog) (c := true) keyI uMapE (zEnt W) (k := e.id) trivial
 ·obtain ⟨mb, -, hl⟩ := h2.look
  by_cases hin : e.id ∈ M.map (·.id)
  ·obtain ⟨y, hy, hid⟩ := List.mem_map.1 hin
   refine ⟨y, some mb, (fun e => by cases e), fun _ _ W hb => ⟨q, rbs, h2.grow hb⟩, fun W hb => ⟨(hl W hb).c1, ?_⟩⟩
   have := (hl W hb).hit y hy true
   rw [hid] at this
   rw [decide_eq_true hin]
   exact this
  ·refine ⟨z0E, some mb, (fun e => by cases e), fun _ _ W hb => ⟨q, rbs, h2.grow hb⟩, fun W hb => ⟨(hl W hb).c1, ?_⟩⟩
   have := (hl W hb).miss _ hin true
   rw [decide_eq_false hin]
   exact this
set_option maxHeartbeats 2000000 in
theorem rk_put (h : RackIs B w0 w rk M F) (h1 : e.exch.length ≤ 140737488351232) (h2 : e.key.length ≤ 140737488351232) (hlen : M.length < 100000) :
  Calls Tryz.prog 227 #[rptr rk, enV e] w fun r w' => r = .returned (.bool (putOk M e)) ∧ RackIs B w0 w' rk (putM M e) F := by
 have ha := h.alloc (enO e)
 obtain ⟨th, hth⟩ : ∃ th, th = decide (e.id ∈ M.map (·.id)) := ⟨_, rfl⟩
 obtain ⟨y, mv, hnone, hsome, hsee⟩ := put_see ha e hth
 have heb : ∀ W, Below (w.alloc (enO e)).heap.size (w.alloc (enO e)) W → EnAt W w.heap.size e := fun W hb => by
  obtain ⟨S, hs⟩ := ha.st
  exact (hs.grow hb).enAt (List.mem_append_right _ List.mem_cons_self)
 have hs1 : Hid (∀ o, ((w.alloc (enO e)).drew.alloc o).cell? ⟨rk, 1, none⟩ = some (.map mv) ∧ ((w.alloc (enO e)).drew.alloc o).cell? ⟨w.heap.size, 0, none⟩ = some (.int .i64 e.id) ∧ (Instr.lookup 255 (.map mv) (.int .i64 e.id) true).run Tryz.prog ((w.alloc (enO e)).drew.alloc o) = .ok (.tuple #[enV y, .bool th]) ((w.alloc (enO e)).drew.alloc o)) := Lib.hid fun o => by
  have hb : Below (w.alloc (enO e)).heap.size (w.alloc (enO e)) ((w.alloc (enO e)).drew.alloc o) := bel (drew_b _) (new_below _ o)
  exact ⟨(hsee _ hb).c1, (heb _ hb).1, (hsee _ hb).look⟩
 obtain ⟨i1, i2, i3⟩ := (⟨(hsee _ (drew_b _)).c1, (heb _ (drew_b _)).1, (hsee _ (drew_b _)).look⟩ : (w.alloc (enO e)).drew.cell? ⟨rk, 1, none⟩ = some (.map mv) ∧ (w.alloc (enO e)).drew.cell? ⟨w.heap.size, 0, none⟩ = some (.int .i64 e.id) ∧ (Instr.lookup 255 (.map mv) (.int .i64 e.id) true).run Tryz.prog (w.alloc (enO e)).drew = .ok (.tuple #[enV y, .bool th]) (w.alloc (enO e)).drew)
 have hnew : Hid (∀ o, Below (w.alloc (enO e)).heap.size (w.alloc (enO e)) ((w.alloc (enO e)).alloc o).drew) := Lib.hid fun o => bel (new_below _ o) (drew_b _)
 go_enter Tryz.func227, Tryz.ntmps227
 go_upto_region 1 with fail
 go_cut [6] (fun v6 wy => v6 = .bool th ∧ Hid (Below (w.alloc (enO e)).heap.size (w.alloc (enO e)) wy))
 case first =>
  clear ha hnone hsome hsee heb hth h
  go_region_held3 (fun wr => wr.cell? ⟨rk, 1, none⟩ = some (.map mv) ∧ wr.cell? ⟨w.heap.size, 0, none⟩ = some (.int .i64 e.id) ∧ (Instr.lookup 255 (.map mv) (.int .i64 e.id) true).run Tryz.prog wr = .ok (.tuple #[enV y, .bool th]) wr) (first | exact hs1.out _ | go_keep) (fail)
  all_goals
   go_wp2_with fail
   go_meet
   case rel => exact ⟨rfl, Lib.hid (hnew.out _)⟩
 case rest =>
  obtain ⟨rfl, hb1⟩ := hcut
  have hR1 := (ha.grow hb1.out)
  obtain ⟨k0, k1, k2, k3, k4, k5, k6, k7, k8, k9⟩ := heb _ hb1.out
  have c1 := (hsee _ hb1.out).c1
  have same : ∀ w', RackIs B w0 w' rk M ((w.heap.size, enO e) :: F) → RackIs B w0 w' rk M F := fun w' h => h.sub (List.sublist_cons_self _ _)
  have hnoR := Lib.hid (same _ hR1)
  replace hnone := Lib.hid (fun h => hnone h wc hb1.out)
  replace hsome := Lib.hid (fun mb h => hsome mb h wc hb1.out)
  have hno : Hid (putOk M e = false → (Ending.returned (.bool false) = .returned (.bool (putOk M e))) ∧ RackIs B w0 wc rk (putM M e) F) := Lib.hid fun h => by
   unfold putM
   rw [h]
   exact ⟨rfl, hnoR.out⟩
  replace hth := Lib.hid hth
  replace hlen := Lib.hid hlen
  have hok := Lib.hid h.ok
  replace h1 := Lib.hid h1
  replace h2 := Lib.hid h2
  clear ha hsee heb hs1 i1 i2 i3 hnew hnoR same hb1 hR1 h
  generalize w.heap.size = eb at *
  cases th with
  | true =>
   have fin := Lib.hid (hno.out (by
    have := of_decide_eq_true hth.out.symm
    simp only [putOk, decide_eq_false_iff_not]
    exact fun h => h.1 this))
   clear hno hnone hsome
   go_wp2_with fail
   go_ret
   exact fin.out
  | false =>
   have cp := Lib.hid (isPrio_any e.prio wc)
   by_cases hp : 0 ≤ e.prio ∧ e.prio ≤ 3
   rotate_left
   ·have fin := Lib.hid (hno.out (by
     simp only [putOk, decide_eq_false_iff_not]
     exact fun h => hp h.2))
    rw [decide_eq_false hp] at cp
    clear hno hnone hsome hp
    go_wp2_with fail
    refine cp.out.mono ?_
    rintro r w1 ⟨rfl, rfl⟩
    clear cp
    go_wp2_with fail
    go_ret
    exact fin.out
   have hin : e.id ∉ M.map (·.id) := of_decide_eq_false hth.out.symm
   have hpo : putOk M e = true := by
    simp only [putOk, decide_eq_true_eq]
    exact ⟨hin, hp⟩
   rw [decide_eq_true hp] at cp
   have hdone : Hid (∀ w', RackIs B w0 w' rk (insM e M) ((eb, enO e) :: F) → (Ending.returned (.bool true) = .returned (.bool (putOk M e))) ∧ RackIs B w0 w' rk (putM M e) F) := Lib.hid fun w' h => by
    unfold putM
    rw [hpo, if_pos rfl]
    exact ⟨rfl, h.sub (List.sublist_cons_self _ _)⟩
   replace hp := Lib.hid hp
   replace hin := Lib.hid hin
   clear hno hpo hth
   go_wp2_with fail
   refine cp.out.mono ?_
   rintro r w1 ⟨rfl, rfl⟩
   clear cp
   have heq := uEqMapE wc mv
   go_upto_if 29 with fail
   go_cut [] (fun wy => ∃ q rbs, Hid (RkAt B w0 wy rk q rbs (rowsM M) M ((eb, enO e) :: F)))
   case first =>
    cases mv with
    | some mb =>
     have fin := Lib.hid (hsome.out mb rfl)
     clear hnone hsome
     go_wp2_with fail
     go_meet
     case rel => exact ⟨_, _, Lib.hid fin.out.choose_spec.choose_spec⟩
    | none =>
     obtain ⟨rfl, hst⟩ := hnone.out rfl
     have cn := Lib.hid (newRows_any hst)
     have hmk := fun w => @run_makeMap Tryz.prog 255 w
     clear hnone hsome hst k0 k1 k2 k3 k4 k5 k6 k7 k8 k9
     go_wp2_with fail
     refine cn.out.mono ?_
     rintro r w2 ⟨q, rbs, G, rfl, hl, hW, hG, h2⟩
     have h3 := (h2.alloc (.map #[] 0)).perm (H' := (rk, rack0) :: (q, rowsO rbs) :: (w2.heap.size, .map (entsE encI []) 0) :: (ringsH rbs G ++ ((eb, enO e) :: F))) (by
      classical
      exact List.perm_iff_count.2 fun a => by
       simp only [List.count_append, List.count_cons]
       have : entsE encI [] = #[] := rfl
       rw [this]
       omega)
     have f0 := h3.soft (b := rk) List.mem_cons_self 0
     have f1 := h3.soft (b := rk) List.mem_cons_self 1
     have d0 := h3.cell (b := rk) (i := 0) List.mem_cons_self rfl
     have d1 := h3.cell (b := rk) (i := 1) List.mem_cons_self rfl
     have h4 := (h3.set0 0 (.slice (some ⟨q, 0, none⟩) 4 4)).set0 1 (.map (some w2.heap.size))
     have fin : Hid (RkAt B w0 (((w2.alloc (.map #[] 0)).setCell ⟨rk, 0, none⟩ (.slice (some ⟨q, 0, none⟩) 4 4)).setCell ⟨rk, 1, none⟩ (.map (some w2.heap.size))) rk q rbs (rowsM []) [] ((eb, enO e) :: F)) :=
      Lib.hid ⟨w2.heap.size, [], 0, 0, G, ⟨hl, hW, hG, HeldOf.nil, by omega, by simp⟩, h4⟩
     clear h2 h3 h4 hW hG cn hl heq c1
     go_wp2_with fail
     go_meet
     case rel => exact ⟨_, _, fin⟩
   case rest =>
    clear hnone hsome heq c1 k0 k1 k2 k3 k4 k5 k6 k7 k8 k9
    obtain ⟨q, rbs, hR⟩ := hcut
    obtain ⟨i, hi, hpi⟩ := row_no hp.out
    obtain ⟨rb, hb⟩ := hR.out.row_at hi
    have hro := hok.out
    have hnin : ∀ x ∈ M, x.id ≠ e.id := fun x hx e1 => hin.out (e1 ▸ List.mem_map_of_mem hx)
    have hgl := rows_get (M := M) hi
    rw [← hpi] at hgl
    have hrl := row_le M e.prio
    have hln := hlen.out
    have eAt : ∀ (R : List (List Int)) (H : List Ent) (W : World), RkAt B w0 W rk q rbs R H ((eb, enO e) :: F) → EnAt W eb e := fun R H W h => by
     obtain ⟨S, hs, -⟩ := h.beside
     exact hs.enAt (List.mem_append_right _ List.mem_cons_self)
    obtain ⟨k0, k1, k2, k3, k4, k5, k6, k7, k8, k9⟩ := eAt _ _ _ hR.out
    have cro := Lib.hid (rowOf_any (e := e) hR.out hi hpi hb)
    obtain ⟨N, hN⟩ : ∃ N, N = cntL (rowP M e.prio) e.id := ⟨_, rfl⟩
    have ca : Hid (∀ W, RkAt B w0 W rk q rbs (rowsM M) M ((eb, enO e) :: F) → Calls Tryz.prog 259 #[rptr rk, rptr rb, enV e] W fun r w' => r = .returned (.int .i64 N) ∧ RkAt B w0 w' rk q rbs (rowsM M) M ((eb, enO e) :: F) ∧ EnAt w' eb e) := Lib.hid fun W h => by
     rw [hN]
     refine (ahead_any (e := e) h hb hgl (row_up hro _) (fun k hk => row_mem hk) hp.out (by omega)).mono ?_
     rintro r w' ⟨rfl, hb⟩
     exact ⟨rfl, h.grow hb, eAt _ _ _ (h.grow hb)⟩
    have cl : Hid (∀ W, RkAt B w0 W rk q rbs (rowsM M) M ((eb, enO e) :: F) → Calls Tryz.prog 266 #[rptr rb, .int .i64 N, .int .i64 e.id] W fun r w' => r = .returned (.tuple #[]) ∧ RkAt B w0 w' rk q rbs (rowsM (insM e M)) M ((eb, enO e) :: F) ∧ EnAt w' eb e) := Lib.hid fun W h => by
     obtain ⟨Z, hr, hback⟩ := h.ring hb hgl
     rw [hN]
     refine (rkLay_any hr (cntL_le _ _) (by omega) e.id).mono ?_
     rintro r w' ⟨rfl, h'⟩
     have h2 := hback _ _ _ h'
     rw [show (rowP M e.prio).take (cntL (rowP M e.prio) e.id) ++ e.id :: (rowP M e.prio).drop (cntL (rowP M e.prio) e.id) = rkPutRow (rowP M e.prio) e.id from rfl, rows_put hro hnin hi hpi] at h2
     exact ⟨rfl, h2, eAt _ _ _ h2⟩
    have eAtH := Lib.hid eAt
    have hfin : Hid (∀ W R, RkAt B w0 W rk q rbs R (e :: M) ((eb, enO e) :: F) → RkAt B w0 W rk q rbs R (insM e M) ((eb, enO e) :: F)) := Lib.hid fun W R h => h.reset (ins_perm e M).symm
    have hokI := Lib.hid (hro.ins hp.out hnin)
    replace hnin := Lib.hid hnin
    clear hgl hrl hln hro hb hpi hi hN eAt
    go_wp2_with fail
    refine cro.out.mono ?_
    rintro r w1 ⟨rfl, hbw⟩
    have hR1 := hR.out.grow hbw
    obtain ⟨j0, j1, j2, j3, j4, j5, j6, j7, j8, j9⟩ := eAtH.out _ _ _ hR1
    have hR2 := hR1.grow (drew_b _)
    have hS0 := Lib.hid (eAtH.out _ _ _ hR2)
    clear cro hbw hR k0 k1 k2 k3 k4 k5 k6 k7 k8 k9 hR1
    go_wp2_with fail
    go_region_held3 (fun x => x.cell? ⟨eb, 0, none⟩ = some (.int .i64 e.id) ∧ x.cell? ⟨eb, 1, none⟩ = some (.int .i64 e.body) ∧ x.cell? ⟨eb, 2, none⟩ = some (.int .i64 e.size) ∧ x.cell? ⟨eb, 3, none⟩ = some (tx e.exch) ∧ x.cell? ⟨eb, 4, none⟩ = some (tx e.key) ∧ x.cell? ⟨eb, 5, none⟩ = some (.int .i64 e.prio) ∧ x.cell? ⟨eb, 6, none⟩ = some (.int .i64 e.ttl) ∧ x.cell? ⟨eb, 7, none⟩ = some (.int .i64 e.til) ∧ x.cell? ⟨eb, 8, none⟩ = some (.bool e.again) ∧ x.cell? ⟨eb, 9, none⟩ = some (.int .i64 e.hops)) (first | exact kS | exact hS0.out) (first
     | (go_at_call 259; refine (ca.out _ (by assumption)).mono ?_; rintro r w'' ⟨rfl, hA, kS⟩)
     | (go_at_call 266; refine (cl.out _ (by assumption)).mono ?_; rintro r w'' ⟨rfl, hL, kS⟩))
    have hL2 := hL.grow (drew_b _)
    obtain ⟨j0, j1, j2, j3, j4, j5, j6, j7, j8, j9⟩ := eAtH.out _ _ _ hL2
    obtain ⟨mb, -, m1, hmu, -⟩ := hL2.put (e := e) hin.out (by have := hlen.out; omega)
    have co : Hid (Calls Tryz.prog 267 #[enV e] w''.drew fun r w' => r = .returned (enV e) ∧ (∃ W2, (Instr.mapUpdate 255 (.map (some mb)) (.int .i64 e.id) (enV e)).run Tryz.prog w' = .ok () W2 ∧ RkAt B w0 W2 rk q rbs (rowsM (insM e M)) (e :: M) ((eb, enO e) :: F) ∧ W2.cell? ⟨rk, 1, none⟩ = some (.map (some mb)) ∧ EnAt W2 eb e) ∧ w'.cell? ⟨rk, 1, none⟩ = some (.map (some mb)) ∧ EnAt w' eb e) := Lib.hid (by
     refine (eown_any e h1.out h2.out _).mono ?_
     rintro r w' ⟨rfl, hb⟩
     obtain ⟨mb', es', clk', c1', hg', ho', hback'⟩ := (hL2.grow hb).map
     have e1 := (cellUp m1 hb).symm.trans c1'
     simp only [Option.some.injEq, Value.map.injEq] at e1
     subst e1
     have hR9 := hback' _ _ _ (ho'.put (e := e) hin.out) (by rw [List.length_cons]; have := hlen.out; omega)
     refine ⟨rfl, ⟨_, run_mapE_new keyI uMapE hg' (k := e.id) trivial (fun _ _ => trivial) (enV e) (ho'.none hin.out), hR9, ?_, eAtH.out _ _ _ hR9⟩, c1', eAtH.out _ _ _ (hL2.grow hb)⟩
     have hne : rk ≠ mb := by
      rintro rfl
      obtain ⟨S, hs, -⟩ := (hL2.grow hb).beside
      unfold World.cell? at c1'
      rw [hg'] at c1'
      simp at c1'
     have : (setBlock w' mb (Obj.map (entsE encI (es' ++ [(e.id, enV e, clk')])) (clk' + 1))).heap[rk]? = w'.heap[rk]? := by
      simp only [setBlock]
      rw [Array.getElem?_setIfInBounds_ne (Ne.symm hne)]
     unfold World.cell?
     rw [this]
     exact c1')
    clear ca cl hR2 hS0 hA hL hL2 hmu
    go_wp2_with fail
    go_region_held3 (fun x => x.cell? ⟨rk, 1, none⟩ = some (.map (some mb)) ∧ x.cell? ⟨eb, 0, none⟩ = some (.int .i64 e.id) ∧ x.cell? ⟨eb, 1, none⟩ = some (.int .i64 e.body) ∧ x.cell? ⟨eb, 2, none⟩ = some (.int .i64 e.size) ∧ x.cell? ⟨eb, 3, none⟩ = some (tx e.exch) ∧ x.cell? ⟨eb, 4, none⟩ = some (tx e.key) ∧ x.cell? ⟨eb, 5, none⟩ = some (.int .i64 e.prio) ∧ x.cell? ⟨eb, 6, none⟩ = some (.int .i64 e.ttl) ∧ x.cell? ⟨eb, 7, none⟩ = some (.int .i64 e.til) ∧ x.cell? ⟨eb, 8, none⟩ = some (.bool e.again) ∧ x.cell? ⟨eb, 9, none⟩ = some (.int .i64 e.hops)) (first | exact kS2 | exact kS3 | exact ⟨m1, j0, j1, j2, j3, j4, j5, j6, j7, j8, j9⟩) ((go_at_call 267; refine co.out.mono ?_; rintro r w2 ⟨rfl, ⟨W2, hmu, hRk, kS3⟩, kS2⟩))
    clear co hmu kS2 m1 j0 j1 j2 j3 j4 j5 j6 j7 j8 j9
    have kS4 := kS3.1
    have hRd := hfin.out _ _ (hRk.grow (drew_b _))
    obtain ⟨m, hm, d2, hmost⟩ := hRd.most
    have f2 := hRk.soft 2
    have d2' : W2.cell? ⟨rk, 2, none⟩ = some (.int .i64 m) := d2
    obtain ⟨mb2, hlk, -⟩ := hRd.look
    have c1' : W2.cell? ⟨rk, 1, none⟩ = some (.map (some mb2)) := hlk.c1
    have e1 : mb2 = mb := by
     have := kS4.symm.trans c1'
     simp only [Option.some.injEq, Value.map.injEq] at this
     exact this.symm
    subst e1
    have gl := hlk.len
    rw [ins_len] at gl
    have hL : M.length + 1 ≤ 100000 := by have := hlen.out; omega
    have hfin2 : Hid (∀ n : Nat, n ≤ 100000 → (Ending.returned (.bool true) = .returned (.bool (putOk M e))) ∧ RackIs B w0 (W2.drew.setCell ⟨rk, 2, none⟩ (.int .i64 n)) rk (putM M e) F) := Lib.hid fun n hn => hdone.out _ ⟨hokI.out, .inr ⟨q, rbs, hmost n hn⟩⟩
    clear hRk hRd hmost hlk kS3 c1' kS hdone hfin hokI d2
    generalize M.length + 1 = L at *
    go_wp2_with fail
    by_cases hml : m < L
    ·have hm1 : (m : Int) < L := by omega
     have fin := Lib.hid (hfin2.out L hL)
     clear hfin2
     go_still_tail 13, (by kernel_rfl)
     change wpList _ _ _ _ _ W2.drew
     go_wp2_with fail
     go_ret
     exact fin.out
    ·have hm1 : ¬ (m : Int) < L := by omega
     have fin := Lib.hid (hfin2.out m hm)
     clear hfin2
     go_still_tail 13, (by kernel_rfl)
     change wpList _ _ _ _ _ W2.drew
     go_wp2_with fail
     go_ret
     exact fin.out
end
end Go.Proofs.YtknjamfjonapiaaGreatDoor
namespace Go.Proofs.YtknjamfjonapiaaGreatDoor
open Go.RowKit
open Go.ChangeMaps (setBlock)
set_option linter.unusedVariables false
set_option linter.unusedSectionVars false
set_option linter.unusedSimpArgs false
set_option maxRecDepth 100000
section
variable {B : Nat} {w0 w : World} {rk q rb i k : Nat} {rbs : List Nat} {R : List (List Int)} {H M : List Ent} {F : List (Nat × Obj)} {e e0 : Ent}
theorem RkAt.at_block (h : RkAt B w0 w rk q rbs R H F) (hm : (k, enO e) ∈ F) : EnAt w k e ∧ ∀ i, w.frozen? ⟨k, i, none⟩ = false := by
 obtain ⟨S, hs, -⟩ := h.beside
 exact ⟨hs.enAt (List.mem_append_right _ hm), fun i => hs.soft (List.mem_append_right _ hm) i⟩
theorem RackIs.at_block (h : RackIs B w0 w rk M F) (hm : (k, enO e) ∈ F) : EnAt w k e ∧ ∀ i, w.frozen? ⟨k, i, none⟩ = false := by
 obtain ⟨S, hs⟩ := h.st
 exact ⟨hs.enAt (List.mem_append_right _ hm), fun i => hs.soft (List.mem_append_right _ hm) i⟩
theorem RackIs.enPut (h : RackIs B w0 w rk M ((k, enO e0) :: F)) : RackIs B w0 (enPut w k e) rk M F ∧ EnAt (enPut w k e) k e := by
 obtain ⟨S, h1, h2⟩ := h.beside
 have h3 := (h1.perm List.perm_middle).enPut (e := e)
 exact ⟨h2 _ _ (h3.sub (List.sublist_cons_self _ _)), h3.enAt List.mem_cons_self⟩
theorem RackIs.at (h : RackIs B w0 w rk M F) (he : e ∈ M) : RkOk M ∧ ∃ q rbs, RkAt B w0 w rk q rbs (rowsM M) M F := by
 obtain ⟨h1, ⟨rfl, h3⟩ | h2⟩ := h
 ·simp at he
 ·exact ⟨h1, h2⟩
set_option maxHeartbeats 2000000 in
theorem rk_drop_hit (h : RackIs B w0 w rk M F) (he : e ∈ M) : Calls Tryz.prog 213 #[rptr rk, .int .i64 e.id] w fun r w' => r = .returned (.tuple #[enV e, .bool true]) ∧ RackIs B w0 w' rk (delM M e.id) F := by
 obtain ⟨hok, q, rbs, hA⟩ := h.at he
 have hA1 := hA.alloc (enO z0E)
 have hA2 := hA1.alloc (enO e)
 obtain ⟨mb, hl, -⟩ := hA1.look
 have c1 := hl.c1
 have hlk := hl.hit e he true
 rw [if_pos rfl] at hlk
 have hsz : (w.alloc (enO z0E)).heap.size = w.heap.size + 1 := World.size_alloc _ _
 rw [hsz] at hA2
 obtain ⟨i, hi, hpi⟩ := row_no (hok.prio e he)
 obtain ⟨rb, hb⟩ := hA.row_at hi
 have hgl := rows_get (M := M) hi
 rw [← hpi] at hgl
 have hrl := row_le M e.prio
 have hfew := hA.few
 have hin : e.id ∈ M.map (·.id) := List.mem_map_of_mem he
 have cro := Lib.hid (rowOf_any (e := e) hA2 hi hpi hb)
 obtain ⟨N, hN⟩ : ∃ N, N = cntL (rowP M e.prio) e.id := ⟨_, rfl⟩
 have eAt := Lib.hid (fun (R : List (List Int)) (H : List Ent) (W : World) (h : RkAt B w0 W rk q rbs R H ((w.heap.size + 1, enO e) :: (w.heap.size, enO z0E) :: F)) => (h.at_block (k := w.heap.size + 1) (e := e) List.mem_cons_self).1)
 have ca : Hid (∀ W, RkAt B w0 W rk q rbs (rowsM M) M ((w.heap.size + 1, enO e) :: (w.heap.size, enO z0E) :: F) → Calls Tryz.prog 259 #[rptr rk, rptr rb, enV e] W fun r w' => r = .returned (.int .i64 N) ∧ RkAt B w0 w' rk q rbs (rowsM M) M ((w.heap.size + 1, enO e) :: (w.heap.size, enO z0E) :: F)) := Lib.hid fun W h => by
  rw [hN]
  refine (ahead_any (e := e) h hb hgl (row_up hok _) (fun k hk => row_mem hk) (hok.prio e he) (by omega)).mono ?_
  rintro r w' ⟨rfl, hb⟩
  exact ⟨rfl, h.grow hb⟩
 have cl : Hid (∀ W, RkAt B w0 W rk q rbs (rowsM M) M ((w.heap.size + 1, enO e) :: (w.heap.size, enO z0E) :: F) → Calls Tryz.prog 258 #[rptr rb, .int .i64 N] W fun r w' => r = .returned (.tuple #[]) ∧ RkAt B w0 w' rk q rbs (rowsM (delM M e.id)) M ((w.heap.size + 1, enO e) :: (w.heap.size, enO z0E) :: F)) := Lib.hid fun W h => by
  obtain ⟨Z, hr, hback⟩ := h.ring hb hgl
  rw [hN]
  refine (lift_any hr (del_cnt hok he) (by omega)).mono ?_
  rintro r w' ⟨rfl, h'⟩
  have h2 := hback _ _ _ h'
  rw [rows_cut hok he hi hpi] at h2
  exact ⟨rfl, h2⟩
 have cg := Lib.hid (fun W (h : RkAt B w0 W rk q rbs (rowsM (delM M e.id)) (delM M e.id) ((w.heap.size + 1, enO e) :: (w.heap.size, enO z0E) :: F)) => giveRk_any h)
 have hdel : Hid (∀ W, RkAt B w0 W rk q rbs (rowsM (delM M e.id)) M ((w.heap.size + 1, enO e) :: (w.heap.size, enO z0E) :: F) → ∃ (mb : Nat) (es : List (MapRow Int)) (clk : Nat), W.cell? ⟨rk, 1, none⟩ = some (.map (some mb)) ∧ W.heap[mb]? = some (.map (entsE encI es) clk) ∧
   RkAt B w0 (setBlock W mb (.map (entsE encI (restE es e.id)) clk)) rk q rbs (rowsM (delM M e.id)) (delM M e.id) ((w.heap.size + 1, enO e) :: (w.heap.size, enO z0E) :: F)) := Lib.hid fun W h => by
  obtain ⟨mb, es, clk, c1, hg, ho, hback⟩ := h.map
  exact ⟨mb, es, clk, c1, hg, hback _ _ _ (ho.del e.id) (by have := del_len hok he; have := h.few; omega)⟩
 have hok2 := Lib.hid (hok.del e.id)
 obtain ⟨k0, k1, k2, k3, k4, k5, k6, k7, k8, k9⟩ := eAt.out _ _ _ hA2
 replace hA2 := Lib.hid hA2
 clear hA hA1 h he hl hb hgl hrl hfew hin hpi hok hN
 go_enter Tryz.func213, Tryz.ntmps213
 go_wp2_with fail
 refine cro.out.mono ?_
 rintro r w1 ⟨rfl, hb1⟩
 have hA3 := hA2.out.grow hb1
 obtain ⟨k0, k1, k2, k3, k4, k5, k6, k7, k8, k9⟩ := eAt.out _ _ _ hA3
 have ca1 := Lib.hid (ca.out _ hA3)
 clear hA2 hb1 cro hA3 ca
 go_wp2_with fail
 refine ca1.out.mono ?_
 rintro r w2 ⟨rfl, hA4⟩
 obtain ⟨k0, k1, k2, k3, k4, k5, k6, k7, k8, k9⟩ := eAt.out _ _ _ hA4
 have cl1 := Lib.hid (cl.out _ hA4)
 clear hA4 ca1 cl
 go_wp2_with fail
 refine cl1.out.mono ?_
 rintro r w3 ⟨rfl, hA5⟩
 obtain ⟨mb2, es, clk, d1, hg, hA6⟩ := hdel.out _ hA5
 obtain ⟨k0, k1, k2, k3, k4, k5, k6, k7, k8, k9⟩ := eAt.out _ _ _ hA6
 have cg1 := Lib.hid (cg.out _ hA6)
 clear hA5 cl1 hdel hA6 cg
 generalize hW : setBlock w3 mb2 (.map (entsE encI (restE es e.id)) clk) = W at *
 replace hW := Lib.hid hW
 go_wp2_with (at_delete; refine wpList_delE rfl (.tmp 33) (.tmp 34) rfl keyI uMapE rfl hg (k := e.id) trivial (fun _ _ => trivial) rfl ?_; intro w9 hw9; replace hw9 := Lib.hid (hw9.out.trans hW.out); rw [hw9.out])
 refine cg1.out.mono ?_
 rintro r w4 ⟨rfl, hA7⟩
 obtain ⟨k0, k1, k2, k3, k4, k5, k6, k7, k8, k9⟩ := eAt.out _ _ _ hA7
 obtain ⟨z0, z1, z2, z3, z4, z5, z6, z7, z8, z9⟩ := (hA7.at_block (k := w.heap.size) (e := z0E) (by simp)).1
 have zs := (hA7.at_block (k := w.heap.size) (e := z0E) (by simp)).2
 have hRk : RackIs B w0 w4 rk (delM M e.id) ((w.heap.size + 1, enO e) :: (w.heap.size, enO z0E) :: F) := ⟨hok2.out, .inr ⟨q, rbs, hA7⟩⟩
 have fin := (hRk.permF (List.Perm.swap _ _ _)).enPut (e := e)
 have finR := Lib.hid (fin.1.sub (List.sublist_cons_self _ _))
 have finE := Lib.hid fin.2
 clear fin hRk hA7 cg1 hW hok2 d1 hg eAt c1 hlk
 go_wp2_with fail
 exact bodyPost_ret (ret_entry2 rfl rfl rfl finE.out rfl) rfl ⟨rfl, finR.out⟩
def RkTakeR (B : Nat) (w0 : World) (rk : Nat) (M : List Ent) (F : List (Nat × Obj)) (r : Ending) (w' : World) : Prop := r = .returned (firstV M) ∧ RackIs B w0 w' rk M.tail F
set_option maxHeartbeats 1000000 in
theorem rk_take (h : RackIs B w0 w rk M F) : Calls Tryz.prog 150 #[rptr rk] w (RkTakeR B w0 rk M F) := by
 have h1 := h.alloc (enO z0E)
 have cf := Lib.hid (rk_first h1)
 have hsz : ∀ w' : World, Below (w.alloc (enO z0E)).heap.size (w.alloc (enO z0E)) w' → w'.heap.size ≠ w.heap.size := fun w' hb => by
  have := hb.size
  rw [World.size_alloc] at this
  omega
 cases M with
 | nil =>
  have fin : Hid (∀ w', Below (w.alloc (enO z0E)).heap.size (w.alloc (enO z0E)) w' → EnAt (w'.alloc (enO z0E)) w.heap.size z0E ∧ (∀ i, (w'.alloc (enO z0E)).frozen? ⟨w.heap.size, i, none⟩ = false) ∧ RkTakeR B w0 rk [] F (.returned (.tuple #[enV z0E, .bool false])) (enPut (w'.alloc (enO z0E)) w.heap.size z0E) ∧ EnAt (enPut (w'.alloc (enO z0E)) w.heap.size z0E) w.heap.size z0E) := Lib.hid fun w' hb => by
   have h2 := ((h1.grow hb).alloc (enO z0E)).permF (List.Perm.swap _ _ _)
   have h3 := h2.at_block (k := w.heap.size) (e := z0E) List.mem_cons_self
   have h4 := h2.enPut (e := z0E)
   exact ⟨h3.1, h3.2, ⟨rfl, h4.1.sub (List.sublist_cons_self _ _)⟩, h4.2⟩
  clear h h1 hsz
  go_enter Tryz.func150, Tryz.ntmps150
  go_wp2_with fail
  refine cf.out.mono ?_
  rintro r w1 ⟨rfl, hb⟩
  obtain ⟨⟨z0, z1, z2, z3, z4, z5, z6, z7, z8, z9⟩, zs, finR, finE⟩ := fin.out _ hb
  replace finR := Lib.hid finR
  replace finE := Lib.hid finE
  have hfv : firstV [] = .tuple #[enV z0E, .bool false] := rfl
  rw [hfv]
  clear fin cf hb hfv
  go_wp2_with fail
  exact bodyPost_ret (ret_entry2 rfl rfl rfl finE.out rfl) rfl finR.out
 | cons e L =>
  have fin : Hid (∀ w', Below (w.alloc (enO z0E)).heap.size (w.alloc (enO z0E)) w' → (w'.alloc (enO e)).cell? ⟨w'.heap.size, 0, none⟩ = some (.int .i64 e.id) ∧
    Calls Tryz.prog 213 #[rptr rk, .int .i64 e.id] (w'.alloc (enO e)) fun r w'' => r = .returned (.tuple #[enV e, .bool true]) ∧ EnAt w'' w.heap.size z0E ∧ (∀ i, w''.frozen? ⟨w.heap.size, i, none⟩ = false) ∧ RkTakeR B w0 rk (e :: L) F (.returned (.tuple #[enV e, .bool true])) (enPut w'' w.heap.size e) ∧ EnAt (enPut w'' w.heap.size e) w.heap.size e) := Lib.hid fun w' hb => by
   have h2 := (h1.grow hb).alloc (enO e)
   refine ⟨(h2.at_block (k := w'.heap.size) (e := e) List.mem_cons_self).1.1, ?_⟩
   refine (rk_drop_hit h2 (e := e) List.mem_cons_self).mono ?_
   rintro r w'' ⟨rfl, h3⟩
   rw [del_head h.ok] at h3
   have h4 := h3.permF (List.Perm.swap _ _ _)
   have h5 := h4.at_block (k := w.heap.size) (e := z0E) List.mem_cons_self
   have h6 := h4.enPut (e := e)
   exact ⟨rfl, h5.1, h5.2, ⟨rfl, h6.1.sub (List.sublist_cons_self _ _)⟩, h6.2⟩
  clear h h1 hsz
  go_enter Tryz.func150, Tryz.ntmps150
  go_wp2_with fail
  refine cf.out.mono ?_
  rintro r w1 ⟨rfl, hb⟩
  obtain ⟨q0, cd⟩ := fin.out _ hb
  replace cd := Lib.hid cd
  have hfv : firstV (e :: L) = .tuple #[enV e, .bool true] := rfl
  rw [hfv]
  clear fin cf hb hfv
  go_wp2_with fail
  refine cd.out.mono ?_
  rintro r w2 ⟨rfl, ⟨z0, z1, z2, z3, z4, z5, z6, z7, z8, z9⟩, zs, finR, finE⟩
  replace finR := Lib.hid finR
  replace finE := Lib.hid finE
  clear cd q0
  go_wp2_with fail
  exact bodyPost_ret (ret_entry2 rfl rfl rfl finE.out rfl) rfl finR.out
end
end Go.Proofs.YtknjamfjonapiaaGreatDoor
namespace Go.Proofs.YtknjamfjonapiaaGreatDoor
open Go.RowKit
open Go.ChangeMaps (setBlock)
set_option linter.unusedVariables false
set_option linter.unusedSectionVars false
set_option linter.unusedSimpArgs false
set_option maxRecDepth 100000
abbrev ensO (L : List Ent) : Obj := .cells (entsV L).toArray 51
theorem uEnts : Tryz.prog.underlying 46 = some (.slice 51) := by kernel_rfl
theorem infEnt : (Tryz.prog.info? 51).map (fun i => (i.zero, i.size, i.bytes)) = some (some (enV z0E), 10, 96) := by kernel_rfl
theorem made_ents : ∀ (n : Nat), (madeCells (enV z0E).cells (n * 10)).toList = entsV (List.replicate n z0E)
 | 0 => by simp [madeCells, entsV]
 | n + 1 => by
  have ih := made_ents n
  unfold madeCells at ih ⊢
  rw [Array.toList_map, Array.toList_range] at ih ⊢
  have hz : (enV z0E).cells.size = 10 := rfl
  rw [show (n + 1) * 10 = n * 10 + 10 by omega, List.range_add, List.map_append, ih, List.map_map, List.replicate_succ', entsV_app]
  congr 1
  have : (fun j => (enV z0E).cells[j % (enV z0E).cells.size]!) ∘ (fun x => n * 10 + x) = fun k => (enV z0E).cells[k % 10]! := by
   funext k
   simp only [Function.comp_apply, hz]
   congr 1
   omega
  rw [this]
  rfl
theorem mk_ents (w : World) (n : Nat) (h1 : n ≤ 100000) :
  (Instr.makeSlice 46 (.int .i64 n) (.int .i64 n)).run Tryz.prog w = .ok (.slice (some ⟨w.heap.size, 0, none⟩) n n) (w.alloc (ensO (List.replicate n z0E))) := by
 obtain ⟨i0, hi, hz0, hz1, hz2⟩ := info_parts infEnt
 have h := run_make (P := Tryz.prog) w 46 51 i0 (enV z0E) uEnts hi hz0 .i64 .i64 n n (by omega) (Int.le_refl _) (by rw [hz2]; omega) (by omega)
 rw [h]
 congr 2
 unfold ensO
 congr 1
 apply Array.toList_inj.1
 rw [hz1, Int.toNat_natCast, made_ents]
abbrev enPutAt (w : World) (b o : Nat) (e : Ent) : World := (((((((((w.setCell ⟨b, o, none⟩ (.int .i64 e.id)).setCell ⟨b, o + 1, none⟩ (.int .i64 e.body)).setCell ⟨b, o + 2, none⟩ (.int .i64 e.size)).setCell ⟨b, o + 3, none⟩ (tx e.exch)).setCell ⟨b, o + 4, none⟩ (tx e.key)).setCell ⟨b, o + 5, none⟩ (.int .i64 e.prio)).setCell ⟨b, o + 6, none⟩ (.int .i64 e.ttl)).setCell ⟨b, o + 7, none⟩ (.int .i64 e.til)).setCell ⟨b, o + 8, none⟩ (.bool e.again)).setCell ⟨b, o + 9, none⟩ (.int .i64 e.hops)
theorem ents_set {L : List Ent} {i : Nat} (hi : i < L.length) (e : Ent) :
  ((((((((((entsV L).set (i * 10) (.int .i64 e.id)).set (i * 10 + 1) (.int .i64 e.body)).set (i * 10 + 2) (.int .i64 e.size)).set (i * 10 + 3) (tx e.exch)).set (i * 10 + 4) (tx e.key)).set (i * 10 + 5) (.int .i64 e.prio)).set (i * 10 + 6) (.int .i64 e.ttl)).set (i * 10 + 7) (.int .i64 e.til)).set (i * 10 + 8) (.bool e.again)).set (i * 10 + 9) (.int .i64 e.hops) = entsV (L.set i e) := by
 have h1 : L = L.take i ++ L[i] :: L.drop (i + 1) := by rw [← List.drop_eq_getElem_cons hi, List.take_append_drop]
 have hl : (entsV (L.take i)).length = i * 10 := by rw [entsV_len, List.length_take]; omega
 have h2 : L.set i e = L.take i ++ e :: L.drop (i + 1) := by rw [List.set_eq_take_append_cons_drop, if_pos hi]
 have h3 : entsV L = entsV (L.take i) ++ (ecells L[i] ++ entsV (L.drop (i + 1))) := by
  have := congrArg entsV h1
  rw [entsV_app, entsV_cons] at this
  exact this
 rw [h2, entsV_app, entsV_cons, h3, ← hl]
 have key : ∀ (A C : List Value) (k : Nat) (v : Value), (A ++ C).set (A.length + k) v = A ++ C.set k v := fun A C k v => by
  rw [List.set_append_right _ _ (Nat.le_add_right _ _), Nat.add_sub_cancel_left]
 have key0 : ∀ (A C : List Value) (v : Value), (A ++ C).set A.length v = A ++ C.set 0 v := fun A C v => key A C 0 v
 rw [key0, key, key, key, key, key, key, key, key, key]
 rfl
theorem St.rowPut {B : Nat} {w0 w : World} {t : Nat} {L : List Ent} {C : List (Nat × Obj)} {i : Nat} (h : St B w0 w ((t, ensO L) :: C)) (hi : i < L.length) (e : Ent) : St B w0 (enPutAt w t (i * 10) e) ((t, ensO (L.set i e)) :: C) := by
 have h10 := (((((((((h.set0 (i * 10) (.int .i64 e.id)).set0 (i * 10 + 1) (.int .i64 e.body)).set0 (i * 10 + 2) (.int .i64 e.size)).set0 (i * 10 + 3) (tx e.exch)).set0 (i * 10 + 4) (tx e.key)).set0 (i * 10 + 5) (.int .i64 e.prio)).set0 (i * 10 + 6) (.int .i64 e.ttl)).set0 (i * 10 + 7) (.int .i64 e.til)).set0 (i * 10 + 8) (.bool e.again)).set0 (i * 10 + 9) (.int .i64 e.hops)
 simp only [List.setIfInBounds_toArray] at h10
 rw [ents_set hi e] at h10
 exact h10
theorem St.rowAt {B : Nat} {w0 w : World} {t : Nat} {L : List Ent} {H : List (Nat × Obj)} {i : Nat} {e : Ent} (h : St B w0 w H) (hm : (t, ensO L) ∈ H) (hi : L[i]? = some e) : EnRow w t (i * 10) e := by
 have key : ∀ {k : Nat} {v : Value}, (ecells e)[k]? = some v → w.cell? ⟨t, i * 10 + k, none⟩ = some v := fun hk => h.cell hm (by rw [List.getElem?_toArray]; exact entsV_at hi hk)
 exact ⟨key (k := 0) rfl, key (k := 1) rfl, key (k := 2) rfl, key (k := 3) rfl, key (k := 4) rfl, key (k := 5) rfl, key (k := 6) rfl, key (k := 7) rfl, key (k := 8) rfl, key (k := 9) rfl⟩
section
variable {B : Nat} {w0 w : World} {rk q rb i k : Nat} {rbs : List Nat} {R : List (List Int)} {H M : List Ent} {F A : List (Nat × Obj)} {e e0 : Ent} {E : List Ent}
def fillE (E : List Ent) (i : Nat) : List Ent := E.take i ++ List.replicate (E.length - i) z0E
theorem fill_zero (E : List Ent) : fillE E 0 = List.replicate E.length z0E := by simp [fillE]
theorem fill_all (E : List Ent) : fillE E E.length = E := by simp [fillE]
theorem fill_len {E : List Ent} {i : Nat} (h : i ≤ E.length) : (fillE E i).length = E.length := by
 unfold fillE
 rw [List.length_append, List.length_take, List.length_replicate]
 omega
theorem fill_at {E : List Ent} {i : Nat} (h : i < E.length) : (fillE E i)[i]? = some z0E := by
 unfold fillE
 rw [List.getElem?_append_right (by rw [List.length_take]; omega), List.length_take, Nat.min_eq_left (by omega), Nat.sub_self, List.getElem?_replicate, if_pos (by omega)]
theorem fill_set {E : List Ent} {i : Nat} {x : Ent} (h : E[i]? = some x) : (fillE E i).set i x = fillE E (i + 1) := by
 have hi := (List.getElem?_eq_some_iff.1 h).1
 unfold fillE
 have hl : (E.take i).length = i := by rw [List.length_take]; omega
 rw [List.set_append_right _ _ (by omega), hl, Nat.sub_self, show E.length - i = (E.length - (i + 1)) + 1 by omega, List.replicate_succ, List.set_cons_zero, List.take_add_one, h, List.append_assoc]
 rfl
def FillJ (B : Nat) (w0 : World) (rk q : Nat) (rbs : List Nat) (R : List (List Int)) (H : List Ent) (F : List (Nat × Obj)) (t : Nat) (ids : Value) (E : List Ent) (g : Nat) (a' : Act) (w' : World) : Prop :=
 ∃ i : Nat, i + g = E.length ∧ Fr 29 [(0, rptr rk), (1, ids), (5, .slice (some ⟨t, 0, none⟩) E.length E.length), (6, .int .i64 i)] a' ∧ RkAt B w0 w' rk q rbs R H ((t, ensO (fillE E i)) :: F)
set_option maxHeartbeats 2000000 in
theorem entries_any (h : RkAt B w0 w rk q rbs R H (A ++ F)) {v : Value} (hs : SlIs 3 1 v E.length (ints (E.map (·.id))) A) (hE : ∀ x ∈ E, x ∈ H) (hl : E.length ≤ 100000) :
  Calls Tryz.prog 191 #[rptr rk, v] w fun r w' => ∃ t, r = .returned (.slice (some ⟨t, 0, none⟩) E.length E.length) ∧ RkAt B w0 w' rk q rbs R H ((t, ensO E) :: F) := by
 obtain ⟨a, c, rfl, -, -, hfa⟩ := hs.form
 have hmk := mk_ents w E.length hl
 have h1 := h.alloc (ensO (List.replicate E.length z0E))
 rw [← fill_zero] at h1
 replace h1 := Lib.hid h1
 replace hE := Lib.hid hE
 have hIds : Hid (∀ (w' : World) (X : List (Nat × Obj)), RkAt B w0 w' rk q rbs R H (X ++ (A ++ F)) → ∀ j (x : Ent), E[j]? = some x → ∃ g off, a = some ⟨g, off, none⟩ ∧ w'.cell? ⟨g, off + j, none⟩ = some (.int .i64 x.id)) := Lib.hid fun w' X h j x hj => by
  obtain ⟨S, hst, -⟩ := h.beside
  obtain ⟨g, off, rfl⟩ := hfa j (List.getElem?_eq_some_iff.1 hj).1
  refine ⟨g, off, rfl, hs.cellAt (A := S ++ X ++ F) (hst.perm ?_) (by simp [ints, hj])⟩
  classical
  exact List.perm_iff_count.2 fun a => by simp only [List.count_append]; omega
 clear h hs hfa
 obtain ⟨n, hn⟩ : ∃ n, n = E.length := ⟨_, rfl⟩
 go_enter Tryz.func191, Tryz.ntmps191
 go_wp2_with fail
 refine wp_scope_ghost 0 (FillJ B w0 rk q rbs R H (A ++ F) w.heap.size (.slice a E.length c) E) rfl ?_ ?_
 ·clear h1 hmk
  rintro g a' wr ⟨i, hi, hfr, hR⟩
  generalize w.heap.size = t at *
  obtain ⟨fr, rfl, hl'⟩ := hfr.lit
  clear hfr
  simp only [List.mem_cons, List.not_mem_nil, or_false, forall_eq_or_imp, forall_eq] at hl'
  obtain ⟨f0, f1, f5, f6⟩ := hl'
  simp only [List.range, List.range.loop, List.map, f0, f1, f5, f6]
  clear f0 f1 f5 f6
  by_cases hlt : i < E.length
  ·have hx : E[i]? = some E[i] := List.getElem?_eq_getElem hlt
   generalize E[i] = x at hx
   obtain ⟨gb, off, rfl, cx⟩ := hIds.out wr [(t, ensO (fillE E i))] hR i x hx
   obtain ⟨mb, hlk, hlook⟩ := hR.look
   have hit := (hlook _ (drew_b wr)).hit x (hE.out x (List.mem_of_getElem? hx)) false
   rw [if_neg (by decide)] at hit
   have c1 := hlk.c1
   obtain ⟨S, hst, -⟩ := hR.beside
   have hmem : (t, ensO (fillE E i)) ∈ S ++ (t, ensO (fillE E i)) :: (A ++ F) := List.mem_append_right _ List.mem_cons_self
   obtain ⟨z0, z1, z2, z3, z4, z5, z6, z7, z8, z9⟩ := hst.rowAt hmem (fill_at hlt)
   have zs := fun j => hst.soft (b := t) hmem j
   have fin : Hid (∀ a', Fr 29 [(0, rptr rk), (1, .slice (some ⟨gb, off, none⟩) E.length c), (5, .slice (some ⟨t, 0, none⟩) E.length E.length), (6, .int .i64 ((i : Int) + 1))] a' → ∃ m, m < g ∧ FillJ B w0 rk q rbs R H (A ++ F) t (.slice (some ⟨gb, off, none⟩) E.length c) E m a' (enPutAt wr t (i * 10) x).drew) := Lib.hid fun a' hf => by
    refine ⟨g - 1, by omega, i + 1, by omega, hf, ?_⟩
    obtain ⟨S, h1, h2⟩ := hR.beside
    have h3 := (h1.perm List.perm_middle).rowPut (i := i) (by rw [fill_len (by omega)]; exact hlt) x
    rw [fill_set hx] at h3
    exact (h2 _ _ (h3.perm List.perm_middle.symm)).grow (drew_b _)
   have hi0 : (0 : Int) ≤ i := by omega
   have hi1 : (i : Int) < E.length := by omega
   have hiB : ((i : Int) == E.length) = false := by rw [beq_eq_false_iff_ne]; omega
   have hl3 : (E.length : Int) ≤ 100000 := by omega
   clear hR hst hx hIds hlk hlook hE hmem hi
   generalize E.length = n at *
   go_wp2_with fail
   go_still_tail 12, (by kernel_rfl)
   change wpList _ _ _ _ _ wr.drew
   go_wp2_with fail
   refine wp_goto ?_
   exact ⟨rfl, fin.out _ ⟨rfl, rfl, by simp⟩⟩
  ·have hin : i = E.length := by omega
   subst hin
   rw [fill_all] at hR
   have fin : Hid (∃ t', Ending.returned (.slice (some ⟨t, 0, none⟩) E.length E.length) = .returned (.slice (some ⟨t', 0, none⟩) E.length E.length) ∧ RkAt B w0 wr rk q rbs R H ((t', ensO E) :: F)) := Lib.hid ⟨t, rfl, hR.sub ((List.sublist_append_right _ _).cons_cons _)⟩
   clear hR hIds hE hi
   go_wp2_with fail
   simp only [Exit.jump]
   go_ret
   exact fin.out
 ·intro HJ
  go_wp2_with fail
  refine wp_label ?_
  go_step
  go_step
  exact HJ E.length _ _ ⟨0, by omega, ⟨rfl, rfl, by simp⟩, h1.out⟩
end
end Go.Proofs.YtknjamfjonapiaaGreatDoor
