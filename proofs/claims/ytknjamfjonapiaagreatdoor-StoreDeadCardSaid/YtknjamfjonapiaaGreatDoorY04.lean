import Derived.Test.YtknjamfjonapiaaGreatDoorY03
import Derived.Laws.BitsLemmas
import Derived.Laws.StructEq
import Derived.Deep.RegionHeld3
import Derived.Deep.RegionLaw
import Derived.Deep.QuietTactic
import Derived.BigQuiet
namespace Go.Proofs.YtknjamfjonapiaaGreatDoor
open Go.RowKit
set_option linter.unusedVariables false
set_option maxRecDepth 100000
theorem notB {n : Int} (h : In64 n) : bits .xor .i64 (-1) n = -n - 1 := by
 obtain ⟨h1, h2⟩ := h
 show IntKind.i64.wrap ((BitVec.ofInt 64 (-1) ^^^ BitVec.ofInt 64 n).toNat : Nat) = _
 have e : BitVec.ofInt 64 (-1) = BitVec.allOnes 64 := by decide
 rw [e, BitVec.allOnes_xor, BitVec.toNat_not, BitVec.toNat_ofInt, IntKind.wrap_i64]
 omega
abbrev rkO (e : Ent) : Obj := .cells #[.int .i64 (-e.prio - 1), .int .i64 e.id] 364
theorem ranked_any (e : Ent) (hp : In64 e.prio) (w : World) : Calls Tryz.prog 302 #[enV e] w fun r w' => r = .returned (.agg #[.int .i64 (-e.prio - 1), .int .i64 e.id]) ∧ w' = (w.alloc (enO e)).alloc (rkO e) := by
 have hx := notB hp
 replace hx := Lib.hid hx
 go_enter Tryz.func302, Tryz.ntmps302
 go_wp2_with fail
 exact bodyPost_ret (v := .agg #[.int .i64 (bits .xor .i64 (-1) e.prio), .int .i64 e.id]) (by simp [results, Tryz.results302, go_sem]) rfl ⟨by rw [hx.out], by rw [hx.out]⟩
theorem gone_any (e : Ent) (now : Int) (w : World) : Calls Tryz.prog 254 #[enV e, .int .i64 now] w fun r w' => r = .returned (.bool (goneE e now)) ∧ Below w.heap.size w w' := by
 have hb := Lib.hid (new_below w (enO e))
 by_cases h1 : 0 < e.til
 ·go_enter Tryz.func254, Tryz.ntmps254
  go_wp2_with fail
  go_ret
  exact ⟨ret_bool (by simp [goneE, h1]), hb.out⟩
 ·have f : goneE e now = false := by simp [goneE, h1]
  rw [f]
  clear f
  go_enter Tryz.func254, Tryz.ntmps254
  go_wp2_with fail
  go_ret
  exact ⟨rfl, hb.out⟩
abbrev EnAt (wr : World) (b : Nat) (e : Ent) : Prop := wr.cell? ⟨b, 0, none⟩ = some (.int .i64 e.id) ∧ wr.cell? ⟨b, 1, none⟩ = some (.int .i64 e.body) ∧ wr.cell? ⟨b, 2, none⟩ = some (.int .i64 e.size) ∧ wr.cell? ⟨b, 3, none⟩ = some (tx e.exch) ∧ wr.cell? ⟨b, 4, none⟩ = some (tx e.key) ∧ wr.cell? ⟨b, 5, none⟩ = some (.int .i64 e.prio) ∧ wr.cell? ⟨b, 6, none⟩ = some (.int .i64 e.ttl) ∧ wr.cell? ⟨b, 7, none⟩ = some (.int .i64 e.til) ∧ wr.cell? ⟨b, 8, none⟩ = some (.bool e.again) ∧ wr.cell? ⟨b, 9, none⟩ = some (.int .i64 e.hops)
theorem EnAt.step {w wr : World} {b : Nat} {e : Ent} (h : EnAt w b e) (hb : Below w.heap.size w wr) : EnAt wr b e := by
 obtain ⟨h0, h1, h2, h3, h4, h5, h6, h7, h8, h9⟩ := h
 have lt := World.block_lt_of_cell? w _ h0
 exact ⟨(hb.cell (p := ⟨b, 0, none⟩) lt).trans h0, (hb.cell (p := ⟨b, 1, none⟩) lt).trans h1, (hb.cell (p := ⟨b, 2, none⟩) lt).trans h2, (hb.cell (p := ⟨b, 3, none⟩) lt).trans h3, (hb.cell (p := ⟨b, 4, none⟩) lt).trans h4, (hb.cell (p := ⟨b, 5, none⟩) lt).trans h5, (hb.cell (p := ⟨b, 6, none⟩) lt).trans h6, (hb.cell (p := ⟨b, 7, none⟩) lt).trans h7, (hb.cell (p := ⟨b, 8, none⟩) lt).trans h8, (hb.cell (p := ⟨b, 9, none⟩) lt).trans h9⟩
theorem EnAt.start (w : World) (e : Ent) : EnAt (w.alloc (enO e)) w.heap.size e := by
 refine ⟨?_, ?_, ?_, ?_, ?_, ?_, ?_, ?_, ?_, ?_⟩ <;> simp
structure En2 (wr : World) (x y : Nat) (a b : Ent) : Prop where
 fst : EnAt wr x a
 snd : EnAt wr y b
theorem en2Hold {wa wb : World} {x y : Nat} {a b : Ent} (h : En2 wa x y a b) (hb : Below wa.heap.size wa wb) : En2 wb x y a b := ⟨h.1.step hb, h.2.step hb⟩
theorem en2Start (w : World) (a b : Ent) : En2 ((w.alloc (enO a)).alloc (enO b)) w.heap.size (w.heap.size + 1) a b := by
 have h2 := EnAt.start (w.alloc (enO a)) b
 rw [World.size_alloc] at h2
 exact ⟨(EnAt.start w a).step (new_below _ _), h2⟩
theorem two_new (w : World) (o p : Obj) : Below w.heap.size w ((w.alloc o).alloc p) := bel (new_below _ _) (new_below _ _)
def lessFrom (a b : Ent) : Nat → Bool
 | 0 => lessE a b
 | 1 => decide (a.id < b.id)
 | _ => false
structure LessAt (w wr : World) (x y : Nat) (a b : Ent) : Prop where
 below : Below w.heap.size w wr
 a0 : wr.cell? ⟨x, 0, none⟩ = some (.int .i64 (-a.prio - 1))
 a1 : wr.cell? ⟨x, 1, none⟩ = some (.int .i64 a.id)
 b0 : wr.cell? ⟨y, 0, none⟩ = some (.int .i64 (-b.prio - 1))
 b1 : wr.cell? ⟨y, 1, none⟩ = some (.int .i64 b.id)
theorem LessAt.drewN {w wr : World} {x y : Nat} {a b : Ent} (h : LessAt w wr x y a b) (n : Nat) : LessAt w (wr.drewN n) x y a b := ⟨bel h.below (drewN_below _ _), h.a0, h.a1, h.b0, h.b1⟩
def LessJ (w : World) (a b : Ent) (g : Nat) (a' : Act) (wr : World) : Prop :=
 ∃ (j x y : Nat), j + g = 2 ∧ Fr 30 [(4, .bool false), (5, .pointer (some ⟨x, 0, none⟩)), (6, .pointer (some ⟨y, 0, none⟩)), (7, .int .i64 j)] a' ∧ lessFrom a b j = lessE a b ∧ LessAt w wr x y a b
set_option maxHeartbeats 4000000 in
theorem less_any (a b : Ent) (ha : In64 a.prio) (hb : In64 b.prio) (w : World) : Calls Tryz.prog 285 #[enV a, enV b] w fun r w' => r = .returned (.bool (lessE a b)) ∧ Below w.heap.size w w' := by
 have c1 : Hid (∀ w, Calls Tryz.prog 302 #[enV a] w fun r w' => r = .returned (.agg #[.int .i64 (-a.prio - 1), .int .i64 a.id]) ∧ ∃ o p, w' = (w.alloc o).alloc p) := Lib.hid fun w => (ranked_any a ha w).mono fun _ _ h => ⟨h.1, _, _, h.2⟩
 have c2 : Hid (∀ w, Calls Tryz.prog 302 #[enV b] w fun r w' => r = .returned (.agg #[.int .i64 (-b.prio - 1), .int .i64 b.id]) ∧ ∃ o p, w' = (w.alloc o).alloc p) := Lib.hid fun w => (ranked_any b hb w).mono fun _ _ h => ⟨h.1, _, _, h.2⟩
 have h0 := Lib.hid (bel (new_below w (enO a)) (new_below _ (enO b)))
 clear ha hb
 go_enter Tryz.func285, Tryz.ntmps285
 go_wp2_with fail
 refine wp_scope_ghost 0 (LessJ w a b) rfl ?_ ?_
 ·rintro g a' wr ⟨j, x, y, hj, hfr, hacc, hH⟩
  obtain ⟨f, rfl, hl'⟩ := hfr.lit
  clear hfr c1 c2 h0
  simp only [List.mem_cons, List.not_mem_nil, or_false, forall_eq_or_imp, forall_eq] at hl'
  obtain ⟨f3, f4, f5, f6⟩ := hl'
  simp only [List.range, List.range.loop, List.map, f3, f4, f5, f6]
  clear f3 f4 f5 f6
  have q0 := hH.a0
  have q1 := hH.a1
  have p0 := hH.b0
  have p1 := hH.b1
  have fin := Lib.hid (fun n => (hH.drewN n).below)
  have fin0 := Lib.hid hH.below
  replace hH := Lib.hid hH.drewN
  replace hacc := Lib.hid hacc
  obtain rfl | rfl | rfl : j = 0 ∨ j = 1 ∨ j = 2 := by omega
  all_goals simp only [Int.cast_ofNat_Int]
  ·have hm : Hid (∃ m n, m = -a.prio - 1 ∧ n = -b.prio - 1) := Lib.hid ⟨_, _, rfl, rfl⟩
   obtain ⟨m, n, hm, hn⟩ := hm.out
   rw [← hm] at q0
   rw [← hn] at p0
   by_cases h1 : m = n
   ·have e : Hid (lessFrom a b 1 = lessE a b) := Lib.hid (by
     have : a.prio = b.prio := by omega
     simp [lessFrom, lessE, this])
    subst h1
    clear hm hn
    go_wp2_with fail
    go_quiet (fail)
    go_wp2_with fail
    refine wp_goto ?_
    exact ⟨rfl, g - 1, by omega, 1, x, y, by omega, ⟨rfl, rfl, by simp⟩, e.out, hH.out _⟩
   ·have e : Hid (decide (m < n) = lessE a b) := Lib.hid (by
     unfold lessE
     exact decide_eq_decide.2 (by omega))
    have h2 : (m == n) = false := by simpa using h1
    clear hm hn h1
    go_wp2_with fail
    go_quiet (fail)
    go_wp2_with fail
    go_quiet (fail)
    go_wp2_with fail
    simp only [Exit.jump]
    go_ret
    exact ⟨ret_bool e.out, bel (fin.out _) (drewN_below _ _)⟩
  ·have e : Hid (decide (a.id < b.id) = lessE a b) := Lib.hid hacc.out
   generalize a.id = m at q1 e
   generalize b.id = n at p1 e
   by_cases h1 : m = n
   ·have e2 : Hid (lessFrom a b 2 = lessE a b) := Lib.hid (by
     rw [← e.out, h1]
     simp [lessFrom])
    subst h1
    clear e
    go_wp2_with fail
    go_quiet (fail)
    go_wp2_with fail
    refine wp_goto ?_
    exact ⟨rfl, g - 1, by omega, 2, x, y, by omega, ⟨rfl, rfl, by simp⟩, e2.out, hH.out _⟩
   ·have h2 : (m == n) = false := by simpa using h1
    clear h1
    go_wp2_with fail
    go_quiet (fail)
    go_wp2_with fail
    go_quiet (fail)
    go_wp2_with fail
    simp only [Exit.jump]
    go_ret
    exact ⟨ret_bool e.out, bel (fin.out _) (drewN_below _ _)⟩
  ·go_wp2_with fail
   simp only [Exit.jump]
   go_ret
   exact ⟨ret_bool hacc.out, fin0.out⟩
 ·intro H
  go_wp2_with fail
  have hS0 := Lib.hid (en2Start w a b)
  have hb0 := Lib.hid (two_new w (enO a) (enO b))
  generalize (w.alloc (enO a)).alloc (enO b) = W at *
  refine wp_region_held_drew (S := fun wr => En2 wr w.heap.size (w.heap.size + 1) a b) (by kernel_rfl) (en2Hold hS0.out (drew_b _)) (fun hHeld => ?_)
  generalize hV : W.drew = V at *
  have hbV : Hid (Below w.heap.size w V) := Lib.hid (hV ▸ bel hb0.out (drew_b _))
  have hSV := Lib.hid hHeld
  clear hV hS0 hb0
  refine wpAnyH_take (i := 0) (oi := { dst := some 8, op := Op.load 51 (Operand.tmp 2), type := 51, pos := "entry.go:18", after := #[], guard := none }) (v := ?_) rfl (by kernel_rfl) (by kernel_rfl) (by kernel_rfl) (fun _ _ _ h => h) (Or.inl ⟨by rfl, ?_⟩) hHeld ?_
  rotate_left 1
  ·(intro w' hSw; obtain ⟨⟨s0, s1, s2, s3, s4, s5, s6, s7, s8, s9⟩, ⟨t0, t1, t2, t3, t4, t5, t6, t7, t8, t9⟩⟩ := hSw; go_simp; (try with_reducible rfl))
  try simp only [Act.put, List.setIfInBounds_toArray, List.set_cons_zero, List.set_cons_succ]
  refine wpAnyH_take (i := 2) (oi := { dst := some 10, op := Op.load 51 (Operand.tmp 3), type := 51, pos := "entry.go:18", after := #[], guard := none }) (v := ?_) rfl (by kernel_rfl) (by kernel_rfl) (by kernel_rfl) (fun _ _ _ h => h) (Or.inl ⟨by rfl, ?_⟩) hHeld ?_
  rotate_left 1
  ·(intro w' hSw; obtain ⟨⟨s0, s1, s2, s3, s4, s5, s6, s7, s8, s9⟩, ⟨t0, t1, t2, t3, t4, t5, t6, t7, t8, t9⟩⟩ := hSw; go_simp; (try with_reducible rfl))
  try simp only [Act.put, List.setIfInBounds_toArray, List.set_cons_zero, List.set_cons_succ]
  refine wpAnyH_ready (rs := [1, 4, 5]) (by kernel_rfl) (by simp) (AllReadyH.cons (o := { dst := some 9, op := Op.call { callee := Callee.value (Operand.func 302), args := #[Operand.tmp 8], argTypes := #[51] }, type := 364, pos := "entry.go:18", after := #[{ on := 0, ground := Ground.data }], guard := none }) rfl (fun K hK => ?_) (AllReadyH.cons (o := { dst := some 5, op := Op.alloc 364, type := 0, pos := "entry.go:18", after := #[], guard := none }) rfl (fun K hK => ?_) (AllReadyH.cons (o := { dst := some 6, op := Op.alloc 364, type := 0, pos := "entry.go:18", after := #[], guard := none }) rfl (fun K hK => ?_) AllReadyH.nil)))
  ·go_simp
   refine (c1.out _).mono ?_
   rintro e w' ⟨rfl, o, p, rfl⟩
   clear hHeld
   go_wp2_with fail
   refine hK.out _ _ (by repeat (first | exact hSV.out | refine en2Hold ?_ (drew_b _) | refine en2Hold ?_ (new_below _ _))) (fun hHeld => ?_)
   clear hK K
   try simp only [Act.put, List.setIfInBounds_toArray, List.set_cons_zero, List.set_cons_succ]
   refine wpAnyH_ready (rs := [3, 4, 5]) (by kernel_rfl) (by simp) (AllReadyH.cons (o := { dst := some 11, op := Op.call { callee := Callee.value (Operand.func 302), args := #[Operand.tmp 10], argTypes := #[51] }, type := 364, pos := "entry.go:18", after := #[{ on := 2, ground := Ground.data }, { on := 1, ground := Ground.chain }], guard := none }) rfl (fun K hK => ?_) (AllReadyH.cons (o := { dst := some 5, op := Op.alloc 364, type := 0, pos := "entry.go:18", after := #[], guard := none }) rfl (fun K hK => ?_) (AllReadyH.cons (o := { dst := some 6, op := Op.alloc 364, type := 0, pos := "entry.go:18", after := #[], guard := none }) rfl (fun K hK => ?_) AllReadyH.nil)))
   ·go_simp
    refine (c2.out _).mono ?_
    rintro e w' ⟨rfl, o, p, rfl⟩
    clear hHeld
    go_wp2_with fail
    refine hK.out _ _ (by repeat (first | exact hSV.out | refine en2Hold ?_ (drew_b _) | refine en2Hold ?_ (new_below _ _))) (fun hHeld => ?_)
    clear hK K
    try simp only [Act.put, List.setIfInBounds_toArray, List.set_cons_zero, List.set_cons_succ]
    refine wpAnyH_ready (rs := [4, 5]) (by kernel_rfl) (by simp) (AllReadyH.cons (o := { dst := some 5, op := Op.alloc 364, type := 0, pos := "entry.go:18", after := #[], guard := none }) rfl (fun K hK => ?_) (AllReadyH.cons (o := { dst := some 6, op := Op.alloc 364, type := 0, pos := "entry.go:18", after := #[], guard := none }) rfl (fun K hK => ?_) AllReadyH.nil))
    ·clear hHeld
     go_simp
     refine hK.out _ _ (by repeat (first | exact hSV.out | refine en2Hold ?_ (drew_b _) | refine en2Hold ?_ (new_below _ _))) (fun hHeld => ?_)
     clear hK K
     try simp only [Act.put, List.setIfInBounds_toArray, List.set_cons_zero, List.set_cons_succ]
     refine wpAnyH_ready (rs := [5]) (by kernel_rfl) (by simp) (AllReadyH.cons (o := { dst := some 6, op := Op.alloc 364, type := 0, pos := "entry.go:18", after := #[], guard := none }) rfl (fun K hK => ?_) AllReadyH.nil)
     clear hHeld
     go_simp
     refine hK.out _ _ (by repeat (first | exact hSV.out | refine en2Hold ?_ (drew_b _) | refine en2Hold ?_ (new_below _ _))) (fun hHeld => ?_)
     clear hK K
     try simp only [Act.put, List.setIfInBounds_toArray, List.set_cons_zero, List.set_cons_succ]
     refine wpAnyH_ready (rs := [6]) (by kernel_rfl) (by simp) (AllReadyH.cons (o := { dst := none, op := Op.store 364 (Operand.tmp 5) (Operand.tmp 9), type := 0, pos := "entry.go:18", after := #[{ on := 4, ground := Ground.data }, { on := 1, ground := Ground.data }, { on := 3, ground := Ground.chain }, { on := 0, ground := Ground.phase }, { on := 1, ground := Ground.phase }, { on := 2, ground := Ground.textOnly Departure.lateStores }, { on := 3, ground := Ground.textOnly Departure.lateStoresUnsure }, { on := 4, ground := Ground.phase }, { on := 5, ground := Ground.phase }], guard := none }) rfl (fun K hK => ?_) AllReadyH.nil)
     clear hHeld
     go_simp
     refine hK.out _ _ (by repeat (first | exact hSV.out | refine en2Hold ?_ (drew_b _) | refine en2Hold ?_ (new_below _ _))) (fun hHeld => ?_)
     clear hK K
     try simp only [Act.put, List.setIfInBounds_toArray, List.set_cons_zero, List.set_cons_succ]
     refine wpAnyH_ready (rs := [7]) (by kernel_rfl) (by simp) (AllReadyH.cons (o := { dst := none, op := Op.store 364 (Operand.tmp 6) (Operand.tmp 11), type := 0, pos := "entry.go:18", after := #[{ on := 5, ground := Ground.data }, { on := 3, ground := Ground.data }, { on := 6, ground := Ground.chain }, { on := 0, ground := Ground.phase }, { on := 1, ground := Ground.phase }, { on := 2, ground := Ground.phase }, { on := 3, ground := Ground.phase }, { on := 4, ground := Ground.phase }, { on := 5, ground := Ground.phase }, { on := 6, ground := Ground.phase }], guard := none }) rfl (fun K hK => ?_) AllReadyH.nil)
     clear hHeld
     go_simp
     refine hK.out _ _ (by repeat (first | exact hSV.out | refine en2Hold ?_ (drew_b _) | refine en2Hold ?_ (new_below _ _))) (fun hHeld => ?_)
     clear hK K
     try simp only [Act.put, List.setIfInBounds_toArray, List.set_cons_zero, List.set_cons_succ]
     refine wpAnyH_done (by kernel_rfl) ?_ _
     clear hHeld hSV
     go_wp2_with fail
     refine wp_label ?_
     go_step
     go_step
     refine H _ _ _ ⟨0, _, _, Nat.zero_add 2, ⟨rfl, rfl, by simp; exact ⟨rfl, rfl⟩⟩, rfl, ⟨by repeat (first | exact hbV.out | refine bel ?_ (new_below _ _)), ?_, ?_, ?_, ?_⟩⟩
     all_goals go_simp
    ·clear hHeld
     go_simp
     refine hK.out _ _ (by repeat (first | exact hSV.out | refine en2Hold ?_ (drew_b _) | refine en2Hold ?_ (new_below _ _))) (fun hHeld => ?_)
     clear hK K
     try simp only [Act.put, List.setIfInBounds_toArray, List.set_cons_zero, List.set_cons_succ]
     refine wpAnyH_ready (rs := [4]) (by kernel_rfl) (by simp) (AllReadyH.cons (o := { dst := some 5, op := Op.alloc 364, type := 0, pos := "entry.go:18", after := #[], guard := none }) rfl (fun K hK => ?_) AllReadyH.nil)
     clear hHeld
     go_simp
     refine hK.out _ _ (by repeat (first | exact hSV.out | refine en2Hold ?_ (drew_b _) | refine en2Hold ?_ (new_below _ _))) (fun hHeld => ?_)
     clear hK K
     try simp only [Act.put, List.setIfInBounds_toArray, List.set_cons_zero, List.set_cons_succ]
     refine wpAnyH_ready (rs := [6]) (by kernel_rfl) (by simp) (AllReadyH.cons (o := { dst := none, op := Op.store 364 (Operand.tmp 5) (Operand.tmp 9), type := 0, pos := "entry.go:18", after := #[{ on := 4, ground := Ground.data }, { on := 1, ground := Ground.data }, { on := 3, ground := Ground.chain }, { on := 0, ground := Ground.phase }, { on := 1, ground := Ground.phase }, { on := 2, ground := Ground.textOnly Departure.lateStores }, { on := 3, ground := Ground.textOnly Departure.lateStoresUnsure }, { on := 4, ground := Ground.phase }, { on := 5, ground := Ground.phase }], guard := none }) rfl (fun K hK => ?_) AllReadyH.nil)
     clear hHeld
     go_simp
     refine hK.out _ _ (by repeat (first | exact hSV.out | refine en2Hold ?_ (drew_b _) | refine en2Hold ?_ (new_below _ _))) (fun hHeld => ?_)
     clear hK K
     try simp only [Act.put, List.setIfInBounds_toArray, List.set_cons_zero, List.set_cons_succ]
     refine wpAnyH_ready (rs := [7]) (by kernel_rfl) (by simp) (AllReadyH.cons (o := { dst := none, op := Op.store 364 (Operand.tmp 6) (Operand.tmp 11), type := 0, pos := "entry.go:18", after := #[{ on := 5, ground := Ground.data }, { on := 3, ground := Ground.data }, { on := 6, ground := Ground.chain }, { on := 0, ground := Ground.phase }, { on := 1, ground := Ground.phase }, { on := 2, ground := Ground.phase }, { on := 3, ground := Ground.phase }, { on := 4, ground := Ground.phase }, { on := 5, ground := Ground.phase }, { on := 6, ground := Ground.phase }], guard := none }) rfl (fun K hK => ?_) AllReadyH.nil)
     clear hHeld
     go_simp
     refine hK.out _ _ (by repeat (first | exact hSV.out | refine en2Hold ?_ (drew_b _) | refine en2Hold ?_ (new_below _ _))) (fun hHeld => ?_)
     clear hK K
     try simp only [Act.put, List.setIfInBounds_toArray, List.set_cons_zero, List.set_cons_succ]
     refine wpAnyH_done (by kernel_rfl) ?_ _
     clear hHeld hSV
     go_wp2_with fail
     refine wp_label ?_
     go_step
     go_step
     refine H _ _ _ ⟨0, _, _, Nat.zero_add 2, ⟨rfl, rfl, by simp; exact ⟨rfl, rfl⟩⟩, rfl, ⟨by repeat (first | exact hbV.out | refine bel ?_ (new_below _ _)), ?_, ?_, ?_, ?_⟩⟩
     all_goals go_simp
   ·clear hHeld
    go_simp
    refine hK.out _ _ (by repeat (first | exact hSV.out | refine en2Hold ?_ (drew_b _) | refine en2Hold ?_ (new_below _ _))) (fun hHeld => ?_)
    clear hK K
    try simp only [Act.put, List.setIfInBounds_toArray, List.set_cons_zero, List.set_cons_succ]
    refine wpAnyH_ready (rs := [3, 5]) (by kernel_rfl) (by simp) (AllReadyH.cons (o := { dst := some 11, op := Op.call { callee := Callee.value (Operand.func 302), args := #[Operand.tmp 10], argTypes := #[51] }, type := 364, pos := "entry.go:18", after := #[{ on := 2, ground := Ground.data }, { on := 1, ground := Ground.chain }], guard := none }) rfl (fun K hK => ?_) (AllReadyH.cons (o := { dst := some 6, op := Op.alloc 364, type := 0, pos := "entry.go:18", after := #[], guard := none }) rfl (fun K hK => ?_) AllReadyH.nil))
    ·go_simp
     refine (c2.out _).mono ?_
     rintro e w' ⟨rfl, o, p, rfl⟩
     clear hHeld
     go_wp2_with fail
     refine hK.out _ _ (by repeat (first | exact hSV.out | refine en2Hold ?_ (drew_b _) | refine en2Hold ?_ (new_below _ _))) (fun hHeld => ?_)
     clear hK K
     try simp only [Act.put, List.setIfInBounds_toArray, List.set_cons_zero, List.set_cons_succ]
     refine wpAnyH_ready (rs := [5]) (by kernel_rfl) (by simp) (AllReadyH.cons (o := { dst := some 6, op := Op.alloc 364, type := 0, pos := "entry.go:18", after := #[], guard := none }) rfl (fun K hK => ?_) AllReadyH.nil)
     clear hHeld
     go_simp
     refine hK.out _ _ (by repeat (first | exact hSV.out | refine en2Hold ?_ (drew_b _) | refine en2Hold ?_ (new_below _ _))) (fun hHeld => ?_)
     clear hK K
     try simp only [Act.put, List.setIfInBounds_toArray, List.set_cons_zero, List.set_cons_succ]
     refine wpAnyH_ready (rs := [6]) (by kernel_rfl) (by simp) (AllReadyH.cons (o := { dst := none, op := Op.store 364 (Operand.tmp 5) (Operand.tmp 9), type := 0, pos := "entry.go:18", after := #[{ on := 4, ground := Ground.data }, { on := 1, ground := Ground.data }, { on := 3, ground := Ground.chain }, { on := 0, ground := Ground.phase }, { on := 1, ground := Ground.phase }, { on := 2, ground := Ground.textOnly Departure.lateStores }, { on := 3, ground := Ground.textOnly Departure.lateStoresUnsure }, { on := 4, ground := Ground.phase }, { on := 5, ground := Ground.phase }], guard := none }) rfl (fun K hK => ?_) AllReadyH.nil)
     clear hHeld
     go_simp
     refine hK.out _ _ (by repeat (first | exact hSV.out | refine en2Hold ?_ (drew_b _) | refine en2Hold ?_ (new_below _ _))) (fun hHeld => ?_)
     clear hK K
     try simp only [Act.put, List.setIfInBounds_toArray, List.set_cons_zero, List.set_cons_succ]
     refine wpAnyH_ready (rs := [7]) (by kernel_rfl) (by simp) (AllReadyH.cons (o := { dst := none, op := Op.store 364 (Operand.tmp 6) (Operand.tmp 11), type := 0, pos := "entry.go:18", after := #[{ on := 5, ground := Ground.data }, { on := 3, ground := Ground.data }, { on := 6, ground := Ground.chain }, { on := 0, ground := Ground.phase }, { on := 1, ground := Ground.phase }, { on := 2, ground := Ground.phase }, { on := 3, ground := Ground.phase }, { on := 4, ground := Ground.phase }, { on := 5, ground := Ground.phase }, { on := 6, ground := Ground.phase }], guard := none }) rfl (fun K hK => ?_) AllReadyH.nil)
     clear hHeld
     go_simp
     refine hK.out _ _ (by repeat (first | exact hSV.out | refine en2Hold ?_ (drew_b _) | refine en2Hold ?_ (new_below _ _))) (fun hHeld => ?_)
     clear hK K
     try simp only [Act.put, List.setIfInBounds_toArray, List.set_cons_zero, List.set_cons_succ]
     refine wpAnyH_done (by kernel_rfl) ?_ _
     clear hHeld hSV
     go_wp2_with fail
     refine wp_label ?_
     go_step
     go_step
     refine H _ _ _ ⟨0, _, _, Nat.zero_add 2, ⟨rfl, rfl, by simp; exact ⟨rfl, rfl⟩⟩, rfl, ⟨by repeat (first | exact hbV.out | refine bel ?_ (new_below _ _)), ?_, ?_, ?_, ?_⟩⟩
     all_goals go_simp
    ·clear hHeld
     go_simp
     refine hK.out _ _ (by repeat (first | exact hSV.out | refine en2Hold ?_ (drew_b _) | refine en2Hold ?_ (new_below _ _))) (fun hHeld => ?_)
     clear hK K
     try simp only [Act.put, List.setIfInBounds_toArray, List.set_cons_zero, List.set_cons_succ]
     refine wpAnyH_ready (rs := [3]) (by kernel_rfl) (by simp) (AllReadyH.cons (o := { dst := some 11, op := Op.call { callee := Callee.value (Operand.func 302), args := #[Operand.tmp 10], argTypes := #[51] }, type := 364, pos := "entry.go:18", after := #[{ on := 2, ground := Ground.data }, { on := 1, ground := Ground.chain }], guard := none }) rfl (fun K hK => ?_) AllReadyH.nil)
     go_simp
     refine (c2.out _).mono ?_
     rintro e w' ⟨rfl, o, p, rfl⟩
     clear hHeld
     go_wp2_with fail
     refine hK.out _ _ (by repeat (first | exact hSV.out | refine en2Hold ?_ (drew_b _) | refine en2Hold ?_ (new_below _ _))) (fun hHeld => ?_)
     clear hK K
     try simp only [Act.put, List.setIfInBounds_toArray, List.set_cons_zero, List.set_cons_succ]
     refine wpAnyH_ready (rs := [6]) (by kernel_rfl) (by simp) (AllReadyH.cons (o := { dst := none, op := Op.store 364 (Operand.tmp 5) (Operand.tmp 9), type := 0, pos := "entry.go:18", after := #[{ on := 4, ground := Ground.data }, { on := 1, ground := Ground.data }, { on := 3, ground := Ground.chain }, { on := 0, ground := Ground.phase }, { on := 1, ground := Ground.phase }, { on := 2, ground := Ground.textOnly Departure.lateStores }, { on := 3, ground := Ground.textOnly Departure.lateStoresUnsure }, { on := 4, ground := Ground.phase }, { on := 5, ground := Ground.phase }], guard := none }) rfl (fun K hK => ?_) AllReadyH.nil)
     clear hHeld
     go_simp
     refine hK.out _ _ (by repeat (first | exact hSV.out | refine en2Hold ?_ (drew_b _) | refine en2Hold ?_ (new_below _ _))) (fun hHeld => ?_)
     clear hK K
     try simp only [Act.put, List.setIfInBounds_toArray, List.set_cons_zero, List.set_cons_succ]
     refine wpAnyH_ready (rs := [7]) (by kernel_rfl) (by simp) (AllReadyH.cons (o := { dst := none, op := Op.store 364 (Operand.tmp 6) (Operand.tmp 11), type := 0, pos := "entry.go:18", after := #[{ on := 5, ground := Ground.data }, { on := 3, ground := Ground.data }, { on := 6, ground := Ground.chain }, { on := 0, ground := Ground.phase }, { on := 1, ground := Ground.phase }, { on := 2, ground := Ground.phase }, { on := 3, ground := Ground.phase }, { on := 4, ground := Ground.phase }, { on := 5, ground := Ground.phase }, { on := 6, ground := Ground.phase }], guard := none }) rfl (fun K hK => ?_) AllReadyH.nil)
     clear hHeld
     go_simp
     refine hK.out _ _ (by repeat (first | exact hSV.out | refine en2Hold ?_ (drew_b _) | refine en2Hold ?_ (new_below _ _))) (fun hHeld => ?_)
     clear hK K
     try simp only [Act.put, List.setIfInBounds_toArray, List.set_cons_zero, List.set_cons_succ]
     refine wpAnyH_done (by kernel_rfl) ?_ _
     clear hHeld hSV
     go_wp2_with fail
     refine wp_label ?_
     go_step
     go_step
     refine H _ _ _ ⟨0, _, _, Nat.zero_add 2, ⟨rfl, rfl, by simp; exact ⟨rfl, rfl⟩⟩, rfl, ⟨by repeat (first | exact hbV.out | refine bel ?_ (new_below _ _)), ?_, ?_, ?_, ?_⟩⟩
     all_goals go_simp
   ·clear hHeld
    go_simp
    refine hK.out _ _ (by repeat (first | exact hSV.out | refine en2Hold ?_ (drew_b _) | refine en2Hold ?_ (new_below _ _))) (fun hHeld => ?_)
    clear hK K
    try simp only [Act.put, List.setIfInBounds_toArray, List.set_cons_zero, List.set_cons_succ]
    refine wpAnyH_ready (rs := [3, 4]) (by kernel_rfl) (by simp) (AllReadyH.cons (o := { dst := some 11, op := Op.call { callee := Callee.value (Operand.func 302), args := #[Operand.tmp 10], argTypes := #[51] }, type := 364, pos := "entry.go:18", after := #[{ on := 2, ground := Ground.data }, { on := 1, ground := Ground.chain }], guard := none }) rfl (fun K hK => ?_) (AllReadyH.cons (o := { dst := some 5, op := Op.alloc 364, type := 0, pos := "entry.go:18", after := #[], guard := none }) rfl (fun K hK => ?_) AllReadyH.nil))
    ·go_simp
     refine (c2.out _).mono ?_
     rintro e w' ⟨rfl, o, p, rfl⟩
     clear hHeld
     go_wp2_with fail
     refine hK.out _ _ (by repeat (first | exact hSV.out | refine en2Hold ?_ (drew_b _) | refine en2Hold ?_ (new_below _ _))) (fun hHeld => ?_)
     clear hK K
     try simp only [Act.put, List.setIfInBounds_toArray, List.set_cons_zero, List.set_cons_succ]
     refine wpAnyH_ready (rs := [4]) (by kernel_rfl) (by simp) (AllReadyH.cons (o := { dst := some 5, op := Op.alloc 364, type := 0, pos := "entry.go:18", after := #[], guard := none }) rfl (fun K hK => ?_) AllReadyH.nil)
     clear hHeld
     go_simp
     refine hK.out _ _ (by repeat (first | exact hSV.out | refine en2Hold ?_ (drew_b _) | refine en2Hold ?_ (new_below _ _))) (fun hHeld => ?_)
     clear hK K
     try simp only [Act.put, List.setIfInBounds_toArray, List.set_cons_zero, List.set_cons_succ]
     refine wpAnyH_ready (rs := [6]) (by kernel_rfl) (by simp) (AllReadyH.cons (o := { dst := none, op := Op.store 364 (Operand.tmp 5) (Operand.tmp 9), type := 0, pos := "entry.go:18", after := #[{ on := 4, ground := Ground.data }, { on := 1, ground := Ground.data }, { on := 3, ground := Ground.chain }, { on := 0, ground := Ground.phase }, { on := 1, ground := Ground.phase }, { on := 2, ground := Ground.textOnly Departure.lateStores }, { on := 3, ground := Ground.textOnly Departure.lateStoresUnsure }, { on := 4, ground := Ground.phase }, { on := 5, ground := Ground.phase }], guard := none }) rfl (fun K hK => ?_) AllReadyH.nil)
     clear hHeld
     go_simp
     refine hK.out _ _ (by repeat (first | exact hSV.out | refine en2Hold ?_ (drew_b _) | refine en2Hold ?_ (new_below _ _))) (fun hHeld => ?_)
     clear hK K
     try simp only [Act.put, List.setIfInBounds_toArray, List.set_cons_zero, List.set_cons_succ]
     refine wpAnyH_ready (rs := [7]) (by kernel_rfl) (by simp) (AllReadyH.cons (o := { dst := none, op := Op.store 364 (Operand.tmp 6) (Operand.tmp 11), type := 0, pos := "entry.go:18", after := #[{ on := 5, ground := Ground.data }, { on := 3, ground := Ground.data }, { on := 6, ground := Ground.chain }, { on := 0, ground := Ground.phase }, { on := 1, ground := Ground.phase }, { on := 2, ground := Ground.phase }, { on := 3, ground := Ground.phase }, { on := 4, ground := Ground.phase }, { on := 5, ground := Ground.phase }, { on := 6, ground := Ground.phase }], guard := none }) rfl (fun K hK => ?_) AllReadyH.nil)
     clear hHeld
     go_simp
     refine hK.out _ _ (by repeat (first | exact hSV.out | refine en2Hold ?_ (drew_b _) | refine en2Hold ?_ (new_below _ _))) (fun hHeld => ?_)
     clear hK K
     try simp only [Act.put, List.setIfInBounds_toArray, List.set_cons_zero, List.set_cons_succ]
     refine wpAnyH_done (by kernel_rfl) ?_ _
     clear hHeld hSV
     go_wp2_with fail
     refine wp_label ?_
     go_step
     go_step
     refine H _ _ _ ⟨0, _, _, Nat.zero_add 2, ⟨rfl, rfl, by simp; exact ⟨rfl, rfl⟩⟩, rfl, ⟨by repeat (first | exact hbV.out | refine bel ?_ (new_below _ _)), ?_, ?_, ?_, ?_⟩⟩
     all_goals go_simp
    ·clear hHeld
     go_simp
     refine hK.out _ _ (by repeat (first | exact hSV.out | refine en2Hold ?_ (drew_b _) | refine en2Hold ?_ (new_below _ _))) (fun hHeld => ?_)
     clear hK K
     try simp only [Act.put, List.setIfInBounds_toArray, List.set_cons_zero, List.set_cons_succ]
     refine wpAnyH_ready (rs := [3]) (by kernel_rfl) (by simp) (AllReadyH.cons (o := { dst := some 11, op := Op.call { callee := Callee.value (Operand.func 302), args := #[Operand.tmp 10], argTypes := #[51] }, type := 364, pos := "entry.go:18", after := #[{ on := 2, ground := Ground.data }, { on := 1, ground := Ground.chain }], guard := none }) rfl (fun K hK => ?_) AllReadyH.nil)
     go_simp
     refine (c2.out _).mono ?_
     rintro e w' ⟨rfl, o, p, rfl⟩
     clear hHeld
     go_wp2_with fail
     refine hK.out _ _ (by repeat (first | exact hSV.out | refine en2Hold ?_ (drew_b _) | refine en2Hold ?_ (new_below _ _))) (fun hHeld => ?_)
     clear hK K
     try simp only [Act.put, List.setIfInBounds_toArray, List.set_cons_zero, List.set_cons_succ]
     refine wpAnyH_ready (rs := [6]) (by kernel_rfl) (by simp) (AllReadyH.cons (o := { dst := none, op := Op.store 364 (Operand.tmp 5) (Operand.tmp 9), type := 0, pos := "entry.go:18", after := #[{ on := 4, ground := Ground.data }, { on := 1, ground := Ground.data }, { on := 3, ground := Ground.chain }, { on := 0, ground := Ground.phase }, { on := 1, ground := Ground.phase }, { on := 2, ground := Ground.textOnly Departure.lateStores }, { on := 3, ground := Ground.textOnly Departure.lateStoresUnsure }, { on := 4, ground := Ground.phase }, { on := 5, ground := Ground.phase }], guard := none }) rfl (fun K hK => ?_) AllReadyH.nil)
     clear hHeld
     go_simp
     refine hK.out _ _ (by repeat (first | exact hSV.out | refine en2Hold ?_ (drew_b _) | refine en2Hold ?_ (new_below _ _))) (fun hHeld => ?_)
     clear hK K
     try simp only [Act.put, List.setIfInBounds_toArray, List.set_cons_zero, List.set_cons_succ]
     refine wpAnyH_ready (rs := [7]) (by kernel_rfl) (by simp) (AllReadyH.cons (o := { dst := none, op := Op.store 364 (Operand.tmp 6) (Operand.tmp 11), type := 0, pos := "entry.go:18", after := #[{ on := 5, ground := Ground.data }, { on := 3, ground := Ground.data }, { on := 6, ground := Ground.chain }, { on := 0, ground := Ground.phase }, { on := 1, ground := Ground.phase }, { on := 2, ground := Ground.phase }, { on := 3, ground := Ground.phase }, { on := 4, ground := Ground.phase }, { on := 5, ground := Ground.phase }, { on := 6, ground := Ground.phase }], guard := none }) rfl (fun K hK => ?_) AllReadyH.nil)
     clear hHeld
     go_simp
     refine hK.out _ _ (by repeat (first | exact hSV.out | refine en2Hold ?_ (drew_b _) | refine en2Hold ?_ (new_below _ _))) (fun hHeld => ?_)
     clear hK K
     try simp only [Act.put, List.setIfInBounds_toArray, List.set_cons_zero, List.set_cons_succ]
     refine wpAnyH_done (by kernel_rfl) ?_ _
     clear hHeld hSV
     go_wp2_with fail
     refine wp_label ?_
     go_step
     go_step
     refine H _ _ _ ⟨0, _, _, Nat.zero_add 2, ⟨rfl, rfl, by simp; exact ⟨rfl, rfl⟩⟩, rfl, ⟨by repeat (first | exact hbV.out | refine bel ?_ (new_below _ _)), ?_, ?_, ?_, ?_⟩⟩
     all_goals go_simp
  ·clear hHeld
   go_simp
   refine hK.out _ _ (by repeat (first | exact hSV.out | refine en2Hold ?_ (drew_b _) | refine en2Hold ?_ (new_below _ _))) (fun hHeld => ?_)
   clear hK K
   try simp only [Act.put, List.setIfInBounds_toArray, List.set_cons_zero, List.set_cons_succ]
   refine wpAnyH_ready (rs := [1, 5]) (by kernel_rfl) (by simp) (AllReadyH.cons (o := { dst := some 9, op := Op.call { callee := Callee.value (Operand.func 302), args := #[Operand.tmp 8], argTypes := #[51] }, type := 364, pos := "entry.go:18", after := #[{ on := 0, ground := Ground.data }], guard := none }) rfl (fun K hK => ?_) (AllReadyH.cons (o := { dst := some 6, op := Op.alloc 364, type := 0, pos := "entry.go:18", after := #[], guard := none }) rfl (fun K hK => ?_) AllReadyH.nil))
   ·go_simp
    refine (c1.out _).mono ?_
    rintro e w' ⟨rfl, o, p, rfl⟩
    clear hHeld
    go_wp2_with fail
    refine hK.out _ _ (by repeat (first | exact hSV.out | refine en2Hold ?_ (drew_b _) | refine en2Hold ?_ (new_below _ _))) (fun hHeld => ?_)
    clear hK K
    try simp only [Act.put, List.setIfInBounds_toArray, List.set_cons_zero, List.set_cons_succ]
    refine wpAnyH_ready (rs := [3, 5]) (by kernel_rfl) (by simp) (AllReadyH.cons (o := { dst := some 11, op := Op.call { callee := Callee.value (Operand.func 302), args := #[Operand.tmp 10], argTypes := #[51] }, type := 364, pos := "entry.go:18", after := #[{ on := 2, ground := Ground.data }, { on := 1, ground := Ground.chain }], guard := none }) rfl (fun K hK => ?_) (AllReadyH.cons (o := { dst := some 6, op := Op.alloc 364, type := 0, pos := "entry.go:18", after := #[], guard := none }) rfl (fun K hK => ?_) AllReadyH.nil))
    ·go_simp
     refine (c2.out _).mono ?_
     rintro e w' ⟨rfl, o, p, rfl⟩
     clear hHeld
     go_wp2_with fail
     refine hK.out _ _ (by repeat (first | exact hSV.out | refine en2Hold ?_ (drew_b _) | refine en2Hold ?_ (new_below _ _))) (fun hHeld => ?_)
     clear hK K
     try simp only [Act.put, List.setIfInBounds_toArray, List.set_cons_zero, List.set_cons_succ]
     refine wpAnyH_ready (rs := [5]) (by kernel_rfl) (by simp) (AllReadyH.cons (o := { dst := some 6, op := Op.alloc 364, type := 0, pos := "entry.go:18", after := #[], guard := none }) rfl (fun K hK => ?_) AllReadyH.nil)
     clear hHeld
     go_simp
     refine hK.out _ _ (by repeat (first | exact hSV.out | refine en2Hold ?_ (drew_b _) | refine en2Hold ?_ (new_below _ _))) (fun hHeld => ?_)
     clear hK K
     try simp only [Act.put, List.setIfInBounds_toArray, List.set_cons_zero, List.set_cons_succ]
     refine wpAnyH_ready (rs := [6]) (by kernel_rfl) (by simp) (AllReadyH.cons (o := { dst := none, op := Op.store 364 (Operand.tmp 5) (Operand.tmp 9), type := 0, pos := "entry.go:18", after := #[{ on := 4, ground := Ground.data }, { on := 1, ground := Ground.data }, { on := 3, ground := Ground.chain }, { on := 0, ground := Ground.phase }, { on := 1, ground := Ground.phase }, { on := 2, ground := Ground.textOnly Departure.lateStores }, { on := 3, ground := Ground.textOnly Departure.lateStoresUnsure }, { on := 4, ground := Ground.phase }, { on := 5, ground := Ground.phase }], guard := none }) rfl (fun K hK => ?_) AllReadyH.nil)
     clear hHeld
     go_simp
     refine hK.out _ _ (by repeat (first | exact hSV.out | refine en2Hold ?_ (drew_b _) | refine en2Hold ?_ (new_below _ _))) (fun hHeld => ?_)
     clear hK K
     try simp only [Act.put, List.setIfInBounds_toArray, List.set_cons_zero, List.set_cons_succ]
     refine wpAnyH_ready (rs := [7]) (by kernel_rfl) (by simp) (AllReadyH.cons (o := { dst := none, op := Op.store 364 (Operand.tmp 6) (Operand.tmp 11), type := 0, pos := "entry.go:18", after := #[{ on := 5, ground := Ground.data }, { on := 3, ground := Ground.data }, { on := 6, ground := Ground.chain }, { on := 0, ground := Ground.phase }, { on := 1, ground := Ground.phase }, { on := 2, ground := Ground.phase }, { on := 3, ground := Ground.phase }, { on := 4, ground := Ground.phase }, { on := 5, ground := Ground.phase }, { on := 6, ground := Ground.phase }], guard := none }) rfl (fun K hK => ?_) AllReadyH.nil)
     clear hHeld
     go_simp
     refine hK.out _ _ (by repeat (first | exact hSV.out | refine en2Hold ?_ (drew_b _) | refine en2Hold ?_ (new_below _ _))) (fun hHeld => ?_)
     clear hK K
     try simp only [Act.put, List.setIfInBounds_toArray, List.set_cons_zero, List.set_cons_succ]
     refine wpAnyH_done (by kernel_rfl) ?_ _
     clear hHeld hSV
     go_wp2_with fail
     refine wp_label ?_
     go_step
     go_step
     refine H _ _ _ ⟨0, _, _, Nat.zero_add 2, ⟨rfl, rfl, by simp; exact ⟨rfl, rfl⟩⟩, rfl, ⟨by repeat (first | exact hbV.out | refine bel ?_ (new_below _ _)), ?_, ?_, ?_, ?_⟩⟩
     all_goals go_simp
    ·clear hHeld
     go_simp
     refine hK.out _ _ (by repeat (first | exact hSV.out | refine en2Hold ?_ (drew_b _) | refine en2Hold ?_ (new_below _ _))) (fun hHeld => ?_)
     clear hK K
     try simp only [Act.put, List.setIfInBounds_toArray, List.set_cons_zero, List.set_cons_succ]
     refine wpAnyH_ready (rs := [3]) (by kernel_rfl) (by simp) (AllReadyH.cons (o := { dst := some 11, op := Op.call { callee := Callee.value (Operand.func 302), args := #[Operand.tmp 10], argTypes := #[51] }, type := 364, pos := "entry.go:18", after := #[{ on := 2, ground := Ground.data }, { on := 1, ground := Ground.chain }], guard := none }) rfl (fun K hK => ?_) AllReadyH.nil)
     go_simp
     refine (c2.out _).mono ?_
     rintro e w' ⟨rfl, o, p, rfl⟩
     clear hHeld
     go_wp2_with fail
     refine hK.out _ _ (by repeat (first | exact hSV.out | refine en2Hold ?_ (drew_b _) | refine en2Hold ?_ (new_below _ _))) (fun hHeld => ?_)
     clear hK K
     try simp only [Act.put, List.setIfInBounds_toArray, List.set_cons_zero, List.set_cons_succ]
     refine wpAnyH_ready (rs := [6]) (by kernel_rfl) (by simp) (AllReadyH.cons (o := { dst := none, op := Op.store 364 (Operand.tmp 5) (Operand.tmp 9), type := 0, pos := "entry.go:18", after := #[{ on := 4, ground := Ground.data }, { on := 1, ground := Ground.data }, { on := 3, ground := Ground.chain }, { on := 0, ground := Ground.phase }, { on := 1, ground := Ground.phase }, { on := 2, ground := Ground.textOnly Departure.lateStores }, { on := 3, ground := Ground.textOnly Departure.lateStoresUnsure }, { on := 4, ground := Ground.phase }, { on := 5, ground := Ground.phase }], guard := none }) rfl (fun K hK => ?_) AllReadyH.nil)
     clear hHeld
     go_simp
     refine hK.out _ _ (by repeat (first | exact hSV.out | refine en2Hold ?_ (drew_b _) | refine en2Hold ?_ (new_below _ _))) (fun hHeld => ?_)
     clear hK K
     try simp only [Act.put, List.setIfInBounds_toArray, List.set_cons_zero, List.set_cons_succ]
     refine wpAnyH_ready (rs := [7]) (by kernel_rfl) (by simp) (AllReadyH.cons (o := { dst := none, op := Op.store 364 (Operand.tmp 6) (Operand.tmp 11), type := 0, pos := "entry.go:18", after := #[{ on := 5, ground := Ground.data }, { on := 3, ground := Ground.data }, { on := 6, ground := Ground.chain }, { on := 0, ground := Ground.phase }, { on := 1, ground := Ground.phase }, { on := 2, ground := Ground.phase }, { on := 3, ground := Ground.phase }, { on := 4, ground := Ground.phase }, { on := 5, ground := Ground.phase }, { on := 6, ground := Ground.phase }], guard := none }) rfl (fun K hK => ?_) AllReadyH.nil)
     clear hHeld
     go_simp
     refine hK.out _ _ (by repeat (first | exact hSV.out | refine en2Hold ?_ (drew_b _) | refine en2Hold ?_ (new_below _ _))) (fun hHeld => ?_)
     clear hK K
     try simp only [Act.put, List.setIfInBounds_toArray, List.set_cons_zero, List.set_cons_succ]
     refine wpAnyH_done (by kernel_rfl) ?_ _
     clear hHeld hSV
     go_wp2_with fail
     refine wp_label ?_
     go_step
     go_step
     refine H _ _ _ ⟨0, _, _, Nat.zero_add 2, ⟨rfl, rfl, by simp; exact ⟨rfl, rfl⟩⟩, rfl, ⟨by repeat (first | exact hbV.out | refine bel ?_ (new_below _ _)), ?_, ?_, ?_, ?_⟩⟩
     all_goals go_simp
   ·clear hHeld
    go_simp
    refine hK.out _ _ (by repeat (first | exact hSV.out | refine en2Hold ?_ (drew_b _) | refine en2Hold ?_ (new_below _ _))) (fun hHeld => ?_)
    clear hK K
    try simp only [Act.put, List.setIfInBounds_toArray, List.set_cons_zero, List.set_cons_succ]
    refine wpAnyH_ready (rs := [1]) (by kernel_rfl) (by simp) (AllReadyH.cons (o := { dst := some 9, op := Op.call { callee := Callee.value (Operand.func 302), args := #[Operand.tmp 8], argTypes := #[51] }, type := 364, pos := "entry.go:18", after := #[{ on := 0, ground := Ground.data }], guard := none }) rfl (fun K hK => ?_) AllReadyH.nil)
    go_simp
    refine (c1.out _).mono ?_
    rintro e w' ⟨rfl, o, p, rfl⟩
    clear hHeld
    go_wp2_with fail
    refine hK.out _ _ (by repeat (first | exact hSV.out | refine en2Hold ?_ (drew_b _) | refine en2Hold ?_ (new_below _ _))) (fun hHeld => ?_)
    clear hK K
    try simp only [Act.put, List.setIfInBounds_toArray, List.set_cons_zero, List.set_cons_succ]
    refine wpAnyH_ready (rs := [3]) (by kernel_rfl) (by simp) (AllReadyH.cons (o := { dst := some 11, op := Op.call { callee := Callee.value (Operand.func 302), args := #[Operand.tmp 10], argTypes := #[51] }, type := 364, pos := "entry.go:18", after := #[{ on := 2, ground := Ground.data }, { on := 1, ground := Ground.chain }], guard := none }) rfl (fun K hK => ?_) AllReadyH.nil)
    go_simp
    refine (c2.out _).mono ?_
    rintro e w' ⟨rfl, o, p, rfl⟩
    clear hHeld
    go_wp2_with fail
    refine hK.out _ _ (by repeat (first | exact hSV.out | refine en2Hold ?_ (drew_b _) | refine en2Hold ?_ (new_below _ _))) (fun hHeld => ?_)
    clear hK K
    try simp only [Act.put, List.setIfInBounds_toArray, List.set_cons_zero, List.set_cons_succ]
    refine wpAnyH_ready (rs := [6]) (by kernel_rfl) (by simp) (AllReadyH.cons (o := { dst := none, op := Op.store 364 (Operand.tmp 5) (Operand.tmp 9), type := 0, pos := "entry.go:18", after := #[{ on := 4, ground := Ground.data }, { on := 1, ground := Ground.data }, { on := 3, ground := Ground.chain }, { on := 0, ground := Ground.phase }, { on := 1, ground := Ground.phase }, { on := 2, ground := Ground.textOnly Departure.lateStores }, { on := 3, ground := Ground.textOnly Departure.lateStoresUnsure }, { on := 4, ground := Ground.phase }, { on := 5, ground := Ground.phase }], guard := none }) rfl (fun K hK => ?_) AllReadyH.nil)
    clear hHeld
    go_simp
    refine hK.out _ _ (by repeat (first | exact hSV.out | refine en2Hold ?_ (drew_b _) | refine en2Hold ?_ (new_below _ _))) (fun hHeld => ?_)
    clear hK K
    try simp only [Act.put, List.setIfInBounds_toArray, List.set_cons_zero, List.set_cons_succ]
    refine wpAnyH_ready (rs := [7]) (by kernel_rfl) (by simp) (AllReadyH.cons (o := { dst := none, op := Op.store 364 (Operand.tmp 6) (Operand.tmp 11), type := 0, pos := "entry.go:18", after := #[{ on := 5, ground := Ground.data }, { on := 3, ground := Ground.data }, { on := 6, ground := Ground.chain }, { on := 0, ground := Ground.phase }, { on := 1, ground := Ground.phase }, { on := 2, ground := Ground.phase }, { on := 3, ground := Ground.phase }, { on := 4, ground := Ground.phase }, { on := 5, ground := Ground.phase }, { on := 6, ground := Ground.phase }], guard := none }) rfl (fun K hK => ?_) AllReadyH.nil)
    clear hHeld
    go_simp
    refine hK.out _ _ (by repeat (first | exact hSV.out | refine en2Hold ?_ (drew_b _) | refine en2Hold ?_ (new_below _ _))) (fun hHeld => ?_)
    clear hK K
    try simp only [Act.put, List.setIfInBounds_toArray, List.set_cons_zero, List.set_cons_succ]
    refine wpAnyH_done (by kernel_rfl) ?_ _
    clear hHeld hSV
    go_wp2_with fail
    refine wp_label ?_
    go_step
    go_step
    refine H _ _ _ ⟨0, _, _, Nat.zero_add 2, ⟨rfl, rfl, by simp; exact ⟨rfl, rfl⟩⟩, rfl, ⟨by repeat (first | exact hbV.out | refine bel ?_ (new_below _ _)), ?_, ?_, ?_, ?_⟩⟩
    all_goals go_simp
  ·clear hHeld
   go_simp
   refine hK.out _ _ (by repeat (first | exact hSV.out | refine en2Hold ?_ (drew_b _) | refine en2Hold ?_ (new_below _ _))) (fun hHeld => ?_)
   clear hK K
   try simp only [Act.put, List.setIfInBounds_toArray, List.set_cons_zero, List.set_cons_succ]
   refine wpAnyH_ready (rs := [1, 4]) (by kernel_rfl) (by simp) (AllReadyH.cons (o := { dst := some 9, op := Op.call { callee := Callee.value (Operand.func 302), args := #[Operand.tmp 8], argTypes := #[51] }, type := 364, pos := "entry.go:18", after := #[{ on := 0, ground := Ground.data }], guard := none }) rfl (fun K hK => ?_) (AllReadyH.cons (o := { dst := some 5, op := Op.alloc 364, type := 0, pos := "entry.go:18", after := #[], guard := none }) rfl (fun K hK => ?_) AllReadyH.nil))
   ·go_simp
    refine (c1.out _).mono ?_
    rintro e w' ⟨rfl, o, p, rfl⟩
    clear hHeld
    go_wp2_with fail
    refine hK.out _ _ (by repeat (first | exact hSV.out | refine en2Hold ?_ (drew_b _) | refine en2Hold ?_ (new_below _ _))) (fun hHeld => ?_)
    clear hK K
    try simp only [Act.put, List.setIfInBounds_toArray, List.set_cons_zero, List.set_cons_succ]
    refine wpAnyH_ready (rs := [3, 4]) (by kernel_rfl) (by simp) (AllReadyH.cons (o := { dst := some 11, op := Op.call { callee := Callee.value (Operand.func 302), args := #[Operand.tmp 10], argTypes := #[51] }, type := 364, pos := "entry.go:18", after := #[{ on := 2, ground := Ground.data }, { on := 1, ground := Ground.chain }], guard := none }) rfl (fun K hK => ?_) (AllReadyH.cons (o := { dst := some 5, op := Op.alloc 364, type := 0, pos := "entry.go:18", after := #[], guard := none }) rfl (fun K hK => ?_) AllReadyH.nil))
    ·go_simp
     refine (c2.out _).mono ?_
     rintro e w' ⟨rfl, o, p, rfl⟩
     clear hHeld
     go_wp2_with fail
     refine hK.out _ _ (by repeat (first | exact hSV.out | refine en2Hold ?_ (drew_b _) | refine en2Hold ?_ (new_below _ _))) (fun hHeld => ?_)
     clear hK K
     try simp only [Act.put, List.setIfInBounds_toArray, List.set_cons_zero, List.set_cons_succ]
     refine wpAnyH_ready (rs := [4]) (by kernel_rfl) (by simp) (AllReadyH.cons (o := { dst := some 5, op := Op.alloc 364, type := 0, pos := "entry.go:18", after := #[], guard := none }) rfl (fun K hK => ?_) AllReadyH.nil)
     clear hHeld
     go_simp
     refine hK.out _ _ (by repeat (first | exact hSV.out | refine en2Hold ?_ (drew_b _) | refine en2Hold ?_ (new_below _ _))) (fun hHeld => ?_)
     clear hK K
     try simp only [Act.put, List.setIfInBounds_toArray, List.set_cons_zero, List.set_cons_succ]
     refine wpAnyH_ready (rs := [6]) (by kernel_rfl) (by simp) (AllReadyH.cons (o := { dst := none, op := Op.store 364 (Operand.tmp 5) (Operand.tmp 9), type := 0, pos := "entry.go:18", after := #[{ on := 4, ground := Ground.data }, { on := 1, ground := Ground.data }, { on := 3, ground := Ground.chain }, { on := 0, ground := Ground.phase }, { on := 1, ground := Ground.phase }, { on := 2, ground := Ground.textOnly Departure.lateStores }, { on := 3, ground := Ground.textOnly Departure.lateStoresUnsure }, { on := 4, ground := Ground.phase }, { on := 5, ground := Ground.phase }], guard := none }) rfl (fun K hK => ?_) AllReadyH.nil)
     clear hHeld
     go_simp
     refine hK.out _ _ (by repeat (first | exact hSV.out | refine en2Hold ?_ (drew_b _) | refine en2Hold ?_ (new_below _ _))) (fun hHeld => ?_)
     clear hK K
     try simp only [Act.put, List.setIfInBounds_toArray, List.set_cons_zero, List.set_cons_succ]
     refine wpAnyH_ready (rs := [7]) (by kernel_rfl) (by simp) (AllReadyH.cons (o := { dst := none, op := Op.store 364 (Operand.tmp 6) (Operand.tmp 11), type := 0, pos := "entry.go:18", after := #[{ on := 5, ground := Ground.data }, { on := 3, ground := Ground.data }, { on := 6, ground := Ground.chain }, { on := 0, ground := Ground.phase }, { on := 1, ground := Ground.phase }, { on := 2, ground := Ground.phase }, { on := 3, ground := Ground.phase }, { on := 4, ground := Ground.phase }, { on := 5, ground := Ground.phase }, { on := 6, ground := Ground.phase }], guard := none }) rfl (fun K hK => ?_) AllReadyH.nil)
     clear hHeld
     go_simp
     refine hK.out _ _ (by repeat (first | exact hSV.out | refine en2Hold ?_ (drew_b _) | refine en2Hold ?_ (new_below _ _))) (fun hHeld => ?_)
     clear hK K
     try simp only [Act.put, List.setIfInBounds_toArray, List.set_cons_zero, List.set_cons_succ]
     refine wpAnyH_done (by kernel_rfl) ?_ _
     clear hHeld hSV
     go_wp2_with fail
     refine wp_label ?_
     go_step
     go_step
     refine H _ _ _ ⟨0, _, _, Nat.zero_add 2, ⟨rfl, rfl, by simp; exact ⟨rfl, rfl⟩⟩, rfl, ⟨by repeat (first | exact hbV.out | refine bel ?_ (new_below _ _)), ?_, ?_, ?_, ?_⟩⟩
     all_goals go_simp
    ·clear hHeld
     go_simp
     refine hK.out _ _ (by repeat (first | exact hSV.out | refine en2Hold ?_ (drew_b _) | refine en2Hold ?_ (new_below _ _))) (fun hHeld => ?_)
     clear hK K
     try simp only [Act.put, List.setIfInBounds_toArray, List.set_cons_zero, List.set_cons_succ]
     refine wpAnyH_ready (rs := [3]) (by kernel_rfl) (by simp) (AllReadyH.cons (o := { dst := some 11, op := Op.call { callee := Callee.value (Operand.func 302), args := #[Operand.tmp 10], argTypes := #[51] }, type := 364, pos := "entry.go:18", after := #[{ on := 2, ground := Ground.data }, { on := 1, ground := Ground.chain }], guard := none }) rfl (fun K hK => ?_) AllReadyH.nil)
     go_simp
     refine (c2.out _).mono ?_
     rintro e w' ⟨rfl, o, p, rfl⟩
     clear hHeld
     go_wp2_with fail
     refine hK.out _ _ (by repeat (first | exact hSV.out | refine en2Hold ?_ (drew_b _) | refine en2Hold ?_ (new_below _ _))) (fun hHeld => ?_)
     clear hK K
     try simp only [Act.put, List.setIfInBounds_toArray, List.set_cons_zero, List.set_cons_succ]
     refine wpAnyH_ready (rs := [6]) (by kernel_rfl) (by simp) (AllReadyH.cons (o := { dst := none, op := Op.store 364 (Operand.tmp 5) (Operand.tmp 9), type := 0, pos := "entry.go:18", after := #[{ on := 4, ground := Ground.data }, { on := 1, ground := Ground.data }, { on := 3, ground := Ground.chain }, { on := 0, ground := Ground.phase }, { on := 1, ground := Ground.phase }, { on := 2, ground := Ground.textOnly Departure.lateStores }, { on := 3, ground := Ground.textOnly Departure.lateStoresUnsure }, { on := 4, ground := Ground.phase }, { on := 5, ground := Ground.phase }], guard := none }) rfl (fun K hK => ?_) AllReadyH.nil)
     clear hHeld
     go_simp
     refine hK.out _ _ (by repeat (first | exact hSV.out | refine en2Hold ?_ (drew_b _) | refine en2Hold ?_ (new_below _ _))) (fun hHeld => ?_)
     clear hK K
     try simp only [Act.put, List.setIfInBounds_toArray, List.set_cons_zero, List.set_cons_succ]
     refine wpAnyH_ready (rs := [7]) (by kernel_rfl) (by simp) (AllReadyH.cons (o := { dst := none, op := Op.store 364 (Operand.tmp 6) (Operand.tmp 11), type := 0, pos := "entry.go:18", after := #[{ on := 5, ground := Ground.data }, { on := 3, ground := Ground.data }, { on := 6, ground := Ground.chain }, { on := 0, ground := Ground.phase }, { on := 1, ground := Ground.phase }, { on := 2, ground := Ground.phase }, { on := 3, ground := Ground.phase }, { on := 4, ground := Ground.phase }, { on := 5, ground := Ground.phase }, { on := 6, ground := Ground.phase }], guard := none }) rfl (fun K hK => ?_) AllReadyH.nil)
     clear hHeld
     go_simp
     refine hK.out _ _ (by repeat (first | exact hSV.out | refine en2Hold ?_ (drew_b _) | refine en2Hold ?_ (new_below _ _))) (fun hHeld => ?_)
     clear hK K
     try simp only [Act.put, List.setIfInBounds_toArray, List.set_cons_zero, List.set_cons_succ]
     refine wpAnyH_done (by kernel_rfl) ?_ _
     clear hHeld hSV
     go_wp2_with fail
     refine wp_label ?_
     go_step
     go_step
     refine H _ _ _ ⟨0, _, _, Nat.zero_add 2, ⟨rfl, rfl, by simp; exact ⟨rfl, rfl⟩⟩, rfl, ⟨by repeat (first | exact hbV.out | refine bel ?_ (new_below _ _)), ?_, ?_, ?_, ?_⟩⟩
     all_goals go_simp
   ·clear hHeld
    go_simp
    refine hK.out _ _ (by repeat (first | exact hSV.out | refine en2Hold ?_ (drew_b _) | refine en2Hold ?_ (new_below _ _))) (fun hHeld => ?_)
    clear hK K
    try simp only [Act.put, List.setIfInBounds_toArray, List.set_cons_zero, List.set_cons_succ]
    refine wpAnyH_ready (rs := [1]) (by kernel_rfl) (by simp) (AllReadyH.cons (o := { dst := some 9, op := Op.call { callee := Callee.value (Operand.func 302), args := #[Operand.tmp 8], argTypes := #[51] }, type := 364, pos := "entry.go:18", after := #[{ on := 0, ground := Ground.data }], guard := none }) rfl (fun K hK => ?_) AllReadyH.nil)
    go_simp
    refine (c1.out _).mono ?_
    rintro e w' ⟨rfl, o, p, rfl⟩
    clear hHeld
    go_wp2_with fail
    refine hK.out _ _ (by repeat (first | exact hSV.out | refine en2Hold ?_ (drew_b _) | refine en2Hold ?_ (new_below _ _))) (fun hHeld => ?_)
    clear hK K
    try simp only [Act.put, List.setIfInBounds_toArray, List.set_cons_zero, List.set_cons_succ]
    refine wpAnyH_ready (rs := [3]) (by kernel_rfl) (by simp) (AllReadyH.cons (o := { dst := some 11, op := Op.call { callee := Callee.value (Operand.func 302), args := #[Operand.tmp 10], argTypes := #[51] }, type := 364, pos := "entry.go:18", after := #[{ on := 2, ground := Ground.data }, { on := 1, ground := Ground.chain }], guard := none }) rfl (fun K hK => ?_) AllReadyH.nil)
    go_simp
    refine (c2.out _).mono ?_
    rintro e w' ⟨rfl, o, p, rfl⟩
    clear hHeld
    go_wp2_with fail
    refine hK.out _ _ (by repeat (first | exact hSV.out | refine en2Hold ?_ (drew_b _) | refine en2Hold ?_ (new_below _ _))) (fun hHeld => ?_)
    clear hK K
    try simp only [Act.put, List.setIfInBounds_toArray, List.set_cons_zero, List.set_cons_succ]
    refine wpAnyH_ready (rs := [6]) (by kernel_rfl) (by simp) (AllReadyH.cons (o := { dst := none, op := Op.store 364 (Operand.tmp 5) (Operand.tmp 9), type := 0, pos := "entry.go:18", after := #[{ on := 4, ground := Ground.data }, { on := 1, ground := Ground.data }, { on := 3, ground := Ground.chain }, { on := 0, ground := Ground.phase }, { on := 1, ground := Ground.phase }, { on := 2, ground := Ground.textOnly Departure.lateStores }, { on := 3, ground := Ground.textOnly Departure.lateStoresUnsure }, { on := 4, ground := Ground.phase }, { on := 5, ground := Ground.phase }], guard := none }) rfl (fun K hK => ?_) AllReadyH.nil)
    clear hHeld
    go_simp
    refine hK.out _ _ (by repeat (first | exact hSV.out | refine en2Hold ?_ (drew_b _) | refine en2Hold ?_ (new_below _ _))) (fun hHeld => ?_)
    clear hK K
    try simp only [Act.put, List.setIfInBounds_toArray, List.set_cons_zero, List.set_cons_succ]
    refine wpAnyH_ready (rs := [7]) (by kernel_rfl) (by simp) (AllReadyH.cons (o := { dst := none, op := Op.store 364 (Operand.tmp 6) (Operand.tmp 11), type := 0, pos := "entry.go:18", after := #[{ on := 5, ground := Ground.data }, { on := 3, ground := Ground.data }, { on := 6, ground := Ground.chain }, { on := 0, ground := Ground.phase }, { on := 1, ground := Ground.phase }, { on := 2, ground := Ground.phase }, { on := 3, ground := Ground.phase }, { on := 4, ground := Ground.phase }, { on := 5, ground := Ground.phase }, { on := 6, ground := Ground.phase }], guard := none }) rfl (fun K hK => ?_) AllReadyH.nil)
    clear hHeld
    go_simp
    refine hK.out _ _ (by repeat (first | exact hSV.out | refine en2Hold ?_ (drew_b _) | refine en2Hold ?_ (new_below _ _))) (fun hHeld => ?_)
    clear hK K
    try simp only [Act.put, List.setIfInBounds_toArray, List.set_cons_zero, List.set_cons_succ]
    refine wpAnyH_done (by kernel_rfl) ?_ _
    clear hHeld hSV
    go_wp2_with fail
    refine wp_label ?_
    go_step
    go_step
    refine H _ _ _ ⟨0, _, _, Nat.zero_add 2, ⟨rfl, rfl, by simp; exact ⟨rfl, rfl⟩⟩, rfl, ⟨by repeat (first | exact hbV.out | refine bel ?_ (new_below _ _)), ?_, ?_, ?_, ?_⟩⟩
    all_goals go_simp
end Go.Proofs.YtknjamfjonapiaaGreatDoor
