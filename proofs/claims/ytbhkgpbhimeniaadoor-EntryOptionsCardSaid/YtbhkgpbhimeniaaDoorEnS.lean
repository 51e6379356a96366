/- Options that are the same. -/
import Derived.Test.YtbhkgpbhimeniaaDoorEnC
namespace Go.Proofs.YtbhkgpbhimeniaaDoor
open Go.RowKit
set_option linter.unusedVariables false
set_option maxRecDepth 100000

/-! ### options -/
/-- The cells of options. -/
abbrev OpAt (wr : World) (b : Nat) (e : Opt) : Prop := wr.cell? ⟨b, 0, none⟩ = some (tx e.dead) ∧ wr.cell? ⟨b, 1, none⟩ = some (tx e.deadKey) ∧ wr.cell? ⟨b, 2, none⟩ = some (.int .i64 e.maxLen) ∧ wr.cell? ⟨b, 3, none⟩ = some (.int .i64 e.ttl) ∧ wr.cell? ⟨b, 4, none⟩ = some (.int .i64 e.prio) ∧ wr.cell? ⟨b, 5, none⟩ = some (.int .i64 e.bits)
theorem OpAt.step {w wr : World} {b : Nat} {e : Opt} (h : OpAt w b e) (hb : Below w.heap.size w wr) : OpAt wr b e := by
  obtain ⟨h0, h1, h2, h3, h4, h5⟩ := h
  have lt := World.block_lt_of_cell? w _ h0
  exact ⟨(hb.cell (p := ⟨b, 0, none⟩) lt).trans h0, (hb.cell (p := ⟨b, 1, none⟩) lt).trans h1, (hb.cell (p := ⟨b, 2, none⟩) lt).trans h2, (hb.cell (p := ⟨b, 3, none⟩) lt).trans h3, (hb.cell (p := ⟨b, 4, none⟩) lt).trans h4, (hb.cell (p := ⟨b, 5, none⟩) lt).trans h5⟩
theorem OpAt.start (w : World) (e : Opt) : OpAt (w.alloc (opO e)) w.heap.size e := by
  refine ⟨?_, ?_, ?_, ?_, ?_, ?_⟩ <;> simp
abbrev Op2 (w wr : World) (x y : Nat) (a b : Opt) : Prop := Below w.heap.size w wr ∧ OpAt wr x a ∧ OpAt wr y b
theorem op2Hold {w wa wb : World} {x y : Nat} {a b : Opt} (h : Op2 w wa x y a b) (hb : Below wa.heap.size wa wb) : Op2 w wb x y a b := ⟨bel h.1 hb, h.2.1.step hb, h.2.2.step hb⟩
theorem op2Start (w : World) (a b : Opt) : Op2 w ((w.alloc (opO a)).alloc (opO b)) w.heap.size (w.heap.size + 1) a b := by
  have h2 := OpAt.start (w.alloc (opO a)) b
  rw [World.size_alloc] at h2
  exact ⟨two_new _ _ _, (OpAt.start w a).step (new_below _ _), h2⟩

/-- Where they part, or that they don't. -/
abbrev Parts (r : Bool) (d1 k1 : List UInt8) (m1 t1 p1 q1 : Int) (d2 k2 : List UInt8) (m2 t2 p2 q2 : Int) : Prop :=
  (r = false ∧ (d1 == d2) = false) ∨ (r = false ∧ d1 = d2 ∧ (k1 == k2) = false) ∨ (r = false ∧ d1 = d2 ∧ k1 = k2 ∧ (m1 == m2) = false) ∨ (r = false ∧ d1 = d2 ∧ k1 = k2 ∧ m1 = m2 ∧ (t1 == t2) = false) ∨ (r = false ∧ d1 = d2 ∧ k1 = k2 ∧ m1 = m2 ∧ t1 = t2 ∧ (p1 == p2) = false) ∨ (r = false ∧ d1 = d2 ∧ k1 = k2 ∧ m1 = m2 ∧ t1 = t2 ∧ p1 = p2 ∧ (q1 == q2) = false) ∨ (r = true ∧ d1 = d2 ∧ k1 = k2 ∧ m1 = m2 ∧ t1 = t2 ∧ p1 = p2 ∧ q1 = q2)
abbrev LastC (a : Opt) (d k : List UInt8) (m t p q : Int) : Prop := ∀ w, Calls Tryd.prog 16 #[opV a] w fun r w' => r = .returned (.agg #[tx d, tx k, .int .i64 m, .int .i64 t, .int .i64 p, .int .i64 q]) ∧ Below w.heap.size w w'

set_option maxHeartbeats 2000000 in
theorem same_parts {a b : Opt} {r : Bool} {d1 k1 : List UInt8} {m1 t1 p1 q1 : Int} {d2 k2 : List UInt8} {m2 t2 p2 q2 : Int} (hc1 : LastC a d1 k1 m1 t1 p1 q1) (hc2 : LastC b d2 k2 m2 t2 p2 q2) (h : Parts r d1 k1 m1 t1 p1 q1 d2 k2 m2 t2 p2 q2) (w : World) :
    Calls Tryd.prog 11 #[opV a, opV b] w fun x w' => x = .returned (.bool r) ∧ Below w.heap.size w w' := by
  have c1 := Lib.hid hc1
  have c2 := Lib.hid hc2
  have hS0 := Lib.hid (op2Hold (op2Start w a b) (drew_b _))
  clear hc1 hc2
  rcases h with ⟨rfl, hc⟩ | ⟨rfl, rfl, hc⟩ | ⟨rfl, rfl, rfl, hc⟩ | ⟨rfl, rfl, rfl, rfl, hc⟩ | ⟨rfl, rfl, rfl, rfl, rfl, hc⟩ | ⟨rfl, rfl, rfl, rfl, rfl, rfl, hc⟩ | ⟨rfl, rfl, rfl, rfl, rfl, rfl, rfl⟩
  all_goals
    go_enter Tryd.func11, Tryd.ntmps11
    go_wp2_with fail
    go_region_held3 (fun wr => Below w.heap.size w wr ∧ (wr.cell? ⟨w.heap.size, 0, none⟩ = some (tx a.dead) ∧ wr.cell? ⟨w.heap.size, 1, none⟩ = some (tx a.deadKey) ∧ wr.cell? ⟨w.heap.size, 2, none⟩ = some (.int .i64 a.maxLen) ∧ wr.cell? ⟨w.heap.size, 3, none⟩ = some (.int .i64 a.ttl) ∧ wr.cell? ⟨w.heap.size, 4, none⟩ = some (.int .i64 a.prio) ∧ wr.cell? ⟨w.heap.size, 5, none⟩ = some (.int .i64 a.bits)) ∧ (wr.cell? ⟨w.heap.size + 1, 0, none⟩ = some (tx b.dead) ∧ wr.cell? ⟨w.heap.size + 1, 1, none⟩ = some (tx b.deadKey) ∧ wr.cell? ⟨w.heap.size + 1, 2, none⟩ = some (.int .i64 b.maxLen) ∧ wr.cell? ⟨w.heap.size + 1, 3, none⟩ = some (.int .i64 b.ttl) ∧ wr.cell? ⟨w.heap.size + 1, 4, none⟩ = some (.int .i64 b.prio) ∧ wr.cell? ⟨w.heap.size + 1, 5, none⟩ = some (.int .i64 b.bits))) (first | exact hS0.out | exact op2Hold (by assumption) hb) (first
      | (go_at_call 16; refine (c1.out _).mono ?_; rintro e w'' ⟨rfl, hb⟩)
      | (go_at_call 16; refine (c2.out _).mono ?_; rintro e w'' ⟨rfl, hb⟩))
    rename_i hHeld
    have fin := Lib.hid hHeld.1
    clear hHeld
    go_wp2_with fail
    go_ret
    exact ⟨rfl, fin.out⟩

theorem parts_of (a b : Opt) : Parts (sameO a b) a.dead a.deadKey a.maxLen a.ttl a.prio (lastB a.bits) b.dead b.deadKey b.maxLen b.ttl b.prio (lastB b.bits) := by
  unfold sameO
  by_cases h0 : a.dead = b.dead
  rotate_left
  · exact .inl ⟨by simp [h0], by simpa using h0⟩
  by_cases h1 : a.deadKey = b.deadKey
  rotate_left
  · exact .inr (.inl ⟨by simp [h1], h0, by simpa using h1⟩)
  by_cases h2 : a.maxLen = b.maxLen
  rotate_left
  · exact .inr (.inr (.inl ⟨by simp [h2], h0, h1, by simpa using h2⟩))
  by_cases h3 : a.ttl = b.ttl
  rotate_left
  · exact .inr (.inr (.inr (.inl ⟨by simp [h3], h0, h1, h2, by simpa using h3⟩)))
  by_cases h4 : a.prio = b.prio
  rotate_left
  · exact .inr (.inr (.inr (.inr (.inl ⟨by simp [h4], h0, h1, h2, h3, by simpa using h4⟩))))
  by_cases h5 : lastB a.bits = lastB b.bits
  rotate_left
  · exact .inr (.inr (.inr (.inr (.inr (.inl ⟨by simp [h5], h0, h1, h2, h3, h4, by simpa using h5⟩)))))
  exact .inr (.inr (.inr (.inr (.inr (.inr ⟨by simp [h0, h1, h2, h3, h4, h5], h0, h1, h2, h3, h4, h5⟩)))))
theorem same_any (a b : Opt) (w : World) : Calls Tryd.prog 11 #[opV a, opV b] w fun x w' => x = .returned (.bool (sameO a b)) ∧ Below w.heap.size w w' :=
  same_parts (lasting_any a) (lasting_any b) (parts_of a b) w
end Go.Proofs.YtbhkgpbhimeniaaDoor
