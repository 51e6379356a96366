/- EntryTimes. -/
import Derived.Test.YtbhkgpbhimeniaaDoorEnK
import Derived.Test.YtbhkgpbhimeniaaDoorArgs
namespace Go.Proofs.YtbhkgpbhimeniaaDoor
open Go.RowKit
set_option linter.unusedVariables false
set_option maxRecDepth 100000

/-- Where one time stands to the one behind. -/
abbrev TimeC (t l : Int) : Prop := (t = 0) ∨ ((0 < t ∧ (t == 0) = false) ∧ ¬ t ≤ l) ∨ ((0 < t ∧ (t == 0) = false) ∧ t ≤ l)
theorem timeC (t l : Int) (h : 0 ≤ t) : TimeC t l := by
  by_cases h0 : t = 0
  · exact .inl h0
  · have h1 : 0 < t ∧ (t == 0) = false := ⟨by omega, by rw [beq_eq_false_iff_ne]; exact h0⟩
    by_cases h2 : t ≤ l
    · exact .inr (.inr ⟨h1, h2⟩)
    · exact .inr (.inl ⟨h1, h2⟩)

/-- An entry put in at n with the times t, u. -/
def tillE (t u n : Int) : Int := if 0 < shorter t u then n + shorter t u else 0
theorem till_for {t u n : Int} (ht : t ≤ 65535) (hu : u ≤ 65535) (hn0 : 0 ≤ n) (hn : n ≤ 65535) : forE ⟨1, 0, 0, [], [], 0, t, 0, false, 0⟩ ⟨[], [], 0, u, 0, 0⟩ n = ⟨1, 0, 0, [], [], 0, t, tillE t u n, false, 0⟩ := by
  have hs : shorter t u ≤ 65535 := by unfold shorter; split <;> split <;> omega
  unfold forE tillE
  simp only [Ent.mk.injEq, true_and, and_true]
  refine ⟨by decide, ?_⟩
  split
  · rw [IntKind.wrap_i64]; omega
  · rfl

/-- What holds of the times that are told, of the one at which it is gone, and of the answers. -/
abbrev TimeD (t u n l v : Int) (G : Bool) : Prop :=
  ((t = 0) ∧ (u = 0) ∧ G = false ∧ (v = 0)) ∨ ((t = 0) ∧ ((0 < u ∧ (u == 0) = false) ∧ ¬ u ≤ l) ∧ G = false ∧ ((v == 0) = false)) ∨ ((t = 0) ∧ ((0 < u ∧ (u == 0) = false) ∧ u ≤ l) ∧ G = true ∧ ((v == 0) = false) ∧ 0 < n + l) ∨ (((0 < t ∧ (t == 0) = false) ∧ ¬ t ≤ l) ∧ (u = 0) ∧ G = false ∧ ((v == 0) = false)) ∨ (((0 < t ∧ (t == 0) = false) ∧ ¬ t ≤ l) ∧ ((0 < u ∧ (u == 0) = false) ∧ ¬ u ≤ l) ∧ G = false ∧ ((v == 0) = false)) ∨ (((0 < t ∧ (t == 0) = false) ∧ ¬ t ≤ l) ∧ ((0 < u ∧ (u == 0) = false) ∧ u ≤ l) ∧ G = true ∧ ((v == 0) = false) ∧ 0 < n + l) ∨ (((0 < t ∧ (t == 0) = false) ∧ t ≤ l) ∧ (u = 0) ∧ G = true ∧ ((v == 0) = false) ∧ 0 < n + l) ∨ (((0 < t ∧ (t == 0) = false) ∧ t ≤ l) ∧ ((0 < u ∧ (u == 0) = false) ∧ ¬ u ≤ l) ∧ G = true ∧ ((v == 0) = false) ∧ 0 < n + l) ∨ (((0 < t ∧ (t == 0) = false) ∧ t ≤ l) ∧ ((0 < u ∧ (u == 0) = false) ∧ u ≤ l) ∧ G = true ∧ ((v == 0) = false) ∧ 0 < n + l)
theorem timeD {t u n l : Int} (ht0 : 0 ≤ t) (hu0 : 0 ≤ u) (hn0 : 0 ≤ n) (hl0 : 0 ≤ l) : TimeD t u n l (tillE t u n) (decide (0 < tillE t u n ∧ tillE t u n ≤ n + l)) := by
  have key : ∀ {v : Int}, 0 < v → (v == 0) = false := fun h => by rw [beq_eq_false_iff_ne]; omega
  have hv : (shorter t u = 0 ∧ tillE t u n = 0) ∨ (0 < shorter t u ∧ tillE t u n = n + shorter t u) := by
    unfold tillE
    by_cases h : 0 < shorter t u
    · rw [if_pos h]; exact .inr ⟨h, rfl⟩
    · rw [if_neg h]
      refine .inl ⟨?_, rfl⟩
      unfold shorter at h ⊢
      split <;> split <;> simp_all <;> omega
  have hs : (t = 0 ∧ u = 0 ∧ shorter t u = 0) ∨ (t = 0 ∧ 0 < u ∧ shorter t u = u) ∨ (0 < t ∧ u = 0 ∧ shorter t u = t) ∨ (0 < t ∧ 0 < u ∧ u < t ∧ shorter t u = u) ∨ (0 < t ∧ 0 < u ∧ t ≤ u ∧ shorter t u = t) := by
    unfold shorter
    by_cases h1 : 0 < t
    · rw [if_pos h1]
      by_cases h2 : 0 < u
      · by_cases h3 : u < t
        · rw [if_pos ⟨h2, h3⟩]; exact .inr (.inr (.inr (.inl ⟨h1, h2, h3, rfl⟩)))
        · rw [if_neg (by omega)]; exact .inr (.inr (.inr (.inr ⟨h1, h2, by omega, rfl⟩)))
      · rw [if_neg (by omega)]; exact .inr (.inr (.inl ⟨h1, by omega, rfl⟩))
    · rw [if_neg h1]
      by_cases h2 : 0 < u
      · rw [if_pos h2]; exact .inr (.inl ⟨by omega, h2, rfl⟩)
      · rw [if_neg h2]; exact .inl ⟨by omega, by omega, rfl⟩
  generalize shorter t u = s at *
  generalize tillE t u n = v at *
  rcases timeC t l ht0 with h1 | ⟨⟨h1, h2⟩, h3⟩ | ⟨⟨h1, h2⟩, h3⟩ <;> rcases timeC u l hu0 with k1 | ⟨⟨k1, k2⟩, k3⟩ | ⟨⟨k1, k2⟩, k3⟩
  · exact .inl (⟨h1, k1, decide_eq_false (by omega), by omega⟩)
  · exact .inr (.inl (⟨h1, ⟨⟨k1, k2⟩, k3⟩, decide_eq_false (by omega), key (by omega)⟩))
  · exact .inr (.inr (.inl (⟨h1, ⟨⟨k1, k2⟩, k3⟩, decide_eq_true (by omega), key (by omega), by omega⟩)))
  · exact .inr (.inr (.inr (.inl (⟨⟨⟨h1, h2⟩, h3⟩, k1, decide_eq_false (by omega), key (by omega)⟩))))
  · exact .inr (.inr (.inr (.inr (.inl (⟨⟨⟨h1, h2⟩, h3⟩, ⟨⟨k1, k2⟩, k3⟩, decide_eq_false (by omega), key (by omega)⟩)))))
  · exact .inr (.inr (.inr (.inr (.inr (.inl (⟨⟨⟨h1, h2⟩, h3⟩, ⟨⟨k1, k2⟩, k3⟩, decide_eq_true (by omega), key (by omega), by omega⟩))))))
  · exact .inr (.inr (.inr (.inr (.inr (.inr (.inl (⟨⟨⟨h1, h2⟩, h3⟩, k1, decide_eq_true (by omega), key (by omega), by omega⟩)))))))
  · exact .inr (.inr (.inr (.inr (.inr (.inr (.inr (.inl (⟨⟨⟨h1, h2⟩, h3⟩, ⟨⟨k1, k2⟩, k3⟩, decide_eq_true (by omega), key (by omega), by omega⟩))))))))
  · exact .inr (.inr (.inr (.inr (.inr (.inr (.inr (.inr ((⟨⟨⟨h1, h2⟩, h3⟩, ⟨⟨k1, k2⟩, k3⟩, decide_eq_true (by omega), key (by omega), by omega⟩)))))))))

set_option maxHeartbeats 8000000 in
theorem times14_core {t u n l v : Int} {G : Bool} (hD : TimeD t u n l v G) (ht0 : 0 ≤ t) (hu0 : 0 ≤ u) (hn0 : 0 ≤ n) (hl0 : 0 ≤ l) (ht : t ≤ 65535) (hu : u ≤ 65535) (hn : n ≤ 65535) (hl : l ≤ 65535) {w : World}
    (hc1 : Calls Tryd.prog 6 #[] w fun e w' => e = .returned (.bool true) ∧ Below w.heap.size w w')
    (hc2 : ∀ w, Calls Tryd.prog 7 #[.agg #[.int .i64 1, .int .i64 0, .int .i64 0, tx [], tx [], .int .i64 0, .int .i64 t, .int .i64 0, .bool false, .int .i64 0], .agg #[tx [], tx [], .int .i64 0, .int .i64 u, .int .i64 0, .int .i64 0], .int .i64 n] w fun e w' => e = .returned (.agg #[.int .i64 1, .int .i64 0, .int .i64 0, tx [], tx [], .int .i64 0, .int .i64 t, .int .i64 v, .bool false, .int .i64 0]) ∧ Below w.heap.size w w')
    (hc3 : ∀ w, Calls Tryd.prog 8 #[.agg #[.int .i64 1, .int .i64 0, .int .i64 0, tx [], tx [], .int .i64 0, .int .i64 t, .int .i64 v, .bool false, .int .i64 0], .int .i64 (n + l)] w fun e w' => e = .returned (.bool G) ∧ Below w.heap.size w w') :
    Calls Tryd.prog 3 #[.int .u16 t, .int .u16 u, .int .u16 n, .int .u16 l] w fun e w' => e = .returned (.bool true) ∧ Below w.heap.size w w' := by
  have c1 := Lib.hid hc1
  have c2 := Lib.hid hc2
  have c3 := Lib.hid hc3
  have hX0 : Hid (∀ w1, Below w.heap.size w w1 → Below w.heap.size w (w1.alloc (enO ⟨1, 0, 0, [], [], 0, t, v, false, 0⟩)) ∧ EnAt (w1.alloc (enO ⟨1, 0, 0, [], [], 0, t, v, false, 0⟩)) w1.heap.size ⟨1, 0, 0, [], [], 0, t, v, false, 0⟩) := Lib.hid fun w1 hb => ⟨bel hb (new_below w1 _), EnAt.start w1 _⟩
  clear hc1 hc2 hc3
  obtain ⟨q, hq⟩ : ∃ q, n + l = q := ⟨_, rfl⟩
  have hq1 : IntKind.i64.wrap (n + l) = q := by rw [IntKind.wrap_i64]; omega
  unfold TimeD at hD
  rw [hq] at c3 hD
  clear hq
  rcases hD with ⟨rfl, rfl, rfl, rfl⟩ | ⟨rfl, ⟨⟨u1, u2⟩, u3⟩, rfl, hz⟩ | ⟨rfl, ⟨⟨u1, u2⟩, u3⟩, rfl, hz, hat⟩ | ⟨⟨⟨t1, t2⟩, t3⟩, rfl, rfl, hz⟩ | ⟨⟨⟨t1, t2⟩, t3⟩, ⟨⟨u1, u2⟩, u3⟩, rfl, hz⟩ | ⟨⟨⟨t1, t2⟩, t3⟩, ⟨⟨u1, u2⟩, u3⟩, rfl, hz, hat⟩ | ⟨⟨⟨t1, t2⟩, t3⟩, rfl, rfl, hz, hat⟩ | ⟨⟨⟨t1, t2⟩, t3⟩, ⟨⟨u1, u2⟩, u3⟩, rfl, hz, hat⟩ | ⟨⟨⟨t1, t2⟩, t3⟩, ⟨⟨u1, u2⟩, u3⟩, rfl, hz, hat⟩
  all_goals
    go_enter Tryd.func3, Tryd.ntmps3
    go_wp2_with fail
    refine c1.out.mono ?_
    rintro e w1 ⟨rfl, hb⟩
    clear c1
    go_wp2_with fail
    refine (c2.out _).mono ?_
    rintro e w2 ⟨rfl, hb2⟩
    obtain ⟨hB, q0, q1, q2, q3, q4, q5, q6, q7, q8, q9⟩ := hX0.out _ (bel hb hb2)
    replace hB := Lib.hid hB
    clear hb hb2 c2 hX0
    simp only [enO] at q0 q1 q2 q3 q4 q5 q6 q7 q8 q9
    go_wp2_with fail
    refine (c3.out _).mono ?_
    rintro e w3 ⟨rfl, hb⟩
    have s7 := (hb.cell (p := ⟨w2.heap.size, 7, none⟩) (by simp)).trans q7
    replace hB := Lib.hid (bel hB.out hb)
    clear hb c3 q0 q1 q2 q3 q4 q5 q6 q7 q8 q9
    go_wp2_with fail
    go_ret
    exact ⟨rfl, hB.out⟩

theorem times14_row {t u n l : Int} {w : World} (hT : Most w.heap.size w) (r0 : Read Tryd.prog w 22 [.int .u16 t]) (r1 : Read Tryd.prog w 22 [.int .u16 u]) (r2 : Read Tryd.prog w 22 [.int .u16 n]) (r3 : Read Tryd.prog w 22 [.int .u16 l]) :
    Calls Tryd.prog 3 #[.int .u16 t, .int .u16 u, .int .u16 n, .int .u16 l] w fun e w' => e = .returned (.bool true) ∧ Below w.heap.size w w' := by
  have hu16 : Tryd.prog.underlying 22 = some (.int .u16) := by kernel_rfl
  have key : ∀ {z : Int}, Read Tryd.prog w 22 [.int .u16 z] → 0 ≤ z ∧ z ≤ 65535 := fun {z} r => by
    obtain ⟨x, hx, wf⟩ := r.int hu16
    simp only [List.cons.injEq, Value.int.injEq, true_and, and_true] at hx
    subst hx
    obtain ⟨h1, h2⟩ := bounds_u16 wf
    exact ⟨h1, by omega⟩
  obtain ⟨a1, a2⟩ := key r0
  obtain ⟨b1, b2⟩ := key r1
  obtain ⟨d1, d2⟩ := key r2
  obtain ⟨e1, e2⟩ := key r3
  exact times14_core (timeD a1 b1 d1 e1) a1 b1 d1 e1 a2 b2 d2 e2 (known14_true w hT) (fun w => for_to (till_for a2 b2 d1 d2) w) (fun w => gone_to (e := ⟨1, 0, 0, [], [], 0, t, tillE t u n, false, 0⟩) rfl w)
end Go.Proofs.YtbhkgpbhimeniaaDoor
