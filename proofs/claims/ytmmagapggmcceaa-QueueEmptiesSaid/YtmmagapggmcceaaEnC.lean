/- Entries: as they are in a queue; options that are the same. -/
import Derived.Test.YtmmagapggmcceaaEnBo
namespace Go.Proofs.Ytmmagapggmcceaa
open Go.RowKit
set_option linter.unusedVariables false
set_option maxRecDepth 100000

/-- The least one of the first j. -/
def leastAt (t u : Int) : Nat → Int
  | 0 => 0
  | 1 => if 0 < t then t else 0
  | _ => shorter t u
def ShortJ (t u : Int) (a : Value) (w0 : World) (g : Nat) (a' : Act) (wr : World) : Prop :=
  ∃ (j : Nat) (l : Int), j + g = 2 ∧ Fr 33 [(0, a), (3, .int .i64 l), (4, .int .i64 j)] a' ∧ l = leastAt t u j ∧ wr = w0

set_option maxHeartbeats 1000000 in
theorem shortest_any {b : Nat} {t u : Int} {w : World} (h0 : w.cell? ⟨b, 0, none⟩ = some (.int .i64 t)) (h1 : w.cell? ⟨b, 1, none⟩ = some (.int .i64 u)) :
    Calls Try.prog 30 #[.slice (some ⟨b, 0, none⟩) 2 2] w fun r w' => r = .returned (.int .i64 (shorter t u)) ∧ w' = w := by
  go_enter Try.func30, Try.ntmps30
  go_wp2_with fail
  refine wp_scope_ghost 0 (ShortJ t u (.slice (some ⟨b, 0, none⟩) 2 2) w) rfl ?_ ?_
  · rintro g a' wr ⟨j, l, hj, hfr, hl, rfl⟩
    obtain ⟨f, rfl, hl'⟩ := hfr.lit
    clear hfr
    simp only [List.mem_cons, List.not_mem_nil, or_false, forall_eq_or_imp, forall_eq] at hl'
    obtain ⟨f3, f4, f5⟩ := hl'
    simp only [List.range, List.range.loop, List.map, f3, f4, f5]
    clear f3 f4 f5
    obtain rfl | rfl | rfl : j = 0 ∨ j = 1 ∨ j = 2 := by omega
    all_goals simp only [Int.cast_ofNat_Int]
    · have hl0 : l = 0 := hl
      subst hl0
      by_cases ht : 0 < t
      · have e : Hid (t = leastAt t u 1) := Lib.hid (by simp [leastAt, ht])
        clear hl
        go_wp2_with fail
        refine wp_goto ?_
        exact ⟨rfl, g - 1, by omega, 1, t, by omega, ⟨rfl, rfl, by simp⟩, e.out, rfl⟩
      · have e : Hid (0 = leastAt t u 1) := Lib.hid (by simp [leastAt, ht])
        clear hl
        go_wp2_with fail
        refine wp_goto ?_
        exact ⟨rfl, g - 1, by omega, 1, 0, by omega, ⟨rfl, rfl, by simp⟩, e.out, rfl⟩
    · have e2 : (if 0 < t then t else 0) = l := hl.symm
      have hls : Hid (leastAt t u 2 = if 0 < l then (if 0 < u ∧ u < l then u else l) else if 0 < u then u else 0) := Lib.hid (by
        show shorter t u = _
        unfold shorter
        by_cases h : 0 < t
        · rw [if_pos h] at e2
          subst e2
          rw [if_pos h]
        · rw [if_neg h] at e2
          subst e2
          rw [if_neg h, if_neg (show ¬ (0 : Int) < 0 by decide)])
      have hlp : 0 ≤ l := by split at e2 <;> omega
      replace e2 := Lib.hid e2
      clear hl
      by_cases hu : 0 < u
      · by_cases h2 : l = 0
        · subst h2
          have e : Hid (u = leastAt t u 2) := Lib.hid (by rw [hls.out]; simp [hu])
          clear hls e2
          go_wp2_with fail
          refine wp_goto ?_
          exact ⟨rfl, g - 1, by omega, 2, u, by omega, ⟨rfl, rfl, by simp⟩, e.out, rfl⟩
        · have h2' : (l == 0) = false := by simpa using h2
          by_cases h3 : u < l
          · have e : Hid (u = leastAt t u 2) := Lib.hid (by rw [hls.out, if_pos (by omega), if_pos ⟨hu, h3⟩])
            clear hls e2 h2
            go_wp2_with fail
            refine wp_goto ?_
            exact ⟨rfl, g - 1, by omega, 2, u, by omega, ⟨rfl, rfl, by simp⟩, e.out, rfl⟩
          · have e : Hid (l = leastAt t u 2) := Lib.hid (by rw [hls.out, if_pos (by omega), if_neg (by omega)])
            clear hls e2 h2
            go_wp2_with fail
            refine wp_goto ?_
            exact ⟨rfl, g - 1, by omega, 2, l, by omega, ⟨rfl, rfl, by simp⟩, e.out, rfl⟩
      · have e : Hid (l = leastAt t u 2) := Lib.hid (by
          rw [hls.out]
          by_cases h : 0 < l
          · rw [if_pos h, if_neg (by omega)]
          · rw [if_neg h, if_neg hu]; omega)
        clear hls e2
        go_wp2_with fail
        refine wp_goto ?_
        exact ⟨rfl, g - 1, by omega, 2, l, by omega, ⟨rfl, rfl, by simp⟩, e.out, rfl⟩
    · have e : Hid (l = shorter t u) := Lib.hid hl
      clear hl
      go_wp2_with fail
      simp only [Exit.jump]
      go_ret
      exact ⟨congrArg (fun x => Ending.returned (.int .i64 x)) e.out, rfl⟩
  · intro H
    go_wp2_with fail
    refine wp_label ?_
    go_step
    go_step
    exact H _ _ _ ⟨0, 0, Nat.zero_add 2, ⟨rfl, rfl, by simp⟩, rfl, rfl⟩

set_option maxHeartbeats 1000000 in
theorem for_any (e : Ent) (o : Opt) (now : Int) (w : World) : Calls Try.prog 18 #[enV e, opV o, .int .i64 now] w fun r w' => r = .returned (enV (forE e o now)) ∧ Below w.heap.size w w' := by
  go_enter Try.func18, Try.ntmps18
  go_wp2_with fail
  all_goals
    have hpr : Hid (max (min e.prio o.prio) 0 = max (min e.prio o.prio) 0) := Lib.hid rfl
    refine (shortest_any (t := e.ttl) (u := o.ttl) ?_ ?_).mono ?_
    · go_simp
    · go_simp
    rintro r w1 ⟨rfl, rfl⟩
    by_cases hs : 0 < shorter e.ttl o.ttl
    · have hf : Hid (forE e o now = { e with prio := max (min e.prio o.prio) 0, til := IntKind.i64.wrap (now + shorter e.ttl o.ttl) }) := Lib.hid (by unfold forE; rw [if_pos hs])
      obtain ⟨T, hT⟩ : ∃ T, IntKind.i64.wrap (now + shorter e.ttl o.ttl) = T := ⟨_, rfl⟩
      rw [hT] at hf
      generalize shorter e.ttl o.ttl = s at *
      go_wp2_with fail
      refine bodyPost_ret (v := enV (forE e o now)) ?_ rfl ⟨rfl, by repeat (first | exact Below.refl _ _ | refine bel ?_ (new_below _ _))⟩
      rw [hf.out]
      simp [results, Try.results18, go_sem]
      first | omega | (rename_i h1; split at h1 <;> omega) | trace_state
    · have hf : Hid (forE e o now = { e with prio := max (min e.prio o.prio) 0, til := 0 }) := Lib.hid (by unfold forE; rw [if_neg hs])
      generalize shorter e.ttl o.ttl = s at *
      go_wp2_with fail
      refine bodyPost_ret (v := enV (forE e o now)) ?_ rfl ⟨rfl, by repeat (first | exact Below.refl _ _ | refine bel ?_ (new_below _ _))⟩
      rw [hf.out]
      simp [results, Try.results18, go_sem]
      first | omega | (rename_i h1; split at h1 <;> omega) | trace_state

end Go.Proofs.Ytmmagapggmcceaa
