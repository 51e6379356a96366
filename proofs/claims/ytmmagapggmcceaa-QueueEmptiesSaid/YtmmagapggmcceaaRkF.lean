/- A rack's small functions: a Prio, its row; an entry of one's own; a map copied; room given back. -/
import Derived.Test.YtmmagapggmcceaaRkC
import Derived.Test.YtmmagapggmcceaaRkE
import Derived.Test.YtmmagapggmcceaaStrC
import Derived.Maps.RangeRun
import Derived.Deep.LoopGhost
import Derived.Lib.Hide
namespace Go.Proofs.Ytmmagapggmcceaa
open Go.RowKit
open Go.ChangeMaps (setBlock)
set_option linter.unusedVariables false
set_option linter.unusedSectionVars false
set_option linter.unusedSimpArgs false
set_option maxRecDepth 100000

theorem isPrio_any (p : Int) (w : World) : Calls Try.prog 32 #[.int .i64 p] w fun e w' => e = .returned (.bool (decide (0 ≤ p ∧ p ≤ 3))) ∧ w = w' := by
  by_cases h1 : 0 ≤ p
  · by_cases h2 : p ≤ 3
    · have e : decide (0 ≤ p ∧ p ≤ 3) = true := by simp [h1, h2]
      rw [e]
      clear e
      go_enter Try.func32, Try.ntmps32
      go_wp2_with fail
      go_ret
      exact ⟨rfl, rfl⟩
    · have e : decide (0 ≤ p ∧ p ≤ 3) = false := by simp [h2]
      rw [e]
      clear e
      go_enter Try.func32, Try.ntmps32
      go_wp2_with fail
      go_ret
      exact ⟨rfl, rfl⟩
  · have e : decide (0 ≤ p ∧ p ≤ 3) = false := by simp [h1]
    rw [e]
    clear e
    go_enter Try.func32, Try.ntmps32
    go_wp2_with fail
    go_ret
    exact ⟨rfl, rfl⟩

section
variable {B : Nat} {w0 w : World} {rk q rb i : Nat} {rbs : List Nat} {R : List (List Int)} {H : List Ent} {F : List (Nat × Obj)} {l : List Int} {e : Ent}

set_option maxHeartbeats 1000000 in
theorem rowOf_any (h : RkAt B w0 w rk q rbs R H F) (hi : i < 4) (hp : e.prio = 3 - (i : Int)) (hb : rbs[i]? = some rb) :
    Calls Try.prog 34 #[rptr rk, enV e] w fun r w' => r = .returned (rptr rb) ∧ Below w.heap.size w w' := by
  have hnew := Lib.hid (fun n => bel (new_below w (enO e)) (drewN_below _ n))
  have h1 := h.grow (new_below w (enO e))
  have c0 := h1.c0
  have c1 := h1.at_ hb
  have hz : (3 : Int) - e.prio = i := by omega
  have hz0 : (0 : Int) ≤ e.prio := by omega
  have hz1 : e.prio ≤ (3 : Int) := by omega
  have hi0 : (0 : Int) ≤ i := by omega
  have hi1 : (i : Int) < 4 := by omega
  clear h h1 hp hb hi
  go_enter Try.func34, Try.ntmps34
  go_wp2_with fail
  go_quiet (fail)
  go_wp2_with fail
  go_ret
  exact ⟨rfl, hnew.out _⟩

/-- While a place is looked for. -/
def AheadJ (B : Nat) (w0 w : World) (rk q rb eb : Nat) (rbs : List Nat) (R : List (List Int)) (H : List Ent) (F : List (Nat × Obj)) (l : List Int) (e : Ent) (g : Nat) (a' : Act) (w' : World) : Prop :=
  ∃ f t : Nat, f + g = t ∧ t ≤ l.length ∧ Fr 41 [(0, rptr rk), (1, rptr rb), (5, .pointer (some ⟨eb, 0, none⟩)), (7, .int .i64 f), (8, .int .i64 t)] a' ∧ (∀ j x, j < f → l[j]? = some x → x < e.id) ∧ (∀ j x, t ≤ j → l[j]? = some x → ¬ x < e.id) ∧
    RkAt B w0 w' rk q rbs R H ((eb, enO e) :: F) ∧ Below w.heap.size w w'

theorem atR_at {l : List Int} {m : Nat} {x : Int} (h : l[m]? = some x) : atR l m = .tuple #[.int .i64 x, .bool true] := by
  unfold atR
  rw [if_neg (by omega), Int.toNat_natCast, h]

set_option maxHeartbeats 2000000 in
theorem ahead_any (h : RkAt B w0 w rk q rbs R H F) (hb : rbs[i]? = some rb) (hl : R[i]? = some l) (hs : l.Pairwise (· < ·)) (hm : ∀ k ∈ l, ∃ x ∈ H, x.id = k ∧ x.prio = e.prio) (hp : 0 ≤ e.prio ∧ e.prio ≤ 3) (hl2 : l.length ≤ 100000) :
    Calls Try.prog 36 #[rptr rk, rptr rb, enV e] w fun r w' => r = .returned (.int .i64 (cntL l e.id)) ∧ Below w.heap.size w w' := by
  have h1 : RkAt B w0 (w.alloc (enO e)) rk q rbs R H ((w.heap.size, enO e) :: F) := by
    obtain ⟨S, s1, s2⟩ := h.beside
    exact s2 _ _ ((s1.alloc (enO e)).perm List.perm_middle.symm)
  have hn0 := Lib.hid (new_below w (enO e))
  have cl : ∀ w', RkAt B w0 w' rk q rbs R H ((w.heap.size, enO e) :: F) → Calls Try.prog 48 #[rptr rb] w' fun e w'' => e = .returned (.int .i64 l.length) ∧ w' = w'' := fun w' h => by
    obtain ⟨Z, r1, -⟩ := h.ring hb hl
    exact ring_len r1
  have ca : Hid (∀ w' (m : Nat) (x : Int), RkAt B w0 w' rk q rbs R H ((w.heap.size, enO e) :: F) → l[m]? = some x → Calls Try.prog 51 #[rptr rb, .int .i64 m] w' fun e w'' => e = .returned (.tuple #[.int .i64 x, .bool true]) ∧ ∃ n, w'' = w'.drewN n) := Lib.hid fun w' m x h hx => by
    obtain ⟨Z, r1, -⟩ := h.ring hb hl
    have := ring_at r1 (m : Int)
    rw [atR_at hx] at this
    exact this
  have c1 := Lib.hid (cl _ h1)
  have hs2 : Hid (∀ (j m : Nat) (x y : Int), j < m → l[j]? = some x → l[m]? = some y → x < y) := Lib.hid fun j m x y hj hx hy => by
    obtain ⟨a1, a2⟩ := List.getElem?_eq_some_iff.1 hx
    obtain ⟨b1, b2⟩ := List.getElem?_eq_some_iff.1 hy
    rw [← a2, ← b2]
    exact List.pairwise_iff_getElem.1 hs j m a1 b1 hj
  replace hm := Lib.hid hm
  replace hp := Lib.hid hp
  replace h1 := Lib.hid h1
  replace hs := Lib.hid hs
  clear h cl
  go_enter Try.func36, Try.ntmps36
  go_wp2_with fail
  refine wp_scope_ghost 0 (AheadJ B w0 w rk q rb w.heap.size rbs R H F l e) rfl ?_ ?_
  · rintro g a' wr ⟨f, t, hft, ht, hfr, hlo, hhi, hR, hbl⟩
    obtain ⟨fr, rfl, hl'⟩ := hfr.lit
    clear hfr h1 c1 hn0
    simp only [List.mem_cons, List.not_mem_nil, or_false, forall_eq_or_imp, forall_eq] at hl'
    obtain ⟨f0, f1, f5, f7, f8⟩ := hl'
    simp only [List.range, List.range.loop, List.map, f0, f1, f5, f7, f8]
    clear f0 f1 f5 f7 f8
    by_cases hz : g = 0
    · obtain rfl : f = t := by omega
      have hc := cntL_is (k := e.id) ht hlo fun x hx => hhi f x (Nat.le_refl _) hx
      have fin : Hid (Ending.returned (.int .i64 f) = Ending.returned (.int .i64 (cntL l e.id)) ∧ Below w.heap.size w wr) := Lib.hid ⟨by rw [hc], hbl⟩
      clear hbl
      clear hR hlo hhi hc hft
      go_wp2_with fail
      simp only [Exit.jump]
      go_ret
      exact fin.out
    · obtain ⟨d, hd⟩ : ∃ d, d = g / 2 := ⟨_, rfl⟩
      obtain ⟨m, hmd⟩ : ∃ m, m = f + d := ⟨_, rfl⟩
      have hx : l[m]? = some l[m] := List.getElem?_eq_getElem (by omega)
      generalize l[m] = k at hx
      obtain ⟨x, hxH, rfl, hxp⟩ := hm.out k (List.mem_of_getElem? hx)
      have hR2 : ∀ n, RkAt B w0 (wr.drewN n) rk q rbs R H ((w.heap.size, enO e) :: F) := fun n => hR.grow (drewN_below _ n)
      obtain ⟨mb, -, hlook⟩ := hR.look
      have cat := Lib.hid (ca.out wr m x.id hR hx)
      have ceb : ∀ n, EnAt (wr.drewN n) w.heap.size e := fun n => by
        obtain ⟨S, s1, -⟩ := (hR2 n).beside
        have hmem : (w.heap.size, enO e) ∈ S ++ (w.heap.size, enO e) :: F := List.mem_append_right _ List.mem_cons_self
        exact ⟨s1.cell hmem rfl, s1.cell hmem rfl, s1.cell hmem rfl, s1.cell hmem rfl, s1.cell hmem rfl, s1.cell hmem rfl, s1.cell hmem rfl, s1.cell hmem rfl, s1.cell hmem rfl, s1.cell hmem rfl⟩
      have hless : lessE x e = decide (x.id < e.id) := by
        unfold lessE
        exact decide_eq_decide.2 (by omega)
      have hp1 := hp.out
      have cls := fun w' => less_any x e ⟨by omega, by omega⟩ ⟨by omega, by omega⟩ w'
      rw [hless] at cls
      replace cls := Lib.hid cls
      have hlow : x.id < e.id → ∀ j y, j < m + 1 → l[j]? = some y → y < e.id := fun hlt j y hj hy => by
        by_cases hjm : j = m
        · subst hjm
          rw [hx] at hy
          cases hy
          exact hlt
        · have := hs2.out j m y x.id (by omega) hy hx
          omega
      have hhigh : ¬ x.id < e.id → ∀ j y, m ≤ j → l[j]? = some y → ¬ y < e.id := fun hlt j y hj hy => by
        by_cases hjm : j = m
        · subst hjm
          rw [hx] at hy
          cases hy
          exact hlt
        · have := hs2.out m j x.id y (by omega) hx hy
          omega
      have e1 : (t : Int) - f = g := by omega
      have e2 : (g : Int).tdiv 2 = d := by rw [Int.tdiv_eq_ediv_of_nonneg (by omega)]; omega
      have e3 : (f : Int) + d = m := by omega
      have hne : ((f : Int) == t) = false := by rw [beq_eq_false_iff_ne]; omega
      have b0 : (0 : Int) ≤ f := by omega
      have b1 : (t : Int) ≤ 100000 := by omega
      have b2 : (0 : Int) ≤ d := by omega
      have b3 : (d : Int) ≤ 100000 := by omega
      have b4 : (0 : Int) ≤ g := by omega
      have b5 : (g : Int) ≤ 100000 := by omega
      have b6 : (m : Int) ≤ 100000 := by omega
      have b7 : (0 : Int) ≤ m := by omega
      have fin1 : Hid (x.id < e.id → ∀ a' w', Fr 41 [(0, rptr rk), (1, rptr rb), (5, .pointer (some ⟨w.heap.size, 0, none⟩)), (7, .int .i64 ((m : Int) + 1)), (8, .int .i64 t)] a' → Below wr.heap.size wr w' → ∃ g', g' < g ∧ AheadJ B w0 w rk q rb w.heap.size rbs R H F l e g' a' w') := by
        refine Lib.hid fun hlt a' w' hf hbw => ⟨t - (m + 1), by omega, m + 1, t, by omega, ht, hf, hlow hlt, hhi, hR.grow hbw, bel hbl hbw⟩
      have fin2 : Hid (¬ x.id < e.id → ∀ a' w', Fr 41 [(0, rptr rk), (1, rptr rb), (5, .pointer (some ⟨w.heap.size, 0, none⟩)), (7, .int .i64 f), (8, .int .i64 m)] a' → Below wr.heap.size wr w' → ∃ g', g' < g ∧ AheadJ B w0 w rk q rb w.heap.size rbs R H F l e g' a' w') := by
        refine Lib.hid fun hlt a' w' hf hbw => ⟨m - f, by omega, f, m, by omega, by omega, hf, hlo, hhigh hlt, hR.grow hbw, bel hbl hbw⟩
      replace ceb := Lib.hid ceb
      replace hlook := Lib.hid hlook
      replace hxH := Lib.hid hxH
      have hdr := Lib.hid (drewN_below wr)
      clear hR hR2 hlow hhigh hlo hhi hx hbl hft ht hd hmd hxp hless hz hp1 ca
      generalize he3 : decide (x.id < e.id) = c at cls
      replace he3 := Lib.hid he3
      go_wp2_with fail
      refine cat.out.mono ?_
      rintro r w2 ⟨rfl, n, rfl⟩
      clear cat
      go_wp2_with fail
      have cells := ceb.out n
      obtain ⟨k0, k1, k2, k3, k4, k5, k6, k7, k8, k9⟩ := cells
      have m1 := (hlook.out _ (hdr.out n)).c1
      have hit := (hlook.out _ (hdr.out (n + 1))).hit x hxH.out false
      rw [if_neg (by decide)] at hit
      have hdr2 := Lib.hid (hdr.out (n + 1))
      change (Instr.lookup 55 (.map (some mb)) (.int .i64 x.id) false).run Try.prog (wr.drewN n).drew = .ok (enV x) (wr.drewN n).drew at hit
      replace hdr2 : Hid (Below wr.heap.size wr (wr.drewN n).drew) := hdr2
      generalize wr.drewN n = V at *
      go_still_tail 7, (by kernel_rfl)
      change wpList _ _ _ _ _ V.drew
      generalize V.drew = W at *
      clear hdr hlook ceb
      go_wp2_with fail
      refine (cls.out _).mono ?_
      rintro r w3 ⟨rfl, hb3⟩
      have hb4 := Lib.hid (bel hdr2.out hb3)
      clear cls hit k0 k1 k2 k3 k4 k5 k6 k7 k8 k9 m1 hb3
      cases c with
      | true =>
        have hlt : x.id < e.id := by simpa using he3.out
        replace hlt := Lib.hid hlt
        go_wp2_with fail
        refine wp_goto ?_
        exact ⟨rfl, fin1.out hlt.out _ _ ⟨rfl, rfl, by simp⟩ hb4.out⟩
      | false =>
        have hlt : ¬ x.id < e.id := by simpa using he3.out
        replace hlt := Lib.hid hlt
        go_wp2_with fail
        refine wp_goto ?_
        exact ⟨rfl, fin2.out hlt.out _ _ ⟨rfl, rfl, by simp⟩ hb4.out⟩
  · intro HJ
    go_wp2_with fail
    refine c1.out.mono ?_
    rintro r w1 ⟨rfl, rfl⟩
    go_wp2_with fail
    refine wp_label ?_
    go_step
    go_step
    exact HJ l.length _ _ ⟨0, l.length, by omega, Nat.le_refl _, ⟨rfl, rfl, by simp⟩, fun j x hj => absurd hj (by omega), fun j x hj hx => absurd (List.getElem?_eq_some_iff.1 hx).1 (by omega), h1.out, hn0.out⟩
end
end Go.Proofs.Ytmmagapggmcceaa
