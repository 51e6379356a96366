/- The document's own guests: one is picked. -/
import Derived.Test.YtpnkaamijjeckaaDoorGsS
namespace Go.Proofs.YtpnkaamijjeckaaDoor
open Go.RowKit
set_option linter.unusedVariables false
set_option linter.unusedSectionVars false
set_option linter.unusedSimpArgs false
set_option maxRecDepth 100000

/-- Who is looked at i-th. -/
def ordR (T n i : Nat) : Nat := (T + i) % n
theorem ordR_lt {T n i : Nat} (hn : 0 < n) : ordR T n i < n := Nat.mod_lt _ hn
theorem ordR_is {T n i : Nat} (hT : T < n) (hi : i < n) : (T + i < n ∧ ordR T n i = T + i) ∨ (n ≤ T + i ∧ ordR T n i = T + i - n) := by
  unfold ordR
  rcases Nat.lt_or_ge (T + i) n with h | h
  · exact .inl ⟨h, Nat.mod_eq_of_lt h⟩
  · refine .inr ⟨h, ?_⟩
    rw [Nat.mod_eq_sub_mod h, Nat.mod_eq_of_lt (by omega)]
theorem ordR_pick {f : Nat → Bool} {n T i : Nat} (hf : ∀ p, f p = true → p < n) (hT : T < n) (hi : i < n) (h : f (ordR T n i) = true) (hn : ∀ j, j < i → f (ordR T n j) = false) : pickG n T f = some (ordR T n i) := by
  rcases ordR_is hT hi with ⟨h1, h2⟩ | ⟨h1, h2⟩
  · refine pick_first hf h (by omega) fun p k1 k2 => ?_
    have := hn (p - T) (by omega)
    rcases ordR_is (i := p - T) hT (by omega) with ⟨m1, m2⟩ | ⟨m1, m2⟩
    · rw [m2, show T + (p - T) = p by omega] at this
      exact this
    · omega
  · refine pick_again hf h (fun p k1 k2 => ?_) fun p k1 k2 => ?_
    · have := hn (p - T) (by omega)
      rcases ordR_is (i := p - T) hT (by omega) with ⟨m1, m2⟩ | ⟨m1, m2⟩
      · rw [m2, show T + (p - T) = p by omega] at this
        exact this
      · omega
    · have := hn (p + n - T) (by omega)
      rcases ordR_is (i := p + n - T) hT (by omega) with ⟨m1, m2⟩ | ⟨m1, m2⟩
      · omega
      · rw [m2, show T + (p + n - T) - n = p by omega] at this
        exact this
theorem ordR_none {f : Nat → Bool} {n T : Nat} (hf : ∀ p, f p = true → p < n) (hT : T < n) (hn : ∀ j, j < n → f (ordR T n j) = false) : pickG n T f = none := by
  refine pick_none hf (fun p k1 k2 => ?_) fun p k1 k2 => ?_
  · have := hn (p - T) (by omega)
    rcases ordR_is (i := p - T) hT (by omega) with ⟨m1, m2⟩ | ⟨m1, m2⟩
    · rw [m2, show T + (p - T) = p by omega] at this
      exact this
    · omega
  · have := hn (p + n - T) (by omega)
    rcases ordR_is (i := p + n - T) hT (by omega) with ⟨m1, m2⟩ | ⟨m1, m2⟩
    · omega
    · rw [m2, show T + (p + n - T) - n = p by omega] at this
      exact this
theorem pick_empty (T : Nat) (f : Nat → Bool) : pickG 0 T f = none := rfl
theorem turn_mod {n k : Nat} (hk : k < n) : (k + 1) % n = turnG n (k + 1) := by
  unfold turnG
  split
  · have : k + 1 = n := by omega
    rw [this, Nat.mod_self]
  · exact Nat.mod_eq_of_lt (by omega)
/-- What Pick answers. -/
def pickV (M : List Gst) (r : Option Nat) : Value := match r with | none => .tuple #[gsV z0G, .bool false] | some k => .tuple #[gsV (M.getD k z0G), .bool true]
section
variable {B : Nat} {w0 w w' : World} {fb b p T i n sl sc : Nat} {M N L : List Gst} {a a2 sa : Option Addr} {c c2 : Nat} {F F' S So X : List (Nat × Obj)} {x y : Gst} {sp : Nat → Bool}

set_option maxHeartbeats 4000000 in
theorem rg_pick (h : RGuAt B w0 w fb M T F) (hl : M.length ≤ 1000) (hok : OkT M.length T) (hs : SpAt w sa sl sp) :
    Calls Tryd.prog 14 #[gup fb, .slice sa sl sc] w fun e w' => e = .returned (pickV M (pickG M.length T (sparG M.length sl sp))) ∧ RGuAt B w0 w' fb M (pickT M.length T (sparG M.length sl sp)) F := by
  obtain ⟨R, hR⟩ : ∃ R, R = pickV M (pickG M.length T (sparG M.length sl sp)) := ⟨_, rfl⟩
  obtain ⟨TR, hTR⟩ : ∃ TR, TR = pickT M.length T (sparG M.length sl sp) := ⟨_, rfl⟩
  rw [← hR, ← hTR]
  obtain ⟨f, hf⟩ : ∃ f, f = sparG M.length sl sp := ⟨_, rfl⟩
  rw [← hf] at hR hTR
  have hflt : ∀ p, f p = true → p < M.length := by rw [hf]; exact sparG_lt
  have hfk : Hid (∀ k, k < M.length → (k < sl → f k = sp k) ∧ (sl ≤ k → f k = false)) := Lib.hid fun k hk => by
    rw [hf]
    unfold sparG
    refine ⟨fun h => by simp [hk, h], fun h => ?_⟩
    rw [decide_eq_false (show ¬ k < sl by omega)]
    simp
  have hyes : Hid (∀ i, i < M.length → f (ordR T M.length i) = true → (∀ j, j < i → f (ordR T M.length j) = false) → ∃ x, M[ordR T M.length i]? = some x ∧ R = .tuple #[gsV x, .bool true] ∧ TR = (ordR T M.length i + 1) % M.length) := Lib.hid fun i hi h1 h2 => by
    have hT : T < M.length := by rcases hok with h | h <;> omega
    have hp := ordR_pick hflt hT hi h1 h2
    have hlt := ordR_lt (T := T) (i := i) (show 0 < M.length by omega)
    refine ⟨_, List.getElem?_eq_getElem hlt, ?_, ?_⟩
    · rw [hR, hp]
      simp [pickV, hlt]
    · rw [hTR, pickT, hp, turn_mod hlt]
  have hno : Hid ((∀ j, j < M.length → f (ordR T M.length j) = false) → R = .tuple #[gsV z0G, .bool false] ∧ TR = T) := Lib.hid fun h1 => by
    have hp : pickG M.length T f = none := by
      rcases Nat.eq_zero_or_pos M.length with h0 | h0
      · rw [h0]; exact pick_empty _ _
      · exact ordR_none hflt (by rcases hok with h | h <;> omega) h1
    rw [hR, hTR, pickT, hp]
    exact ⟨rfl, rfl⟩
  have h1 := h.alloc (gsO z0G)
  have hs1 := hs.below (new_below w (gsO z0G))
  have hTl : T ≤ 1000 := by rcases hok with h | h <;> omega
  obtain ⟨W1, hW1⟩ : ∃ W, W = w.alloc (gsO z0G) := ⟨_, rfl⟩
  rw [← hW1] at h1 hs1
  have hz := zeroG
  have hst : Hid (∀ m, ∃ a c, RdG (W1.drewN m) fb M a c ∧ (W1.drewN m).cell? ⟨fb, 1, none⟩ = some (.int .i64 (T : Int)) ∧ (W1.drewN m).frozen? ⟨fb, 1, none⟩ = false ∧ SpAt (W1.drewN m) sa sl sp) := Lib.hid fun m => by
    obtain ⟨a, c, g1, g2, g3⟩ := (h1.grow (drewN_below W1 m)).rdg
    exact ⟨a, c, g1, g2, g3 1, hs1.below (drewN_below W1 m)⟩
  have finY : Hid (∀ m x k, M[k]? = some x → ∃ W4, W4 = (W1.drewN m).setCell ⟨fb, 1, none⟩ (.int .i64 (((k + 1) % M.length : Nat) : Int)) ∧ (∃ a c, RdG W4 fb M a c) ∧ GsAt W4 w.heap.size z0G ∧ (∀ i, W4.frozen? ⟨w.heap.size, i, none⟩ = false) ∧ GsAt (gsPut W4 w.heap.size x) w.heap.size x ∧ RGuAt B w0 (gsPut W4 w.heap.size x) fb M ((k + 1) % M.length) F) := Lib.hid fun m x k hx => by
    have h2 := (h1.grow (drewN_below W1 m)).turn ((k + 1) % M.length)
    obtain ⟨a, c, g1, -⟩ := h2.rdg
    have h3 := h2.gsPut (x := x)
    exact ⟨_, rfl, ⟨a, c, g1⟩, (h2.guest List.mem_cons_self).1, (h2.guest (x := z0G) List.mem_cons_self).2, (h3.guest List.mem_cons_self).1, h3.sub (List.sublist_cons_self _ _)⟩
  have finN : Hid (∀ m, GsAt (W1.drewN m) w.heap.size z0G ∧ (∀ i, (W1.drewN m).frozen? ⟨w.heap.size, i, none⟩ = false) ∧ GsAt (gsPut (W1.drewN m) w.heap.size z0G) w.heap.size z0G ∧ RGuAt B w0 (gsPut (W1.drewN m) w.heap.size z0G) fb M T F) := Lib.hid fun m => by
    have h2 := h1.grow (drewN_below W1 m)
    have h3 := h2.gsPut (x := z0G)
    exact ⟨(h2.guest List.mem_cons_self).1, (h2.guest (x := z0G) List.mem_cons_self).2, (h3.guest List.mem_cons_self).1, h3.sub (List.sublist_cons_self _ _)⟩
  have hl0 : (M.length : Int) ≤ 1000 := by omega
  have hsl : (sl : Int) ≤ 9223372036854775807 := by
    have := hs.top
    unfold maxLen at this
    omega
  have T00 : (0 : Int) ≤ T := by omega
  have T01 : (T : Int) ≤ 1000 := by omega
  clear h h1 hs hs1 hok hR hTR hf hflt
  go_enter Tryd.func14, Tryd.ntmps14
  go_upto_region 1 with fail
  rw [← hW1]
  clear hW1
  generalize w.heap.size = xb at *
  go_wp2_with fail
  go_loopg [6] M.length (fun g v6 wr => ∃ i m : Nat, v6 = .int .i64 i ∧ i + g = M.length ∧ Hid (∀ j, j < i → f (ordR T M.length j) = false) ∧ wr = W1.drewN m)
  case atStart => exact ⟨0, 0, rfl, by omega, Lib.hid fun j hj => absurd hj (by omega), rfl⟩
  case round =>
    obtain ⟨i, m, rfl, hi, hn, rfl⟩ := hrel
    have i0 : (0 : Int) ≤ i := by omega
    by_cases hlt : i < M.length
    · have i1 : (i : Int) < M.length := by omega
      obtain ⟨a, c, ⟨c0, hr⟩, c1, f1, hs⟩ := hst.out m
      have hn0 : ¬ (M.length : Int) = 0 := by omega
      have hk : Hid (((T : Int) + i) % (M.length : Int) = ((ordR T M.length i : Nat) : Int)) := Lib.hid (by unfold ordR; simp)
      have hklt := ordR_lt (T := T) (i := i) (show 0 < M.length by omega)
      generalize hko : ordR T M.length i = k at hk hklt
      have hfi := hfk.out k hklt
      have hyi := Lib.hid (hyes.out i hlt)
      rw [hko] at hyi
      have nxt : Hid (f k = false → ∀ j, j < i + 1 → f (ordR T M.length j) = false) := Lib.hid fun hfa j hj => by
        rcases (by omega : j < i ∨ j = i) with h9 | rfl
        · exact hn.out j h9
        · rw [hko]; exact hfa
      have k0 : (0 : Int) ≤ k := by omega
      have k1 : (k : Int) < M.length := by omega
      replace hko := Lib.hid hko
      clear hno finN hyes hfk
      generalize hV : W1.drewN m = V at c0 hr c1 f1 hs ⊢
      go_upto_region 4 with fail
      go_quiet (fail)
      simp only [hk.out]
      rw [← hV, drew_drew18]
      clear hk c0 hr c1 f1 hs hV
      have hk2 : Hid (((k : Int) + 1) % (M.length : Int) = (((k + 1) % M.length : Nat) : Int)) := Lib.hid (by simp)
      obtain ⟨a, c, ⟨c0, hr⟩, c1, f1, hs⟩ := hst.out (m + nq)
      have hmq : Hid (∃ m', W1.drewN (m + nq) = W1.drewN m') := Lib.hid ⟨_, rfl⟩
      have hfinY := Lib.hid (finY.out (m + nq))
      clear hst finY
      generalize W1.drewN (m + nq) = V at *
      by_cases hks : k < sl
      · have hks0 : (k : Int) < sl := by omega
        obtain ⟨b1, o1, hsa, e1⟩ := hs.at_ k hks
        have hfk := hfi.1 hks
        subst hsa
        cases hsp : sp k with
        | true =>
          rw [hsp] at hfk e1
          obtain ⟨x, hx, hRx, hTx⟩ := hyi.out hfk hn.out
          obtain ⟨W4, hW4, ⟨a4, c4, hr4⟩, ⟨z0, z1, z2, z3, z4, z5⟩, zs, hE, hG⟩ := hfinY.out x k hx
          obtain ⟨b2, o2, ha4, x0, x1, x2, x3, x4, x5⟩ := hr4.rd k x hx
          have d4 := hr4.c0
          subst ha4 hRx hTx
          replace hE := Lib.hid hE
          replace hG := Lib.hid hG
          clear hfi hyi nxt hko hn hx hr4 hr hs hfinY hsp hfk hmq hks
          go_upto_region 7 with fail
          simp only [hk2.out]
          rw [← hW4]
          clear hk2 hW4 c0 c1 f1 e1 hks0
          go_wp2_with fail
          exact bodyPost_ret (ret_guest (x := x) rfl rfl rfl hE.out rfl) rfl ⟨rfl, hG.out⟩
        | false =>
          rw [hsp] at hfk e1
          have nx := Lib.hid (nxt.out hfk)
          obtain ⟨m', hm'⟩ := hmq.out
          replace hm' := Lib.hid hm'
          clear hfi hyi nxt hko hn hr hs hfinY hsp hfk hks hk2 hmq
          go_wp2_with fail
          go_roundg (M.length - (i + 1))
          case measure => omega
          case rel => exact ⟨i + 1, m', by go_num, by omega, nx, hm'.out⟩
      · have hks0 : ¬ (k : Int) < sl := by omega
        have nx := Lib.hid (nxt.out (hfi.2 (by omega)))
        obtain ⟨m', hm'⟩ := hmq.out
        replace hm' := Lib.hid hm'
        clear hfi hyi nxt hko hn hr hs hfinY hks hk2 hmq
        go_wp2_with fail
        go_roundg (M.length - (i + 1))
        case measure => omega
        case rel => exact ⟨i + 1, m', by go_num, by omega, nx, hm'.out⟩
    · obtain ⟨rfl, rfl⟩ := hno.out fun j hj => hn.out j (by omega)
      obtain ⟨a, c, ⟨c0, hr⟩, -⟩ := hst.out m
      obtain ⟨⟨z0, z1, z2, z3, z4, z5⟩, zs, hE, hG⟩ := finN.out m
      replace hE := Lib.hid hE
      replace hG := Lib.hid hG
      clear hst hno finN finY hyes hfk hn hr
      generalize W1.drewN m = V at *
      go_wp2_with fail
      exact bodyPost_ret (ret_guest (x := z0G) rfl rfl rfl hE.out rfl) rfl ⟨rfl, hG.out⟩
end
end Go.Proofs.YtpnkaamijjeckaaDoor
