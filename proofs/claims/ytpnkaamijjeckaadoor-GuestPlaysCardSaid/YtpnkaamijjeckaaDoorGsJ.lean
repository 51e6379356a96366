/- Guests: one is picked. -/
import Derived.Test.YtpnkaamijjeckaaDoorGsI
namespace Go.Proofs.YtpnkaamijjeckaaDoor
open Go.RowKit
set_option linter.unusedVariables false
set_option linter.unusedSectionVars false
set_option maxRecDepth 100000

section
variable {B : Nat} {w0 w w' : World} {gb b c T k g off n cap i j sl sc : Nat} {M L : List Gst} {a sa : Option Addr} {v : Value} {S R F F' X : List (Nat × Obj)} {x y : Gst} {sp : Nat → Bool}
/-- What Pick starts from: the answer's cell beside. -/
theorem GuIs.pick0 (h : GuIs B w0 w gb M T F) (hs : SpAt w sa sl sp) {r : Option Nat} (hrr : pickG M.length T (sparG M.length sl sp) = r) :
    GuIs B w0 (w.alloc (gsO z0G)) gb M T ((w.heap.size, gsO z0G) :: F) ∧
    Calls Tryd.prog 28 #[gup gb, .slice sa sl sc] (w.alloc (gsO z0G)) fun e w' => e = .returned (nextV r) ∧ GuIs B w0 w' gb M T ((w.heap.size, gsO z0G) :: F) := by
  have h1 := h.alloc (gsO z0G)
  obtain ⟨hTab, hok, hl, v, S, h2⟩ := h1
  obtain ⟨a, c, rfl⟩ := h2.form
  refine ⟨h.alloc _, (next_g (sc := sc) (GuAt.tab hTab h2.st) h2.rdg h2.c1 hok hl (hs.below (new_below _ _)) hrr).mono ?_⟩
  rintro e w' ⟨rfl, hb⟩
  exact ⟨rfl, (h.alloc _).grow hb⟩

set_option maxHeartbeats 4000000 in
theorem gu_pick_no (h : GuIs B w0 w gb M T F) (hs : SpAt w sa sl sp) (hrr : pickG M.length T (sparG M.length sl sp) = none) :
    Calls Tryd.prog 13 #[gup gb, .slice sa sl sc] w fun e w' => e = .returned (.tuple #[gsV z0G, .bool false]) ∧ GuIs B w0 w' gb M T F := by
  obtain ⟨h1, cn⟩ := h.pick0 (sc := sc) hs hrr
  have hz := zeroG
  have fin : Hid (∀ W, GuIs B w0 W gb M T ((w.heap.size, gsO z0G) :: F) → GsAt W w.heap.size z0G ∧ (∀ i, W.frozen? ⟨w.heap.size, i, none⟩ = false) ∧ GsAt (gsPut W w.heap.size z0G) w.heap.size z0G ∧ GuIs B w0 (gsPut W w.heap.size z0G) gb M T F) := Lib.hid fun W h => by
    have h2 := h.gsPut (x := z0G)
    exact ⟨(h.guest List.mem_cons_self).1, (h.guest (x := z0G) List.mem_cons_self).2, (h2.guest List.mem_cons_self).1, h2.sub (List.sublist_cons_self _ _)⟩
  replace cn := Lib.hid cn
  unfold nextV at cn
  simp only at cn
  clear h h1 hs hrr
  generalize hW : w.alloc (gsO z0G) = W1 at *
  replace hW := Lib.hid hW
  go_enter Tryd.func13, Tryd.ntmps13
  go_upto_region 1 with fail
  rw [hW.out]
  clear hW
  generalize w.heap.size = xb at *
  go_wp2_with fail
  refine cn.out.mono ?_
  rintro e w2 ⟨rfl, h2⟩
  obtain ⟨⟨z0, z1, z2, z3, z4, z5⟩, zs, hE, hG⟩ := fin.out _ h2
  replace hE := Lib.hid hE
  replace hG := Lib.hid hG
  clear h2 fin cn
  go_wp2_with fail
  exact bodyPost_ret (ret_guest (x := z0G) rfl rfl rfl hE.out rfl) rfl ⟨rfl, hG.out⟩

set_option maxHeartbeats 4000000 in
theorem gu_pick_yes (h : GuIs B w0 w gb M T F) (hs : SpAt w sa sl sp) (hrr : pickG M.length T (sparG M.length sl sp) = some k) (hx : M[k]? = some x) {T' : Nat} (hT' : turnG M.length (k + 1) = T') :
    Calls Tryd.prog 13 #[gup gb, .slice sa sl sc] w fun e w' => e = .returned (.tuple #[gsV x, .bool true]) ∧ GuIs B w0 w' gb M T' F := by
  obtain ⟨h1, cn⟩ := h.pick0 (sc := sc) hs hrr
  have few := h.few
  have hk := (List.getElem?_eq_some_iff.1 hx).1
  have crk : Hid (∀ w, Calls Tryd.prog 25 #[seatV (k % 64) (k / 64)] w fun e w' => e = .returned (.int .i64 (k : Int)) ∧ w' = w) := Lib.hid fun w => by
    have := rank_any (k % 64) (k / 64) (Nat.mod_lt _ (by decide)) (by omega) w
    rw [show 64 * (k / 64) + k % 64 = k by omega] at this
    exact this
  have ctu : Hid (∀ W, GuIs B w0 W gb M T ((w.heap.size, gsO z0G) :: F) → Calls Tryd.prog 26 #[gup gb, .int .i64 ((k : Int) + 1)] W fun e w' => e = .returned (.tuple #[]) ∧ GuIs B w0 w' gb M T' ((w.heap.size, gsO z0G) :: F)) := Lib.hid fun W h => by
    obtain ⟨hTab, hok, hl, v, S, h2⟩ := h
    have := turn_any h2 (by omega) (k + 1) (by omega)
    rw [hT', show ((k + 1 : Nat) : Int) = (k : Int) + 1 by omega] at this
    refine this.mono ?_
    rintro e w' ⟨rfl, h3⟩
    exact ⟨rfl, hTab, by rw [← hT']; exact turn_ok _ _, hl, v, S, h3⟩
  have fin : Hid (∀ W, GuIs B w0 W gb M T' ((w.heap.size, gsO z0G) :: F) → ∃ a c, W.cell? ⟨gb, 0, none⟩ = some (.slice a M.length c) ∧ (∃ b off, a = some ⟨b, off, none⟩ ∧ GsRow W b (off + k * 6) x) ∧ GsAt W w.heap.size z0G ∧ (∀ i, W.frozen? ⟨w.heap.size, i, none⟩ = false) ∧ GsAt (gsPut W w.heap.size x) w.heap.size x ∧ GuIs B w0 (gsPut W w.heap.size x) gb M T' F) := Lib.hid fun W h => by
    obtain ⟨a, c, hr⟩ := h.rdg
    have h2 := h.gsPut (x := x)
    exact ⟨a, c, hr.c0, hr.rd k x hx, (h.guest List.mem_cons_self).1, (h.guest (x := z0G) List.mem_cons_self).2, (h2.guest List.mem_cons_self).1, h2.sub (List.sublist_cons_self _ _)⟩
  have hk0 : (0 : Int) ≤ k := by omega
  have hk1 : (k : Int) < M.length := by omega
  have hk2 : (M.length : Int) ≤ 60000 := by omega
  replace cn := Lib.hid cn
  unfold nextV at cn
  simp only at cn
  clear h h1 hs hrr hx hT' few hk
  generalize hW : w.alloc (gsO z0G) = W1 at *
  replace hW := Lib.hid hW
  go_enter Tryd.func13, Tryd.ntmps13
  go_upto_region 1 with fail
  rw [hW.out]
  clear hW
  generalize w.heap.size = xb at *
  go_wp2_with fail
  refine cn.out.mono ?_
  rintro e w2 ⟨rfl, h2⟩
  go_wp2_with fail
  refine (crk.out w2).mono ?_
  rintro e w3 ⟨rfl, rfl⟩
  have ct := Lib.hid (ctu.out _ h2)
  clear h2 ctu crk cn
  go_wp2_with fail
  refine ct.out.mono ?_
  rintro e w4 ⟨rfl, h4⟩
  obtain ⟨a, c, c0, ⟨b1, o1, rfl, k0, k1, k2, k3, k4, k5⟩, ⟨z0, z1, z2, z3, z4, z5⟩, zs, hE, hG⟩ := fin.out _ h4
  replace hE := Lib.hid hE
  replace hG := Lib.hid hG
  clear h4 fin ct
  go_wp2_with fail
  exact bodyPost_ret (ret_guest (x := x) rfl rfl rfl hE.out rfl) rfl ⟨rfl, hG.out⟩
end
end Go.Proofs.YtpnkaamijjeckaaDoor
