/- The document's own guests: one looked up, one comes, whether one is to be alone; two rows compared. -/
import Derived.Test.YtpnkaamijjeckaaDoorGsJ
namespace Go.Proofs.YtpnkaamijjeckaaDoor
open Go.RowKit
set_option linter.unusedVariables false
set_option linter.unusedSectionVars false
set_option linter.unusedSimpArgs false
set_option maxRecDepth 100000

abbrev rgO (v : Value) (T : Nat) : Obj := .cells #[v, .int .i64 (T : Int)] 29
/-- The document's guests at fb. -/
def RGuAt (B : Nat) (w0 w : World) (fb : Nat) (M : List Gst) (T : Nat) (F : List (Nat × Obj)) : Prop :=
  ∃ a c S, GssIs (.slice a M.length c) M S ∧ St B w0 w ((fb, rgO (.slice a M.length c) T) :: (S ++ F))
theorem bne_guest (e : Gst) (w : World) : (binOp .neq 31 (gsV e) (gsV e)).run Tryd.prog w = .ok (.bool false) w := by
  go_simp
theorem beq_guest (e : Gst) (w : World) : (binOp .eql 31 (gsV e) (gsV e)).run Tryd.prog w = .ok (.bool true) w := by
  go_simp
theorem drew_drew18 (w : World) (a b : Nat) : (w.drewN a).drewN b = w.drewN (a + b) := by
  simp [World.drewN, Nat.add_assoc]
section
variable {B : Nat} {w0 w w' : World} {fb b p T i n : Nat} {M N L : List Gst} {a a2 : Option Addr} {c c2 : Nat} {F F' S So X : List (Nat × Obj)} {x y : Gst}
theorem RGuAt.beside (h : RGuAt B w0 w fb M T F) : ∃ S, St B w0 w (S ++ F) ∧ ∀ w' F', St B w0 w' (S ++ F') → RGuAt B w0 w' fb M T F' := by
  obtain ⟨a, c, S, h1, h2⟩ := h
  exact ⟨(fb, rgO (.slice a M.length c) T) :: S, h2, fun w' F' h' => ⟨a, c, S, h1, h'⟩⟩
theorem RGuAt.grow (h : RGuAt B w0 w fb M T F) (hb : Below w.heap.size w w') : RGuAt B w0 w' fb M T F := by
  obtain ⟨S, h1, h2⟩ := h.beside
  exact h2 _ _ (h1.grow hb)
theorem RGuAt.sub (h : RGuAt B w0 w fb M T F) (hs : F'.Sublist F) : RGuAt B w0 w fb M T F' := by
  obtain ⟨S, h1, h2⟩ := h.beside
  exact h2 _ _ (h1.sub ((List.Sublist.refl S).append hs))
theorem RGuAt.permF (h : RGuAt B w0 w fb M T F) (hp : F.Perm F') : RGuAt B w0 w fb M T F' := by
  obtain ⟨S, h1, h2⟩ := h.beside
  exact h2 _ _ (h1.perm (hp.append_left S))
theorem RGuAt.alloc (h : RGuAt B w0 w fb M T F) (o : Obj) : RGuAt B w0 (w.alloc o) fb M T ((w.heap.size, o) :: F) := by
  obtain ⟨S, h1, h2⟩ := h.beside
  exact h2 _ _ ((h1.alloc o).perm List.perm_middle.symm)
theorem RGuAt.below (h : RGuAt B w0 w fb M T F) : Below B w0 w := by
  obtain ⟨S, h1, h2⟩ := h.beside
  exact h1.below
theorem RGuAt.guest (h : RGuAt B w0 w fb M T F) (hm : (b, gsO x) ∈ F) : GsAt w b x ∧ ∀ i, w.frozen? ⟨b, i, none⟩ = false := by
  obtain ⟨S, h1, -⟩ := h.beside
  exact ⟨h1.gsAt (List.mem_append_right _ hm), fun i => h1.soft (List.mem_append_right _ hm) i⟩
theorem RGuAt.gsPut (h : RGuAt B w0 w fb M T ((b, gsO y) :: F)) : RGuAt B w0 (gsPut w b x) fb M T ((b, gsO x) :: F) := by
  obtain ⟨S, h1, h2⟩ := h.beside
  exact h2 _ _ (((h1.perm List.perm_middle).gsPut (x := x)).perm List.perm_middle.symm)
theorem RGuAt.rdg (h : RGuAt B w0 w fb M T F) : ∃ a c, RdG w fb M a c ∧ w.cell? ⟨fb, 1, none⟩ = some (.int .i64 (T : Int)) ∧ ∀ i, w.frozen? ⟨fb, i, none⟩ = false := by
  obtain ⟨a, c, S, h1, h2⟩ := h
  exact ⟨a, c, ⟨h2.cell List.mem_cons_self rfl, GssIs.read (X := (fb, rgO (.slice a M.length c) T) :: F) h1 (h2.perm (by
    classical
    exact List.perm_iff_count.2 fun a => by simp only [List.count_append, List.count_cons]; omega))⟩, h2.cell List.mem_cons_self rfl, fun i => h2.soft List.mem_cons_self i⟩
theorem RGuAt.turn (h : RGuAt B w0 w fb M T F) (T' : Nat) : RGuAt B w0 (w.setCell ⟨fb, 1, none⟩ (.int .i64 (T' : Int))) fb M T' F := by
  obtain ⟨a, c, S, h1, h2⟩ := h
  exact ⟨a, c, S, h1, h2.set0 1 _⟩

/-! ### one looked up -/
def idxI (r : Option Nat) : Int := match r with | none => -1 | some i => i
set_option maxHeartbeats 2000000 in
theorem rat_g (h : RdG w fb M a c) (hl : M.length ≤ 100000) (p q : Int) (t : List UInt8) : Calls Tryd.prog 23 #[gup fb, .int .i64 p, .int .i64 q, tx t] w fun e w' => e = .returned (.int .i64 (idxI (idxG M p q t))) ∧ w' = w := by
  obtain ⟨c0, hr⟩ := h
  obtain ⟨R, hR⟩ : ∃ R, R = idxI (idxG M p q t) := ⟨_, rfl⟩
  rw [← hR]
  have hyes : Hid (∀ (i : Nat) x, M[i]? = some x → keyG p q t x = true → (∀ (j : Nat) y, j < i → M[j]? = some y → keyG p q t y = false) → R = i) := Lib.hid fun i x hi he hn => by
    rw [hR, idx_some hi he hn]
    rfl
  have hno : Hid ((∀ (j : Nat) y, j < M.length → M[j]? = some y → keyG p q t y = false) → R = -1) := Lib.hid fun hn => by
    rw [hR, idx_none hn]
    rfl
  have hl0 : (M.length : Int) ≤ 100000 := by omega
  replace hr := Lib.hid hr
  clear hR
  go_enter Tryd.func23, Tryd.ntmps23
  go_wp2_with fail
  go_loopg [9] M.length (fun g v9 wr => ∃ i : Nat, v9 = .int .i64 i ∧ i + g = M.length ∧ Hid (∀ (j : Nat) y, j < i → M[j]? = some y → keyG p q t y = false) ∧ wr = w)
  case atStart => exact ⟨0, rfl, by omega, Lib.hid fun j x hj => absurd hj (by omega), rfl⟩
  case round =>
    obtain ⟨i, rfl, hi, hn, rfl⟩ := hrel
    have hi0 : (0 : Int) ≤ i := by omega
    by_cases hlt : i < M.length
    · have hx : M[i]? = some M[i] := List.getElem?_eq_getElem hlt
      have hi1 : (i : Int) < M.length := by omega
      generalize M[i] = x at hx
      obtain ⟨g1, o1, rfl, k0, k1, k2, -⟩ := hr.out i x hx
      by_cases hk : keyG p q t x = true
      · obtain ⟨e1, e2, e3⟩ := key_yes hk
        have fin := Lib.hid (hyes.out i x hx hk hn.out)
        clear hyes hno hn hx hr hk
        go_wp2_with fail
        go_ret
        exact ⟨ret_int fin.out.symm, rfl⟩
      · have hk' : keyG p q t x = false := by simpa using hk
        have nxt : Hid (∀ (j : Nat) y, j < i + 1 → M[j]? = some y → keyG p q t y = false) := Lib.hid fun j y hj hy => by
          rcases (by omega : j < i ∨ j = i) with h9 | rfl
          · exact hn.out j y h9 hy
          · rw [hx] at hy
            cases hy
            exact hk'
        have hw := key_ways hk'
        clear hyes hno hn hx hr hk hk'
        rcases hw with e1 | ⟨e1, e2⟩ | ⟨e1, e2, e3⟩
        all_goals
          go_wp2_with fail
          go_roundg (M.length - (i + 1))
          case measure => omega
          case rel => exact ⟨i + 1, by go_num, by omega, nxt, rfl⟩
    · have fin : Hid (R = -1) := Lib.hid (hno.out fun j y hj => hn.out j y (by omega))
      clear hyes hno hn hr
      go_wp2_with fail
      go_ret
      exact ⟨ret_int fin.out.symm, rfl⟩

set_option maxHeartbeats 1000000 in
theorem rsole_g (h : RdG w fb M a c) (hl : M.length ≤ 100000) : Calls Tryd.prog 19 #[gup fb] w fun e w' => e = .returned (.bool (soleG M)) ∧ w' = w := by
  obtain ⟨c0, hr⟩ := h
  obtain ⟨R, hR⟩ : ∃ R, R = soleG M := ⟨_, rfl⟩
  rw [← hR]
  have hyes : Hid (∀ (i : Nat) x, M[i]? = some x → x.sole = true → R = true) := Lib.hid fun i x hi he => by
    rw [hR, soleG, List.any_eq_true]
    exact ⟨x, List.mem_of_getElem? hi, he⟩
  have hno : Hid ((∀ (j : Nat) y, j < M.length → M[j]? = some y → y.sole = false) → R = false) := Lib.hid fun hn => by
    rw [hR, soleG, List.any_eq_false]
    intro x hx
    obtain ⟨j, hj⟩ := List.getElem?_of_mem hx
    rw [hn j x (List.getElem?_eq_some_iff.1 hj).1 hj]
    simp
  have hl0 : (M.length : Int) ≤ 100000 := by omega
  replace hr := Lib.hid hr
  clear hR
  go_enter Tryd.func19, Tryd.ntmps19
  go_wp2_with fail
  go_loopg [3] M.length (fun g v3 wr => ∃ i : Nat, v3 = .int .i64 i ∧ i + g = M.length ∧ Hid (∀ (j : Nat) y, j < i → M[j]? = some y → y.sole = false) ∧ wr = w)
  case atStart => exact ⟨0, rfl, by omega, Lib.hid fun j x hj => absurd hj (by omega), rfl⟩
  case round =>
    obtain ⟨i, rfl, hi, hn, rfl⟩ := hrel
    have hi0 : (0 : Int) ≤ i := by omega
    by_cases hlt : i < M.length
    · have hx : M[i]? = some M[i] := List.getElem?_eq_getElem hlt
      have hi1 : (i : Int) < M.length := by omega
      generalize M[i] = x at hx
      obtain ⟨g1, o1, rfl, k0, k1, k2, k3, k4, k5⟩ := hr.out i x hx
      clear k0 k1 k2 k3 k4
      by_cases hk : x.sole = true
      · have fin := Lib.hid (hyes.out i x hx hk)
        rw [hk] at k5
        clear hyes hno hn hx hr hk
        go_wp2_with fail
        go_ret
        exact ⟨ret_bool fin.out.symm, rfl⟩
      · have hk' : x.sole = false := by simpa using hk
        have nxt : Hid (∀ (j : Nat) y, j < i + 1 → M[j]? = some y → y.sole = false) := Lib.hid fun j y hj hy => by
          rcases (by omega : j < i ∨ j = i) with h9 | rfl
          · exact hn.out j y h9 hy
          · rw [hx] at hy
            cases hy
            exact hk'
        rw [hk'] at k5
        clear hyes hno hn hx hr hk hk'
        go_wp2_with fail
        go_roundg (M.length - (i + 1))
        case measure => omega
        case rel => exact ⟨i + 1, by go_num, by omega, nxt, rfl⟩
    · have fin : Hid (R = false) := Lib.hid (hno.out fun j y hj => hn.out j y (by omega))
      clear hyes hno hn hr
      go_wp2_with fail
      go_ret
      exact ⟨ret_bool fin.out.symm, rfl⟩

set_option maxHeartbeats 1000000 in
theorem rsame_g (hr : ReadGs w a L) (hr2 : ReadGs w a2 L) (hl : L.length ≤ 100000) : Calls Tryd.prog 15 #[.slice a L.length c, .slice a2 L.length c2] w fun r w' => r = .returned (.bool true) ∧ ∃ n, w' = w.drewN n := by
  have hr' : Hid (∀ m, ReadGs (w.drewN m) a L) := Lib.hid fun m => hr.below (drewN_below _ m)
  have hr2' : Hid (∀ m, ReadGs (w.drewN m) a2 L) := Lib.hid fun m => hr2.below (drewN_below _ m)
  have hl0 : (L.length : Int) ≤ 100000 := by omega
  clear hr hr2
  go_enter Tryd.func15, Tryd.ntmps15
  go_wp2_with fail
  go_loopg [5] L.length (fun g v5 wr => ∃ i m : Nat, v5 = .int .i64 i ∧ i + g = L.length ∧ wr = w.drewN m)
  case atStart => exact ⟨0, 0, rfl, by omega, rfl⟩
  case round =>
    obtain ⟨i, m, rfl, hi, rfl⟩ := hrel
    have i0 : (0 : Int) ≤ i := by omega
    by_cases hlt : i < L.length
    · have i1 : (i : Int) < L.length := by omega
      obtain ⟨x, hx⟩ : ∃ x, L[i]? = some x := ⟨_, List.getElem?_eq_getElem hlt⟩
      obtain ⟨b1, o1, rfl, x0, x1, x2, x3, x4, x5⟩ := hr'.out m i x hx
      obtain ⟨b2, o2, rfl, y0, y1, y2, y3, y4, y5⟩ := hr2'.out m i x hx
      clear hx hr' hr2'
      generalize hV : w.drewN m = V at *
      replace hV := Lib.hid hV
      go_wp2_with fail
      go_quiet (fail)
      go_wp2_with fail
      go_roundg (L.length - (i + 1))
      case measure => omega
      case rel => exact ⟨i + 1, _, by go_num, by omega, by rw [← hV.out]; exact drew_drew18 _ _ _⟩
    · clear hr' hr2'
      go_wp2_with fail
      go_ret
      exact ⟨rfl, m, rfl⟩
end
end Go.Proofs.YtpnkaamijjeckaaDoor
