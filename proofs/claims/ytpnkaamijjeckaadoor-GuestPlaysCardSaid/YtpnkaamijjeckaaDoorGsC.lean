/- Guests in memory: their row, the turn's seat; one looked up. -/
import Derived.Test.YtpnkaamijjeckaaDoorGsB
import Derived.Test.YtpnkaamijjeckaaDoorBmHc
import Derived.Test.YtpnkaamijjeckaaDoorFl
namespace Go.Proofs.YtpnkaamijjeckaaDoor
open Go.RowKit
set_option linter.unusedVariables false
set_option linter.unusedSectionVars false
set_option maxRecDepth 100000

abbrev gup (b : Nat) : Value := .pointer (some ⟨b, 0, none⟩)
/-- A place in a stretch, which stretch. -/
abbrev seatV (p s : Nat) : Value := .complex .f64 (floatOfInt .f64 (p : Int)) (floatOfInt .f64 (s : Int))
abbrev gusO (v u : Value) : Obj := .cells #[v, u] 54
/-- Guests at gb: those of M in order, the turn at that of number T. -/
structure GuAt (B : Nat) (w0 w : World) (gb : Nat) (v : Value) (M : List Gst) (T : Nat) (S F : List (Nat × Obj)) : Prop where
  sl : GssIs v M S
  st : St B w0 w ((gb, gusO v (seatV (T % 64) (T / 64))) :: (F ++ S))
def GuIs (B : Nat) (w0 w : World) (gb : Nat) (M : List Gst) (T : Nat) (F : List (Nat × Obj)) : Prop :=
  Tab B w0 ∧ OkT M.length T ∧ M.length ≤ 60000 ∧ ∃ v S, GuAt B w0 w gb v M T S F
/-- What is read of them. -/
structure RdG (w : World) (gb : Nat) (M : List Gst) (a : Option Addr) (c : Nat) : Prop where
  c0 : w.cell? ⟨gb, 0, none⟩ = some (.slice a M.length c)
  rd : ReadGs w a M
section
variable {B : Nat} {w0 w w' : World} {gb b c T : Nat} {M L : List Gst} {a : Option Addr} {v : Value} {S F F' X : List (Nat × Obj)} {x y : Gst}
theorem RdG.below (h : RdG w gb M a c) (hb : Below w.heap.size w w') : RdG w' gb M a c := ⟨cellUp h.c0 hb, h.rd.below hb⟩
theorem GuAt.form (h : GuAt B w0 w gb v M T S F) : ∃ a c, v = .slice a M.length c := GssIs.form h.sl
theorem GuAt.c0 (h : GuAt B w0 w gb v M T S F) : w.cell? ⟨gb, 0, none⟩ = some v := h.st.cell List.mem_cons_self rfl
theorem GuAt.c1 (h : GuAt B w0 w gb v M T S F) : w.cell? ⟨gb, 1, none⟩ = some (seatV (T % 64) (T / 64)) := h.st.cell List.mem_cons_self rfl
theorem GuAt.soft (h : GuAt B w0 w gb v M T S F) (i : Nat) : w.frozen? ⟨gb, i, none⟩ = false := St.soft h.st List.mem_cons_self i
theorem GuAt.grow (h : GuAt B w0 w gb v M T S F) (hb : Below w.heap.size w w') : GuAt B w0 w' gb v M T S F := ⟨h.sl, h.st.grow hb⟩
theorem GuAt.rdg (h : GuAt B w0 w gb (.slice a M.length c) M T S F) : RdG w gb M a c := ⟨h.c0, GssIs.read (X := (gb, gusO _ (seatV (T % 64) (T / 64))) :: F) h.sl h.st⟩
theorem GuAt.turn (h : GuAt B w0 w gb v M T S F) (T' : Nat) : GuAt B w0 (w.setCell ⟨gb, 1, none⟩ (seatV (T' % 64) (T' / 64))) gb v M T' S F := ⟨h.sl, h.st.set0 1 _⟩
theorem GuAt.tab (hT : Tab B w0) (h : St B w0 w X) : Tab w.heap.size w := ⟨Nat.lt_of_lt_of_le hT.1 h.base, hT.at_ h⟩
theorem GuIs.beside (h : GuIs B w0 w gb M T F) : ∃ S, St B w0 w (S ++ F) ∧ ∀ w' F', St B w0 w' (S ++ F') → GuIs B w0 w' gb M T F' := by
  obtain ⟨h1, h2, h3, v, S, h4, h5⟩ := h
  have hp : ∀ F : List (Nat × Obj), ((gb, gusO v (seatV (T % 64) (T / 64))) :: (F ++ S)).Perm (((gb, gusO v (seatV (T % 64) (T / 64))) :: S) ++ F) := fun F => List.Perm.cons _ List.perm_append_comm
  exact ⟨_, h5.perm (hp F), fun w' F' h' => ⟨h1, h2, h3, v, S, h4, h'.perm (hp F').symm⟩⟩
theorem GuIs.grow (h : GuIs B w0 w gb M T F) (hb : Below w.heap.size w w') : GuIs B w0 w' gb M T F := by
  obtain ⟨S, h1, h2⟩ := h.beside
  exact h2 _ _ (h1.grow hb)
theorem GuIs.sub (h : GuIs B w0 w gb M T F) (hs : F'.Sublist F) : GuIs B w0 w gb M T F' := by
  obtain ⟨S, h1, h2⟩ := h.beside
  exact h2 _ _ (h1.sub ((List.Sublist.refl S).append hs))
theorem GuIs.permF (h : GuIs B w0 w gb M T F) (hp : F.Perm F') : GuIs B w0 w gb M T F' := by
  obtain ⟨S, h1, h2⟩ := h.beside
  exact h2 _ _ (h1.perm (hp.append_left S))
theorem GuIs.alloc (h : GuIs B w0 w gb M T F) (o : Obj) : GuIs B w0 (w.alloc o) gb M T ((w.heap.size, o) :: F) := by
  obtain ⟨S, h1, h2⟩ := h.beside
  exact h2 _ _ ((h1.alloc o).perm List.perm_middle.symm)
theorem GuIs.below (h : GuIs B w0 w gb M T F) : Below B w0 w := by
  obtain ⟨S, h1, h2⟩ := h.beside
  exact h1.below
theorem GuIs.guest (h : GuIs B w0 w gb M T F) (hm : (b, gsO x) ∈ F) : GsAt w b x ∧ ∀ i, w.frozen? ⟨b, i, none⟩ = false := by
  obtain ⟨S, h1, -⟩ := h.beside
  exact ⟨h1.gsAt (List.mem_append_right _ hm), fun i => h1.soft (List.mem_append_right _ hm) i⟩
theorem GuIs.gsPut (h : GuIs B w0 w gb M T ((b, gsO y) :: F)) : GuIs B w0 (gsPut w b x) gb M T ((b, gsO x) :: F) := by
  obtain ⟨S, h1, h2⟩ := h.beside
  exact h2 _ _ (((h1.perm List.perm_middle).gsPut (x := x)).perm List.perm_middle.symm)

/-! ### one is looked up -/
def idxV (r : Option Nat) : Value := .tuple #[.int .i64 ((r.getD 0 : Nat) : Int), .bool r.isSome]
set_option maxHeartbeats 2000000 in
theorem find_any (h : RdG w gb M a c) (hl : M.length ≤ 100000) (p q : Int) (t : List UInt8) {r : Option Nat} (hr0 : idxG M p q t = r) :
    Calls Tryd.prog 21 #[gup gb, .int .i64 p, .int .i64 q, tx t] w fun e w' => e = .returned (idxV r) ∧ w' = w := by
  obtain ⟨c0, hr⟩ := h
  have hyes : Hid (∀ (i : Nat) x, M[i]? = some x → keyG p q t x = true → (∀ (j : Nat) y, j < i → M[j]? = some y → keyG p q t y = false) → idxV r = .tuple #[.int .i64 (i : Int), .bool true]) := Lib.hid fun i x hi he hn => by
    rw [← hr0, idx_some hi he hn]
    rfl
  have hno : Hid ((∀ (j : Nat) y, j < M.length → M[j]? = some y → keyG p q t y = false) → idxV r = .tuple #[.int .i64 0, .bool false]) := Lib.hid fun hn => by
    rw [← hr0, idx_none hn]
    rfl
  have hl0 : (M.length : Int) ≤ 100000 := by omega
  replace hr := Lib.hid hr
  generalize idxV r = R at *
  clear hr0
  go_enter Tryd.func21, Tryd.ntmps21
  go_wp2_with fail
  refine wp_scope_ghost 0 (fun g aq wt => ∃ i : Nat, i + g = M.length ∧ Hid (∀ (j : Nat) y, j < i → M[j]? = some y → keyG p q t y = false) ∧ Fr 50 [(0, gup gb), (1, .int .i64 p), (2, .int .i64 q), (3, tx t), (8, .int .i64 0), (9, .bool false), (10, .int .i64 (i : Int))] aq ∧ wt = w) rfl ?_ ?_
  · rintro g a' w' ⟨i, hi, hn, hfr, rfl⟩
    obtain ⟨q', rfl, hl'⟩ := hfr.lit
    clear hfr
    simp only [List.mem_cons, List.not_mem_nil, or_false, forall_eq_or_imp, forall_eq] at hl'
    obtain ⟨f0, f1, f2, f3, f8, f9, f10⟩ := hl'
    simp only [List.range, List.range.loop, List.map, f0, f1, f2, f3, f8, f9, f10]
    clear f0 f1 f2 f3 f8 f9 f10
    have hi0 : (0 : Int) ≤ i := by omega
    by_cases hlt : i < M.length
    · have hx : M[i]? = some M[i] := List.getElem?_eq_getElem hlt
      have hi1 : (i : Int) < M.length := by omega
      have hne : ((i : Int) == M.length) = false := by rw [beq_eq_false_iff_ne]; omega
      generalize M[i] = x at hx
      obtain ⟨g1, o1, rfl, k0, k1, k2, -⟩ := hr.out i x hx
      by_cases hk : keyG p q t x = true
      · obtain ⟨e1, e2, e3⟩ := key_yes hk
        have fin := Lib.hid (hyes.out i x hx hk hn.out)
        clear hyes hno hn hx hr hk
        go_wp2_with fail
        simp only [Exit.jump]
        go_ret2
        exact ⟨by rw [fin.out]; rfl, rfl⟩
      · have hk' : keyG p q t x = false := by simpa using hk
        have nxt : Hid (∀ (j : Nat) y, j < i + 1 → M[j]? = some y → keyG p q t y = false) := Lib.hid fun j y hj hy => by
          rcases (by omega : j < i ∨ j = i) with h9 | rfl
          · exact hn.out j y h9 hy
          · rw [hx] at hy
            cases hy
            exact hk'
        have hw := key_ways hk'
        clear hyes hno hn hx hr hk hk'
        rcases hw with e1 | ⟨e1, e2⟩ | ⟨e1, e2, e3⟩
        all_goals
          go_wp2_with fail
          refine wp_goto ?_
          exact ⟨rfl, g - 1, by omega, i + 1, by omega, nxt, ⟨rfl, rfl, by simp⟩, rfl⟩
    · obtain rfl : i = M.length := by omega
      have fin := Lib.hid (hno.out hn.out)
      clear hyes hno hn hr
      go_wp2_with fail
      simp only [Exit.jump]
      go_ret2
      exact ⟨by rw [fin.out]; rfl, rfl⟩
  · intro H
    clear hyes hno hr
    go_wp2_with fail
    refine wp_label ?_
    go_step
    go_step
    exact H M.length _ _ ⟨0, by omega, Lib.hid fun j y hj => absurd hj (by omega), ⟨rfl, rfl, by simp⟩, rfl⟩
end
end Go.Proofs.YtpnkaamijjeckaaDoor
