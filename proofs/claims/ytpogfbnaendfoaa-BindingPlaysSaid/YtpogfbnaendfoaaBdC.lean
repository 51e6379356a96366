/- Names among names: slices.Contains, the document's has; a binding in memory of its own. -/
import Derived.Test.YtpogfbnaendfoaaBdB
import Derived.Test.YtpogfbnaendfoaaStrC
namespace Go.Proofs.Ytpogfbnaendfoaa
open Go.RowKit
set_option linter.unusedVariables false

section
variable {B : Nat} {w0 w w' : World} {S F A X : List (Nat × Obj)} {v : Value} {l : List (List UInt8)}

def IndexT (w : World) (b : List UInt8) (L : List (List UInt8)) (e : Ending) (w' : World) : Prop := ∃ k : Int, e = .returned (.int .i64 k) ∧ (0 ≤ k ↔ b ∈ L) ∧ w' = w

set_option maxHeartbeats 1000000 in
theorem indexS_any (h : ReadTs w v l) (hl : l.length ≤ 1000000) (b : List UInt8) : Calls Try.prog 39 #[v, tx b] w (IndexT w b l) := by
  obtain ⟨a, cap, rfl, hr0⟩ := h
  have hr := Lib.hid hr0
  clear hr0
  go_enter Try.func39, Try.ntmps39
  go_wp2_with fail
  go_loopg [8] l.length (fun g i wt => ∃ p : Nat, i = .int .i64 p ∧ p + g = l.length ∧ Hid (b ∉ l.take p) ∧ wt = w)
  case atStart => exact ⟨0, rfl, by omega, Lib.hid (by simp), rfl⟩
  case round =>
    obtain ⟨p, rfl, hp, hno, rfl⟩ := hrel
    have hp0 : (0 : Int) ≤ p := by omega
    by_cases hlt : p < l.length
    · have hx : l[p]? = some l[p] := List.getElem?_eq_getElem hlt
      generalize l[p] = x at hx
      obtain ⟨-, a1, o1, rfl, k1⟩ := hr.out.at_ p x hx
      have hp1 : (p : Int) < l.length := by omega
      by_cases hc : b = x
      · subst hc
        have fin : Hid (IndexT wr b l (.returned (.int .i64 p)) wr) := Lib.hid ⟨p, rfl, ⟨fun _ => List.mem_of_getElem? hx, fun _ => hp0⟩, rfl⟩
        clear hx hno hr
        go_wp2_with fail
        go_ret
        exact fin.out
      · have hno2 := Lib.hid (not_in_step hno.out hx hc)
        have hcB : (b == x) = false := by simpa using hc
        clear hno hx hc
        go_wp2_with fail
        go_roundg (l.length - (p + 1))
        case measure => omega
        case rel => exact ⟨p + 1, by go_num, by omega, hno2, rfl⟩
    · have e : l.take p = l := List.take_of_length_le (by omega)
      have hno2 := hno.out
      rw [e] at hno2
      have fin : Hid (IndexT wr b l (.returned (.int .i64 (-1))) wr) := Lib.hid ⟨-1, rfl, ⟨fun h => absurd h (by decide), fun h => absurd h hno2⟩, rfl⟩
      clear hno hno2 e
      go_wp2_with fail
      go_ret
      exact fin.out

theorem containsS_any (h : ReadTs w v l) (hl : l.length ≤ 1000000) (b : List UInt8) : Calls Try.prog 37 #[v, tx b] w fun e w' => e = .returned (.bool (decide (b ∈ l))) ∧ w' = w := by
  have c1 := Lib.hid (indexS_any h hl b)
  obtain ⟨a, cap, rfl, -⟩ := h
  obtain ⟨D, hD⟩ : ∃ D, D = decide (b ∈ l) := ⟨_, rfl⟩
  have hkd : Hid (∀ k : Int, (0 ≤ k ↔ b ∈ l) → decide ((0 : Int) ≤ k) = D) := Lib.hid fun k hk => by rw [hD]; exact decide_eq_decide.2 hk
  rw [← hD]
  clear hD
  go_enter Try.func37, Try.ntmps37
  go_wp2_with fail
  refine c1.out.mono ?_
  rintro e w1 ⟨k, rfl, hk, rfl⟩
  replace hkd := Lib.hid (hkd.out k hk)
  clear hk c1
  go_wp2_with fail
  go_ret
  exact ⟨ret_bool hkd.out, rfl⟩

set_option maxHeartbeats 1000000 in
theorem has_any (h : ReadTs w v l) (hl : l.length ≤ 1000000) (b : List UInt8) : Calls Try.prog 29 #[v, tx b] w fun e w' => e = .returned (.bool (decide (b ∈ l))) ∧ w' = w := by
  obtain ⟨a, cap, rfl, hr0⟩ := h
  have hr := Lib.hid hr0
  clear hr0
  obtain ⟨D, hD⟩ : ∃ D, D = decide (b ∈ l) := ⟨_, rfl⟩
  have hyes : Hid (b ∈ l → D = true) := Lib.hid fun h => by rw [hD]; exact decide_eq_true h
  have hnot : Hid (b ∉ l → D = false) := Lib.hid fun h => by rw [hD]; exact decide_eq_false h
  rw [← hD]
  clear hD
  go_enter Try.func29, Try.ntmps29
  go_wp2_with fail
  go_loopg [5] l.length (fun g i wt => ∃ p : Nat, i = .int .i64 p ∧ p + g = l.length ∧ Hid (b ∉ l.take p) ∧ wt = w)
  case atStart => exact ⟨0, rfl, by omega, Lib.hid (by simp), rfl⟩
  case round =>
    obtain ⟨p, rfl, hp, hno, rfl⟩ := hrel
    have hp0 : (0 : Int) ≤ p := by omega
    by_cases hlt : p < l.length
    · have hx : l[p]? = some l[p] := List.getElem?_eq_getElem hlt
      generalize l[p] = x at hx
      obtain ⟨-, a1, o1, rfl, k1⟩ := hr.out.at_ p x hx
      have hp1 : (p : Int) < l.length := by omega
      by_cases hc : b = x
      · subst hc
        have fin := Lib.hid (hyes.out (List.mem_of_getElem? hx))
        clear hx hno hr hyes hnot
        go_wp2_with fail
        go_ret
        exact ⟨ret_bool fin.out.symm, rfl⟩
      · have hno2 := Lib.hid (not_in_step hno.out hx hc)
        have hcB : (x == b) = false := by simpa using fun e => hc e.symm
        clear hno hx hc
        go_wp2_with fail
        go_roundg (l.length - (p + 1))
        case measure => omega
        case rel => exact ⟨p + 1, by go_num, by omega, hno2, rfl⟩
    · have e : l.take p = l := List.take_of_length_le (by omega)
      have hno2 := hno.out
      rw [e] at hno2
      have fin := Lib.hid (hnot.out hno2)
      clear hno hno2 e hyes hnot
      go_wp2_with fail
      go_ret
      exact ⟨ret_bool fin.out.symm, rfl⟩

/-! ### own -/
/-- What is held on the way: the binding that came in, the one that is made. -/
def OwnS (w : World) (b : Bnd) (w' : World) : Prop := St w.heap.size w w' [(w.heap.size + 1, bO ([], [], [])), (w.heap.size, bO b)]
theorem OwnS.start (w : World) (b : Bnd) : OwnS w b ((w.alloc (bO b)).alloc (bO ([], [], []))).drew := by
  have h := (((St.start w).alloc (bO b)).alloc (bO ([], [], []))).drew
  rw [World.size_alloc] at h
  exact h
theorem OwnS.from {b1 b2 b3 : List UInt8} (h : OwnS w (b1, b2, b3) w') : w'.cell? ⟨w.heap.size, 0, none⟩ = some (tx b1) ∧ w'.cell? ⟨w.heap.size, 1, none⟩ = some (tx b2) ∧ w'.cell? ⟨w.heap.size, 2, none⟩ = some (tx b3) :=
  ⟨St.cell h (List.mem_cons_of_mem _ List.mem_cons_self) rfl, St.cell h (List.mem_cons_of_mem _ List.mem_cons_self) rfl, St.cell h (List.mem_cons_of_mem _ List.mem_cons_self) rfl⟩
theorem clone_own {b : Bnd} (h : OwnS w b w') {l : List UInt8} (hl : l.length ≤ 140737488351232) : Calls Try.prog 36 #[tx l] w' fun e w2 => e = .returned (tx l) ∧ OwnS w b w2 ∧
    (w2.cell? ⟨w.heap.size, 0, none⟩ = some (tx b.1) ∧ w2.cell? ⟨w.heap.size, 1, none⟩ = some (tx b.2.1) ∧ w2.cell? ⟨w.heap.size, 2, none⟩ = some (tx b.2.2)) ∧
    (w2.cell? ⟨w.heap.size + 1, 0, none⟩ = some (tx []) ∧ w2.cell? ⟨w.heap.size + 1, 1, none⟩ = some (tx []) ∧ w2.cell? ⟨w.heap.size + 1, 2, none⟩ = some (tx [])) ∧
    (w2.frozen? ⟨w.heap.size + 1, 0, none⟩ = false ∧ w2.frozen? ⟨w.heap.size + 1, 1, none⟩ = false ∧ w2.frozen? ⟨w.heap.size + 1, 2, none⟩ = false) := by
  refine (clone_any l w' hl).mono ?_
  rintro e w2 ⟨rfl, hb⟩
  have h2 : OwnS w b w2 := St.grow h hb
  obtain ⟨b1, b2, b3⟩ := b
  exact ⟨rfl, h2, h2.from, ⟨St.cell h2 List.mem_cons_self rfl, St.cell h2 List.mem_cons_self rfl, St.cell h2 List.mem_cons_self rfl⟩, St.soft h2 List.mem_cons_self 0, St.soft h2 List.mem_cons_self 1, St.soft h2 List.mem_cons_self 2⟩

theorem ret_own {d : Nat} {tmps : Array Value} {b1 b2 b3 : List UInt8} (h2 : tmps[2]? = some (.pointer (some ⟨d, 0, none⟩))) (q0 : w.cell? ⟨d, 0, none⟩ = some (tx b1)) (q1 : w.cell? ⟨d, 1, none⟩ = some (tx b2)) (q2 : w.cell? ⟨d, 2, none⟩ = some (tx b3)) :
    (results Try.f23 tmps).run Try.prog w = .ok (bV (b1, b2, b3)) w := by
  simp [results, Try.results23, go_sem, h2, q0, q1, q2]
/-- .. and behind the last store. -/
theorem OwnS.stored {b : Bnd} {b1 b2 b3 : List UInt8} (h : OwnS w b w') : ∀ W, W = ((w'.setCell ⟨w.heap.size + 1, 0, none⟩ (tx b1)).setCell ⟨w.heap.size + 1, 1, none⟩ (tx b2)).setCell ⟨w.heap.size + 1, 2, none⟩ (tx b3) →
    (W.cell? ⟨w.heap.size + 1, 0, none⟩ = some (tx b1) ∧ W.cell? ⟨w.heap.size + 1, 1, none⟩ = some (tx b2) ∧ W.cell? ⟨w.heap.size + 1, 2, none⟩ = some (tx b3)) ∧ Below w.heap.size w W := by
  rintro W rfl
  have h3 := ((St.set0 h 0 (tx b1)).set0 1 (tx b2)).set0 2 (tx b3)
  exact ⟨⟨h3.cell List.mem_cons_self rfl, h3.cell List.mem_cons_self rfl, h3.cell List.mem_cons_self rfl⟩, h3.below⟩

def OwnR (w : World) (b : Bnd) (e : Ending) (w' : World) : Prop := e = .returned (bV b) ∧ Below w.heap.size w w'
set_option maxHeartbeats 2000000 in
theorem own_any {b : Bnd} (hf : FitB b) (w : World) : Calls Try.prog 23 #[bV b] w (OwnR w b) := by
  have hs0 := OwnS.start w b
  have hs1 := Lib.hid hs0.from
  have cc := Lib.hid (fun (w' : World) (h : OwnS w b w') (l : List UInt8) (hl : l.length ≤ 140737488351232) => clone_own h hl)
  obtain ⟨b1, b2, b3⟩ := b
  obtain ⟨l1, l2, l3⟩ := hf
  simp only at l1 l2 l3
  go_enter Try.func23, Try.ntmps23
  go_wp2_with fail
  go_region_held3 (fun wr => wr.cell? ⟨w.heap.size, 0, none⟩ = some (tx b1) ∧ wr.cell? ⟨w.heap.size, 1, none⟩ = some (tx b2) ∧ wr.cell? ⟨w.heap.size, 2, none⟩ = some (tx b3)) (first | exact hS | exact hs1.out | go_keep) ((go_at_call 36; refine (cc.out _ (by assumption) _ (by assumption)).mono ?_; rintro e w'' ⟨rfl, hO, hS, ⟨d0, d1, d2⟩, f0, f1, f2⟩))
  have fin := Lib.hid (hO.stored (b1 := b1) (b2 := b2) (b3 := b3) _ rfl)
  go_wp2_with fail
  exact bodyPost_ret (ret_own rfl fin.out.1.1 fin.out.1.2.1 fin.out.1.2.2) rfl ⟨rfl, fin.out.2⟩
end
end Go.Proofs.Ytpogfbnaendfoaa
