/- OctetsRows. -/
import Derived.Test.YtecifdbakkpcaaaOcE
import Derived.Deep.LoopGhost
namespace Go.Proofs.Ytecifdbakkpcaaa
open Go.RowKit
set_option linter.unusedVariables false

/-- The slice at a with len elements reads as these texts. -/
structure TextsAt (w : World) (a : Option Addr) (len : Nat) (L : List (List UInt8)) : Prop where
  size : L.length = len
  at_ : ∀ (i : Nat) x, L[i]? = some x → x.length ≤ maxLen ∧ ∃ b off, a = some ⟨b, off, none⟩ ∧ w.cell? ⟨b, off + i, none⟩ = some (tx x)
theorem TextsAt.below {w w' : World} {a : Option Addr} {len : Nat} {L : List (List UInt8)} (h : TextsAt w a len L) (hb : Below w.heap.size w w') : TextsAt w' a len L :=
  ⟨h.size, fun i x hx => by
    obtain ⟨h1, b, off, e, hc⟩ := h.at_ i x hx
    exact ⟨h1, b, off, e, (hb.cell (p := ⟨b, off + i, none⟩) (World.block_lt_of_cell? w _ hc)).trans hc⟩⟩
theorem TextsAt.of {w : World} {a : Option Addr} {len : Nat} {rd : Nat → List Value} (h : RowsAt Try.prog w 9 a len rd) : ∃ L, TextsAt w a len L := by
  have hco : Try.prog.cellsOf 9 = 1 := by kernel_rfl
  have key : ∀ i, ∃ x : List UInt8, i < len → rd i = [tx x] ∧ x.length ≤ maxLen := by
    intro i
    by_cases hi : i < len
    · obtain ⟨s, h1, h2⟩ := (h.at_ i hi).1.string uStr6
      exact ⟨s.data.toList, fun _ => ⟨h1, h2⟩⟩
    · exact ⟨[], fun h => absurd h hi⟩
  refine ⟨(List.range len).map fun i => (key i).choose, by simp, fun i x hx => ?_⟩
  have hi : i < len := by
    have := (List.getElem?_eq_some_iff.1 hx).1
    simpa using this
  rw [List.getElem?_map, List.getElem?_range hi, Option.map_some, Option.some.injEq] at hx
  obtain ⟨h1, h2⟩ := (key i).choose_spec hi
  rw [hx] at h1 h2
  obtain ⟨_, _, b, off, ha, hc⟩ := h.at_ i hi
  refine ⟨h2, b, off, ha, ?_⟩
  have := hc 0 (tx x) (by rw [h1]; rfl)
  rwa [hco, Nat.mul_one] at this

/-- Texts put one behind the other. -/
def cat (L : List (List UInt8)) : List UInt8 := L.flatMap fun x => oct x.length :: x
theorem cat_cons (x : List UInt8) (L : List (List UInt8)) : cat (x :: L) = oct x.length :: x ++ cat L := rfl
theorem cat_snoc (x : List UInt8) (L : List (List UInt8)) : cat (L ++ [x]) = cat L ++ (oct x.length :: x) := by simp [cat]
def Short (L : List (List UInt8)) : Prop := ∀ x ∈ L, x.length ≤ 255
theorem cat_le {L : List (List UInt8)} (h : Short L) : (cat L).length ≤ 256 * L.length := by
  induction L with
  | nil => simp [cat]
  | cons x L ih =>
    have h1 := h x (by simp)
    have h2 := ih fun y hy => h y (by simp [hy])
    rw [cat_cons, List.length_append, List.length_cons, List.length_cons]
    omega
theorem Short.step {L : List (List UInt8)} {i : Nat} {x : List UInt8} (h : Short (L.take i)) (hx : L[i]? = some x) (hl : x.length ≤ 255) : Short (L.take (i + 1)) := by
  rw [List.take_add_one, hx]
  intro y hy
  rcases List.mem_append.1 hy with hy | hy
  · exact h y hy
  · simp only [Option.toList_some, List.mem_singleton] at hy
    rw [hy]
    exact hl
theorem cat_step {L : List (List UInt8)} {i : Nat} {x : List UInt8} (hx : L[i]? = some x) : cat (L.take (i + 1)) = cat (L.take i) ++ (oct x.length :: x) := by
  rw [List.take_add_one, hx]
  exact cat_snoc x _
theorem cat_drop {L : List (List UInt8)} {i : Nat} {x : List UInt8} (hx : L[i]? = some x) : cat (L.drop i) = oct x.length :: x ++ cat (L.drop (i + 1)) := by
  have hi := (List.getElem?_eq_some_iff.1 hx).1
  rw [List.drop_eq_getElem_cons hi, cat_cons]
  rw [List.getElem?_eq_getElem hi, Option.some.injEq] at hx
  rw [hx]

set_option maxHeartbeats 4000000 in
theorem rows_walk {a : Option Addr} {len cap : Nat} {L : List (List UInt8)} {w : World} (h : TextsAt w a len L) :
    Calls Try.prog 5 #[.slice a len cap] w fun e w' => e = .returned (.bool true) ∧ Below w.heap.size w w' := by
  have c1 := Lib.hid known6_true
  by_cases h12 : 12 < len
  · have h12' : (12 : Int) < len := by omega
    clear h
    go_enter Try.func5, Try.ntmps5
    go_wp2_with fail
    refine (c1.out _).mono ?_
    rintro e w1 ⟨rfl, h1⟩
    replace h1 := Lib.hid h1
    go_wp2_with fail
    go_ret
    exact ⟨rfl, h1.out⟩
  have h12' : (len : Int) ≤ 12 := by omega
  replace h := Lib.hid h
  go_enter Try.func5, Try.ntmps5
  go_wp2_with fail
  refine (c1.out _).mono ?_
  rintro e w1 ⟨rfl, h1⟩
  replace h1 := Lib.hid h1
  clear c1
  go_wp2_with fail
  go_loopg [3, 4] len (fun g v3 v4 wr => ∃ i : Nat, v3 = tx (cat (L.take i)) ∧ v4 = .int .i64 i ∧ i + g = len ∧ Hid (Below w.heap.size w wr) ∧ Hid (Short (L.take i)))
  case atStart => exact ⟨0, rfl, rfl, by omega, h1, Lib.hid (fun x hx => by simp at hx)⟩
  case round =>
    clear h1
    obtain ⟨i, rfl, rfl, hi, hb, hsh⟩ := hrel
    have hlen := h.out.size
    by_cases hlt : i < len
    · have hx : L[i]? = some L[i] := List.getElem?_eq_getElem (by omega)
      generalize L[i] = x at hx
      obtain ⟨hm, b, off, rfl, hc⟩ := (h.out.below hb.out).at_ i x hx
      have hi0 : (0 : Int) ≤ i := by omega
      have hi1 : (i : Int) < len := by omega
      by_cases hbig : 255 < x.length
      · have hbig' : (255 : Int) < x.length := by omega
        clear hlen hx hsh
        go_wp2_with fail
        go_ret
        exact ⟨rfl, hb.out⟩
      · have hbig' : ¬ (255 : Int) < x.length := by omega
        have hst := cat_step hx
        have hsh' := Lib.hid (hsh.out.step hx (by omega))
        have hcl := cat_le hsh.out
        rw [List.length_take] at hcl
        have c2 := Lib.hid (text_to (textL_eq (l := x) (by omega)) (by omega))
        have hadd : ∀ W : World, (Op.stringOp .add ⟨(cat (L.take i)).toArray⟩ ⟨(oct x.length :: x).toArray⟩).run Try.prog W = .ok (tx (cat (L.take (i + 1)))) W := fun W => by
          rw [run_string_add_lists W _ _ (by omega) (by rw [List.length_cons]; omega), hst]
        clear hst
        generalize hC2 : cat (L.take (i + 1)) = C2 at *
        replace hC2 := Lib.hid hC2
        generalize cat (L.take i) = C1 at *
        generalize oct (x.length : Int) :: x = T at *
        clear hlen hx hsh hcl
        go_wp2_with fail
        refine (c2.out _).mono ?_
        rintro e w2 ⟨rfl, h2⟩
        have h3 := Lib.hid (bel hb.out h2)
        clear h2 hb c2
        go_wp2_with fail
        go_roundg (len - (i + 1))
        case measure => omega
        case rel => exact ⟨i + 1, by rw [hC2.out], by go_num, by omega, h3, hsh'⟩
    · obtain rfl : i = len := by omega
      have hall : L.take i = L := List.take_of_length_le (by omega)
      rw [hall] at hsh ⊢
      clear hall
      go_wp2_with fail
      go_loopg [3, 7] i (fun g v3 v7 wt => ∃ j : Nat, v3 = tx (cat (L.drop j)) ∧ v7 = .int .i64 j ∧ j + g = i ∧ Hid (Below w.heap.size w wt))
      case atStart => exact ⟨0, rfl, rfl, by omega, hb⟩
      case round =>
        clear hb
        obtain ⟨j, rfl, rfl, hj, hb⟩ := hrel
        have hcl := cat_le (L := L.drop j) (fun x hx => hsh.out x (List.mem_of_mem_drop hx))
        rw [List.length_drop] at hcl
        by_cases hlt : j < i
        · have hx : L[j]? = some L[j] := List.getElem?_eq_getElem (by omega)
          generalize L[j] = x at hx
          have hxl := hsh.out x (List.mem_of_getElem? hx)
          have hj0 : (0 : Int) ≤ j := by omega
          have hj1 : (j : Int) < i := by omega
          have htk := takeTextL_text (l := x) (r := cat (L.drop (j + 1))) (most := 255) hxl (by omega)
          rw [← cat_drop hx] at htk
          have c2 := Lib.hid (taketext_to htk (by omega))
          have hcell : Hid (∀ W, Below w.heap.size w W → ∃ b off, a = some ⟨b, off, none⟩ ∧ W.cell? ⟨b, off + j, none⟩ = some (tx x)) := Lib.hid fun W hW => ((h.out.below hW).at_ j x hx).2
          generalize hR : cat (L.drop (j + 1)) = R at *
          replace hR := Lib.hid hR
          generalize cat (L.drop j) = T at *
          clear hx hxl htk hcl
          go_wp2_with fail
          refine (c2.out _).mono ?_
          rintro e w2 ⟨rfl, h2⟩
          have h3 := Lib.hid (bel hb.out h2)
          obtain ⟨b, off, rfl, hc⟩ := hcell.out w2 h3.out
          clear h2 hb c2 hcell
          go_wp2_with fail
          go_roundg (i - (j + 1))
          case measure => omega
          case rel => exact ⟨j + 1, by rw [hR.out], by go_num, by omega, h3⟩
        · obtain rfl : j = i := by omega
          have hd : L.drop j = [] := List.drop_of_length_le (by omega)
          rw [hd]
          have c2 := Lib.hid (taketext_to (l := cat []) (t := []) (r := []) (most := 255) (en := 11) rfl (by decide))
          clear hd hcl
          go_wp2_with fail
          refine (c2.out _).mono ?_
          rintro e w2 ⟨rfl, h2⟩
          have h3 := Lib.hid (bel hb.out h2)
          go_wp2_with fail
          go_ret
          exact ⟨rfl, h3.out⟩
theorem rows6_row {a : Option Addr} {len cap : Nat} {w : World} (r : Read Try.prog w 40 [.slice a len cap]) :
    Calls Try.prog 5 #[.slice a len cap] w fun e w' => e = .returned (.bool true) ∧ Below w.heap.size w w' := by
  have hu : Try.prog.underlying 40 = some (.slice 9) := by kernel_rfl
  have hco : Try.prog.cellsOf 9 = 1 := by kernel_rfl
  obtain ⟨rd, hr⟩ := r.slice hu (by rw [hco]; decide)
  obtain ⟨L, hL⟩ := TextsAt.of hr
  exact rows_walk hL
end Go.Proofs.Ytecifdbakkpcaaa
