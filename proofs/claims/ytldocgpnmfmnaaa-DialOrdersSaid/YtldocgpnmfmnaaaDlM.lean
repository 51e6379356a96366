/- Set again, cleared. -/
import Derived.Test.YtldocgpnmfmnaaaDlL
import Derived.Deep.LoopGhost
namespace Go.Proofs.Ytldocgpnmfmnaaa
open Go.RowKit
set_option linter.unusedVariables false

/-! ### rows, as plain data -/
section
variable {L : List (Int × Int)} {id t u b : Int}

theorem del_free (h : ∀ x ∈ L, x.2 ≠ id) : del id L = L := by
  unfold del
  rw [List.filter_eq_self]
  intro x hx
  simpa using h x hx
theorem del_ins (L : List (Int × Int)) : del id (ins (t, id) L) = del id L := by
  induction L with
  | nil => simp [ins, del]
  | cons y L ih =>
    unfold ins
    split
    · simp [del]
    · unfold del at ih ⊢
      rw [List.filter_cons, List.filter_cons, ih]
theorem del_del (L : List (Int × Int)) : del id (del id L) = del id L := by simp [del]
theorem setL_again : setL id u (setL id t L) = setL id u L := by
  unfold setL
  rw [del_ins, del_del]
theorem del_setL (h : ∀ x ∈ L, x.2 ≠ id) : del id (setL id t L) = L := by
  unfold setL
  rw [del_ins, del_del, del_free h]
theorem ins_end {x : Int × Int} (h : ∀ y ∈ L, lt2 y x) : ins x L = L ++ [x] := by
  induction L with
  | nil => rfl
  | cons y L ih =>
    have h1 := h y List.mem_cons_self
    unfold ins
    rw [if_neg (fun h2 => lt2_irrefl _ (lt2_trans h1 h2)), ih fun z hz => h z (List.mem_cons_of_mem _ hz)]
    rfl
theorem ins_front {x : Int × Int} (h : ∀ y ∈ L, lt2 x y) : ins x L = x :: L := by
  cases L with
  | nil => rfl
  | cons y L => unfold ins; rw [if_pos (h y List.mem_cons_self)]

/-- Those that the law sets first. -/
def hund (b : Int) (i : Nat) : List (Int × Int) := (List.range i).map fun j : Nat => (b, 100 + (j : Int))
theorem hund_len (i : Nat) : (hund b i).length = i := by simp [hund]
theorem hund_mem {x : Int × Int} {i : Nat} (h : x ∈ hund b i) : x.1 = b ∧ 100 ≤ x.2 ∧ x.2 < 100 + (i : Int) := by
  obtain ⟨j, hj, rfl⟩ := List.mem_map.1 h
  have := List.mem_range.1 hj
  refine ⟨rfl, ?_, ?_⟩
  · show 100 ≤ 100 + (j : Int); omega
  · show 100 + (j : Int) < 100 + (i : Int); omega
theorem hund_set (i : Nat) : setL (100 + (i : Int)) b (hund b i) = hund b (i + 1) := by
  unfold setL
  rw [del_free (fun x hx => by have := hund_mem hx; omega), ins_end (fun x hx => by have := hund_mem hx; unfold lt2; simp only; omega)]
  unfold hund
  rw [List.range_succ, List.map_append]
  rfl
theorem hund_seven (i : Nat) : setL 7 b (setL 7 t (hund b i)) = (b, 7) :: hund b i := by
  rw [setL_again]
  unfold setL
  rw [del_free (fun x hx => by have := hund_mem hx; omega), ins_front (fun x hx => by have := hund_mem hx; unfold lt2; simp only; omega)]
theorem due_all {L : List (Int × Int)} {now : Int} (h : ∀ x ∈ L, x.1 ≤ now) : dueL now L = L ∧ restL now L = [] := by
  have := take_due (L1 := L) (L2 := []) h (by simp)
  rwa [List.append_nil] at this
theorem due_none {L : List (Int × Int)} {now : Int} (h : ∀ x ∈ L, now < x.1) : dueL now L = [] ∧ restL now L = L :=
  take_due (L1 := []) (L2 := L) (by simp) fun x hx => by
    have := h x (by cases L with | nil => cases hx | cons y L => simp at hx; subst hx; exact List.mem_cons_self)
    omega
end

def restM (b : Int) (k : Nat) (c : Bool) : List (Int × Int) := if c then hund b k else (b, 7) :: hund b k
theorem restM_time {b : Int} {k : Nat} {c : Bool} {x : Int × Int} (h : x ∈ restM b k c) : x.1 = b := by
  unfold restM at h
  cases c
  · rcases List.mem_cons.1 h with rfl | h
    · rfl
    · exact (hund_mem h).1
  · exact (hund_mem h).1

/-- The last half of DialMoves: what is left is due, all of it. -/
theorem dueM {b : Int} {k : Nat} {c : Bool} : dueL b (restM b k c) = restM b k c ∧ restL b (restM b k c) = [] := due_all fun x hx => by rw [restM_time hx]; exact Int.le_refl _
theorem dueM_early {b : Int} {k : Nat} {c : Bool} : dueL (b - 1) (restM b k c) = [] ∧ restL (b - 1) (restM b k c) = restM b k c := due_none fun x hx => by rw [restM_time hx]; omega

theorem hund_clear (b : Int) (i : Nat) : hasL 7 ((b, 7) :: hund b i) = true ∧ del 7 ((b, 7) :: hund b i) = hund b i := by
  refine ⟨by simp [hasL, whenL], ?_⟩
  have : del 7 ((b, 7) :: hund b i) = del 7 (hund b i) := by simp [del]
  rw [this, del_free fun x hx => by have := hund_mem hx; omega]
theorem hund_gone (b : Int) (i : Nat) : hasL 7 (hund b i) = false ∧ del 7 (hund b i) = hund b i := by
  refine ⟨?_, del_free fun x hx => by have := hund_mem hx; omega⟩
  unfold hasL whenL
  rw [Option.isSome_map, Option.isSome_eq_false_iff, Option.isNone_iff_eq_none, List.find?_eq_none]
  intro x hx
  have := hund_mem hx
  simp only [beq_iff_eq]
  omega

/-- Behind the last call of Set, Clear: what is due in the end. -/
def EndM (i : Nat) (c : Bool) (B : Nat) (w0 : World) (db : Nat) (b : Int) (v : Value) (w' : World) : Prop :=
  ∃ a cap, v = .slice a (if c then i else i + 1) cap ∧ (c = false → ∃ g off, a = some ⟨g, off, none⟩ ∧ w'.cell? ⟨g, off, none⟩ = some (.int .i64 7)) ∧ DialIs B w0 w' db [] []
theorem end_due {B : Nat} {w0 w : World} {db i : Nat} {c : Bool} {b : Int} (h : DialIs B w0 w db (restM b i c) []) (hb : T64 b) :
    Calls Try.prog 14 #[mp db, .int .i64 b] w fun e w' => ∃ v, e = .returned v ∧ EndM i c B w0 db b v w' := by
  refine (dial_due h b hb rfl dueM.2).mono ?_
  rintro e w' ⟨v, S, rfl, ⟨a, cap, rfl, hc⟩, -, hD⟩
  rw [dueM.1] at hc ⊢
  have hl : ((restM b i c).map (·.2)).length = if c then i else i + 1 := by
    unfold restM
    cases c <;> simp [hund_len]
  rw [hl]
  refine ⟨_, rfl, a, cap, rfl, fun e => ?_, hD.rest⟩
  subst e
  exact hc 0 7 rfl
theorem early_due {B : Nat} {w0 w : World} {db i : Nat} {c : Bool} {b : Int} (h : DialIs B w0 w db (restM b i c) []) (hb : T64 (b - 1)) :
    Calls Try.prog 14 #[mp db, .int .i64 (b - 1)] w fun e w' => ∃ a cap, e = .returned (.slice a 0 cap) ∧ DialIs B w0 w' db (restM b i c) [] := by
  refine (dial_due h (b - 1) hb (l := []) (by rw [dueM_early.1]; rfl) dueM_early.2).mono ?_
  rintro e w' ⟨v, S, rfl, ⟨a, cap, rfl, hc⟩, -, hD⟩
  exact ⟨a, cap, rfl, hD.rest⟩

set_option maxHeartbeats 4000000 in
set_option maxRecDepth 100000 in
theorem moves_walk (a b o : Int) (c : Bool) (w0 : (Lit.int .u8 a).wf = true) (w1 : (Lit.int .u8 b).wf = true) (w3 : (Lit.int .u8 o).wf = true) (w : World) :
    Calls Try.prog 6 #[.int .u8 a, .int .u8 b, .bool c, .int .u8 o] w fun e w' => e = .returned (.bool true) ∧ Below w.heap.size w w' := by
  have hk := Lib.hid (known5_true w)
  obtain ⟨a1, a2⟩ := bounds_u8 w0
  obtain ⟨b1, b2⟩ := bounds_u8 w1
  obtain ⟨o1, o2⟩ := bounds_u8 w3
  clear w0 w1 w3
  obtain ⟨k, hk0⟩ : ∃ k : Nat, o % 20 = k := ⟨(o % 20).toNat, by omega⟩
  have k1 : (k : Int) < 20 := by omega
  have k2 : (0 : Int) ≤ k := by omega
  replace hk0 := Lib.hid hk0
  go_enter Try.func6, Try.ntmps6
  go_wp2_with fail
  refine hk.out.mono ?_
  rintro e w1 ⟨rfl, hb⟩
  replace hb := Lib.hid hb
  have cn := Lib.hid (dl_new (St.start w1))
  clear hk
  go_wp2_with fail
  refine cn.out.mono ?_
  rintro e w2 ⟨db, rfl, h2⟩
  replace h2 := Lib.hid h2
  clear cn
  go_wp2_with fail
  simp only [hk0.out]
  clear hk0
  go_loopg [11] k (fun g v11 wr => ∃ i : Nat, v11 = .int .i64 i ∧ i + g = k ∧ DialIs w1.heap.size w1 wr db (hund b i) [])
  case atStart => exact ⟨0, rfl, by omega, h2.out⟩
  case round =>
    clear h2
    obtain ⟨i, rfl, hi, h3⟩ := hrel
    replace h3 := Lib.hid h3
    by_cases hlt : i < k
    · have hi1 : (i : Int) < k := by omega
      go_wp2_with fail
      refine (dial_set h3.out (100 + (i : Int)) b ⟨by omega, by omega⟩ (by rw [hund_len]; omega) (hund_set i)).mono ?_
      rintro e w4 ⟨rfl, h4⟩
      replace h4 := Lib.hid h4
      clear h3
      go_wp2_with fail
      go_roundg (k - (i + 1))
      case measure => omega
      case rel => exact ⟨i + 1, by go_num, by omega, h4.out⟩
    · obtain rfl : i = k := by omega
      go_wp2_with fail
      refine (dial_set h3.out 7 a ⟨by omega, by omega⟩ (by rw [hund_len]; omega) rfl).mono ?_
      rintro e w4 ⟨rfl, h4⟩
      replace h4 := Lib.hid h4
      clear h3
      go_wp2_with fail
      refine (dial_set h4.out 7 b ⟨by omega, by omega⟩ (by have := @setL_len (hund b i) 7 a; rw [hund_len] at this; omega) (hund_seven i)).mono ?_
      rintro e w5 ⟨rfl, h5⟩
      replace h5 := Lib.hid h5
      clear h4 o1 o2
      have hbT : T64 b := ⟨by omega, by omega⟩
      have hbT1 : T64 (b - 1) := ⟨by omega, by omega⟩
      replace hbT := Lib.hid hbT
      replace hbT1 := Lib.hid hbT1
      cases c
      · by_cases hb0 : 0 < b
        · go_wp2_with fail
          refine (early_due (c := false) h5.out hbT1.out).mono ?_
          rintro e w6 ⟨a6, cap6, rfl, h6⟩
          replace h6 := Lib.hid h6
          clear h5
          go_wp2_with fail
          refine (end_due h6.out hbT.out).mono ?_
          rintro e w7 ⟨v, rfl, a7, cap7, rfl, h7, h8⟩
          obtain ⟨g7, off7, rfl, c7⟩ := h7 rfl
          have cl := Lib.hid (dl_len h8)
          have fin := Lib.hid (hb.out.trans (h8.below.mono hb.out.size))
          clear h6 h7 h8
          simp only [Bool.false_eq_true, if_false]
          go_wp2_with fail
          refine cl.out.mono ?_
          rintro e w8 ⟨rfl, rfl⟩
          go_wp2_with fail
          go_ret
          exact ⟨rfl, fin.out⟩
        · go_wp2_with fail
          refine (end_due (c := false) h5.out hbT.out).mono ?_
          rintro e w7 ⟨v, rfl, a7, cap7, rfl, h7, h8⟩
          obtain ⟨g7, off7, rfl, c7⟩ := h7 rfl
          have cl := Lib.hid (dl_len h8)
          have fin := Lib.hid (hb.out.trans (h8.below.mono hb.out.size))
          clear h5 h7 h8
          simp only [Bool.false_eq_true, if_false]
          go_wp2_with fail
          refine cl.out.mono ?_
          rintro e w8 ⟨rfl, rfl⟩
          go_wp2_with fail
          go_ret
          exact ⟨rfl, fin.out⟩
      · go_wp2_with fail
        refine (dial_clear h5.out 7 (hund_clear b i).1 (hund_clear b i).2).mono ?_
        rintro e w6 ⟨rfl, h6⟩
        replace h6 := Lib.hid h6
        clear h5
        go_wp2_with fail
        refine (dial_clear h6.out 7 (hund_gone b i).1 (hund_gone b i).2).mono ?_
        rintro e w7 ⟨rfl, h7⟩
        replace h7 := Lib.hid h7
        clear h6
        by_cases hb0 : 0 < b
        · go_wp2_with fail
          refine (early_due (c := true) h7.out hbT1.out).mono ?_
          rintro e w8 ⟨a6, cap6, rfl, h8⟩
          replace h8 := Lib.hid h8
          clear h7
          go_wp2_with fail
          refine (end_due h8.out hbT.out).mono ?_
          rintro e w9 ⟨v, rfl, a7, cap7, rfl, -, h9⟩
          have cl := Lib.hid (dl_len h9)
          have fin := Lib.hid (hb.out.trans (h9.below.mono hb.out.size))
          clear h8 h9
          simp only [if_true]
          go_wp2_with fail
          refine cl.out.mono ?_
          rintro e w8 ⟨rfl, rfl⟩
          go_wp2_with fail
          go_ret
          exact ⟨rfl, fin.out⟩
        · go_wp2_with fail
          refine (end_due (c := true) h7.out hbT.out).mono ?_
          rintro e w9 ⟨v, rfl, a7, cap7, rfl, -, h9⟩
          have cl := Lib.hid (dl_len h9)
          have fin := Lib.hid (hb.out.trans (h9.below.mono hb.out.size))
          clear h7 h9
          simp only [if_true]
          go_wp2_with fail
          refine cl.out.mono ?_
          rintro e w8 ⟨rfl, rfl⟩
          go_wp2_with fail
          go_ret
          exact ⟨rfl, fin.out⟩
end Go.Proofs.Ytldocgpnmfmnaaa
