/- The parser of frames as its callers see it; the document's own parser: New, Feed, bad. -/
import Derived.Test.YtjeejflmkdncpaaFmF
namespace Go.Proofs.Ytjeejflmkdncpaa
open Go.RowKit
set_option linter.unusedVariables false

section
variable {B : Nat} {w0 w : World} {pb M rb fb : Nat} {v : Value} {pre L xs : List UInt8} {bad : Bool} {m : Int} {F S A : List (Nat × Obj)} {n : Nat}

theorem fr_next (h : PsIs B w0 w pb M bad L F) (hL : L.length ≤ 4000000) : Calls Try.prog 19 #[fpt pb] w (NextR B w0 pb M (nextL M bad L) F) := by
  obtain ⟨m, v, pre, S, h, few, h1, h2, h3⟩ := h
  by_cases h7 : L.length < 7
  · exact next_short h7 h few h1 h2 h3 hL
  · exact next_long h7 h few h1 h2 h3 hL
theorem fr_left (h : PsIs B w0 w pb M bad L F) (hL : L.length ≤ 4000000) : Calls Try.prog 21 #[fpt pb] w fun e w' => e = .returned (.int .i64 (L.length : Int)) ∧ ∃ n, w' = w.drewN n := by
  obtain ⟨m, v, pre, S, h, few, h1, h2, h3⟩ := h
  exact left_at h (by omega) hL

/-! ### the document's own -/
def rpO (M : Nat) (L : List UInt8) (bad : Bool) : Obj := .cells #[.int .i64 (M : Int), tx L, .bool bad] 43
/-- In w there lies at block rb the document's parser. -/
def RpIs (B : Nat) (w0 w : World) (rb M : Nat) (bad : Bool) (L : List UInt8) (F : List (Nat × Obj)) : Prop :=
  St B w0 w ((rb, rpO M L bad) :: F) ∧ (bad = true → L = []) ∧ 64 ≤ M ∧ M ≤ 4096

theorem RpIs.c0 (h : RpIs B w0 w rb M bad L F) : w.cell? ⟨rb, 0, none⟩ = some (.int .i64 (M : Int)) := h.1.cell List.mem_cons_self rfl
theorem RpIs.c1 (h : RpIs B w0 w rb M bad L F) : w.cell? ⟨rb, 1, none⟩ = some (tx L) := h.1.cell List.mem_cons_self rfl
theorem RpIs.c2 (h : RpIs B w0 w rb M bad L F) : w.cell? ⟨rb, 2, none⟩ = some (.bool bad) := h.1.cell List.mem_cons_self rfl
theorem RpIs.soft (h : RpIs B w0 w rb M bad L F) (i : Nat) : w.frozen? ⟨rb, i, none⟩ = false := St.soft h.1 List.mem_cons_self i
theorem RpIs.drewN (h : RpIs B w0 w rb M bad L F) (n : Nat) : RpIs B w0 (w.drewN n) rb M bad L F := ⟨h.1.drewN n, h.2⟩
theorem RpIs.alloc (h : RpIs B w0 w rb M bad L F) (o : Obj) : RpIs B w0 (w.alloc o) rb M bad L ((w.heap.size, o) :: F) := ⟨(h.1.alloc o).perm (List.Perm.swap _ _ _), h.2⟩
theorem RpIs.sub {F' : List (Nat × Obj)} (h : RpIs B w0 w rb M bad L F) (hs : F'.Sublist F) : RpIs B w0 w rb M bad L F' := ⟨h.1.sub (hs.cons_cons _), h.2⟩
theorem RpIs.perm {F' : List (Nat × Obj)} (h : RpIs B w0 w rb M bad L F) (hp : F.Perm F') : RpIs B w0 w rb M bad L F' := ⟨h.1.perm (hp.cons _), h.2⟩
theorem RpIs.setF {b : Nat} {c : Array Value} {T : TypeId} (h : RpIs B w0 w rb M bad L ((b, .cells c T) :: F)) (i : Nat) (u : Value) : RpIs B w0 (w.setCell ⟨b, i, none⟩ u) rb M bad L ((b, .cells (c.setIfInBounds i u) T) :: F) :=
  ⟨St.set (A := [_]) (C := F) h.1 i u, h.2⟩
theorem RpIs.cellF {b : Nat} {c : Array Value} {T : TypeId} (h : RpIs B w0 w rb M bad L F) (hm : (b, .cells c T) ∈ F) {i : Nat} {u : Value} (hi : c[i]? = some u) : w.cell? ⟨b, i, none⟩ = some u := h.1.cell (b := b) (i := i) (List.mem_cons_of_mem _ hm) hi
theorem RpIs.softF {b : Nat} {c : Array Value} {T : TypeId} (h : RpIs B w0 w rb M bad L F) (hm : (b, .cells c T) ∈ F) (i : Nat) : w.frozen? ⟨b, i, none⟩ = false := St.soft h.1 (b := b) (List.mem_cons_of_mem _ hm) i
theorem RpIs.nil (h : RpIs B w0 w rb M true L F) : L = [] := h.2.1 rfl
/-- What lies beside, and the way back. -/
theorem RpIs.beside (h : RpIs B w0 w rb M bad L F) : ∃ X, St B w0 w (X ++ F) ∧ ∀ w' F', St B w0 w' (X ++ F') → RpIs B w0 w' rb M bad L F' := ⟨[_], h.1, fun w' F' h' => ⟨h', h.2⟩⟩
theorem RpIs.grow {w' : World} (h : RpIs B w0 w rb M bad L F) (hb : Below w.heap.size w w') : RpIs B w0 w' rb M bad L F := ⟨h.1.grow hb, h.2⟩

set_option maxHeartbeats 400000 in
theorem rp_new (h : St B w0 w F) (most : Int) : Calls Try.prog 16 #[.int .i64 most] w fun e w' => e = .returned (fpt w.heap.size) ∧ RpIs B w0 w' w.heap.size (heldM most) false [] F := by
  have hm := heldM_bd most
  have e : (heldM most : Int) = max 64 (min most 4096) := by unfold heldM; omega
  have h1 : RpIs B w0 (w.alloc (.cells #[.int .i64 (heldM most), tx [], .bool false] 43)) w.heap.size (heldM most) false [] F := ⟨h.alloc _, fun e => absurd e (by decide), hm⟩
  have h1 : Hid (∀ z, z = (heldM most : Int) → RpIs B w0 (w.alloc (.cells #[.int .i64 z, tx [], .bool false] 43)) w.heap.size (heldM most) false [] F) := Lib.hid fun z hz => by rw [hz]; exact h1
  replace e := Lib.hid e
  clear h hm
  go_enter Try.func16, Try.ntmps16
  go_wp2_with fail
  all_goals
    go_ret
    exact ⟨rfl, h1.out _ (by rw [e.out]; omega)⟩

set_option maxHeartbeats 400000 in
theorem rp_feed (h : RpIs B w0 w rb M bad L F) (b : List UInt8) (hL : L.length + b.length ≤ 4000000) :
    Calls Try.prog 18 #[fpt rb, tx b] w fun e w' => e = .returned (.tuple #[]) ∧ RpIs B w0 w' rb M bad (fedL bad L b) F := by
  have c1 := h.c1
  have c2 := h.c2
  have f1 := h.soft 1
  cases bad with
  | true =>
    replace h := Lib.hid h
    go_enter Try.func18, Try.ntmps18
    go_wp2_with fail
    exact bodyPost_end (results_none rfl _ _ _) rfl ⟨rfl, h.out⟩
  | false =>
    have ha : ∀ W : World, (Op.stringOp .add ⟨L.toArray⟩ ⟨b.toArray⟩).run Try.prog W = .ok (tx (L ++ b)) W := fun W => run_string_add_lists W _ _ (by omega) (by omega)
    have fin : Hid (RpIs B w0 (w.setCell ⟨rb, 1, none⟩ (tx (L ++ b))) rb M false (fedL false L b) F) := Lib.hid ⟨h.1.set0 (C := F) 1 (tx (L ++ b)), fun e => absurd e (by decide), h.2.2⟩
    clear h
    go_enter Try.func18, Try.ntmps18
    go_wp2_with fail
    exact bodyPost_end (results_none rfl _ _ _) rfl ⟨rfl, fin.out⟩

theorem rtake_at {l r : List UInt8} {k : Int} {q : Nat} {en : Int} (hx : takeL l k = (q, r, en)) (hl : l.length ≤ 8000000) (hh : RpIs B w0 w rb M bad L F) :
    Calls Try.prog 32 #[tx l, .int .i64 k] w fun e w' => e = .returned (.tuple #[.int .i64 q, tx r, .int .i64 en]) ∧ RpIs B w0 w' rb M bad L F := by
  refine (rtake_to hx (by unfold maxLen; omega) w).mono ?_
  rintro e w' ⟨rfl, n, rfl⟩
  exact ⟨rfl, hh.drewN n⟩
theorem sub_tx {L : List UInt8} {k : Nat} (hk : k ≤ L.length) : (⟨L.toArray⟩ : ByteArray).extract k L.length = ⟨(L.drop k).toArray⟩ := by
  rw [ByteArray.extract_mk, List.take_of_length_le (by rw [List.length_drop]; omega)]

set_option maxHeartbeats 4000000 in
theorem rbad_any (h : RpIs B w0 w rb M bad L F) (hL : L.length ≤ 4000000) : Calls Try.prog 31 #[fpt rb] w fun e w' => e = .returned (.bool (decide (stepL M L = .bad))) ∧ RpIs B w0 w' rb M bad L F := by
  have c0 := h.c0
  have c1 := h.c1
  by_cases hz : L = []
  · have e : Hid (stepL M L ≠ .bad) := Lib.hid (by rw [hz]; exact fun h => Got.noConfusion h)
    have hl0 : decide (0 < L.length) = false := by rw [hz]; rfl
    have hl0' : ¬ 0 < L.length := by rw [hz]; decide
    have hl7 : (L.length : Int) < 7 := by rw [hz]; decide
    rw [decide_eq_false e.out]
    replace h := Lib.hid h
    clear hz
    go_enter Try.func31, Try.ntmps31
    go_wp2_with fail
    go_ret
    exact ⟨rfl, h.out⟩
  · obtain ⟨b, r, hbr⟩ : ∃ b r, L = b :: r := by cases L with | nil => exact absurd rfl hz | cons b r => exact ⟨b, r, rfl⟩
    have hl0 : (0 : Int) < L.length := by rw [hbr, List.length_cons]; omega
    have hl0' : 0 < L.length := by omega
    have e0 : ((⟨L.toArray⟩ : ByteArray)[0]'(by show 0 < L.length; omega)).toNat = b.toNat := by subst hbr; rfl
    have hw : wrap64 ((b.toNat : Nat) : Int) = b.toNat := by
      have := u8_lt b
      unfold wrap64
      omega
    have ck := Lib.hid (rkind_any (b.toNat : Int))
    cases hk : isK (b.toNat : Int) with
    | false =>
      have e : Hid (stepL M L = .bad) := Lib.hid (by rw [hbr]; unfold stepL; simp only; rw [if_pos hk])
      rw [decide_eq_true e.out]
      rw [hk] at ck
      replace h := Lib.hid h
      clear hz hbr hk
      go_enter Try.func31, Try.ntmps31
      go_wp2_with fail
      refine (ck.out _).mono ?_
      rintro e w1 ⟨rfl, rfl⟩
      go_wp2_with fail
      go_ret
      exact ⟨rfl, h.out⟩
    | true =>
      rw [hk] at ck
      by_cases h7 : L.length < 7
      · have h7' : (L.length : Int) < 7 := by omega
        have e : Hid (stepL M L ≠ .bad) := Lib.hid (by
          have h7b : (b :: r).length < 7 := by rw [← hbr]; exact h7
          rw [hbr]; unfold stepL; simp only; rw [if_neg (by rw [hk]; decide), if_pos h7b]; exact fun h => Got.noConfusion h)
        rw [decide_eq_false e.out]
        replace h := Lib.hid h
        clear hz hbr hk
        go_enter Try.func31, Try.ntmps31
        go_wp2_with fail
        refine (ck.out _).mono ?_
        rintro e w1 ⟨rfl, rfl⟩
        go_wp2_with fail
        go_ret
        exact ⟨rfl, h.out⟩
      · have h7' : ¬ (L.length : Int) < 7 := by omega
        have h3i : (3 : Int) ≤ L.length := by omega
        have ht : takeL (L.drop 3) 4 = (sizeOfL L, (L.drop 3).drop 4, 0) := takeL_some (k := 4) (by decide) (by rw [List.length_drop]; omega)
        have hb : stepL M L = if M < sizeOfL L + 8 then .bad else if L.length < sizeOfL L + 8 then .lack else if L[sizeOfL L + 7]? ≠ some 206 then .bad else .one b.toNat (num ((L.drop 1).take 2)) (sizeOfL L) := by
          have h7b : ¬ (b :: r).length < 7 := by rw [← hbr]; exact h7
          rw [hbr]
          unfold stepL
          simp only
          rw [if_neg (by rw [hk]; decide), if_neg h7b]
        have ex := sub_tx (L := L) (k := 3) (by omega)
        have hszb : sizeOfL L < 72057594037927936 := num_le (by rw [List.length_take]; omega)
        have ct := Lib.hid (rtake_at ht (by rw [List.length_drop]; omega) h)
        have hM := h.2.2
        generalize (L.drop 3).drop 4 = T1 at *
        generalize L.drop 3 = T0 at *
        generalize sizeOfL L = sz at *
        obtain ⟨ix, hix⟩ : ∃ ix, ix = sz + 7 := ⟨_, rfl⟩
        have e7 : (7 : Int) + (sz : Int) = (ix : Int) := by omega
        have w7 : wrap64 (ix : Int) = (ix : Int) := by unfold wrap64; omega
        obtain ⟨q, hq⟩ : ∃ q, q = M - 8 := ⟨_, rfl⟩
        have e8 : (M : Int) - 8 = (q : Int) := by clear w7 hw; omega
        have w8 : wrap64 (q : Int) = (q : Int) := by unfold wrap64; omega
        have hsq : M < sz + 8 ↔ q < sz := by clear hb w7 w8 hw; omega
        have hsx : L.length < sz + 8 ↔ ¬ ix < L.length := by clear hb w7 w8 hw; omega
        rw [← hix] at hb
        by_cases hs : q < sz
        · have hs' : (q : Int) < sz := by exact Int.ofNat_lt.2 hs
          have e : Hid (stepL M L = .bad) := Lib.hid (by rw [hb, if_pos (hsq.2 hs)])
          rw [decide_eq_true e.out]
          clear h hz hbr hk hb hszb ht hM hix hq hsq hsx
          go_enter Try.func31, Try.ntmps31
          go_wp2_with fail
          refine (ck.out _).mono ?_
          rintro e w1 ⟨rfl, rfl⟩
          go_wp2_with fail
          refine ct.out.mono ?_
          rintro e w2 ⟨rfl, h2⟩
          have d0 := h2.c0
          have d1 := h2.c1
          replace h2 := Lib.hid h2
          go_wp2_with fail
          go_ret
          exact ⟨rfl, h2.out⟩
        have hs' : ¬ (q : Int) < sz := fun h => hs (Int.ofNat_lt.1 h)
        rw [if_neg (fun h => hs (hsq.1 h))] at hb
        by_cases hl : ix < L.length
        rotate_left
        · have hl' : ¬ (ix : Int) < L.length := fun h => hl (Int.ofNat_lt.1 h)
          have e : Hid (stepL M L ≠ .bad) := Lib.hid (by rw [hb, if_pos (hsx.2 hl)]; exact fun h => Got.noConfusion h)
          rw [decide_eq_false e.out]
          clear h hz hbr hk hb hszb ht hM hix hq hsq hsx
          go_enter Try.func31, Try.ntmps31
          go_wp2_with fail
          refine (ck.out _).mono ?_
          rintro e w1 ⟨rfl, rfl⟩
          go_wp2_with fail
          refine ct.out.mono ?_
          rintro e w2 ⟨rfl, h2⟩
          have d0 := h2.c0
          have d1 := h2.c1
          replace h2 := Lib.hid h2
          go_wp2_with fail
          go_ret
          exact ⟨rfl, h2.out⟩
        · have hl' : (ix : Int) < L.length := Int.ofNat_lt.2 hl
          have hl0x : (0 : Int) ≤ ix := Int.natCast_nonneg _
          rw [if_neg (fun h => hsx.1 h hl)] at hb
          have hx : L[ix]? = some L[ix] := List.getElem?_eq_getElem hl
          have fin : Hid (decide (stepL M L = .bad) = !((L[ix].toNat : Int) == 206)) := Lib.hid (by
            rw [hb, hx]
            by_cases hx6 : L[ix] = 206
            · rw [hx6, if_neg (by simp)]
              rfl
            · rw [if_pos (by simpa using hx6)]
              have : ((L[ix].toNat : Int) == 206) = false := by
                rw [beq_eq_false_iff_ne]
                intro h
                exact hx6 (UInt8.toNat_inj.1 (Int.ofNat.inj h))
              rw [this]
              rfl)
          rw [fin.out]
          have ei : ((⟨L.toArray⟩ : ByteArray)[ix]'(by show ix < L.length; omega)).toNat = L[ix].toNat := rfl
          clear h hz hbr hk hb hszb ht hM hix hq hsq hsx hx
          go_enter Try.func31, Try.ntmps31
          go_wp2_with fail
          refine (ck.out _).mono ?_
          rintro e w1 ⟨rfl, rfl⟩
          go_wp2_with fail
          refine ct.out.mono ?_
          rintro e w2 ⟨rfl, h2⟩
          have d0 := h2.c0
          have d1 := h2.c1
          replace h2 := Lib.hid h2
          go_wp2_with fail
          go_ret
          exact ⟨rfl, h2.out⟩
end
end Go.Proofs.Ytjeejflmkdncpaa
