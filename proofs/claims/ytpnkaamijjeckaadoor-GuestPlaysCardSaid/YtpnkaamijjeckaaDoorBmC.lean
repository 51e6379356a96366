/- A bitmap in memory: its words in blocks of their own, one a level. isPlace, Has. -/
import Derived.Test.YtpnkaamijjeckaaDoorBmB
namespace Go.Proofs.YtpnkaamijjeckaaDoor
open Go.RowKit
set_option linter.unusedVariables false

def wordsV (ws : List Nat) : List Value := ws.map fun u : Nat => Value.int .u64 (u : Int)
def wordsObj (ws : List Nat) : Obj := .cells (wordsV ws).toArray 79
def headV (x : Nat × List Nat) : Value := .slice (some ⟨x.1, 0, none⟩) x.2.length x.2.length
def lvH (L : List (Nat × List Nat)) : List (Nat × Obj) := L.map fun x => (x.1, wordsObj x.2)
theorem wordsV_len (ws : List Nat) : (wordsV ws).length = ws.length := by simp [wordsV]
theorem wordsV_at {ws : List Nat} {j u : Nat} (h : ws[j]? = some u) : (wordsV ws)[j]? = some (.int .u64 (u : Int)) := by simp [wordsV, h]
theorem wordsV_set (ws : List Nat) (j v : Nat) : (wordsV ws).set j (.int .u64 (v : Int)) = wordsV (ws.set j v) := by simp [wordsV, List.map_set]

/-- The library's table lies below all that the call makes. -/
def Tab (B : Nat) (w0 : World) : Prop := 0 < B ∧ TabAt w0
theorem Tab.at_ {B : Nat} {w0 w : World} {H : List (Nat × Obj)} (h : Tab B w0) (hst : St B w0 w H) : TabAt w := fun j hj => by
  have hb := hst.below.block _ h.1
  have := h.2 j hj
  simp only [World.cell?] at this ⊢
  rw [hb]; exact this

structure BmAt (B : Nat) (w0 w : World) (bb : Nat) (L : List (Nat × List Nat)) (places count : Nat) (ov : Value) (oF F : List (Nat × Obj)) : Prop where
  sl : SlIs 77 1 ov L.length (L.map headV) oF
  st : St B w0 w (((bb, .cells #[ov, .int .i64 (places : Int), .int .i64 (count : Int)] 76) :: (lvH L ++ F)) ++ oF)

structure BmWf (L : List (Nat × List Nat)) (places : Nat) : Prop where
  top : places ≤ 5000
  reach : ∀ (l : Nat) (x : Nat × List Nat), L[l]? = some x → places ≤ 64 ^ (l + 1) * x.2.length
  size : ∀ (l : Nat) (x : Nat × List Nat), L[l]? = some x → x.2.length ≤ 5000
  last : ∀ x : Nat × List Nat, L[L.length - 1]? = some x → x.2.length = 1
  bare : L = [] → places = 0
  few : L.length ≤ 5000

def BitsAll (s : Nat → Bool) (L : List (Nat × List Nat)) : Prop := ∀ (l : Nat) (x : Nat × List Nat), L[l]? = some x → Bits s l x.2

section
variable {B : Nat} {w0 w : World} {bb places count : Nat} {L : List (Nat × List Nat)} {ov : Value} {oF F : List (Nat × Obj)} {s : Nat → Bool}

theorem BmAt.c0 (h : BmAt B w0 w bb L places count ov oF F) : w.cell? ⟨bb, 0, none⟩ = some ov := h.st.cell (List.mem_append_left _ List.mem_cons_self) rfl
theorem BmAt.c1 (h : BmAt B w0 w bb L places count ov oF F) : w.cell? ⟨bb, 1, none⟩ = some (.int .i64 (places : Int)) := h.st.cell (List.mem_append_left _ List.mem_cons_self) rfl
theorem BmAt.c2 (h : BmAt B w0 w bb L places count ov oF F) : w.cell? ⟨bb, 2, none⟩ = some (.int .i64 (count : Int)) := h.st.cell (List.mem_append_left _ List.mem_cons_self) rfl
theorem BmAt.soft (h : BmAt B w0 w bb L places count ov oF F) (i : Nat) : w.frozen? ⟨bb, i, none⟩ = false := St.soft h.st (List.mem_append_left _ List.mem_cons_self) i
theorem BmAt.drewN (h : BmAt B w0 w bb L places count ov oF F) (n : Nat) : BmAt B w0 (w.drewN n) bb L places count ov oF F := ⟨h.sl, h.st.drewN n⟩

theorem lvH_mem {l : Nat} {b : Nat} {ws : List Nat} (hl : L[l]? = some (b, ws)) : (b, wordsObj ws) ∈ lvH L :=
  List.mem_map.2 ⟨(b, ws), List.mem_of_getElem? hl, rfl⟩
theorem BmAt.word (h : BmAt B w0 w bb L places count ov oF F) {l b j u : Nat} {ws : List Nat} (hl : L[l]? = some (b, ws)) (hu : ws[j]? = some u) : w.cell? ⟨b, j, none⟩ = some (.int .u64 (u : Int)) :=
  h.st.cell (b := b) (c := (wordsV ws).toArray) (T := 79) (fr := (0, 0)) (List.mem_append_left _ (List.mem_cons_of_mem _ (List.mem_append_left _ (lvH_mem hl)))) (by rw [List.getElem?_toArray]; exact wordsV_at hu)
theorem BmAt.wsoft (h : BmAt B w0 w bb L places count ov oF F) {l b : Nat} {ws : List Nat} (hl : L[l]? = some (b, ws)) (j : Nat) : w.frozen? ⟨b, j, none⟩ = false :=
  St.soft h.st (b := b) (c := (wordsV ws).toArray) (T := 79) (List.mem_append_left _ (List.mem_cons_of_mem _ (List.mem_append_left _ (lvH_mem hl)))) j

/-- The header of the levels. -/
theorem BmAt.form (h : BmAt B w0 w bb L places count ov oF F) : ∃ a cap, ov = .slice a L.length cap := by
  obtain ⟨a, cap, h1, -⟩ := h.sl.form
  exact ⟨a, cap, h1⟩
theorem BmAt.head (h : BmAt B w0 w bb L places count ov oF F) {l b : Nat} {ws : List Nat} (hl : L[l]? = some (b, ws)) :
    ∃ g off cap, ov = .slice (some ⟨g, off, none⟩) L.length cap ∧ w.cell? ⟨g, off + l, none⟩ = some (.slice (some ⟨b, 0, none⟩) ws.length ws.length) := by
  obtain ⟨a, cap, rfl, _, _, ha⟩ := h.sl.form
  obtain ⟨g, off, rfl⟩ := ha l (List.getElem?_eq_some_iff.1 hl).1
  exact ⟨g, off, cap, rfl, h.sl.cellAt h.st (by simp [hl, headV])⟩

/-- A word turned. -/
theorem BmAt.setWord (h : BmAt B w0 w bb L places count ov oF F) {l b : Nat} {ws : List Nat} (hl : L[l]? = some (b, ws)) (j v : Nat) :
    BmAt B w0 (w.setCell ⟨b, j, none⟩ (.int .u64 (v : Int))) bb (L.set l (b, ws.set j v)) places count ov oF F := by
  obtain ⟨hlt, he⟩ := List.getElem?_eq_some_iff.1 hl
  have hsplit : L = L.take l ++ (b, ws) :: L.drop (l + 1) := by rw [← he, List.getElem_cons_drop, List.take_append_drop]
  have hset : L.set l (b, ws.set j v) = L.take l ++ (b, ws.set j v) :: L.drop (l + 1) := List.set_eq_take_append_cons_drop.trans (if_pos hlt)
  refine ⟨?_, ?_⟩
  · have e : (L.set l (b, ws.set j v)).map headV = L.map headV := by
      rw [hset]
      conv => rhs; rw [hsplit]
      simp [headV]
    rw [e, List.length_set]
    exact h.sl
  · have h1 := h.st
    have e1 : ∀ x : Nat × List Nat, ((bb, Obj.cells #[ov, .int .i64 (places : Int), .int .i64 (count : Int)] 76) :: (lvH (L.take l ++ x :: L.drop (l + 1)) ++ F)) ++ oF =
        ((bb, Obj.cells #[ov, .int .i64 (places : Int), .int .i64 (count : Int)] 76) :: lvH (L.take l)) ++ (x.1, wordsObj x.2) :: ((lvH (L.drop (l + 1)) ++ F) ++ oF) := fun x => by simp [lvH]
    rw [hset, e1]
    rw [hsplit, e1] at h1
    have h2 := St.set (b := b) (c := (wordsV ws).toArray) (T := 79) (fr := (0, 0)) h1 j (.int .u64 (v : Int))
    rw [List.setIfInBounds_toArray, wordsV_set] at h2
    exact h2
theorem BmAt.setCount (h : BmAt B w0 w bb L places count ov oF F) (n : Nat) : BmAt B w0 (w.setCell ⟨bb, 2, none⟩ (.int .i64 (n : Int))) bb L places n ov oF F := by
  refine ⟨h.sl, ?_⟩
  have h1 := h.st
  rw [List.cons_append] at h1 ⊢
  exact h1.set0 2 (.int .i64 (n : Int))

/-- The words of the lowest level. -/
theorem BmWf.first (wf : BmWf L places) {p : Nat} (hp : p < places) : ∃ b ws, L[0]? = some (b, ws) ∧ p / 64 < ws.length := by
  cases L with
  | nil => have := wf.bare rfl; omega
  | cons x L =>
    have := wf.reach 0 x rfl
    rw [Nat.zero_add, Nat.pow_one] at this
    exact ⟨x.1, x.2, rfl, by omega⟩

/-- A bitmap of k places, those of s set. -/
def BmIs (B : Nat) (w0 w : World) (bb : Nat) (s : Nat → Bool) (k : Nat) (F : List (Nat × Obj)) : Prop :=
  Tab B w0 ∧ (∀ p, s p = true → p < k) ∧ ∃ L ov oF, BmWf L k ∧ BitsAll s L ∧ BmAt B w0 w bb L k (cntB s k) ov oF F
theorem BmIs.drewN (h : BmIs B w0 w bb s places F) (n : Nat) : BmIs B w0 (w.drewN n) bb s places F := by
  obtain ⟨h1, h2, L, ov, oF, h3, h4, h5⟩ := h
  exact ⟨h1, h2, L, ov, oF, h3, h4, h5.drewN n⟩
theorem BmIs.top (h : BmIs B w0 w bb s places F) : places ≤ 5000 := by
  obtain ⟨h1, h2, L, ov, oF, h3, h4, h5⟩ := h
  exact h3.top

def isPlaceB (k : Nat) (i : Int) : Bool := decide (0 ≤ i) && decide (i < k)
def hasB (s : Nat → Bool) (k : Nat) (i : Int) : Bool := isPlaceB k i && s i.toNat

set_option maxHeartbeats 400000 in
theorem isPlace_any (h : BmAt B w0 w bb L places count ov oF F) (i : Int) :
    Calls Tryd.prog 37 #[bptr bb, .int .i64 i] w fun e w' => e = .returned (.bool (isPlaceB places i)) ∧ w = w' := by
  have c1 := h.c1
  clear h
  unfold isPlaceB
  by_cases h0 : 0 ≤ i
  · go_enter Tryd.func37, Tryd.ntmps37
    go_wp2
    go_ret
    exact ⟨by simp [h0], rfl⟩
  · have h0' : decide (0 ≤ i) = false := by simpa using h0
    rw [h0', Bool.false_and]
    go_enter Tryd.func37, Tryd.ntmps37
    go_wp2
    go_ret
    exact ⟨rfl, rfl⟩

theorem and_bit {u k : Nat} : (u &&& 2 ^ k = 0) ↔ u.testBit k = false := by
  rw [nat_bit, Nat.testBit_eq_decide_div_mod_eq]
  have h1 : 0 < 2 ^ k := Nat.two_pow_pos k
  have h2 := Nat.mod_two_eq_zero_or_one (u / 2 ^ k)
  rcases h2 with h | h
  · rw [h]; simp
  · rw [h]; simp

set_option maxHeartbeats 1000000 in
theorem has_place (h : BmIs B w0 w bb s places F) (i : Nat) (hi : i < places) :
    Calls Tryd.prog 38 #[bptr bb, .int .i64 i] w fun e w' => e = .returned (.bool (s i)) ∧ ∃ n, w' = w.drewN n := by
  obtain ⟨-, -, L, ov, oF, wf, hb, h⟩ := h
  obtain ⟨b, ws, hl, hj⟩ := wf.first hi
  have htop := wf.top
  obtain ⟨g, off, cap, rfl, hh⟩ := h.head hl
  have hu : ws[i / 64]? = some ws[i / 64] := List.getElem?_eq_getElem hj
  have hw := h.word hl hu
  have c0 := h.c0
  obtain ⟨hlt, hbit⟩ := hb 0 _ hl _ _ hu
  have hbit := hbit (i % 64) (Nat.mod_lt _ (by decide))
  rw [up_zero, show 64 * (i / 64) + i % 64 = i by omega] at hbit
  have hLpos : 0 < L.length := (List.getElem?_eq_some_iff.1 hl).1
  have hws := wf.size 0 _ hl
  generalize ws[i / 64] = u at *
  have cp : Hid (∀ n, Calls Tryd.prog 37 #[bptr bb, .int .i64 i] (w.drewN n) fun e w' => e = .returned (.bool true) ∧ ∃ m, w' = (w.drewN n).drewN m) := fun n => by
    have := isPlace_any (h.drewN n) (i : Int)
    rw [show isPlaceB places i = true by simp [isPlaceB, hi]] at this
    exact this.mono fun _ _ ⟨h1, h2⟩ => ⟨h1, 0, h2.symm⟩
  have cb : Hid (∀ n, Calls Tryd.prog 41 #[.int .i64 i] (w.drewN n) fun e w' => e = .returned (.int .u64 ((2 ^ (i % 64) : Nat) : Int)) ∧ ∃ m, w' = (w.drewN n).drewN m) := fun n => (bitOf_any i _ (by omega)).mono fun _ _ ⟨h1, h2⟩ => ⟨h1, 0, h2.symm⟩
  have e1 : bits BinOp.and IntKind.u64 (u : Int) ((2 ^ (i % 64) : Nat) : Int) = ((u &&& 2 ^ (i % 64) : Nat) : Int) := u64_and_nat _ _ hlt (pow_lt_64 _ (Nat.mod_lt _ (by decide)))
  have e2 : (((u &&& 2 ^ (i % 64) : Nat) : Int) != 0) = s i := by
    cases hs : s i with
    | true =>
      have h1 := hbit.2 hs
      have : u &&& 2 ^ (i % 64) ≠ 0 := fun e => by rw [and_bit, h1] at e; cases e
      simp; omega
    | false =>
      have : u &&& 2 ^ (i % 64) = 0 := and_bit.2 (by cases h : u.testBit (i % 64) <;> simp_all)
      simp [this]
  have hq0 : (0 : Int) ≤ i := by omega
  have hi0 : (0 : Int) ≤ i / 64 := by omega
  have hi1 : (i : Int) / 64 < ws.length := by omega
  have hL1 : (0 : Int) < L.length := by omega
  simp only [Nat.add_zero] at hh
  generalize ((u &&& 2 ^ (i % 64) : Nat) : Int) = v at *
  generalize ((2 ^ (i % 64) : Nat) : Int) = q at *
  clear h hb hl hj hbit hlt wf hu
  go_enter Tryd.func38, Tryd.ntmps38
  go_wp2_with fail
  go_quiet ((first | (go_at_call 37; exact Calls.quiet_of (cp.out _)) | (go_at_call 41; exact Calls.quiet_of (cb.out _))))
  go_wp2_with fail
  go_ret
  exact ⟨rfl, _, rfl⟩

set_option maxHeartbeats 1000000 in
theorem has_none (h : BmIs B w0 w bb s places F) (i : Int) (hi : isPlaceB places i = false) :
    Calls Tryd.prog 38 #[bptr bb, .int .i64 i] w fun e w' => e = .returned (.bool false) ∧ ∃ n, w' = w.drewN n := by
  obtain ⟨-, -, L, ov, oF, wf, hb, h⟩ := h
  have cp : Hid (∀ n, Calls Tryd.prog 37 #[bptr bb, .int .i64 i] (w.drewN n) fun e w' => e = .returned (.bool false) ∧ ∃ m, w' = (w.drewN n).drewN m) := fun n => by
    have := isPlace_any (h.drewN n) i
    rw [hi] at this
    exact this.mono fun _ _ ⟨h1, h2⟩ => ⟨h1, 0, h2.symm⟩
  clear h hb wf hi
  go_enter Tryd.func38, Tryd.ntmps38
  go_wp2_with fail
  go_quiet ((go_at_call 37; exact Calls.quiet_of (cp.out _)))
  go_wp2_with fail
  go_ret
  exact ⟨rfl, _, rfl⟩

theorem has_any (h : BmIs B w0 w bb s places F) (i : Int) :
    Calls Tryd.prog 38 #[bptr bb, .int .i64 i] w fun e w' => e = .returned (.bool (hasB s places i)) ∧ ∃ n, w' = w.drewN n := by
  unfold hasB
  cases hi : isPlaceB places i with
  | false => exact has_none h i hi
  | true =>
    obtain ⟨h0, h1⟩ : 0 ≤ i ∧ i < places := by simpa [isPlaceB] using hi
    obtain ⟨k, rfl⟩ : ∃ k : Nat, i = k := ⟨i.toNat, by omega⟩
    have := has_place h k (by omega)
    simpa using this
end
end Go.Proofs.YtpnkaamijjeckaaDoor
