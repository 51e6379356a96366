/- Guests, plain: a row of them, whose turn it is. -/
import Derived.Test.YtpnkaamijjeckaaDoorOwn
import Derived.Test.YtpnkaamijjeckaaDoorOcA
import Derived.Test.YtpnkaamijjeckaaDoorBmA
namespace Go.Proofs.YtpnkaamijjeckaaDoor
set_option linter.unusedVariables false

/-- A guest: its connection, channel, tag; how many it may have; whether it acks not, whether it is to be alone. -/
structure Gst where
  conn : Int
  chan : Int
  tag : List UInt8
  most : Int
  noack : Bool
  sole : Bool
abbrev gsV (x : Gst) : Value := .agg #[.int .i64 x.conn, .int .i64 x.chan, tx x.tag, .int .i64 x.most, .bool x.noack, .bool x.sole]
abbrev gsO (x : Gst) : Obj := .cells #[.int .i64 x.conn, .int .i64 x.chan, tx x.tag, .int .i64 x.most, .bool x.noack, .bool x.sole] 31
abbrev z0G : Gst := ⟨0, 0, [], 0, false, false⟩

/-- It is the one of that connection, channel, tag. -/
def keyG (c h : Int) (t : List UInt8) (x : Gst) : Bool := x.conn == c && (x.chan == h && x.tag == t)
def idxG (M : List Gst) (c h : Int) (t : List UInt8) : Option Nat := M.findIdx? (keyG c h t)
theorem idx_some {M : List Gst} {c h : Int} {t : List UInt8} {i : Nat} {x : Gst} (hx : M[i]? = some x) (hk : keyG c h t x = true) (hn : ∀ (j : Nat) y, j < i → M[j]? = some y → keyG c h t y = false) : idxG M c h t = some i := by
  obtain ⟨h1, h2⟩ := List.getElem?_eq_some_iff.1 hx
  rw [idxG, List.findIdx?_eq_some_iff_getElem]
  refine ⟨h1, by rw [h2]; exact hk, fun j hj => ?_⟩
  rw [hn j M[j] hj (List.getElem?_eq_getElem (by omega))]
  simp
theorem idx_none {M : List Gst} {c h : Int} {t : List UInt8} (hn : ∀ (j : Nat) y, j < M.length → M[j]? = some y → keyG c h t y = false) : idxG M c h t = none := by
  rw [idxG, List.findIdx?_eq_none_iff]
  intro x hx
  obtain ⟨j, hj⟩ := List.getElem?_of_mem hx
  exact hn j x (List.getElem?_eq_some_iff.1 hj).1 hj
theorem idx_is {M : List Gst} {c h : Int} {t : List UInt8} {i : Nat} (he : idxG M c h t = some i) : i < M.length ∧ ∃ x, M[i]? = some x ∧ keyG c h t x = true := by
  rw [idxG, List.findIdx?_eq_some_iff_getElem] at he
  obtain ⟨h1, h2, -⟩ := he
  exact ⟨h1, M[i], List.getElem?_eq_getElem h1, h2⟩
theorem idx_isnone {M : List Gst} {c h : Int} {t : List UInt8} (he : idxG M c h t = none) {x : Gst} (hx : x ∈ M) : keyG c h t x = false := by
  rw [idxG, List.findIdx?_eq_none_iff] at he
  exact he x hx
theorem key_ways {c h : Int} {t : List UInt8} {x : Gst} (hk : keyG c h t x = false) : (x.conn == c) = false ∨ (x.conn == c) = true ∧ (x.chan == h) = false ∨ (x.conn == c) = true ∧ (x.chan == h) = true ∧ (x.tag == t) = false := by
  unfold keyG at hk
  cases h1 : (x.conn == c) with
  | false => exact .inl rfl
  | true =>
    cases h2 : (x.chan == h) with
    | false => exact .inr (.inl ⟨rfl, rfl⟩)
    | true =>
      rw [h1, h2, Bool.true_and, Bool.true_and] at hk
      exact .inr (.inr ⟨rfl, rfl, hk⟩)
theorem key_yes {c h : Int} {t : List UInt8} {x : Gst} (hk : keyG c h t x = true) : (x.conn == c) = true ∧ (x.chan == h) = true ∧ (x.tag == t) = true := by
  unfold keyG at hk
  simpa [Bool.and_eq_true] using hk

/-! ### the calls -/
def addOkG (M : List Gst) (x : Gst) : Bool := (idxG M x.conn x.chan x.tag).isNone
def addG (M : List Gst) (x : Gst) : List Gst := if addOkG M x = true then M ++ [x] else M
/-- The turn's next place among n. -/
def turnG (n k : Nat) : Nat := if n ≤ k then 0 else k
def dropM (M : List Gst) (c h : Int) (t : List UInt8) : List Gst := match idxG M c h t with | none => M | some i => M.eraseIdx i
def dropT (M : List Gst) (T : Nat) (c h : Int) (t : List UInt8) : Nat := match idxG M c h t with | none => T | some i => turnG (M.length - 1) (if i < T then T - 1 else T)
/-- Which of n has spare, of those told (sl of them). -/
def sparG (n sl : Nat) (s : Nat → Bool) : Nat → Bool := fun p => decide (p < n) && (decide (p < sl) && s p)
def pickG (n T : Nat) (f : Nat → Bool) : Option Nat := nextAt f n T
def pickT (n T : Nat) (f : Nat → Bool) : Nat := match pickG n T f with | none => T | some k => turnG n (k + 1)
def soleG (M : List Gst) : Bool := M.any Gst.sole
/-- The turn is at one that is there; of none at the first place. -/
def OkT (n T : Nat) : Prop := T < n ∨ T = 0
theorem turn_ok (n k : Nat) : OkT n (turnG n k) := by
  unfold OkT turnG
  split
  · exact .inr rfl
  · exact .inl (by omega)
theorem sparG_lt {n sl : Nat} {s : Nat → Bool} : ∀ p, sparG n sl s p = true → p < n := fun p h => by
  unfold sparG at h
  rw [Bool.and_eq_true] at h
  exact of_decide_eq_true h.1
theorem pick_lt {n T : Nat} {f : Nat → Bool} {k : Nat} (h : pickG n T f = some k) : k < n ∧ f k = true := by
  unfold pickG nextAt at h
  cases h1 : firstAt f n T with
  | some m =>
    rw [h1] at h
    cases h
    obtain ⟨h2, h3, -⟩ := firstAt_is h1
    exact ⟨h2, h3⟩
  | none =>
    rw [h1, Option.none_or] at h
    obtain ⟨h2, h3, -⟩ := firstAt_is h
    exact ⟨h2, h3⟩

/-! ### seats: places in stretches of 64 -/
/-- What the search for the next one knows where it looks at stretch s from place p on, with l looks to come. -/
inductive SeatJ (f : Nat → Bool) (n T st : Nat) : Nat → Nat → Nat → Prop
  | first {p s l : Nat} : s < st → p < 64 → T ≤ 64 * s + p → NoneIn f T (64 * s + p) → T / 64 ≤ s → l + s = st + 1 + T / 64 → SeatJ f n T st p s l
  | again {s l : Nat} : NoneIn f T n → NoneIn f 0 (64 * s) → l + s = T / 64 + 1 → s ≤ T / 64 → (T / 64 < st ∨ T / 64 = 0) → SeatJ f n T st 0 s l
  | out {p s : Nat} : pickG n T f = none → SeatJ f n T st p s 0
theorem pick_none {f : Nat → Bool} {n T : Nat} (hf : ∀ p, f p = true → p < n) (h1 : NoneIn f T n) (h2 : NoneIn f 0 T) : pickG n T f = none := by
  have h : ∀ p, f p = false := fun p => by
    cases hp : f p with
    | false => rfl
    | true =>
      have := hf p hp
      rcases Nat.lt_or_ge p T with h | h
      · rw [h2 p (by omega) h] at hp; cases hp
      · rw [h1 p h this] at hp; cases hp
  unfold pickG nextAt
  rw [firstAt_none fun p _ => h p, firstAt_none fun p _ => h p]
  rfl
theorem pick_first {f : Nat → Bool} {n T q : Nat} (hf : ∀ p, f p = true → p < n) (hq : f q = true) (hT : T ≤ q) (h : NoneIn f T q) : pickG n T f = some q := by
  unfold pickG nextAt
  rw [firstAt_some hf hq hT h]
  rfl
theorem pick_again {f : Nat → Bool} {n T q : Nat} (hf : ∀ p, f p = true → p < n) (hq : f q = true) (h : NoneIn f T n) (h0 : NoneIn f 0 q) : pickG n T f = some q := by
  unfold pickG nextAt
  rw [firstAt_none (a := T) fun p hp => ?_, firstAt_some hf hq (Nat.zero_le _) h0]
  · rfl
  · cases hs : f p with
    | false => rfl
    | true =>
      have := h p hp (hf p hs)
      rw [hs] at this
      cases this

/-- The places of stretch s. -/
def inSt (f : Nat → Bool) (s : Nat) : Nat → Bool := fun p => decide (p < 64) && f (64 * s + p)
theorem inSt_lt {f : Nat → Bool} {s : Nat} : ∀ p, inSt f s p = true → p < 64 := fun p h => by
  unfold inSt at h
  rw [Bool.and_eq_true] at h
  exact of_decide_eq_true h.1
theorem inSt_none {f : Nat → Bool} {s p : Nat} (h : firstAt (inSt f s) 64 p = none) : NoneIn f (64 * s + p) (64 * s + 64) := fun q h1 h2 => by
  have := firstAt_isnone h (q - 64 * s) (by omega) (by omega)
  unfold inSt at this
  rw [decide_eq_true (by omega), Bool.true_and, show 64 * s + (q - 64 * s) = q by omega] at this
  exact this
theorem inSt_some {f : Nat → Bool} {s p q : Nat} (h : firstAt (inSt f s) 64 p = some q) : f (64 * s + q) = true ∧ p ≤ q ∧ q < 64 ∧ NoneIn f (64 * s + p) (64 * s + q) := by
  obtain ⟨h1, h2, h3, h4⟩ := firstAt_is h
  unfold inSt at h2
  rw [Bool.and_eq_true] at h2
  refine ⟨h2.2, h3, h1, fun k k1 k2 => ?_⟩
  have := h4 (k - 64 * s) (by omega) (by omega)
  unfold inSt at this
  rw [decide_eq_true (by omega), Bool.true_and, show 64 * s + (k - 64 * s) = k by omega] at this
  exact this
theorem SeatJ.start {f : Nat → Bool} {n T : Nat} (hT : OkT n T) : SeatJ f n T ((n + 63) / 64) (T % 64) (T / 64) ((n + 63) / 64 + 1) := by
  rcases Nat.eq_zero_or_pos n with rfl | hn
  · rcases hT with h | rfl
    · omega
    · exact .again (fun p h1 h2 => by omega) (fun p h1 h2 => by omega) rfl (Nat.le_refl _) (.inr rfl)
  · have : T < n := by rcases hT with h | rfl <;> omega
    exact .first (by omega) (by omega) (by omega) (fun p h1 h2 => by omega) (Nat.le_refl _) (by omega)
/-- Found. -/
theorem SeatJ.found {f : Nat → Bool} {n T st p s l q : Nat} (hf : ∀ p, f p = true → p < n) (h : SeatJ f n T st p s (l + 1)) (hq : firstAt (inSt f s) 64 p = some q) : pickG n T f = some (64 * s + q) ∧ q < 64 ∧ p ≤ q := by
  obtain ⟨h1, h2, h3, h4⟩ := inSt_some hq
  cases h with
  | first k1 k2 k3 k4 k5 k6 => exact ⟨pick_first hf h1 (by omega) (k4.join h4), h3, h2⟩
  | again k1 k2 k3 k4 k5 => exact ⟨pick_again hf h1 k1 (k2.join (by simpa using h4)), h3, h2⟩
/-- Not found: the next stretch, or the first one. -/
theorem SeatJ.more {f : Nat → Bool} {n T st p s l : Nat} (hf : ∀ p, f p = true → p < n) (hst : n ≤ 64 * st) (h : SeatJ f n T st p s (l + 1)) (hq : firstAt (inSt f s) 64 p = none) (hlt : s + 1 < st) : SeatJ f n T st 0 (s + 1) l := by
  have h4 := inSt_none hq
  cases h with
  | first k1 k2 k3 k4 k5 k6 =>
    exact .first hlt (by omega) (by omega) (by rw [show 64 * (s + 1) + 0 = 64 * s + 64 by omega]; exact k4.join h4) (by omega) (by omega)
  | again k1 k2 k3 k4 k5 =>
    have k6 : NoneIn f 0 (64 * (s + 1)) := k2.join h4
    rcases Nat.lt_or_ge s (T / 64) with h | h
    · exact .again k1 k6 (by omega) (by omega) k5
    · obtain rfl : l = 0 := by omega
      exact .out (pick_none hf k1 fun q q1 q2 => k6 q q1 (by omega))
theorem SeatJ.round {f : Nat → Bool} {n T st p s l : Nat} (hf : ∀ p, f p = true → p < n) (hst : n ≤ 64 * st) (h : SeatJ f n T st p s (l + 1)) (hq : firstAt (inSt f s) 64 p = none) (hge : st ≤ s + 1) : SeatJ f n T st 0 0 l := by
  have h4 := inSt_none hq
  cases h with
  | first k1 k2 k3 k4 k5 k6 =>
    have k7 := k4.join h4
    exact .again (fun q q1 q2 => k7 q q1 (by omega)) (fun q q1 q2 => by omega) (by omega) (Nat.zero_le _) (.inl (by omega))
  | again k1 k2 k3 k4 k5 =>
    have k6 : NoneIn f 0 (64 * (s + 1)) := k2.join h4
    obtain rfl : l = 0 := by omega
    exact .out (pick_none hf k1 fun q q1 q2 => k6 q q1 (by omega))
theorem SeatJ.none {f : Nat → Bool} {n T st p s : Nat} (h : SeatJ f n T st p s 0) : pickG n T f = none := by
  cases h with
  | first k1 k2 k3 k4 k5 k6 => omega
  | again k1 k2 k3 k4 k5 => omega
  | out h => exact h
end Go.Proofs.YtpnkaamijjeckaaDoor
