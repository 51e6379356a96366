/- Methods as bytes: plain data. Their shapes, their bytes, what is read. -/
import Derived.Test.YtipinglchpmgaaaDoorOcA
namespace Go.Proofs.YtipinglchpmgaaaDoor
open Go.RowKit
set_option linter.unusedVariables false

/-! ### kinds -/
/-- By kind: the letters of its parts, whether clients send it. -/
def kinds : List (List UInt8 × Bool) := [([], false), ([], false), ([116], true), ([110, 110, 110], false), ([110, 110, 110], true), ([116], true), ([], false), ([116, 110], true), ([], true), ([], true), ([], false), ([116, 110], true), ([], true), ([116, 116, 98], true), ([], false), ([116, 98], true), ([], false), ([116, 116, 116, 110, 110, 110, 98], true), ([116, 110, 110], false), ([116, 116, 116], true), ([], false), ([116, 116, 116], true), ([], false), ([116], true), ([110], false), ([116, 98], true), ([110], false), ([110], true), ([], false), ([116, 116, 98], true), ([116], false), ([116], true), ([116], false), ([116, 116, 98], true), ([116, 116, 110], false), ([116, 116, 116, 110, 98], false), ([116, 98], true), ([116, 116, 110, 110, 98], false), ([], false), ([110, 98], true), ([110, 98], true), ([110, 98], true), ([], true), ([], false), ([], true), ([], false), ([], true), ([], false), ([], true), ([], false)]
def isKd (k : Int) : Bool := decide (1 ≤ k) && decide (k ≤ 49)
def partsK (k : Int) : List UInt8 := (kinds.getD k.toNat ([], false)).1
def clientK (k : Int) : Bool := (kinds.getD k.toNat ([], false)).2
def shT (k : Int) : Nat := (partsK k).count 116
def shN (k : Int) : Nat := (partsK k).count 110
def shB (k : Int) : Bool := (partsK k).contains 98
/-- So many texts, so many numbers, bits or none. -/
def lay (a b : Nat) (c : Bool) : List UInt8 := List.replicate a 116 ++ (List.replicate b 110 ++ if c then [98] else [])

theorem kinds_row (k : Nat) : (kinds.getD k ([], false)) ∈ ([], false) :: kinds := by
  rw [List.getD_eq_getElem?_getD]
  cases h : kinds[k]? with
  | none => simp
  | some x => exact List.mem_cons_of_mem _ (List.mem_of_getElem? h)
theorem kinds_all : ∀ x ∈ ([], false) :: kinds, x.1 = lay (x.1.count 116) (x.1.count 110) (x.1.contains 98) ∧ x.1.count 116 ≤ 3 ∧ x.1.count 110 ≤ 3 := by decide +kernel
theorem partsK_lay (k : Int) : partsK k = lay (shT k) (shN k) (shB k) := (kinds_all _ (kinds_row k.toNat)).1
theorem shT_le (k : Int) : shT k ≤ 3 := (kinds_all _ (kinds_row k.toNat)).2.1
theorem shN_le (k : Int) : shN k ≤ 3 := (kinds_all _ (kinds_row k.toNat)).2.2
theorem isKd_iff {k : Int} : isKd k = true ↔ 1 ≤ k ∧ k ≤ 49 := by simp [isKd]
theorem kinds_none {k : Int} (h : isKd k = false) : kinds.getD k.toNat ([], false) = ([], false) := by
  have h' : ¬ (1 ≤ k ∧ k ≤ 49) := by rw [← isKd_iff, h]; decide
  by_cases h0 : k ≤ 0
  · rw [show k.toNat = 0 by omega]
    rfl
  · rw [List.getD_eq_getElem?_getD, List.getElem?_eq_none (by show 50 ≤ k.toNat; omega)]
    rfl
theorem sh_none {k : Int} (h : isKd k = false) : shT k = 0 ∧ shN k = 0 ∧ shB k = false ∧ clientK k = false := by
  have e := kinds_none h
  have e2 : partsK k = [] := by unfold partsK; rw [e]
  refine ⟨?_, ?_, ?_, ?_⟩
  · unfold shT; rw [e2]; rfl
  · unfold shN; rw [e2]; rfl
  · unfold shB; rw [e2]; rfl
  · unfold clientK; rw [e]
/-- What holds of 0 to 49 and of what is none holds of all. -/
theorem by_kind {p : Int → Prop} (h0 : ∀ k : Fin 50, p (k.val : Int)) (h1 : ∀ k, isKd k = false → p k) (k : Int) : p k := by
  cases h : isKd k with
  | false => exact h1 k h
  | true =>
    obtain ⟨a, b⟩ := isKd_iff.1 h
    have := h0 ⟨k.toNat, by omega⟩
    rwa [show ((k.toNat : Nat) : Int) = k by omega] at this

theorem lay_nil : lay 0 0 false = [] := rfl
theorem lay_T (a b : Nat) (c : Bool) : lay (a + 1) b c = 116 :: lay a b c := rfl
theorem lay_N (b : Nat) (c : Bool) : lay 0 (b + 1) c = 110 :: lay 0 b c := rfl
theorem lay_B : lay 0 0 true = [98] := rfl
theorem lay_length (a b : Nat) (c : Bool) : (lay a b c).length = a + b + c.toNat := by
  cases c <;> simp [lay] <;> omega

/-! ### methods -/
structure Meth where
  kind : Int
  S : List (List UInt8)
  N : List Int
  bits : Int
def zeroM : Meth := ⟨0, [], [], 0⟩
def sameM (a b : Meth) : Bool := a.kind == b.kind && (a.bits == b.bits && (a.S == b.S && a.N == b.N))
theorem sameM_iff {a b : Meth} : sameM a b = true ↔ a = b := by
  obtain ⟨k, s, n, x⟩ := a
  obtain ⟨k', s', n', x'⟩ := b
  simp only [sameM, Bool.and_eq_true, beq_iff_eq, Meth.mk.injEq]
  constructor
  · rintro ⟨h1, h2, h3, h4⟩; exact ⟨h1, h3, h4, h2⟩
  · rintro ⟨h1, h2, h3, h4⟩; exact ⟨h1, h4, h2, h3⟩
theorem sameM_self (a : Meth) : sameM a a = true := sameM_iff.2 rfl

def okT (S : List (List UInt8)) : Bool := S.all fun t => decide (t.length ≤ 255)
def okN1 (n : Int) : Bool := decide (0 ≤ n) && decide (n ≤ 4294967295)
def okN (N : List Int) : Bool := N.all okN1
def okB (x : Int) : Bool := decide (0 ≤ x) && decide (x ≤ 255)
def isM (m : Meth) : Bool := isKd m.kind && ((m.S.length == shT m.kind) && ((m.N.length == shN m.kind) && ((shB m.kind || m.bits == 0) && (okT m.S && (okN m.N && okB m.bits)))))
structure IsM (m : Meth) : Prop where
  kd : isKd m.kind = true
  lt : m.S.length = shT m.kind
  ln : m.N.length = shN m.kind
  nb : shB m.kind = false → m.bits = 0
  ot : ∀ t ∈ m.S, t.length ≤ 255
  on : ∀ n ∈ m.N, 0 ≤ n ∧ n ≤ 4294967295
  ob : 0 ≤ m.bits ∧ m.bits ≤ 255
theorem isM_iff {m : Meth} : isM m = true ↔ IsM m := by
  simp only [isM, okT, okN, okN1, okB, Bool.and_eq_true, beq_iff_eq, Bool.or_eq_true, List.all_eq_true, decide_eq_true_eq]
  constructor
  · rintro ⟨h1, h2, h3, h4, h5, h6, h7⟩
    exact ⟨h1, h2, h3, fun e => by rw [e] at h4; simpa using h4, h5, h6, h7⟩
  · rintro ⟨h1, h2, h3, h4, h5, h6, h7⟩
    refine ⟨h1, h2, h3, ?_, h5, h6, h7⟩
    cases e : shB m.kind with
    | true => exact .inl rfl
    | false => exact .inr (h4 e)

/-! ### bytes -/
def rawT (S : List (List UInt8)) : List UInt8 := S.flatMap fun t => oct t.length :: t
def rawN (N : List Int) : List UInt8 := N.flatMap (low 4)
def rawB (c : Bool) (x : Int) : List UInt8 := if c then low 1 x else []
def rawM (m : Meth) : List UInt8 := low 2 m.kind ++ (rawT m.S ++ (rawN m.N ++ rawB (shB m.kind) m.bits))
def bytesM (m : Meth) : List UInt8 := if isM m then rawM m else []
theorem rawT_cons (t : List UInt8) (S : List (List UInt8)) : rawT (t :: S) = oct t.length :: t ++ rawT S := rfl
theorem rawN_cons (n : Int) (N : List Int) : rawN (n :: N) = low 4 n ++ rawN N := rfl
theorem bytesM_of {m : Meth} (h : IsM m) : bytesM m = rawM m := if_pos (isM_iff.2 h)
theorem bytesM_none {m : Meth} (h : isM m = false) : bytesM m = [] := by unfold bytesM; rw [h]; rfl

theorem rawT_len {S : List (List UInt8)} (h : ∀ t ∈ S, t.length ≤ 255) : (rawT S).length ≤ 256 * S.length := by
  induction S with
  | nil => simp [rawT]
  | cons t S ih =>
    have h1 := h t List.mem_cons_self
    have h2 := ih fun t ht => h t (List.mem_cons_of_mem _ ht)
    rw [rawT_cons, List.length_append, List.length_cons, List.length_cons]
    omega
theorem rawN_len (N : List Int) : (rawN N).length = 4 * N.length := by
  induction N with
  | nil => rfl
  | cons n N ih => rw [rawN_cons, List.length_append, low_length, ih, List.length_cons]; omega
theorem rawB_len (c : Bool) (x : Int) : (rawB c x).length = c.toNat := by cases c <;> simp [rawB, low_length]
theorem rawM_len {m : Meth} (h : IsM m) : 2 ≤ (rawM m).length ∧ (rawM m).length ≤ 1000 := by
  have h1 := rawT_len h.ot
  have h2 := rawN_len m.N
  have h3 := rawB_len (shB m.kind) m.bits
  have h4 := shT_le m.kind
  have h5 := shN_le m.kind
  have h6 := Bool.toNat_le (shB m.kind)
  have h7 := h.lt
  have h8 := h.ln
  simp only [rawM, List.length_append, low_length]
  omega
theorem bytesM_len (m : Meth) : (bytesM m).length ≤ 1000 := by
  cases h : isM m with
  | false => rw [bytesM_none h]; simp
  | true => rw [bytesM_of (isM_iff.1 h)]; exact (rawM_len (isM_iff.1 h)).2

/-! ### reading -/
def bad : Meth × Int := (zeroM, 502)
def goE (k : Int) (S : List (List UInt8)) (N : List Int) (x : Int) (r : List UInt8) : Meth × Int := if r = [] then (⟨k, S, N, x⟩, 0) else bad
def goB (k : Int) (S : List (List UInt8)) (N : List Int) (c : Bool) (r : List UInt8) : Meth × Int :=
  if c then (if (takeL r 1).2.2 = 0 then goE k S N (takeL r 1).1 (takeL r 1).2.1 else bad) else goE k S N 0 r
def goN (k : Int) (S : List (List UInt8)) (N : List Int) : Nat → Bool → List UInt8 → Meth × Int
  | 0, c, r => goB k S N c r
  | b + 1, c, r => if (takeL r 4).2.2 = 0 then goN k S (N ++ [((takeL r 4).1 : Int)]) b c (takeL r 4).2.1 else bad
def goT (k : Int) (S : List (List UInt8)) : Nat → Nat → Bool → List UInt8 → Meth × Int
  | 0, b, c, r => goN k S [] b c r
  | a + 1, b, c, r => if (takeTextL r 255).2.2 = 0 then goT k (S ++ [(takeTextL r 255).1]) a b c (takeTextL r 255).2.1 else bad
def readM (s : List UInt8) : Meth × Int :=
  if s.length < 2 then bad else if isKd (num (s.take 2)) then goT (num (s.take 2)) [] (shT (num (s.take 2))) (shN (num (s.take 2))) (shB (num (s.take 2))) (s.drop 2) else (zeroM, 540)

section
variable {k x : Int} {S T : List (List UInt8)} {N M : List Int} {a b : Nat} {c : Bool} {r : List UInt8}

/-! what is put is read -/
theorem goE_nil : goE k S N x [] = (⟨k, S, N, x⟩, 0) := if_pos rfl
theorem goE_more (h : r ≠ []) : goE k S N x r = bad := if_neg h
theorem goB_put (hx : 0 ≤ x ∧ x ≤ 255) (hc : c = false → x = 0) : goB k S N c (rawB c x ++ r) = goE k S N x r := by
  cases c with
  | false => simp [goB, rawB, hc rfl]
  | true =>
    obtain ⟨y, rfl⟩ := Int.eq_ofNat_of_zero_le hx.1
    have : takeL (low 1 (y : Int) ++ r) 1 = (y, r, 0) := takeL_low 1 y (by decide) (by omega) r
    simp only [goB, rawB, if_true]
    rw [this]
    simp
theorem goN_put (hx : 0 ≤ x ∧ x ≤ 255) (hc : c = false → x = 0) (h : ∀ n ∈ M, 0 ≤ n ∧ n ≤ 4294967295) : goN k S N M.length c (rawN M ++ (rawB c x ++ r)) = goE k S (N ++ M) x r := by
  induction M generalizing N with
  | nil => rw [List.append_nil]; exact goB_put hx hc
  | cons n M ih =>
    obtain ⟨h1, h2⟩ := h n List.mem_cons_self
    obtain ⟨y, rfl⟩ := Int.eq_ofNat_of_zero_le h1
    have : takeL (low 4 (y : Int) ++ (rawN M ++ (rawB c x ++ r))) 4 = (y, rawN M ++ (rawB c x ++ r), 0) := takeL_low 4 y (by decide) (by omega) (rawN M ++ (rawB c x ++ r))
    rw [rawN_cons, List.append_assoc, List.length_cons, goN, this]
    simp only [if_true]
    rw [ih fun n hn => h n (List.mem_cons_of_mem _ hn), List.append_assoc]
    rfl
theorem goT_put (hx : 0 ≤ x ∧ x ≤ 255) (hc : c = false → x = 0) (h : ∀ n ∈ M, 0 ≤ n ∧ n ≤ 4294967295) (ht : ∀ t ∈ T, t.length ≤ 255) :
    goT k S T.length M.length c (rawT T ++ (rawN M ++ (rawB c x ++ r))) = goE k (S ++ T) M x r := by
  induction T generalizing S with
  | nil =>
    rw [List.append_nil]
    exact goN_put (N := []) hx hc h
  | cons t T ih =>
    have h1 := ht t List.mem_cons_self
    have := takeTextL_text (l := t) (r := rawT T ++ (rawN M ++ (rawB c x ++ r))) (most := 255) h1 (by omega)
    rw [rawT_cons, List.append_assoc, List.length_cons, goT, this]
    simp only [if_true]
    rw [ih fun t h => ht t (List.mem_cons_of_mem _ h), List.append_assoc]
    rfl
end
theorem low2_num {k : Int} (h : isKd k = true) (r : List UInt8) : (num ((low 2 k ++ r).take 2) : Int) = k ∧ (low 2 k ++ r).drop 2 = r := by
  obtain ⟨h1, h2⟩ := isKd_iff.1 h
  obtain ⟨y, rfl⟩ := Int.eq_ofNat_of_zero_le (show (0 : Int) ≤ k by omega)
  have hl := low_length 2 (y : Int)
  rw [List.take_left' hl, List.drop_left' hl, num_low, Nat.mod_eq_of_lt (by omega)]
  exact ⟨rfl, rfl⟩
theorem readM_put {m : Meth} (h : IsM m) (r : List UInt8) : readM (rawM m ++ r) = goE m.kind m.S m.N m.bits r := by
  have hl := (rawM_len h).1
  obtain ⟨e1, e2⟩ := low2_num h.kd (rawT m.S ++ (rawN m.N ++ rawB (shB m.kind) m.bits) ++ r)
  unfold readM
  rw [if_neg (by rw [List.length_append]; omega), rawM, List.append_assoc, e1, e2, if_pos h.kd, ← h.lt, ← h.ln, List.append_assoc, List.append_assoc]
  exact goT_put (S := []) h.ob h.nb h.on h.ot
theorem readM_raw {m : Meth} (h : IsM m) : readM (rawM m) = (m, 0) := by
  have := readM_put h []
  rwa [List.append_nil, goE_nil] at this
theorem readM_more {m : Meth} (h : IsM m) {r : List UInt8} (hr : r ≠ []) : readM (rawM m ++ r) = bad := by rw [readM_put h, goE_more hr]

/-! what is read was put -/
theorem num_inj : ∀ {l m : List UInt8}, l.length = m.length → num l = num m → l = m
  | [], [], _, _ => rfl
  | [], _ :: _, h, _ => by simp at h
  | _ :: _, [], h, _ => by simp at h
  | b :: l, c :: m, h, e => by
    have hl : l.length = m.length := by simpa using h
    rw [num_cons, num_cons, hl] at e
    have h1 := num_lt l
    have h2 := num_lt m
    rw [hl] at h1
    generalize 256 ^ m.length = p at *
    have hb : b.toNat = c.toNat := by
      rcases Nat.lt_trichotomy b.toNat c.toNat with h | h | h
      · have : (b.toNat + 1) * p ≤ c.toNat * p := Nat.mul_le_mul_right _ h
        rw [Nat.add_mul] at this
        omega
      · exact h
      · have : (c.toNat + 1) * p ≤ b.toNat * p := Nat.mul_le_mul_right _ h
        rw [Nat.add_mul] at this
        omega
    rw [hb] at e
    rw [num_inj hl (by omega), UInt8.toNat_inj.1 hb]
theorem low_num (l : List UInt8) : low l.length (num l : Int) = l :=
  num_inj (low_length _ _) (by rw [num_low, Nat.mod_eq_of_lt (num_lt l)])
theorem takeL_back {k : Nat} (hk : k ≤ 7) {l : List UInt8} (h : (takeL l k).2.2 = 0) : l = low k ((takeL l k).1 : Int) ++ (takeL l k).2.1 ∧ (takeL l k).1 < 256 ^ k := by
  unfold takeL at h ⊢
  rw [heldN_of hk] at h ⊢
  by_cases hl : l.length < k
  · rw [if_pos hl] at h
    exact absurd h (show ¬ (11 : Int) = 0 by decide)
  · rw [if_neg hl]
    simp only
    have h1 : (l.take k).length = k := by rw [List.length_take]; omega
    have h2 := low_num (l.take k)
    have h3 := num_lt (l.take k)
    rw [h1] at h2 h3
    rw [h2, List.take_append_drop]
    exact ⟨rfl, h3⟩
theorem takeTextL_back {l : List UInt8} (h : (takeTextL l 255).2.2 = 0) : l = oct (takeTextL l 255).1.length :: (takeTextL l 255).1 ++ (takeTextL l 255).2.1 ∧ (takeTextL l 255).1.length ≤ 255 := by
  cases l with
  | nil => exact absurd h (by decide)
  | cons b r =>
    have hb := u8_lt b
    unfold takeTextL at h ⊢
    simp only at h ⊢
    rw [if_neg (by omega)] at h ⊢
    by_cases hl : r.length < b.toNat
    · rw [if_pos hl] at h
      exact absurd h (show ¬ (11 : Int) = 0 by decide)
    · rw [if_neg hl]
      simp only
      have h1 : (r.take b.toNat).length = b.toNat := by rw [List.length_take]; omega
      have h2 : oct (b.toNat : Int) = b := by
        apply UInt8.toNat_inj.1
        have := oct_nat (b.toNat : Int)
        omega
      rw [h1, h2, List.cons_append, List.take_append_drop]
      exact ⟨rfl, by omega⟩

section
variable {k x : Int} {S : List (List UInt8)} {N : List Int} {a b : Nat} {c : Bool} {r : List UInt8} {m : Meth}
theorem bad_ne : bad ≠ (m, 0) := fun h => absurd (congrArg Prod.snd h) (show ¬ (502 : Int) = 0 by decide)
theorem goE_back (h : goE k S N x r = (m, 0)) : r = [] ∧ m = ⟨k, S, N, x⟩ := by
  unfold goE at h
  by_cases hr : r = []
  · rw [if_pos hr] at h
    exact ⟨hr, (congrArg Prod.fst h).symm⟩
  · rw [if_neg hr] at h
    exact (bad_ne h).elim
theorem goB_back (h : goB k S N c r = (m, 0)) : ∃ y : Int, (0 ≤ y ∧ y ≤ 255) ∧ (c = false → y = 0) ∧ r = rawB c y ∧ m = ⟨k, S, N, y⟩ := by
  unfold goB at h
  cases c with
  | false =>
    rw [if_neg (by decide)] at h
    obtain ⟨h1, h2⟩ := goE_back h
    exact ⟨0, by omega, fun _ => rfl, h1, h2⟩
  | true =>
    rw [if_pos rfl] at h
    by_cases he : (takeL r 1).2.2 = 0
    · rw [if_pos he] at h
      obtain ⟨h1, h2⟩ := goE_back h
      obtain ⟨h3, h4⟩ := takeL_back (k := 1) (by decide) he
      have h4' : (takeL r 1).1 < 256 ^ 1 := h4
      refine ⟨((takeL r 1).1 : Int), by omega, fun e => (Bool.noConfusion e), ?_, h2⟩
      have h5 : r = low 1 ((takeL r 1).1 : Int) ++ (takeL r 1).2.1 := h3
      rw [h1, List.append_nil] at h5
      exact h5
    · rw [if_neg he] at h
      exact (bad_ne h).elim
theorem goN_back : ∀ {b : Nat} {N : List Int} {r : List UInt8}, goN k S N b c r = (m, 0) → ∃ (M : List Int) (y : Int), M.length = b ∧ (∀ n ∈ M, 0 ≤ n ∧ n ≤ 4294967295) ∧ (0 ≤ y ∧ y ≤ 255) ∧ (c = false → y = 0) ∧ r = rawN M ++ rawB c y ∧ m = ⟨k, S, N ++ M, y⟩
  | 0, N, r, h => by
    obtain ⟨y, h1, h2, h3, h4⟩ := goB_back h
    exact ⟨[], y, rfl, by simp, h1, h2, h3, by rw [List.append_nil]; exact h4⟩
  | b + 1, N, r, h => by
    rw [goN] at h
    by_cases he : (takeL r 4).2.2 = 0
    · rw [if_pos he] at h
      obtain ⟨M, y, h1, h2, h3, h4, h5, h6⟩ := goN_back h
      obtain ⟨h7, h8⟩ := takeL_back (k := 4) (by decide) he
      have h7' : r = low 4 ((takeL r 4).1 : Int) ++ (takeL r 4).2.1 := h7
      have h8' : (takeL r 4).1 < 256 ^ 4 := h8
      refine ⟨((takeL r 4).1 : Int) :: M, y, by rw [List.length_cons, h1], ?_, h3, h4, ?_, ?_⟩
      · intro n hn
        rcases List.mem_cons.1 hn with rfl | hn
        · omega
        · exact h2 n hn
      · rw [rawN_cons, List.append_assoc, ← h5]
        exact h7'
      · rw [h6, List.append_assoc]
        rfl
    · rw [if_neg he] at h
      exact (bad_ne h).elim
theorem goT_back : ∀ {a : Nat} {S : List (List UInt8)} {r : List UInt8}, goT k S a b c r = (m, 0) → ∃ (T : List (List UInt8)) (M : List Int) (y : Int), T.length = a ∧ (∀ t ∈ T, t.length ≤ 255) ∧ M.length = b ∧ (∀ n ∈ M, 0 ≤ n ∧ n ≤ 4294967295) ∧ (0 ≤ y ∧ y ≤ 255) ∧ (c = false → y = 0) ∧
    r = rawT T ++ (rawN M ++ rawB c y) ∧ m = ⟨k, S ++ T, M, y⟩
  | 0, S, r, h => by
    obtain ⟨M, y, h1, h2, h3, h4, h5, h6⟩ := goN_back h
    exact ⟨[], M, y, rfl, by simp, h1, h2, h3, h4, h5, by rw [List.append_nil]; exact h6⟩
  | a + 1, S, r, h => by
    rw [goT] at h
    by_cases he : (takeTextL r 255).2.2 = 0
    · rw [if_pos he] at h
      obtain ⟨T, M, y, h0, h0', h1, h2, h3, h4, h5, h6⟩ := goT_back h
      obtain ⟨h7, h8⟩ := takeTextL_back he
      refine ⟨(takeTextL r 255).1 :: T, M, y, by rw [List.length_cons, h0], ?_, h1, h2, h3, h4, ?_, ?_⟩
      · intro t ht
        rcases List.mem_cons.1 ht with rfl | ht
        · exact h8
        · exact h0' t ht
      · rw [rawT_cons, List.append_assoc, ← h5]
        exact h7
      · rw [h6, List.append_assoc]
        rfl
    · rw [if_neg he] at h
      exact (bad_ne h).elim
end
/-- What is read is a method whose bytes those are. -/
theorem readM_back {s : List UInt8} {m : Meth} (h : readM s = (m, 0)) : IsM m ∧ rawM m = s := by
  unfold readM at h
  by_cases hl : s.length < 2
  · rw [if_pos hl] at h
    exact (bad_ne h).elim
  rw [if_neg hl] at h
  cases hk : isKd (num (s.take 2)) with
  | false =>
    rw [hk, if_neg (by decide)] at h
    exact absurd (congrArg Prod.snd h) (show ¬ (540 : Int) = 0 by decide)
  | true =>
    rw [hk, if_pos rfl] at h
    obtain ⟨T, M, y, h0, h0', h1, h2, h3, h4, h5, h6⟩ := goT_back h
    have h7 : (s.take 2).length = 2 := by rw [List.length_take]; omega
    have h8 := low_num (s.take 2)
    rw [h7] at h8
    subst h6
    refine ⟨⟨hk, h0, h1, h4, h0', h2, h3⟩, ?_⟩
    show low 2 _ ++ (rawT T ++ (rawN M ++ rawB _ y)) = s
    rw [h8, ← h5, List.take_append_drop]

theorem goE_err (k : Int) (S : List (List UInt8)) (N : List Int) (x : Int) (r : List UInt8) : (goE k S N x r).2 = 0 ∨ goE k S N x r = bad := by
  unfold goE
  by_cases h : r = []
  · rw [if_pos h]; exact .inl rfl
  · rw [if_neg h]; exact .inr rfl
theorem goN_err (k : Int) (S : List (List UInt8)) (c : Bool) : ∀ (b : Nat) (N : List Int) (r : List UInt8), (goN k S N b c r).2 = 0 ∨ goN k S N b c r = bad
  | 0, N, r => by
    unfold goN goB
    split
    · split
      · exact goE_err _ _ _ _ _
      · exact .inr rfl
    · exact goE_err _ _ _ _ _
  | b + 1, N, r => by
    rw [goN]
    split
    · exact goN_err k S c b _ _
    · exact .inr rfl
theorem goT_err (k : Int) (b : Nat) (c : Bool) : ∀ (a : Nat) (S : List (List UInt8)) (r : List UInt8), (goT k S a b c r).2 = 0 ∨ goT k S a b c r = bad
  | 0, S, r => goN_err k S c b [] r
  | a + 1, S, r => by
    rw [goT]
    split
    · exact goT_err k b c a _ _
    · exact .inr rfl
theorem readM_err (s : List UInt8) : (readM s).2 = 0 ∨ readM s = bad ∨ readM s = (zeroM, 540) := by
  unfold readM
  split
  · exact .inr (.inl rfl)
  · split
    · rcases goT_err _ _ _ _ _ _ with h | h
      · exact .inl h
      · exact .inr (.inl h)
    · exact .inr (.inr rfl)
/-- Cut off, it lacks. -/
theorem readM_cut {m : Meth} (h : IsM m) {n : Nat} (hn : n < (rawM m).length) : readM ((rawM m).take n) = bad := by
  rcases readM_err ((rawM m).take n) with h1 | h1 | h1
  · exfalso
    obtain ⟨h2, h3⟩ := readM_back (s := (rawM m).take n) (m := (readM ((rawM m).take n)).1) (by rw [← h1])
    have h4 := readM_more h2 (r := (rawM m).drop n) (by intro e; have := congrArg List.length e; rw [List.length_drop] at this; simp at this; omega)
    rw [h3, List.take_append_drop, readM_raw h] at h4
    exact bad_ne h4.symm
  · exact h1
  · exfalso
    unfold readM at h1
    have hl2 := (rawM_len h).1
    have hle : ((rawM m).take n).length = n := by rw [List.length_take]; omega
    by_cases h2 : n < 2
    · rw [if_pos (by omega)] at h1
      exact absurd (congrArg Prod.snd h1) (by decide)
    · rw [if_neg (by omega), List.take_take, Nat.min_eq_left (by omega)] at h1
      have h3 : (num ((rawM m).take 2) : Int) = m.kind := (low2_num h.kd _).1
      rw [h3, if_pos h.kd] at h1
      rcases goT_err m.kind (shN m.kind) (shB m.kind) (shT m.kind) [] (((rawM m).take n).drop 2) with h4 | h4
      · rw [h1] at h4
        exact absurd h4 (by decide)
      · rw [h4] at h1
        exact absurd (congrArg Prod.snd h1) (by decide)
theorem rawM_inj {a b : Meth} (ha : IsM a) (hb : IsM b) (h : rawM a = rawM b) : a = b := by
  have h1 := readM_raw ha
  rw [h, readM_raw hb] at h1
  exact (congrArg Prod.fst h1).symm
end Go.Proofs.YtipinglchpmgaaaDoor
