/- The two slabs beside one another: each step on both. -/
import Derived.Test.YtpeedcghpdnogaaRefD
namespace Go.Proofs.Ytpeedcghpdnogaa
open Go.RowKit

def JJ (B : Nat) (w0 w : World) (sb rb : Nat) (room : Int) (V : SV) (L : List (ByteArray × Int)) (used live : Int) (F : List (Nat × Obj)) : Prop :=
  ∃ g v Fs, SlabG.sb g = sb ∧ g.v = V ∧ g.Wf ∧ V.free + V.used ≤ 100000 ∧ SliceIs 65 2 v L.length (rcells L) Fs ∧ St B w0 w (g.heap ++ (((rb, refObj v room used live) :: Fs) ++ F))

section
variable {B : Nat} {w0 w : World} {sb rb : Nat} {room : Int} {V : SV} {L : List (ByteArray × Int)} {used live : Int} {F : List (Nat × Obj)}

theorem JJ.slab (h : JJ B w0 w sb rb room V L used live F) : ∃ F', SlabIs B w0 w sb V F' ∧ ∀ w' V', SlabIs B w0 w' sb V' F' → JJ B w0 w' sb rb room V' L used live F := by
  obtain ⟨g, v, Fs, h1, h2, h3, h4, h5, h6⟩ := h
  refine ⟨_, ⟨g, h1, h2, h3, h4, h6⟩, ?_⟩
  rintro w' V' ⟨g', e1, e2, e3, e4, e5⟩
  exact ⟨g', v, Fs, e1, e2, e3, e4, h5, e5⟩

theorem JJ.ref (h : JJ B w0 w sb rb room V L used live F) : ∃ A, RefIs B w0 w rb L room used live A ∧ ∀ w' L' used' live', RefIs B w0 w' rb L' room used' live' A → JJ B w0 w' sb rb room V L' used' live' F := by
  obtain ⟨g, v, Fs, h1, h2, h3, h4, h5, h6⟩ := h
  refine ⟨g.heap ++ F, ⟨v, Fs, h5, h6.perm (List.perm_append_comm_assoc _ _ _)⟩, ?_⟩
  rintro w' L' used' live' ⟨v', Fs', e1, e2⟩
  exact ⟨g, v', Fs', h1, h2, h3, h4, e1, e2.perm (List.perm_append_comm_assoc g.heap ((rb, refObj v' room used' live') :: Fs') F).symm⟩

theorem JJ.st (h : JJ B w0 w sb rb room V L used live F) : ∃ X, St B w0 w (X ++ F) ∧ ∀ w' F', St B w0 w' (X ++ F') → JJ B w0 w' sb rb room V L used live F' := by
  obtain ⟨g, v, Fs, h1, h2, h3, h4, h5, h6⟩ := h
  refine ⟨g.heap ++ ((rb, refObj v room used live) :: Fs), by rw [List.append_assoc]; exact h6, fun w' F' h' => ⟨g, v, Fs, h1, h2, h3, h4, h5, ?_⟩⟩
  rw [List.append_assoc] at h'
  exact h'

theorem JJ.alloc (h : JJ B w0 w sb rb room V L used live F) (o : Obj) : JJ B w0 (w.alloc o) sb rb room V L used live ((w.heap.size, o) :: F) := by
  obtain ⟨X, h1, h2⟩ := h.st
  exact h2 _ _ ((h1.alloc o).perm List.perm_middle.symm)
theorem JJ.sub {F' : List (Nat × Obj)} (h : JJ B w0 w sb rb room V L used live F) (hs : F'.Sublist F) : JJ B w0 w sb rb room V L used live F' := by
  obtain ⟨X, h1, h2⟩ := h.st
  exact h2 _ _ (h1.sub ((List.Sublist.refl X).append hs))
theorem JJ.drew (h : JJ B w0 w sb rb room V L used live F) : JJ B w0 w.drew sb rb room V L used live F := by
  obtain ⟨X, h1, h2⟩ := h.st
  exact h2 _ _ h1.drew
theorem JJ.drewN (h : JJ B w0 w sb rb room V L used live F) (n : Nat) : JJ B w0 (w.drewN n) sb rb room V L used live F := by
  obtain ⟨X, h1, h2⟩ := h.st
  exact h2 _ _ (h1.drewN n)
theorem JJ.cell (h : JJ B w0 w sb rb room V L used live F) {b : Nat} {c : Array Value} {T : TypeId} (hm : (b, .cells c T) ∈ F) {i : Nat} {v : Value} (hi : c[i]? = some v) : w.cell? ⟨b, i, none⟩ = some v := by
  obtain ⟨X, h1, h2⟩ := h.st
  exact h1.cell (b := b) (i := i) (List.mem_append_right X hm) hi
theorem JJ.base (h : JJ B w0 w sb rb room V L used live F) : B ≤ w.heap.size := by
  obtain ⟨X, h1, h2⟩ := h.st
  exact h1.base
theorem JJ.below (h : JJ B w0 w sb rb room V L used live F) : Below B w0 w := by
  obtain ⟨X, h1, h2⟩ := h.st
  exact h1.below
theorem JJ.row {T : TypeId} {size n : Nat} {v : Value} {xs : List Value} (h : JJ B w0 w sb rb room V L used live F) (hs : SliceIs T size v n xs F) : w.ownsRow B T size v n xs := by
  obtain ⟨X, h1, h2⟩ := h.st
  exact hs.row h1
theorem JJ.appended {T : TypeId} {size n n' : Nat} {v v' : Value} {xs xs' : List Value} {w' : World} (h : JJ B w0 w sb rb room V L used live F) (hs : SliceIs T size v n xs F)
    (hown : w'.ownsRow B T size v' n' xs') (hg : w.grownBy w' v.ownBlock) (hat : v'.ownBlock = v.ownBlock ∨ v'.ownBlock = some w.heap.size) :
    ∃ F', SliceIs T size v' n' xs' F' ∧ JJ B w0 w' sb rb room V L used live F' := by
  obtain ⟨X, h1, h2⟩ := h.st
  obtain ⟨F', e1, e2⟩ := hs.appended h1 hown hg hat
  exact ⟨F', e1, h2 _ _ e2⟩
theorem JJ.free0 (h : JJ B w0 w sb rb room V L used live F) : 0 ≤ V.free := by
  obtain ⟨g, v, Fs, h1, rfl, h3, h4, h5, h6⟩ := h
  exact h3.free0

theorem viewOf_none {k : Int} (h : rcount L k = 0) : (viewOf room L).seek k = none := alive_none h
theorem viewOf_some {j : Nat} {x : ByteArray × Int} (hx : L[j]? = some x) (h : x.2 ≠ 0) : (viewOf room L).seek ((j : Int) + 1) = some ((j : Int) + 1, x.2, x.1.data.toList) := alive_some hx h

/-- The rows' bounds behind n steps. -/
structure Few (room : Int) (L : List (ByteArray × Int)) (n : Nat) : Prop where
  room0 : 0 ≤ room
  room1 : room ≤ 100000
  len : L.length ≤ n
  top : n ≤ 80
  held : ∀ x ∈ L, 0 ≤ x.2 ∧ x.2 ≤ n

theorem Few.bs {n : Nat} (h : Few room L n) : ∀ x ∈ (viewOf room L).bs, x.2.1 < 9223372036854775807 := by
  intro y hy
  obtain ⟨_, _, x, hx, e, _⟩ := alive_keys hy
  have := (h.held x hx).2
  have := h.top
  omega

abbrev PP (B : Nat) (w0 w : World) (sb rb : Nat) (room : Int) (L : List (ByteArray × Int)) (F : List (Nat × Obj)) : Prop := JJ B w0 w sb rb room (viewOf room L) L (usedOf L) (liveOf L) F

/-- The row that an argument names: both handles of one body, or none at all. -/
def Names (L : List (ByteArray × Int)) (at_ is : Int) : Prop := (at_ < 1 ∧ is = 0) ∨ ∃ j : Nat, j < L.length ∧ at_ = (j : Int) + 1 ∧ is = (j : Int) + 1

theorem Names.counts {at_ is : Int} (h : Names L at_ is) : rcount L at_ = rcount L is := by
  rcases h with ⟨h1, rfl⟩ | ⟨j, _, rfl, rfl⟩
  · unfold rcount
    rw [if_pos h1, if_pos (by decide)]
  · rfl

theorem put_both {n : Nat} (h : PP B w0 w sb rb room L F) (hb : Few room L n) (s : ByteArray) (hs : s.size ≤ maxLen) :
    ∃ a c L', (a = 0 ∧ (c = 12 ∨ c = 15) ∧ L' = L ∨ a = (L.length : Int) + 1 ∧ c = 0 ∧ L' = L ++ [(s, 1)]) ∧
      Calls Try.prog 11 #[ptr sb, .string s] w (fun e w' => e = .returned (.tuple #[.int .i64 a, .int .i64 c]) ∧ JJ B w0 w' sb rb room (viewOf room L') L (usedOf L) (liveOf L) F) ∧
      ∀ w', JJ B w0 w' sb rb room (viewOf room L') L (usedOf L) (liveOf L) F → Calls Try.prog 12 #[ptr rb, .string s] w' (fun e w' => e = .returned (.tuple #[.int .i64 a, .int .i64 c]) ∧ PP B w0 w' sb rb room L' F) := by
  have hr0 := hb.room0
  have hr1 := hb.room1
  have hn := hb.top
  have hln := hb.len
  have hu0 := used_ge L
  have hfree : 0 ≤ room - usedOf L := h.free0
  have hal := alive_len 0 L
  have hlast : (viewOf room L).last < 4611686018427387904 := by
    show (L.length : Int) < _
    omega
  have hz : s.data.toList.length = s.size := by simp
  obtain ⟨F', h1, h2⟩ := h.slab
  have hput := put_is h1 s hs hlast
  unfold SV.put at hput
  rw [hz] at hput
  have hlv : liveOf L = (alive 0 L).length := rfl
  by_cases c1 : 256 < s.size
  · rw [if_pos c1] at hput
    refine ⟨0, 15, L, .inl ⟨rfl, .inr rfl, rfl⟩, hput.mono fun _ _ ⟨he, hw⟩ => ⟨he, h2 _ _ hw⟩, fun w' h' => (rput_large s c1 hs).mono fun _ _ ⟨he, hw⟩ => ⟨he, hw ▸ h'⟩⟩
  · rw [if_neg c1] at hput
    by_cases c2 : room - usedOf L < cls s.size
    · rw [if_pos (.inl c2)] at hput
      refine ⟨0, 12, L, .inl ⟨rfl, .inl rfl, rfl⟩, hput.mono fun _ _ ⟨he, hw⟩ => ⟨he, h2 _ _ hw⟩, fun w' h' => ?_⟩
      obtain ⟨A, e1, e2⟩ := h'.ref
      exact (rput_full e1 hr0 hr1 hu0 (by omega) s (by omega) (.inl c2)).mono fun _ _ ⟨he, hw⟩ => ⟨he, e2 _ _ _ _ hw⟩
    · have hno : ¬ ((viewOf room L).free < cls s.size ∨ 400 ≤ (viewOf room L).bs.length) := by
        show ¬ (room - usedOf L < cls s.size ∨ 400 ≤ (alive 0 L).length)
        omega
      rw [if_neg hno] at hput
      have hv : (⟨(viewOf room L).free - cls s.size, (viewOf room L).last + 1, (viewOf room L).bs ++ [((viewOf room L).last + 1, 1, s.data.toList)]⟩ : SV) = viewOf room (L ++ [(s, 1)]) := by
        unfold viewOf
        rw [used_new, alive_new, List.length_append]
        simp only [SV.mk.injEq, List.length_cons, List.length_nil]
        refine ⟨by omega, by omega, trivial⟩
      rw [hv] at hput
      refine ⟨_, 0, _, .inr ⟨rfl, rfl, rfl⟩, hput.mono fun _ _ ⟨he, hw⟩ => ⟨he, h2 _ _ hw⟩, fun w' h' => ?_⟩
      obtain ⟨A, e1, e2⟩ := h'.ref
      refine (rput_ok e1 hr0 hr1 hu0 (by omega) (by omega) (by omega) s (by omega) (by omega) (by omega)).mono fun _ _ ⟨he, hw⟩ => ⟨he, ?_⟩
      unfold PP
      rw [used_new, live_new]
      exact e2 _ _ _ _ hw

theorem JJ.rlive (h : JJ B w0 w sb rb room V L used live F) : w.cell? ⟨rb, 3, none⟩ = some (.int .i64 live) := by
  obtain ⟨A, ⟨v, Fs, h1, h2⟩, _⟩ := h.ref
  exact h2.cell (b := rb) (i := 3) List.mem_cons_self rfl

theorem Few.put {n : Nat} (h : Few room L n) (hn : n < 80) (s : ByteArray) : Few room (L ++ [(s, 1)]) (n + 1) := by
  refine ⟨h.room0, h.room1, by rw [List.length_append]; have := h.len; simp; omega, hn, fun x hx => ?_⟩
  rcases List.mem_append.1 hx with hx | hx
  · have := h.held x hx; omega
  · obtain rfl := List.mem_singleton.1 hx
    constructor
    · show (0 : Int) ≤ 1
      decide
    · show (1 : Int) ≤ _
      omega
theorem Few.more {n : Nat} (h : Few room L n) (hn : n < 80) : Few room L (n + 1) :=
  ⟨h.room0, h.room1, by have := h.len; omega, hn, fun x hx => by have := h.held x hx; omega⟩
theorem Few.set {n j : Nat} (h : Few room L n) (hn : n < 80) (s : ByteArray) (c : Int) (h0 : 0 ≤ c) (h1 : c ≤ n + 1) : Few room (L.set j (s, c)) (n + 1) := by
  refine ⟨h.room0, h.room1, by rw [List.length_set]; have := h.len; omega, hn, fun x hx => ?_⟩
  rcases List.mem_or_eq_of_mem_set hx with hx | rfl
  · have := h.held x hx; omega
  · exact ⟨h0, by show c ≤ _; omega⟩

theorem count_pos {j : Nat} {x : ByteArray × Int} (hx : L[j]? = some x) : rcount L ((j : Int) + 1) = x.2 := by
  unfold rcount
  rw [if_neg (by omega), Int.add_sub_cancel, Int.toNat_natCast, hx]

theorem hold_both {n : Nat} (h : PP B w0 w sb rb room L F) (hb : Few room L n) (hn : n < 80) {at_ is : Int} (hm : Names L at_ is) :
    ∃ c L', L'.length = L.length ∧ Few room L' (n + 1) ∧
      Calls Try.prog 13 #[ptr sb, .int .i64 at_] w (fun e w' => e = .returned (.int .i64 c) ∧ JJ B w0 w' sb rb room (viewOf room L') L (usedOf L) (liveOf L) F) ∧
      ∀ w', JJ B w0 w' sb rb room (viewOf room L') L (usedOf L) (liveOf L) F → Calls Try.prog 14 #[ptr rb, .int .i64 is] w' (fun e w' => e = .returned (.int .i64 c) ∧ PP B w0 w' sb rb room L' F) := by
  have hln := hb.len
  obtain ⟨F', h1, h2⟩ := h.slab
  have hold := hold_is h1 at_ hb.bs
  unfold SV.hold at hold
  by_cases c0 : rcount L at_ = 0
  · rw [viewOf_none c0] at hold
    refine ⟨13, L, rfl, hb.more hn, hold.mono fun _ _ ⟨he, hw⟩ => ⟨he, h2 _ _ hw⟩, fun w' h' => ?_⟩
    obtain ⟨A, e1, e2⟩ := h'.ref
    exact (rhold_of (rturn_none e1 (by omega) (hm.counts ▸ c0) 1)).mono fun _ _ ⟨he, hw⟩ => ⟨he, hw ▸ h'⟩
  · rcases hm with ⟨hm, _⟩ | ⟨j, hj, rfl, rfl⟩
    · exact absurd (by unfold rcount; rw [if_pos hm]) c0
    · have hx : L[j]? = some L[j] := List.getElem?_eq_getElem hj
      generalize L[j] = x at hx
      rw [count_pos hx] at c0
      have hh := hb.held x (List.mem_of_getElem? hx)
      have htop := hb.top
      rw [viewOf_some hx c0] at hold
      have hv : (viewOf room L).turn ((j : Int) + 1) 1 = viewOf room (L.set j (x.1, x.2 + 1)) := by
        unfold SV.turn viewOf
        rw [used_stay hx c0 (by omega), List.length_set, ← alive_turn hx c0 (by omega)]
      simp only [hv] at hold
      refine ⟨0, _, List.length_set, hb.set hn _ _ (by omega) (by omega), hold.mono fun _ _ ⟨he, hw⟩ => ⟨he, h2 _ _ hw⟩, fun w' h' => ?_⟩
      obtain ⟨A, e1, e2⟩ := h'.ref
      refine (rhold_of (rturn_stay e1 (by omega) hx c0 1 (by omega) (by omega) (by omega) (by omega) (by omega))).mono fun _ _ ⟨he, hw⟩ => ⟨he, ?_⟩
      unfold PP
      rw [used_stay hx c0 (by omega), live_stay hx c0 (by omega)]
      exact e2 _ _ _ _ hw

theorem drop_both {n : Nat} (h : PP B w0 w sb rb room L F) (hb : Few room L n) (hn : n < 80) {at_ is : Int} (hm : Names L at_ is) :
    ∃ a c L', L'.length = L.length ∧ Few room L' (n + 1) ∧
      Calls Try.prog 15 #[ptr sb, .int .i64 at_] w (fun e w' => e = .returned (.tuple #[.bool a, .int .i64 c]) ∧ JJ B w0 w' sb rb room (viewOf room L') L (usedOf L) (liveOf L) F) ∧
      ∀ w', JJ B w0 w' sb rb room (viewOf room L') L (usedOf L) (liveOf L) F → Calls Try.prog 16 #[ptr rb, .int .i64 is] w' (fun e w' => e = .returned (.tuple #[.bool a, .int .i64 c]) ∧ PP B w0 w' sb rb room L' F) := by
  have hln := hb.len
  obtain ⟨F', h1, h2⟩ := h.slab
  have hfree : 0 ≤ room - usedOf L := h.free0
  have drop := drop_is h1 at_ hb.bs
  unfold SV.drop at drop
  by_cases c0 : rcount L at_ = 0
  · rw [viewOf_none c0] at drop
    refine ⟨false, 13, L, rfl, hb.more hn, drop.mono fun _ _ ⟨he, hw⟩ => ⟨he, h2 _ _ hw⟩, fun w' h' => ?_⟩
    obtain ⟨A, e1, e2⟩ := h'.ref
    exact (rdrop_none (rturn_none e1 (by omega) (hm.counts ▸ c0) (-1))).mono fun _ _ ⟨he, hw⟩ => ⟨he, hw ▸ h'⟩
  · rcases hm with ⟨hm, _⟩ | ⟨j, hj, rfl, rfl⟩
    · exact absurd (by unfold rcount; rw [if_pos hm]) c0
    · have hx : L[j]? = some L[j] := List.getElem?_eq_getElem hj
      generalize L[j] = x at hx
      rw [count_pos hx] at c0
      have hh := hb.held x (List.mem_of_getElem? hx)
      have htop := hb.top
      have hr1 := hb.room1
      have hu0 := used_ge L
      have hal : liveOf L ≤ L.length := by have := alive_len 0 L; unfold liveOf; omega
      have hl0 : 0 ≤ liveOf L := by unfold liveOf; omega
      rw [viewOf_some hx c0] at drop
      by_cases c1 : 1 < x.2
      · have hv : (viewOf room L).turn ((j : Int) + 1) (-1) = viewOf room (L.set j (x.1, x.2 + -1)) := by
          unfold SV.turn viewOf
          rw [used_stay hx c0 (by omega), List.length_set, ← alive_turn hx c0 (by omega)]
        simp only [if_pos c1, hv] at drop
        refine ⟨false, 0, _, List.length_set, hb.set hn _ _ (by omega) (by omega), drop.mono fun _ _ ⟨he, hw⟩ => ⟨he, h2 _ _ hw⟩, fun w' h' => ?_⟩
        obtain ⟨A, e1, e2⟩ := h'.ref
        have hcs : rcount (L.set j (x.1, x.2 + -1)) ((j : Int) + 1) = x.2 + -1 := count_pos (x := (x.1, x.2 + -1)) (by rw [List.getElem?_set_self hj])
        refine (rdrop_some (by rw [List.length_set]; omega) hcs (by simp; omega) (rturn_stay e1 (by omega) hx c0 (-1) (by omega) (by omega) (by omega) (by omega) (by omega))).mono fun _ _ ⟨he, hw⟩ => ⟨he, ?_⟩
        unfold PP
        rw [used_stay hx c0 (by omega), live_stay hx c0 (by omega)]
        exact e2 _ _ _ _ hw
      · have hv : (⟨(viewOf room L).free + cls x.1.data.toList.length, (viewOf room L).last, (viewOf room L).bs.eraseP (·.1 == (j : Int) + 1)⟩ : SV) = viewOf room (L.set j (x.1, 0)) := by
          unfold viewOf
          rw [used_gone hx c0, List.length_set, ← alive_gone hx c0]
          simp only [SV.mk.injEq, and_true]
          have e : x.1.data.toList.length = x.1.size := by simp
          rw [e]
          omega
        simp only [if_neg c1, hv] at drop
        refine ⟨true, 0, _, List.length_set, hb.set hn _ _ (by omega) (by omega), drop.mono fun _ _ ⟨he, hw⟩ => ⟨he, h2 _ _ hw⟩, fun w' h' => ?_⟩
        obtain ⟨A, e1, e2⟩ := h'.ref
        have hcs : rcount (L.set j (x.1, 0)) ((j : Int) + 1) = 0 := count_pos (x := (x.1, 0)) (by rw [List.getElem?_set_self hj])
        refine (rdrop_some (by rw [List.length_set]; omega) hcs rfl (rturn_gone e1 (by omega) hx c0 (-1) (by omega) hu0 (by omega) (by omega) (by omega))).mono fun _ _ ⟨he, hw⟩ => ⟨he, ?_⟩
        unfold PP
        rw [used_gone hx c0, live_gone hx c0]
        exact e2 _ _ _ _ hw

theorem get_both {n j : Nat} (h : PP B w0 w sb rb room L F) (hb : Few room L n) (hj : j < L.length) :
    ∃ s c, Calls Try.prog 20 #[ptr sb, .int .i64 ((j : Int) + 1)] w (fun e w' => e = .returned (.tuple #[.string s, .int .i64 c]) ∧ PP B w0 w' sb rb room L F) ∧
      ∀ w', PP B w0 w' sb rb room L F → Calls Try.prog 21 #[ptr rb, .int .i64 ((j : Int) + 1)] w' (fun e w'' => e = .returned (.tuple #[.string s, .int .i64 c]) ∧ w' = w'') := by
  have hln := hb.len
  have htop := hb.top
  obtain ⟨F', h1, h2⟩ := h.slab
  have get := get_is h1 ((j : Int) + 1)
  unfold SV.get at get
  have hx : L[j]? = some L[j] := List.getElem?_eq_getElem hj
  generalize L[j] = x at hx
  by_cases c0 : x.2 = 0
  · have hc : rcount L ((j : Int) + 1) = 0 := by rw [count_pos hx, c0]
    rw [viewOf_none hc] at get
    refine ⟨⟨#[]⟩, 13, get.mono fun _ _ ⟨he, hw⟩ => ⟨he, h2 _ _ hw⟩, fun w' h' => ?_⟩
    obtain ⟨A, e1, e2⟩ := h'.ref
    exact rget_none e1 (by omega) hc
  · rw [viewOf_some hx c0] at get
    refine ⟨x.1, 0, get.mono fun _ _ ⟨he, hw⟩ => ⟨he, h2 _ _ hw⟩, fun w' h' => ?_⟩
    obtain ⟨A, e1, e2⟩ := h'.ref
    exact rget_some e1 (by omega) hx c0

theorem count_both {n j : Nat} (h : PP B w0 w sb rb room L F) (hb : Few room L n) (hj : j < L.length) :
    ∃ c, Calls Try.prog 22 #[ptr sb, .int .i64 ((j : Int) + 1)] w (fun e w' => e = .returned (.int .i64 c) ∧ w = w') ∧
      Calls Try.prog 23 #[ptr rb, .int .i64 ((j : Int) + 1)] w (fun e w' => e = .returned (.int .i64 c) ∧ w = w') := by
  have hln := hb.len
  have htop := hb.top
  obtain ⟨F', h1, h2⟩ := h.slab
  obtain ⟨A, e1, e2⟩ := h.ref
  have cnt := count_is h1 ((j : Int) + 1)
  have rc := rcount_is e1 (by omega) ((j : Int) + 1)
  have hx : L[j]? = some L[j] := List.getElem?_eq_getElem hj
  generalize L[j] = x at hx
  rw [count_pos hx] at rc
  unfold SV.count at cnt
  by_cases c0 : x.2 = 0
  · have hc : rcount L ((j : Int) + 1) = 0 := by rw [count_pos hx, c0]
    rw [viewOf_none hc] at cnt
    rw [c0] at rc
    exact ⟨_, cnt, rc⟩
  · rw [viewOf_some hx c0] at cnt
    exact ⟨_, cnt, rc⟩

theorem free_both {n : Nat} (h : PP B w0 w sb rb room L F) (hb : Few room L n) :
    ∃ c l, (∀ m, Calls Try.prog 17 #[ptr sb] (w.drewN m) (fun e w' => e = .returned (.int .i64 c) ∧ ∃ k, w' = w.drewN k)) ∧ (∀ m, Calls Try.prog 18 #[ptr rb] (w.drewN m) (fun e w' => e = .returned (.int .i64 c) ∧ ∃ k, w' = w.drewN k)) ∧
      (∀ m, Calls Try.prog 19 #[ptr sb] (w.drewN m) (fun e w' => e = .returned (.int .i64 l) ∧ ∃ k, w' = w.drewN k)) ∧ ∀ m, (w.drewN m).cell? ⟨rb, 3, none⟩ = some (.int .i64 l) := by
  have hu0 := used_ge L
  have hr1 := hb.room1
  have hfree : 0 ≤ room - usedOf L := h.free0
  refine ⟨room - usedOf L, liveOf L, fun m => ?_, fun m => ?_, fun m => ?_, fun m => (h.drewN m).rlive⟩
  · obtain ⟨F', h1, h2⟩ := (h.drewN m).slab
    exact (free_is h1).mono fun _ _ ⟨he, hw⟩ => ⟨he, m, hw.symm⟩
  · obtain ⟨A, e1, e2⟩ := (h.drewN m).ref
    refine (rfree_is e1 hb.room0 hr1 hu0 (by omega)).mono fun _ _ ⟨he, k, hw⟩ => ⟨he, m + k, ?_⟩
    rw [hw, World.drewN_drewN]
  · obtain ⟨F', h1, h2⟩ := (h.drewN m).slab
    exact (live_is h1).mono fun _ _ ⟨he, hw⟩ => ⟨he, m, hw.symm⟩
end
end Go.Proofs.Ytpeedcghpdnogaa
