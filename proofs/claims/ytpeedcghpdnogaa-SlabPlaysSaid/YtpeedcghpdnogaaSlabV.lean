/- The slab as its callers see it: what is free, the last handle, and the bodies (handle, how often held, bytes); each method as a function on that. -/
import Derived.Test.YtpeedcghpdnogaaSlabP
namespace Go.Proofs.Ytpeedcghpdnogaa
open Go.RowKit

structure SV where
  free : Int
  last : Int
  bs : List (Int × Int × List UInt8)
  deriving DecidableEq

def SV.seek (V : SV) (k : Int) : Option (Int × Int × List UInt8) := V.bs.find? (·.1 == k)
def SV.turn (V : SV) (k by_ : Int) : SV := { V with bs := V.bs.map fun x => if x.1 = k then (x.1, x.2.1 + by_, x.2.2) else x }
def SV.new (room : Int) : SV := ⟨min (max room 0) 100000, 0, []⟩
def SV.put (V : SV) (s : List UInt8) : (Int × Int) × SV :=
  if 256 < s.length then ((0, 15), V)
  else if V.free < cls s.length ∨ 400 ≤ V.bs.length then ((0, 12), V)
  else ((V.last + 1, 0), ⟨V.free - cls s.length, V.last + 1, V.bs ++ [(V.last + 1, 1, s)]⟩)
def SV.hold (V : SV) (k : Int) : Int × SV :=
  match V.seek k with
  | none => (13, V)
  | some _ => (0, V.turn k 1)
def SV.drop (V : SV) (k : Int) : (Bool × Int) × SV :=
  match V.seek k with
  | none => ((false, 13), V)
  | some x => if 1 < x.2.1 then ((false, 0), V.turn k (-1)) else ((true, 0), ⟨V.free + cls x.2.2.length, V.last, V.bs.eraseP (·.1 == k)⟩)
def SV.get (V : SV) (k : Int) : List UInt8 × Int :=
  match V.seek k with
  | none => ([], 13)
  | some x => (x.2.2, 0)
def SV.count (V : SV) (k : Int) : Int :=
  match V.seek k with
  | none => 0
  | some x => x.2.1

def BodyG.v (b : BodyG) : Int × Int × List UInt8 := (b.h, b.held, b.text)
def SlabG.v (g : SlabG) : SV := ⟨g.free, g.last, g.bs.map BodyG.v⟩

def SV.used (V : SV) : Int := (V.bs.map fun x => cls x.2.2.length).sum

theorem sum_cls_ge : ∀ (l : List (Int × Int × List UInt8)), 0 ≤ (l.map fun x => cls x.2.2.length).sum
  | [] => by simp
  | x :: l => by
    have h1 := sum_cls_ge l
    have h2 := (cls_le x.2.2.length).1
    simp only [List.map_cons, List.sum_cons]
    omega

theorem used_turn (V : SV) (k c : Int) : (V.turn k c).used = V.used := by
  unfold SV.used SV.turn
  simp only [List.map_map]
  congr 1
  refine List.map_congr_left fun x _ => ?_
  simp only [Function.comp]
  split <;> rfl

theorem used_erase {k : Int} {x : Int × Int × List UInt8} : ∀ {l : List (Int × Int × List UInt8)}, l.find? (·.1 == k) = some x →
    ((l.eraseP (·.1 == k)).map fun x => cls x.2.2.length).sum + cls x.2.2.length = (l.map fun x => cls x.2.2.length).sum
  | [], h => by simp at h
  | y :: l, h => by
    by_cases hy : (y.1 == k) = true
    · simp only [List.find?_cons, hy, Option.some.injEq] at h
      subst h
      simp only [List.eraseP_cons, hy, cond_true, List.map_cons, List.sum_cons]
      omega
    · have hy' : (y.1 == k) = false := by simpa using hy
      simp only [List.find?_cons, hy'] at h
      have := used_erase h
      simp only [List.eraseP_cons, hy', cond_false, List.map_cons, List.sum_cons]
      omega

/-- In w there lies a slab at block sb that is V to its callers. -/
def SlabIs (B : Nat) (w0 w : World) (sb : Nat) (V : SV) (F : List (Nat × Obj)) : Prop :=
  ∃ g : SlabG, g.sb = sb ∧ g.v = V ∧ g.Wf ∧ V.free + V.used ≤ 100000 ∧ St B w0 w (g.heap ++ F)

theorem BodyG.Wf.len {b : BodyG} (h : b.Wf) : (b.text.length : Int) = b.size := by
  have h1 : (b.cells.flatMap (·.2)).length = 32 * b.cells.length := by
    have := h.full
    generalize b.cells = c at this
    clear h
    induction c with
    | nil => rfl
    | cons x r ih =>
      rw [List.flatMap_cons, List.length_append, ih (fun y hy => this y (List.mem_cons_of_mem _ hy)), this x List.mem_cons_self, List.length_cons]
      omega
  have h2 : b.size ≤ cls b.size := by have := h.size0; have := h.size1; unfold cls; repeat' split <;> omega
  have h3 := h.cells
  have h4 := h.size0
  unfold BodyG.text
  rw [List.length_take, h1]
  omega

theorem seek_v (g : SlabG) (k : Int) : g.v.seek k = (g.seek k).map BodyG.v := by
  unfold SV.seek SlabG.v SlabG.seek
  rw [List.find?_map]
  rfl

section
variable {B : Nat} {w0 w : World} {sb : Nat} {V : SV} {F : List (Nat × Obj)}

theorem SlabIs.alloc (h : SlabIs B w0 w sb V F) (o : Obj) : SlabIs B w0 (w.alloc o) sb V F := by
  obtain ⟨g, h1, h2, h3, hu, h4⟩ := h
  exact ⟨g, h1, h2, h3, hu, (h4.alloc o).sub (List.sublist_cons_self _ _)⟩

theorem new_is (h : St B w0 w F) (room : Int) : Calls Try.prog 9 #[.int .i64 room] w fun e w' => e = .returned (ptr w.heap.size) ∧ SlabIs B w0 w' w.heap.size (SV.new room) F :=
  (new_any h room).mono fun _ _ ⟨he, hw⟩ => ⟨he, newG w.heap.size room, rfl, rfl, newG_wf _ _, by simp only [SV.new, SV.used, List.map_nil, List.sum_nil]; omega, hw⟩

theorem free_is (h : SlabIs B w0 w sb V F) : Calls Try.prog 17 #[ptr sb] w fun e w' => e = .returned (.int .i64 V.free) ∧ w = w' := by
  obtain ⟨g, rfl, rfl, h3, hu, h4⟩ := h
  exact free_ok h4

theorem live_is (h : SlabIs B w0 w sb V F) : Calls Try.prog 19 #[ptr sb] w fun e w' => e = .returned (.int .i64 V.bs.length) ∧ w = w' := by
  obtain ⟨g, rfl, rfl, h3, hu, h4⟩ := h
  have : g.v.bs.length = g.bs.length := by simp [SlabG.v]
  rw [this]
  exact live_ok h4 h3

theorem count_is (h : SlabIs B w0 w sb V F) (k : Int) : Calls Try.prog 22 #[ptr sb, .int .i64 k] w fun e w' => e = .returned (.int .i64 (V.count k)) ∧ w = w' := by
  obtain ⟨g, rfl, rfl, h3, hu, h4⟩ := h
  unfold SV.count
  rw [seek_v]
  cases hs : g.seek k with
  | none => exact count_none h4 hs
  | some b => exact count_some h4 h3 hs

theorem get_is (h : SlabIs B w0 w sb V F) (k : Int) : Calls Try.prog 20 #[ptr sb, .int .i64 k] w fun e w' => e = .returned (.tuple #[bstr (V.get k).1, .int .i64 (V.get k).2]) ∧ SlabIs B w0 w' sb V F := by
  obtain ⟨g, rfl, rfl, h3, hu, h4⟩ := h
  unfold SV.get
  rw [seek_v]
  cases hs : g.seek k with
  | none => exact (get_none h4 hs).mono fun _ _ ⟨he, hw⟩ => ⟨he, g, rfl, rfl, h3, hu, hw ▸ h4⟩
  | some b => exact (get_some h4 h3 hs).mono fun _ _ ⟨he, hw⟩ => ⟨he, g, rfl, rfl, h3, hu, hw⟩

theorem upd_v {g : SlabG} {k c : Int} {f : BodyG → BodyG} (hf : ∀ b, (f b).v = (b.h, b.held + c, b.text)) : (g.upd k f).v = g.v.turn k c := by
  unfold SV.turn SlabG.v SlabG.upd
  congr 1
  rw [List.map_map, List.map_map]
  refine List.map_congr_left fun b _ => ?_
  simp only [Function.comp]
  by_cases h : b.h = k
  · rw [if_pos h, hf, if_pos (show b.v.1 = k from h)]
    rfl
  · rw [if_neg h, if_neg (show ¬ b.v.1 = k from h)]

theorem hold_is (h : SlabIs B w0 w sb V F) (k : Int) (hb : ∀ x ∈ V.bs, x.2.1 < 9223372036854775807) : Calls Try.prog 13 #[ptr sb, .int .i64 k] w fun e w' => e = .returned (.int .i64 (V.hold k).1) ∧ SlabIs B w0 w' sb (V.hold k).2 F := by
  obtain ⟨g, rfl, rfl, h3, hu, h4⟩ := h
  unfold SV.hold
  rw [seek_v]
  cases hs : g.seek k with
  | none => exact (hold_none h4 hs).mono fun _ _ ⟨he, hw⟩ => ⟨he, g, rfl, rfl, h3, hu, hw ▸ h4⟩
  | some b =>
    refine (hold_some h4 h3 hs (hb b.v (List.mem_map_of_mem (SlabG.mem_of_seek hs).1))).mono fun _ _ ⟨he, hw⟩ => ⟨he, g.upd k BodyG.more, rfl, upd_v fun _ => rfl, ?_, ?_, hw⟩
    rotate_left
    · show g.v.free + (g.v.turn k 1).used ≤ 100000
      rw [used_turn]
      exact hu
    refine SlabG.upd_wf h3 fun x _ _ hx => ⟨⟨hx.full, hx.cells, hx.size0, hx.size1, ?_⟩, rfl⟩
    have := hx.held
    show 1 ≤ x.held + 1
    omega

theorem cut_wf {g : SlabG} (wf : g.Wf) {k : Int} {b : BodyG} (hb : b ∈ g.bs) (hroom : g.free + cls b.size ≤ 100000) : (g.cut k b).Wf := by
  have hsub : (g.bs.eraseP (·.h == k)).Sublist g.bs := List.eraseP_sublist
  have hc := cls_le b.size
  refine ⟨fun h => ?_, fun c hc => ?_, fun x hx => wf.bodies x (hsub.subset hx), (hsub.map _).nodup wf.keys, by have := wf.free0; simp only [SlabG.cut]; omega, hroom, wf.last0, Nat.le_trans hsub.length_le wf.many⟩
  · simp only [SlabG.cut]
    rw [wf.nomap h]
    rfl
  · rcases List.mem_append.1 hc with hc | hc
    · exact (wf.bodies b hb).1.full c hc
    · exact wf.spare c hc

theorem drop_is (h : SlabIs B w0 w sb V F) (k : Int) (hb : ∀ x ∈ V.bs, x.2.1 < 9223372036854775807) :
    Calls Try.prog 15 #[ptr sb, .int .i64 k] w fun e w' => e = .returned (.tuple #[.bool (V.drop k).1.1, .int .i64 (V.drop k).1.2]) ∧ SlabIs B w0 w' sb (V.drop k).2 F := by
  obtain ⟨g, rfl, rfl, h3, hu, h4⟩ := h
  unfold SV.drop
  rw [seek_v]
  cases hs : g.seek k with
  | none => exact (drop_none h4 hs).mono fun _ _ ⟨he, hw⟩ => ⟨he, g, rfl, rfl, h3, hu, hw ▸ h4⟩
  | some b =>
    have hm := (SlabG.mem_of_seek hs).1
    have hbb := hb b.v (List.mem_map_of_mem hm)
    have hheld := (h3.bodies b hm).1.held
    simp only [Option.map_some]
    by_cases h1 : 1 < b.held
    · rw [if_pos (show 1 < b.v.2.1 from h1)]
      refine (drop_less h4 h3 hs h1 (by have : b.held < 9223372036854775807 := hbb; omega)).mono fun _ _ ⟨he, hw⟩ => ⟨he, g.upd k BodyG.less, rfl, upd_v fun _ => rfl, ?_, ?_, hw⟩
      rotate_left
      · show g.v.free + (g.v.turn k (-1)).used ≤ 100000
        rw [used_turn]
        exact hu
      · refine SlabG.upd_wf' h3 hs ⟨(h3.bodies b hm).1.full, (h3.bodies b hm).1.cells, (h3.bodies b hm).1.size0, (h3.bodies b hm).1.size1, ?_⟩ rfl
        show 1 ≤ b.held - 1
        omega
    · rw [if_neg (show ¬ 1 < b.v.2.1 from h1)]
      have hlen := (h3.bodies b hm).1.len
      have hfind : g.v.bs.find? (·.1 == k) = some b.v := by
        have := seek_v g k
        rw [hs] at this
        exact this
      have hue := used_erase hfind
      have e1 : cls b.v.2.2.length = cls b.size := congrArg cls hlen
      rw [e1] at hue ⊢
      have hge := sum_cls_ge (g.v.bs.eraseP (·.1 == k))
      have hu' : g.v.free + (g.v.bs.map fun x => cls x.2.2.length).sum ≤ 100000 := hu
      refine (drop_last h4 h3 hs (by omega) h3.free1).mono fun _ _ ⟨he, hw⟩ => ⟨he, g.cut k b, rfl, ?_, cut_wf h3 hm ?_, ?_, hw⟩
      · unfold SlabG.v SlabG.cut
        simp only [SV.mk.injEq, true_and]
        rw [List.eraseP_map]
        rfl
      · have : g.free = g.v.free := rfl
        omega
      · show (g.v.free + cls b.size) + ((g.v.bs.eraseP (·.1 == k)).map fun x => cls x.2.2.length).sum ≤ 100000
        omega

theorem put_is (h : SlabIs B w0 w sb V F) (s : ByteArray) (hm : s.size ≤ maxLen) (hlast : V.last < 4611686018427387904) :
    Calls Try.prog 11 #[ptr sb, .string s] w fun e w' => e = .returned (.tuple #[.int .i64 (V.put s.data.toList).1.1, .int .i64 (V.put s.data.toList).1.2]) ∧ SlabIs B w0 w' sb (V.put s.data.toList).2 F := by
  obtain ⟨g, rfl, rfl, h3, hu, h4⟩ := h
  have hz : s.data.toList.length = s.size := by simp
  have hlen : g.v.bs.length = g.bs.length := by simp [SlabG.v]
  unfold SV.put
  rw [hz, hlen]
  by_cases h1 : 256 < s.size
  · rw [if_pos h1]
    exact (put_large g s h1 hm).mono fun _ _ ⟨he, hw⟩ => ⟨he, g, rfl, rfl, h3, hu, hw ▸ h4⟩
  · rw [if_neg h1]
    by_cases h2 : g.free < cls s.size ∨ 400 ≤ g.bs.length
    · rw [if_pos (show g.v.free < cls s.size ∨ 400 ≤ g.bs.length from h2)]
      exact (put_full h4 h3 s (by omega) h2).mono fun _ _ ⟨he, hw⟩ => ⟨he, g, rfl, rfl, h3, hu, hw ▸ h4⟩
    · rw [if_neg (show ¬ (g.v.free < cls s.size ∨ 400 ≤ g.bs.length) from h2)]
      refine (put_ok h4 h3 s (by omega) (by omega) (by omega) hlast).mono fun _ _ ⟨he, sp, m, clk, nb, hw, hsp, hnb, e1, e2, e3, e4⟩ => ⟨he, g.put (cls s.size) sp m clk nb, rfl, ?_, ?_, ?_, hw⟩
      · simp only [SlabG.v, SlabG.put, List.map_append, List.map_cons, List.map_nil, BodyG.v, e1, e2, e4]
      · have hc := cls_le s.size
        have hl0 := h3.last0
        have hf1 := h3.free1
        refine ⟨fun h => by simp [SlabG.put] at h, hsp, fun b hb => ?_, ?_, by simp only [SlabG.put]; omega, by simp only [SlabG.put]; omega, by simp only [SlabG.put]; omega, by simp only [SlabG.put, List.length_append, List.length_cons, List.length_nil]; omega⟩
        · rcases List.mem_append.1 hb with hb | hb
          · obtain ⟨x1, x2, x3⟩ := h3.bodies b hb
            exact ⟨x1, x2, by simp only [SlabG.put]; omega⟩
          · obtain rfl := List.mem_singleton.1 hb
            exact ⟨hnb, by omega, by rw [e1]; exact Int.le_refl _⟩
        · simp only [SlabG.put, List.map_append, List.map_cons, List.map_nil]
          refine List.nodup_append.2 ⟨h3.keys, by simp, fun x hx y hy => ?_⟩
          obtain ⟨b, hb, rfl⟩ := List.mem_map.1 hx
          obtain rfl := List.mem_singleton.1 hy
          have := (h3.bodies b hb).2.2
          omega
      · have hu' : g.v.free + (g.v.bs.map fun x => cls x.2.2.length).sum ≤ 100000 := hu
        simp only [SV.used, List.map_append, List.map_cons, List.map_nil, List.sum_append, List.sum_cons, List.sum_nil, hz]
        omega

/-! ### the same, where it is known what the function on the view comes to -/
theorem put_to (h : SlabIs B w0 w sb V F) (s : ByteArray) (hm : s.size ≤ maxLen) (hlast : V.last < 4611686018427387904) {r c : Int} {V' : SV} (hV : V.put s.data.toList = ((r, c), V')) :
    Calls Try.prog 11 #[ptr sb, .string s] w fun e w' => e = .returned (.tuple #[.int .i64 r, .int .i64 c]) ∧ SlabIs B w0 w' sb V' F := by
  have := put_is h s hm hlast
  rw [hV] at this
  exact this
theorem hold_to (h : SlabIs B w0 w sb V F) (k : Int) (hb : ∀ x ∈ V.bs, x.2.1 < 9223372036854775807) {r : Int} {V' : SV} (hV : V.hold k = (r, V')) :
    Calls Try.prog 13 #[ptr sb, .int .i64 k] w fun e w' => e = .returned (.int .i64 r) ∧ SlabIs B w0 w' sb V' F := by
  have := hold_is h k hb
  rw [hV] at this
  exact this
theorem drop_to (h : SlabIs B w0 w sb V F) (k : Int) (hb : ∀ x ∈ V.bs, x.2.1 < 9223372036854775807) {r : Bool} {c : Int} {V' : SV} (hV : V.drop k = ((r, c), V')) :
    Calls Try.prog 15 #[ptr sb, .int .i64 k] w fun e w' => e = .returned (.tuple #[.bool r, .int .i64 c]) ∧ SlabIs B w0 w' sb V' F := by
  have := drop_is h k hb
  rw [hV] at this
  exact this
theorem get_to (h : SlabIs B w0 w sb V F) (k : Int) {l : List UInt8} {c : Int} (hV : V.get k = (l, c)) :
    Calls Try.prog 20 #[ptr sb, .int .i64 k] w fun e w' => e = .returned (.tuple #[bstr l, .int .i64 c]) ∧ SlabIs B w0 w' sb V F := by
  have := get_is h k
  rw [hV] at this
  exact this
theorem count_to (h : SlabIs B w0 w sb V F) (k : Int) {c : Int} (hV : V.count k = c) : Calls Try.prog 22 #[ptr sb, .int .i64 k] w fun e w' => e = .returned (.int .i64 c) ∧ w = w' := by
  have := count_is h k
  rw [hV] at this
  exact this
end
end Go.Proofs.Ytpeedcghpdnogaa
