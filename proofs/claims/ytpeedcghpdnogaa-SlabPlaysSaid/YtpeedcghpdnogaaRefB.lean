/- The document's slab: Get, turn, Hold, Drop. -/
import Derived.Test.YtpeedcghpdnogaaRefA
import Derived.RegionCalls
import Derived.IntWalk
namespace Go.Proofs.Ytpeedcghpdnogaa
open Go.RowKit

section
variable {B : Nat} {w0 w : World} {rb : Nat} {L : List (ByteArray × Int)} {room used live : Int} {A : List (Nat × Obj)}

def refObj (v : Value) (room used live : Int) : Obj := .cells #[v, .int .i64 room, .int .i64 used, .int .i64 live] 45

theorem take_set {l : List Value} {n i : Nat} (u : Value) : (l.set i u).take n = (l.take n).set i u := by
  rw [List.take_set]

/-- A row of bodies, copied; one count turned; the copy laid into the slab. -/
theorem ref_copied {w1 : World} {v v1 : Value} {F F1 : List (Nat × Obj)} {g cap j : Nat} {x : ByteArray × Int} (c : Int) (hx : L[j]? = some x)
    (hs1 : SliceIs 65 2 v1 L.length (rcells L) F1) (hv1 : v1 = .slice (some ⟨g, 0, none⟩) L.length cap)
    (h1 : St B w0 w1 (((rb, refObj v room used live) :: (F ++ A)) ++ F1)) :
    ∃ F2, SliceIs 65 2 v1 L.length (rcells (L.set j (x.1, c))) F2 ∧
      St B w0 ((w1.setCell ⟨g, j * 2 + 1, none⟩ (.int .i64 c)).setCell ⟨rb, 0, none⟩ v1) ((rb, refObj v1 room used live) :: (F2 ++ A)) := by
  subst hv1
  have hj : j < L.length := (List.getElem?_eq_some_iff.1 hx).1
  obtain ⟨e0, ⟨e1, _⟩ | ⟨g', cap', cur, e1, rfl, e3, e4, e5, e6⟩⟩ := hs1
  · cases e1
  · cases e1
    refine ⟨[(g, .cells (cur.setIfInBounds (j * 2 + 1) (.int .i64 c)) 65 (0, 0))], ⟨by rw [rcells_len]; simp, .inr ⟨g, cap, _, rfl, rfl, e3, e4, by simpa using e5, ?_⟩⟩, ?_⟩
    · rw [Array.toList_setIfInBounds, take_set, e6, rcells_set c hx]
    · have h2 := (h1.perm List.perm_append_comm).set0 (j * 2 + 1) (.int .i64 c)
      have h3 := (h2.perm (.swap _ _ _)).set0 0 (.slice (some ⟨g, 0, none⟩) L.length cap)
      refine h3.sub ?_
      exact .cons_cons _ (.cons_cons _ (List.sublist_append_right _ _))

/-- What stands behind the copy of the row. -/
theorem ref_copy {w1 : World} {v v1 : Value} {F : List (Nat × Obj)} {j : Nat} {x : ByteArray × Int} (hx : L[j]? = some x)
    (hst : St B w0 w ((rb, refObj v room used live) :: (F ++ A))) (hown : w1.ownsRow B 65 2 v1 L.length (rcells L)) (hg : w.grownBy w1 none) (hat : v1.ownBlock = none ∨ v1.ownBlock = some w.heap.size) :
    ∃ g cap F1, v1 = .slice (some ⟨g, 0, none⟩) L.length cap ∧ L.length ≤ cap ∧ cap ≤ maxLen ∧ SliceIs 65 2 v1 L.length (rcells L) F1 ∧ St B w0 w1 (((rb, refObj v room used live) :: (F ++ A)) ++ F1) ∧
      (w1.cell? ⟨g, j * 2 + 1, none⟩ = some (.int .i64 x.2) ∧ w1.frozen? ⟨g, j * 2 + 1, none⟩ = false ∧ w1.cell? ⟨rb, 0, none⟩ = some v ∧ w1.frozen? ⟨rb, 0, none⟩ = false ∧ rb ≠ g) ∧ w1.cell? ⟨g, j * 2, none⟩ = some (.string x.1) ∧
      (w1.cell? ⟨rb, 2, none⟩ = some (.int .i64 used) ∧ w1.cell? ⟨rb, 3, none⟩ = some (.int .i64 live) ∧ w1.frozen? ⟨rb, 2, none⟩ = false ∧ w1.frozen? ⟨rb, 3, none⟩ = false) := by
  have hj : j < L.length := (List.getElem?_eq_some_iff.1 hx).1
  obtain ⟨F1, e1, e2⟩ := (SliceIs.nil (T := 65) (size := 2)).appended (A := (rb, refObj v room used live) :: (F ++ A)) (F := []) (by simpa using hst) hown hg hat
  obtain ⟨g, cap, cur, hv1, hF, h1, h2⟩ := e1.full (by omega)
  subst hv1
  refine ⟨g, cap, F1, rfl, h1, h2, e1, e2, ⟨?_, hown.frozenAt _, e2.cell (b := rb) (i := 0) List.mem_cons_self rfl, e2.soft (b := rb) List.mem_cons_self 0, ?_⟩, ?_, e2.cell (b := rb) (i := 2) List.mem_cons_self rfl, e2.cell (b := rb) (i := 3) List.mem_cons_self rfl, e2.soft (b := rb) List.mem_cons_self 2, e2.soft (b := rb) List.mem_cons_self 3⟩
  · exact (hown.cellAt (j * 2 + 1) (by omega)).trans (rcells_at hx).2
  · rw [hF] at e2
    exact St.ne (C := (F ++ A) ++ [(g, .cells cur 65 (0, 0))]) (o' := .cells cur 65 (0, 0)) e2 (by simp)
  · exact (hown.cellAt (j * 2) (by omega)).trans (rcells_at hx).1

set_option maxHeartbeats 1000000 in
theorem rget_some (h : RefIs B w0 w rb L room used live A) (hl : L.length ≤ 1000) {j : Nat} {x : ByteArray × Int} (hx : L[j]? = some x) (hc : x.2 ≠ 0) :
    Calls Try.prog 21 #[ptr rb, .int .i64 ((j : Int) + 1)] w fun e w' => e = .returned (.tuple #[.string x.1, .int .i64 0]) ∧ w = w' := by
  have hcount := rcount_is h hl ((j : Int) + 1)
  obtain ⟨v, F, hs, hst⟩ := h
  have c0 := hst.cell (b := rb) (i := 0) (v := v) List.mem_cons_self rfl
  obtain ⟨av, cap, rfl, h1, h2, h3⟩ := hs.shape
  have hst' : St B w0 w ((((rb, .cells #[.slice av L.length cap, .int .i64 room, .int .i64 used, .int .i64 live] 45) :: A) ++ F)) := hst.perm (by
    refine .cons _ ?_
    exact List.perm_append_comm)
  have hrow := hs.row hst'
  have hj : j < L.length := (List.getElem?_eq_some_iff.1 hx).1
  obtain ⟨g, rfl⟩ := h3 _ hj
  have e : rcount L ((j : Int) + 1) = x.2 := by
    unfold rcount
    rw [if_neg (by omega), Int.add_sub_cancel, Int.toNat_natCast, hx]
  rw [e] at hcount
  have hcount := Lib.hid hcount
  have hcell := (hrow.cellAt (j * 2) (by omega)).trans (rcells_at hx).1
  have hb : (x.2 == 0) = false := by rw [beq_eq_false_iff_ne]; exact hc
  have hlc : (L.length : Int) ≤ 1000 := by omega
  obtain ⟨s, c⟩ := x
  clear hst hst' hrow hs hx e hc
  go_enter Try.func21, Try.ntmps21
  go_wp2_with fail
  refine hcount.out.mono ?_
  rintro e w' ⟨rfl, rfl⟩
  go_wp2_with fail
  go_ret2
  exact ⟨rfl, rfl⟩

set_option maxHeartbeats 1000000 in
theorem rget_none (h : RefIs B w0 w rb L room used live A) (hl : L.length ≤ 1000) {k : Int} (hc : rcount L k = 0) :
    Calls Try.prog 21 #[ptr rb, .int .i64 k] w fun e w' => e = .returned (.tuple #[.string ⟨#[]⟩, .int .i64 13]) ∧ w = w' := by
  have hcount := rcount_is h hl k
  rw [hc] at hcount
  have hcount := Lib.hid hcount
  clear h
  go_enter Try.func21, Try.ntmps21
  go_wp2_with fail
  refine hcount.out.mono ?_
  rintro e w' ⟨rfl, rfl⟩
  go_wp2_with fail
  go_ret2
  exact ⟨rfl, rfl⟩

set_option maxHeartbeats 1000000 in
theorem rturn_none (h : RefIs B w0 w rb L room used live A) (hl : L.length ≤ 1000) {k : Int} (hc : rcount L k = 0) (d : Int) :
    Calls Try.prog 27 #[ptr rb, .int .i64 k, .int .i64 d] w fun e w' => e = .returned (.int .i64 13) ∧ w = w' := by
  have hcount := rcount_is h hl k
  rw [hc] at hcount
  have hcount := Lib.hid hcount
  clear h
  go_enter Try.func27, Try.ntmps27
  go_wp2_with fail
  refine hcount.out.mono ?_
  rintro e w' ⟨rfl, rfl⟩
  go_wp2_with fail
  go_ret
  exact ⟨rfl, rfl⟩

set_option maxHeartbeats 2000000 in
theorem rturn_stay (h : RefIs B w0 w rb L room used live A) (hl : L.length ≤ 1000) {j : Nat} {x : ByteArray × Int} (hx : L[j]? = some x) (hc : x.2 ≠ 0) (d : Int) (hc0 : -1000000 ≤ x.2) (hc1 : x.2 ≤ 1000000) (hd0 : -1000 ≤ d) (hd1 : d ≤ 1000) (hcd : x.2 + d ≠ 0) :
    Calls Try.prog 27 #[ptr rb, .int .i64 ((j : Int) + 1), .int .i64 d] w fun e w' => e = .returned (.int .i64 0) ∧ RefIs B w0 w' rb (L.set j (x.1, x.2 + d)) room used live A := by
  have hcount := rcount_is h hl ((j : Int) + 1)
  obtain ⟨v, F, hs, hst⟩ := h
  have c0 := hst.cell (b := rb) (i := 0) (v := v) List.mem_cons_self rfl
  have f0 := hst.soft (b := rb) List.mem_cons_self 0
  have hst' : St B w0 w ((((rb, .cells #[v, .int .i64 room, .int .i64 used, .int .i64 live] 45) :: A) ++ F)) := hst.perm (by
    refine .cons _ ?_
    exact List.perm_append_comm)
  have hrow := Lib.hid (hs.row hst')
  have hj : j < L.length := (List.getElem?_eq_some_iff.1 hx).1
  have e : rcount L ((j : Int) + 1) = x.2 := by
    unfold rcount
    rw [if_neg (by omega), Int.add_sub_cancel, Int.toNat_natCast, hx]
  rw [e] at hcount
  have hcount := Lib.hid hcount
  have hb : (x.2 == 0) = false := by rw [beq_eq_false_iff_ne]; exact hc
  have hb2 : (x.2 + d == 0) = false := by rw [beq_eq_false_iff_ne]; exact hcd
  have hlc : (L.length : Int) ≤ 1000 := by omega
  have hbase := hst.base
  obtain ⟨i0, hi, hz0, hz1, hz2⟩ := info_parts infRBody
  have hx := Lib.hid hx
  have hst := Lib.hid hst
  clear hst' hs e hc hcd
  go_enter Try.func27, Try.ntmps27
  go_wp2_with fail
  refine hcount.out.mono ?_
  rintro e w' ⟨rfl, rfl⟩
  go_wp2_with (at_builtin; refine wpList_append_copy rfl _ (.tmp 15) 43 rfl B 65 i0 _ 2 24 uRBodies hi hz0 hz1 hz2 rfl (by decide) rfl _ rfl L.length (rcells L) hrow.out (rcells_one L) (by unfold maxLen; omega) (by omega) hbase ?_; intro v1 w1 hown1 hgrow1 hat1; obtain ⟨g, cap, F1, rfl, hc1, hc2, hs1, hst1, ⟨q1, q2, q3, q4, q5⟩, _, _⟩ := ref_copy hx.out hst.out hown1 hgrow1 hat1; have hs1 := Lib.hid hs1; have hst1 := Lib.hid hst1; clear hown1 hgrow1 hat1)
  go_ret
  refine ⟨rfl, ?_⟩
  obtain ⟨F2, z1, z2⟩ := ref_copied (x.2 + d) hx.out hs1.out rfl hst1.out
  exact ⟨_, F2, by rw [List.length_set]; exact z1, z2⟩
set_option maxHeartbeats 2000000 in
theorem rturn_gone (h : RefIs B w0 w rb L room used live A) (hl : L.length ≤ 1000) {j : Nat} {x : ByteArray × Int} (hx : L[j]? = some x) (hc : x.2 ≠ 0) (d : Int) (hcd : x.2 + d = 0) (hu0 : 0 ≤ used) (hu1 : used ≤ 100000) (hv0 : -100000 ≤ live) (hv1 : live ≤ 100000) :
    Calls Try.prog 27 #[ptr rb, .int .i64 ((j : Int) + 1), .int .i64 d] w fun e w' => e = .returned (.int .i64 0) ∧ RefIs B w0 w' rb (L.set j (x.1, 0)) room (used - cls x.1.size) (live - 1) A := by
  have hcount := rcount_is h hl ((j : Int) + 1)
  obtain ⟨v, F, hs, hst⟩ := h
  have c0 := hst.cell (b := rb) (i := 0) (v := v) List.mem_cons_self rfl
  have f0 := hst.soft (b := rb) List.mem_cons_self 0
  have hst' : St B w0 w ((((rb, .cells #[v, .int .i64 room, .int .i64 used, .int .i64 live] 45) :: A) ++ F)) := hst.perm (by
    refine .cons _ ?_
    exact List.perm_append_comm)
  have hrow := Lib.hid (hs.row hst')
  have hj : j < L.length := (List.getElem?_eq_some_iff.1 hx).1
  have e : rcount L ((j : Int) + 1) = x.2 := by
    unfold rcount
    rw [if_neg (by omega), Int.add_sub_cancel, Int.toNat_natCast, hx]
  rw [e] at hcount
  have hcount := Lib.hid hcount
  have hb : (x.2 == 0) = false := by rw [beq_eq_false_iff_ne]; exact hc
  have hcl := cls_le x.1.size
  have hcls := Lib.hid (fun w => rclass_any x.1.size w)
  have hj0 : (0 : Int) ≤ (j : Int) := Int.natCast_nonneg _
  have hj1 : (j : Int) < (L.length : Int) := by omega
  have hwj : IntKind.i64.wrap (j : Int) = j := IntWalk.i64_in _ (by omega)
  have hwu : IntKind.i64.wrap (used - cls x.1.size) = used - cls x.1.size := IntWalk.i64_in _ (by omega)
  have hcd := Lib.hid hcd
  have hcd2 : x.2 + d = 0 := hcd.out
  have hlc : (L.length : Int) ≤ 1000 := by omega
  have hbase := hst.base
  obtain ⟨i0, hi, hz0, hz1, hz2⟩ := info_parts infRBody
  have hx := Lib.hid hx
  have hst := Lib.hid hst
  clear hst' hs e hc
  go_enter Try.func27, Try.ntmps27
  go_wp2_with fail
  refine hcount.out.mono ?_
  rintro e w' ⟨rfl, rfl⟩
  go_wp2_with (at_builtin; refine wpList_append_copy rfl _ (.tmp 15) 43 rfl B 65 i0 _ 2 24 uRBodies hi hz0 hz1 hz2 rfl (by decide) rfl _ rfl L.length (rcells L) hrow.out (rcells_one L) (by unfold maxLen; omega) (by omega) hbase ?_; intro v1 w1 hown1 hgrow1 hat1; obtain ⟨g, cap, F1, rfl, hc1, hc2, hs1, hst1, ⟨q1, q2, q3, q4, q5⟩, q6, q7, q8, q9, q10⟩ := ref_copy hx.out hst.out hown1 hgrow1 hat1; have hs1 := Lib.hid hs1; have hst1 := Lib.hid hst1; clear hown1 hgrow1 hat1)
  go_region_with (go_at_call 25; refine (hcls.out _).mono ?_; rintro e w' ⟨rfl, rfl⟩)
  all_goals
    go_wp2_with fail
    go_ret
    refine ⟨rfl, ?_⟩
    obtain ⟨F2, z1, z2⟩ := ref_copied 0 hx.out hs1.out rfl hst1.out
    exact ⟨_, F2, by rw [List.length_set]; exact z1, ((z2.set0 2 (.int .i64 (used - cls x.1.size))).set0 3 (.int .i64 (live - 1))).drew⟩

set_option maxHeartbeats 400000 in
theorem rhold_of {R : Ending → World → Prop} {k r : Int} (h : Calls Try.prog 27 #[ptr rb, .int .i64 k, .int .i64 1] w fun e w' => e = .returned (.int .i64 r) ∧ R e w') :
    Calls Try.prog 14 #[ptr rb, .int .i64 k] w fun e w' => e = .returned (.int .i64 r) ∧ R e w' := by
  have h := Lib.hid h
  go_enter Try.func14, Try.ntmps14
  go_wp2_with fail
  refine h.out.mono ?_
  rintro e w' ⟨rfl, hw⟩
  have hw := Lib.hid hw
  go_wp2_with fail
  go_ret
  exact ⟨rfl, hw.out⟩

set_option maxHeartbeats 400000 in
theorem rdrop_none {k : Int} (h : Calls Try.prog 27 #[ptr rb, .int .i64 k, .int .i64 (-1)] w fun e w' => e = .returned (.int .i64 13) ∧ w = w') :
    Calls Try.prog 16 #[ptr rb, .int .i64 k] w fun e w' => e = .returned (.tuple #[.bool false, .int .i64 13]) ∧ w = w' := by
  have h := Lib.hid h
  go_enter Try.func16, Try.ntmps16
  go_wp2_with fail
  refine h.out.mono ?_
  rintro e w' ⟨rfl, rfl⟩
  go_wp2_with fail
  go_ret2
  exact ⟨rfl, rfl⟩

set_option maxHeartbeats 400000 in
theorem rdrop_some {k c : Int} {b : Bool} {L' : List (ByteArray × Int)} {used' live' : Int} (hl : L'.length ≤ 1000) (hc : rcount L' k = c) (hb : (c == 0) = b)
    (h : Calls Try.prog 27 #[ptr rb, .int .i64 k, .int .i64 (-1)] w fun e w' => e = .returned (.int .i64 0) ∧ RefIs B w0 w' rb L' room used' live' A) :
    Calls Try.prog 16 #[ptr rb, .int .i64 k] w fun e w' => e = .returned (.tuple #[.bool b, .int .i64 0]) ∧ RefIs B w0 w' rb L' room used' live' A := by
  have h := Lib.hid h
  go_enter Try.func16, Try.ntmps16
  go_wp2_with fail
  refine h.out.mono ?_
  rintro e w1 ⟨rfl, hw⟩
  have hcount := rcount_is hw hl k
  rw [hc] at hcount
  have hcount := Lib.hid hcount
  have hw := Lib.hid hw
  clear hc
  go_wp2_with fail
  refine hcount.out.mono ?_
  rintro e w2 ⟨rfl, rfl⟩
  go_wp2_with fail
  go_ret2
  exact ⟨rfl, hw.out⟩
end
end Go.Proofs.Ytpeedcghpdnogaa
