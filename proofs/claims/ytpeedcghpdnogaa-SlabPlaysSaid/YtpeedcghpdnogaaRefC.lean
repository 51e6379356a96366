/- The document's slab: Put. -/
import Derived.Test.YtpeedcghpdnogaaRefB
import Derived.Deep.AppendLies
namespace Go.Proofs.Ytpeedcghpdnogaa
open Go.RowKit

section
variable {B : Nat} {w0 w : World} {rb : Nat} {L : List (ByteArray × Int)} {room used live : Int} {A : List (Nat × Obj)}

theorem RefIs.drewN (h : RefIs B w0 w rb L room used live A) (n : Nat) : RefIs B w0 (w.drewN n) rb L room used live A := by
  obtain ⟨v, F, h1, h2⟩ := h
  exact ⟨v, F, h1, h2.drewN n⟩

set_option maxHeartbeats 400000 in
theorem rput_large (s : ByteArray) (hl : 256 < s.size) (hm : s.size ≤ maxLen) :
    Calls Try.prog 12 #[ptr rb, .string s] w fun e w' => e = .returned (.tuple #[.int .i64 0, .int .i64 15]) ∧ w = w' := by
  have h1 : (256 : Int) < s.size := by omega
  have h2 : (s.size : Int) ≤ 9223372036854775807 := by unfold maxLen at hm; omega
  clear hl hm
  go_enter Try.func12, Try.ntmps12
  go_wp2_with fail
  go_ret2
  exact ⟨rfl, rfl⟩

set_option maxHeartbeats 1000000 in
theorem rput_full (h : RefIs B w0 w rb L room used live A) (hr0 : 0 ≤ room) (hr1 : room ≤ 100000) (hu0 : 0 ≤ used) (hu1 : used ≤ 100000) (s : ByteArray) (hl : s.size ≤ 256) (hf : room - used < cls s.size ∨ 400 ≤ live) :
    Calls Try.prog 12 #[ptr rb, .string s] w fun e w' => e = .returned (.tuple #[.int .i64 0, .int .i64 12]) ∧ RefIs B w0 w' rb L room used live A := by
  have h1 : (s.size : Int) ≤ 256 := by omega
  have hcl := Lib.hid (fun w => rclass_any s.size w)
  have hfr := Lib.hid (rfree_is h hr0 hr1 hu0 hu1)
  have hcb := cls_le s.size
  have h' := Lib.hid h
  clear hl h
  by_cases hc : room - used < cls s.size
  · go_enter Try.func12, Try.ntmps12
    go_wp2_with fail
    refine (hcl.out _).mono ?_
    rintro e w' ⟨rfl, rfl⟩
    go_wp2_with fail
    refine hfr.out.mono ?_
    rintro e w' ⟨rfl, n, rfl⟩
    go_wp2_with fail
    go_ret2
    exact ⟨rfl, h'.out.drewN n⟩
  · have h4 : 400 ≤ live := by omega
    have hc' : cls s.size ≤ room - used := by omega
    clear hf hc
    obtain ⟨v, F, hs, hst⟩ := h'.out
    have c3 : ∀ n, (w.drewN n).cell? ⟨rb, 3, none⟩ = some (.int .i64 live) := fun n => hst.cell (b := rb) (i := 3) (v := .int .i64 live) List.mem_cons_self rfl
    clear hs hst
    go_enter Try.func12, Try.ntmps12
    go_wp2_with fail
    refine (hcl.out _).mono ?_
    rintro e w' ⟨rfl, rfl⟩
    go_wp2_with fail
    refine hfr.out.mono ?_
    rintro e w' ⟨rfl, n, rfl⟩
    go_wp2_with fail
    go_ret2
    exact ⟨rfl, h'.out.drewN n⟩

/-- What stands behind the copy of the row that Put makes. -/
theorem put_copy {w1 : World} {v v1 : Value} {F : List (Nat × Obj)} (s : ByteArray) (hst : St B w0 w ((rb, refObj v room used live) :: (F ++ A))) (n : Nat)
    (hown : w1.ownsRow B 65 2 v1 L.length (rcells L)) (hg : (w.drewN n).grownBy w1 none) (hat : v1.ownBlock = none ∨ v1.ownBlock = some (w.drewN n).heap.size) :
    ∃ F1, SliceIs 65 2 v1 L.length (rcells L) F1 ∧ St B w0 (w1.alloc (.cells #[.string s, .int .i64 1] 65)) (((rb, refObj v room used live) :: (F ++ A)) ++ F1) ∧
      Hid ((w1.alloc (.cells #[.string s, .int .i64 1] 65)).ownsRow B 65 2 v1 L.length (rcells L)) ∧ Hid (B ≤ (w1.alloc (.cells #[.string s, .int .i64 1] 65)).heap.size) := by
  obtain ⟨F1, e1, e2⟩ := (SliceIs.nil (T := 65) (size := 2)).appended (A := (rb, refObj v room used live) :: (F ++ A)) (F := []) (by simpa using hst.drewN n) hown hg hat
  have e3 := e2.grew (.cells #[.string s, .int .i64 1] 65)
  exact ⟨F1, e1, e3, e1.row e3, e3.base⟩

/-- What stands behind the append that Put makes. -/
theorem put_append {w1 w2 : World} {v v1 v2 : Value} {F F1 : List (Nat × Obj)} {s : ByteArray} (e1 : SliceIs 65 2 v1 L.length (rcells L) F1) (e2 : St B w0 (w1.alloc (.cells #[.string s, .int .i64 1] 65)) (((rb, refObj v room used live) :: (F ++ A)) ++ F1))
    (hown : w2.ownsRow B 65 2 v2 (L.length + 1) (rcells L ++ [.string s, .int .i64 1])) (hg : (w1.alloc (.cells #[.string s, .int .i64 1] 65)).grownBy w2 v1.ownBlock) (hat : v2.ownBlock = v1.ownBlock ∨ v2.ownBlock = some (w1.alloc (.cells #[.string s, .int .i64 1] 65)).heap.size) :
    ∃ F2, SliceIs 65 2 v2 (L.length + 1) (rcells (L ++ [(s, 1)])) F2 ∧ St B w0 w2 (((rb, refObj v room used live) :: (F ++ A)) ++ F2) ∧
      w2.cell? ⟨rb, 0, none⟩ = some v ∧ w2.cell? ⟨rb, 2, none⟩ = some (.int .i64 used) ∧ w2.cell? ⟨rb, 3, none⟩ = some (.int .i64 live) ∧ w2.frozen? ⟨rb, 0, none⟩ = false ∧ w2.frozen? ⟨rb, 2, none⟩ = false ∧ w2.frozen? ⟨rb, 3, none⟩ = false := by
  obtain ⟨F2, e3, e4⟩ := e1.appended e2 hown hg hat
  rw [show rcells L ++ [.string s, .int .i64 1] = rcells (L ++ [(s, 1)]) by rw [rcells_append]; rfl] at e3
  exact ⟨F2, e3, e4, e4.cell (b := rb) (i := 0) List.mem_cons_self rfl, e4.cell (b := rb) (i := 2) List.mem_cons_self rfl, e4.cell (b := rb) (i := 3) List.mem_cons_self rfl, e4.soft (b := rb) List.mem_cons_self 0, e4.soft (b := rb) List.mem_cons_self 2, e4.soft (b := rb) List.mem_cons_self 3⟩

set_option maxRecDepth 100000 in
set_option maxHeartbeats 4000000 in
theorem rput_ok (h : RefIs B w0 w rb L room used live A) (hr0 : 0 ≤ room) (hr1 : room ≤ 100000) (hu0 : 0 ≤ used) (hu1 : used ≤ 100000) (hll : L.length ≤ 1000) (hlv : 0 ≤ live) (s : ByteArray) (hl : s.size ≤ 256) (hf : cls s.size ≤ room - used) (hn : live < 400) :
    Calls Try.prog 12 #[ptr rb, .string s] w fun e w' => e = .returned (.tuple #[.int .i64 ((L.length : Int) + 1), .int .i64 0]) ∧ RefIs B w0 w' rb (L ++ [(s, 1)]) room (used + cls s.size) (live + 1) A := by
  have h1 : (s.size : Int) ≤ 256 := by omega
  have hcl := Lib.hid (fun w => rclass_any s.size w)
  have hfr := Lib.hid (rfree_is h hr0 hr1 hu0 hu1)
  have hcb := cls_le s.size
  have hlc : (L.length : Int) ≤ 1000 := by omega
  obtain ⟨v, F, hs, hst⟩ := h
  have hst' : St B w0 w ((((rb, .cells #[v, .int .i64 room, .int .i64 used, .int .i64 live] 45) :: A) ++ F)) := hst.perm (.cons _ List.perm_append_comm)
  have hrow : ∀ n, Hid ((w.drewN n).ownsRow B 65 2 v L.length (rcells L)) := fun n => hs.row (hst'.drewN n)
  have hbase : ∀ n, Hid (B ≤ (w.drewN n).heap.size) := fun _ => hst.base
  have c3 : ∀ n, (w.drewN n).cell? ⟨rb, 3, none⟩ = some (.int .i64 live) := fun n => hst.cell (b := rb) (i := 3) (v := .int .i64 live) List.mem_cons_self rfl
  have c0 : ∀ n, (w.drewN n).cell? ⟨rb, 0, none⟩ = some v := fun n => hst.cell (b := rb) (i := 0) (v := v) List.mem_cons_self rfl
  obtain ⟨i0, hi, hz0, hz1, hz2⟩ := info_parts infRBody
  have hst := Lib.hid hst
  clear hst' hs hl
  go_enter Try.func12, Try.ntmps12
  go_wp2_with fail
  refine (hcl.out _).mono ?_
  rintro e w' ⟨rfl, rfl⟩
  go_wp2_with fail
  refine hfr.out.mono ?_
  rintro e w' ⟨rfl, n, rfl⟩
  have hrow := hrow n
  have hbase := hbase n
  have hwu : IntKind.i64.wrap (used + cls s.size) = used + cls s.size := IntWalk.i64_in _ (by omega)
  have hwv : IntKind.i64.wrap (live + 1) = live + 1 := IntWalk.i64_in _ (by omega)
  go_wp2_with (first | (at_builtin; refine wpList_append_copy rfl _ (.tmp 28) 43 rfl B 65 i0 _ 2 24 uRBodies hi hz0 hz1 hz2 rfl (by decide) rfl _ rfl L.length (rcells L) hrow.out (rcells_one L) (by unfold maxLen; omega) (by omega) hbase.out ?_; intro v1 w1 hown1 hgrow1 hat1; obtain ⟨F1, e1, e2, hrow1, hbase1⟩ := put_copy s hst.out n hown1 hgrow1 hat1; have e1 := Lib.hid e1; have e2 := Lib.hid e2; clear hown1 hgrow1 hat1) | (at_builtin; refine wpList_append_own_at _ rfl (.tmp 29) (.tmp 32) 43 rfl B 65 i0 _ 2 24 uRBodies hi hz0 hz1 hz2 rfl (by decide) v1 L.length (rcells L) rfl hrow1.out ⟨w1.heap.size, 0, none⟩ 1 1 [.string s, .int .i64 1] rfl rfl (World.news_of_block (heap_alloc_new _ _)) (rcells_one [(s, 1)]) (by unfold maxLen; omega) (by omega) hbase1.out ?_; intro v2 w2 hown2 hgrow2 _ hat2; obtain ⟨F2, e3, e4, c02, c2, c32, f0, f2, f3⟩ := put_append e1.out e2.out hown2 hgrow2 hat2; obtain ⟨g2, cap2, cur2, rfl, hF2, hcap2, hcapm2⟩ := e3.full (by omega); have hF2 := Lib.hid hF2; have e3 := Lib.hid e3; have e4 := Lib.hid e4; clear hown2 hgrow2 hat2))
  go_region_with (go_at_call 25; refine (hcl.out _).mono ?_; rintro e w' ⟨rfl, rfl⟩)
  all_goals
    go_wp2_with fail
    go_ret2
    refine ⟨rfl, ?_⟩
    refine ⟨_, F2, by rw [List.length_append]; exact e3.out, ?_⟩
    have z := (((e4.out.set0 0 (.slice (some ⟨g2, 0, none⟩) (L.length + 1) cap2)).set0 2 (.int .i64 (used + cls s.size))).set0 3 (.int .i64 (live + 1))).drew
    refine (z.perm (.cons _ (List.perm_append_comm.trans (List.perm_append_left_iff F2 |>.2 (.refl _))))).sub ?_
    exact .cons_cons _ ((List.Sublist.refl F2).append (List.sublist_append_right F A))
end
end Go.Proofs.Ytpeedcghpdnogaa
