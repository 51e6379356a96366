/- The statement of layer 1 that fills a slab with bodies of one class. -/
import Derived.Test.YtpeedcghpdnogaaSlabK
import Derived.Test.YtpeedcghpdnogaaSlice
import Derived.Test.YtpeedcghpdnogaaSlabL
namespace Go.Proofs.Ytpeedcghpdnogaa
open Go.RowKit

/-- The slab with a slice beside it, behind an append. -/
theorem SlabIs.appended {B : Nat} {w0 w w' : World} {sb : Nat} {V : SV} {F : List (Nat × Obj)} {T : TypeId} {size n n' : Nat} {v v' : Value} {xs xs' : List Value}
    (hs : SlabIs B w0 w sb V F) (h : SliceIs T size v n xs F) (hown : w'.ownsRow B T size v' n' xs') (hg : w.grownBy w' v.ownBlock)
    (hat : v'.ownBlock = v.ownBlock ∨ v'.ownBlock = some w.heap.size) : ∃ F', SliceIs T size v' n' xs' F' ∧ SlabIs B w0 w' sb V F' := by
  obtain ⟨g, h1, h2, h3, h4, h5⟩ := hs
  obtain ⟨F', e1, e2⟩ := h.appended h5 hown hg hat
  exact ⟨F', e1, g, h1, h2, h3, h4, e2⟩
theorem SlabIs.base {B : Nat} {w0 w : World} {sb : Nat} {V : SV} {F : List (Nat × Obj)} (hs : SlabIs B w0 w sb V F) : B ≤ w.heap.size := by
  obtain ⟨g, h1, h2, h3, h4, h5⟩ := hs
  exact h5.base
theorem SlabIs.row {B : Nat} {w0 w : World} {sb : Nat} {V : SV} {F : List (Nat × Obj)} {T : TypeId} {size n : Nat} {v : Value} {xs : List Value}
    (hs : SlabIs B w0 w sb V F) (h : SliceIs T size v n xs F) : w.ownsRow B T size v n xs := by
  obtain ⟨g, h1, h2, h3, h4, h5⟩ := hs
  exact h.row h5

def seqL (z : List UInt8) (i : Nat) : List (Int × Int × List UInt8) := (List.range i).map fun (j : Nat) => ((j : Int) + 1, 1, z)
def seqH (i : Nat) : List Value := (List.range i).map fun (j : Nat) => Value.int .i64 ((j : Int) + 1)

theorem seqL_len (z : List UInt8) (i : Nat) : (seqL z i).length = i := by simp [seqL]
theorem seqL_succ (z : List UInt8) (i : Nat) : seqL z (i + 1) = seqL z i ++ [((i : Int) + 1, 1, z)] := by simp [seqL, List.range_succ]
theorem seqH_succ (i : Nat) : seqH (i + 1) = seqH i ++ [Value.int .i64 ((i : Int) + 1)] := by simp [seqH, List.range_succ]
theorem seqH_len (i : Nat) : (seqH i).length = i := by simp [seqH]
theorem seqH_at {i j : Nat} (h : j < i) : (seqH i)[j]? = some (.int .i64 ((j : Int) + 1)) := by simp [seqH, h]
theorem seqL_find (z : List UInt8) {i j : Nat} (h : j < i) : (seqL z i).find? (·.1 == (j : Int) + 1) = some ((j : Int) + 1, 1, z) := by
  induction i with
  | zero => omega
  | succ i ih =>
    rw [seqL_succ, List.find?_append]
    by_cases hj : j < i
    · rw [ih hj]
      rfl
    · have hji : j = i := by omega
      subst hji
      have : (seqL z j).find? (·.1 == (j : Int) + 1) = none := by
        rw [List.find?_eq_none]
        intro x hx e
        obtain ⟨t, ht, rfl⟩ := List.mem_map.1 hx
        have ht := List.mem_range.1 ht
        have : (t : Int) + 1 = (j : Int) + 1 := by simpa using e
        omega
      rw [this]
      simp
theorem seqL_gone (z : List UInt8) (i j : Nat) : ∀ x ∈ (seqL z i).eraseP (·.1 == (j : Int) + 1), x.1 ≠ (j : Int) + 1 := by
  induction i with
  | zero => intro x hx; simp [seqL] at hx
  | succ i ih =>
    intro x hx e
    rw [seqL_succ] at hx
    by_cases hj : j < i
    · have hm : ((j : Int) + 1, 1, z) ∈ seqL z i := List.mem_map.2 ⟨j, List.mem_range.2 hj, rfl⟩
      rw [List.eraseP_append_left (by simp) _ hm] at hx
      rcases List.mem_append.1 hx with hx | hx
      · exact ih x hx e
      · obtain rfl := List.mem_singleton.1 hx
        have : (i : Int) + 1 = (j : Int) + 1 := e
        omega
    · have hn : ∀ y ∈ seqL z i, ¬ (y.1 == (j : Int) + 1) = true := by
        intro y hy e
        obtain ⟨t, ht, rfl⟩ := List.mem_map.1 hy
        have ht := List.mem_range.1 ht
        have : (t : Int) + 1 = (j : Int) + 1 := by simpa using e
        omega
      rw [List.eraseP_append_right _ hn] at hx
      rcases List.mem_append.1 hx with hx | hx
      · exact hn x hx (by simpa using e)
      · by_cases hji : (i : Int) + 1 = (j : Int) + 1
        · simp [hji] at hx
        · have h2 : ((i : Int) + 1 == (j : Int) + 1) = false := by simpa using hji
          simp only [List.eraseP_cons, h2, cond_false, List.eraseP_nil] at hx
          obtain rfl := List.mem_singleton.1 hx
          exact hji e

theorem seq_put {z : List UInt8} {c fr : Int} {i : Nat} (hc : cls z.length = c) (hl : z.length ≤ 256) (hf : c ≤ fr) (hi : i < 400) :
    (⟨fr, i, seqL z i⟩ : SV).put z = (((i : Int) + 1, 0), ⟨fr - c, ((i + 1 : Nat) : Int), seqL z (i + 1)⟩) := by
  unfold SV.put
  rw [if_neg (by omega), if_neg, hc, seqL_succ]
  · rfl
  · simp only [seqL_len, hc]
    omega
theorem seq_full {z : List UInt8} {c fr : Int} {i : Nat} (hc : cls z.length = c) (hl : z.length ≤ 256) (hf : fr < c) :
    (⟨fr, i, seqL z i⟩ : SV).put z = ((0, 12), ⟨fr, i, seqL z i⟩) := by
  unfold SV.put
  rw [if_neg (by omega), if_pos]
  exact .inl (by rw [hc]; exact hf)
def seqE (z : List UInt8) (i j : Nat) : List (Int × Int × List UInt8) := (seqL z i).eraseP (·.1 == (j : Int) + 1)
theorem seq_drop {z : List UInt8} {c fr : Int} {i j : Nat} (hc : cls z.length = c) (hj : j < i) :
    (⟨fr, i, seqL z i⟩ : SV).drop ((j : Int) + 1) = ((true, 0), ⟨fr + c, i, seqE z i j⟩) := by
  unfold SV.drop SV.seek
  rw [seqL_find z hj]
  show ((true, 0), (⟨fr + cls z.length, i, _⟩ : SV)) = _
  rw [hc]
  rfl
theorem seqE_len (z : List UInt8) {i j : Nat} (hj : j < i) : (seqE z i j).length = i - 1 := by
  unfold seqE
  have hm : ((j : Int) + 1, 1, z) ∈ seqL z i := List.mem_map.2 ⟨j, List.mem_range.2 hj, rfl⟩
  rw [List.length_eraseP_of_mem hm (by simp), seqL_len]
theorem seq_again {z : List UInt8} {c fr : Int} {i j : Nat} (hc : cls z.length = c) (hl : z.length ≤ 256) (hf : c ≤ fr) (hj : j < i) (hi : i < 400) :
    (⟨fr, i, seqE z i j⟩ : SV).put z = (((i : Int) + 1, 0), ⟨fr - c, (i : Int) + 1, seqE z i j ++ [((i : Int) + 1, 1, z)]⟩) := by
  unfold SV.put
  rw [if_neg (by omega), if_neg, hc]
  simp only [seqE_len z hj, hc]
  omega
theorem seq_count {z : List UInt8} {fr l : Int} {i j : Nat} (hj : j < i) : (⟨fr, l, seqE z i j ++ [((i : Int) + 1, 1, z)]⟩ : SV).count ((j : Int) + 1) = 0 := by
  unfold SV.count SV.seek
  have : (seqE z i j ++ [((i : Int) + 1, 1, z)]).find? (fun (x : Int × Int × List UInt8) => x.1 == (j : Int) + 1) = none := by
    rw [List.find?_eq_none]
    intro x hx e
    rcases List.mem_append.1 hx with hx | hx
    · exact seqL_gone z i j x hx (by simpa using e)
    · obtain rfl := List.mem_singleton.1 hx
      have : (i : Int) + 1 = (j : Int) + 1 := by simpa using e
      omega
  rw [this]
theorem seq_few {z : List UInt8} {fr l : Int} {i : Nat} : ∀ x ∈ (⟨fr, l, seqL z i⟩ : SV).bs, x.2.1 < 9223372036854775807 := by
  intro x hx
  obtain ⟨t, _, rfl⟩ := List.mem_map.1 hx
  show (1 : Int) < 9223372036854775807
  decide

theorem SlabIs.at_ {B : Nat} {w0 w : World} {sb : Nat} {V : SV} {F : List (Nat × Obj)} {T : TypeId} {n cap g : Nat} {xs : List Value}
    (hs : SlabIs B w0 w sb V F) (h : SliceIs T 1 (.slice (some ⟨g, 0, none⟩) n cap) n xs F) {j : Nat} {x : Value} (hj : j < n) (hx : xs[j]? = some x) : w.cell? ⟨g, j, none⟩ = some x := by
  rw [← hx]
  exact (hs.row h).cellAt j (by omega)

theorem infInt : (Try.prog.info? 3).map (fun i => (i.zero, i.size, i.bytes)) = some (some (.int .i64 0), 1, 8) := by kernel_rfl
theorem uInts : Try.prog.underlying 28 = some (.slice 3) := by kernel_rfl

theorem fr_step {m i c : Int} (h : i < m) (hc : 0 ≤ c) : c ≤ m * c + c - 1 - i * c + 1 - 1 ∨ c = 0 := by
  by_cases h0 : c = 0
  · exact .inr h0
  · left
    have h1 : (i + 1) * c ≤ m * c := Int.mul_le_mul_of_nonneg_right (by omega) hc
    rw [Int.add_mul] at h1
    omega

set_option maxRecDepth 100000 in
set_option maxHeartbeats 4000000 in
theorem room_core (n r q c : Int) (hn0 : 0 ≤ n) (hn1 : n ≤ 255) (hr0 : 0 ≤ r) (hr1 : r ≤ 255) (hq0 : 0 ≤ q) (hq1 : q ≤ 255) (hc : cls (n % 256 + 1) = c) (hc1 : 32 ≤ c) (hc2 : c ≤ 256) (w : World) :
    Calls Try.prog 6 #[.int .u8 n, .int .u8 r, .int .u8 q] w fun e w' => e = .returned (.bool true) ∧ Below w.heap.size w w' := by
  have hk := Lib.hid (known_true w)
  have hkk : 1 ≤ n % 256 + 1 ∧ n % 256 + 1 ≤ 256 := by omega
  have hmm : 1 ≤ r % 20 + 1 ∧ r % 20 + 1 ≤ 20 := by omega
  have hp0 : 0 ≤ (r % 20 + 1) * c := Int.mul_nonneg (by omega) (by omega)
  have hp1 : (r % 20 + 1) * c ≤ 20 * 256 := Int.le_trans (Int.mul_le_mul_of_nonneg_right hmm.2 (by omega)) (Int.mul_le_mul_of_nonneg_left hc2 (by omega))
  have c1 := Lib.hid (fun w => class_to hc w)
  have hc := Lib.hid hc
  go_enter Try.func6, Try.ntmps6
  go_wp2_with fail
  refine hk.out.mono ?_
  rintro e w1 ⟨rfl, hb⟩
  have hb := Lib.hid hb
  go_wp2_with fail
  refine (c1.out _).mono ?_
  rintro e w2 ⟨rfl, rfl⟩
  clear c1
  generalize n % 256 + 1 = k at *
  have c2 := Lib.hid (new_is (St.start w1) ((r % 20 + 1) * c + c - 1))
  go_wp2_with fail
  refine c2.out.mono ?_
  rintro e w2 ⟨rfl, h2⟩
  have h2 : SlabIs w1.heap.size w1 w2 w1.heap.size ⟨(r % 20 + 1) * c + c - 1, (0 : Nat), seqL (List.replicate k.toNat 0) 0⟩ [] := by
    have e : SV.new ((r % 20 + 1) * c + c - 1) = ⟨(r % 20 + 1) * c + c - 1, (0 : Nat), seqL (List.replicate k.toNat 0) 0⟩ := by
      unfold SV.new
      congr 1
      omega
    rw [← e]
    exact h2
  have h2 := Lib.hid h2
  clear c2
  generalize r % 20 + 1 = mI at *
  obtain ⟨m, rfl⟩ : ∃ m : Nat, mI = m := ⟨mI.toNat, by omega⟩
  obtain ⟨i0, hi, hz0, hz1, hz2⟩ := info_parts infInt
  have hzl : (List.replicate k.toNat (0 : UInt8)).length ≤ 256 := by rw [List.length_replicate]; omega
  have hzc : cls ((List.replicate k.toNat (0 : UInt8)).length : Int) = c := by
    rw [List.length_replicate, show ((k.toNat : Nat) : Int) = k by omega]
    exact hc.out
  have hzl := Lib.hid hzl
  have hzc := Lib.hid hzc
  have hkm : k.toNat ≤ maxLen := by unfold maxLen; omega
  have hkm := Lib.hid hkm
  go_wp2_with fail
  go_loopw [11, 12] (fun v i wr => ∃ (j : Nat) (fr : Int) (F : List (Nat × Obj)), i = .int .i64 j ∧ j ≤ m ∧ Hid (fr = m * c + c - 1 - j * c) ∧ SliceIs 3 1 v j (seqH j) F ∧
    SlabIs w1.heap.size w1 wr w1.heap.size ⟨fr, j, seqL (List.replicate k.toNat 0) j⟩ F) (fun _ i _ => m - (intOf i).toNat)
  case atStart => exact ⟨0, _, [], rfl, Nat.zero_le _, by simp [Hid], SliceIs.nil, h2.out⟩
  case round =>
    obtain ⟨j, fr, F, rfl, hj, hfr, hsl, hs⟩ := hrel
    clear h2
    by_cases hlt : j < m
    · have mk := mk_bytes wr k (by omega) (by omega)
      have cv := cv_bytes wr k.toNat hkm.out
      have hfc : c ≤ fr := by
        have h1 := hfr.out
        have h3 : ((j : Int) + 1) * c ≤ m * c := Int.mul_le_mul_of_nonneg_right (by omega) (by omega)
        rw [Int.add_mul] at h3
        omega
      have cp := Lib.hid (put_to (hs.alloc (zbytes k.toNat)) (zba k.toNat) (by rw [zba_size]; exact hkm.out) (by show (j : Int) < _; omega) (seq_put hzc.out hzl.out hfc (by omega)))
      clear hs
      go_wp2_with fail
      refine cp.out.mono ?_
      rintro e w4 ⟨rfl, h4⟩
      clear cp mk cv
      have hs5 := h4.alloc (.cells #[.int .i64 ((j : Int) + 1)] 3)
      have hrow := Lib.hid (hs5.row hsl)
      have hsl := Lib.hid hsl
      have hs5 := Lib.hid hs5
      have hge : w1.heap.size ≤ (w4.alloc (.cells #[.int .i64 ((j : Int) + 1)] 3)).heap.size := hs5.out.base
      have hge := Lib.hid hge
      go_wp2_with (at_builtin; refine wpList_append_own_at _ rfl (.tmp 56) (.tmp 58) 28 rfl w1.heap.size 3 i0 (.int .i64 0) 1 8 uInts hi hz0 hz1 hz2 rfl (by decide) _ _ _ rfl hrow.out ⟨w4.heap.size, 0, none⟩ 1 1 [.int .i64 ((j : Int) + 1)] rfl rfl (cell_one_new _ _ _) (by intro u hu; obtain rfl := List.mem_singleton.1 hu; rfl) (by unfold maxLen; omega) (by omega) hge.out ?_; intro v2 w5 hown2 hgrow2 _ hat2; have hown2' := Lib.hid hown2; have hgrow2' := Lib.hid hgrow2; have hat2' := Lib.hid hat2; clear hown2 hgrow2 hat2)
      obtain ⟨F', e1, e2⟩ := hs5.out.appended hsl.out hown2'.out hgrow2'.out hat2'.out
      have e1 := Lib.hid e1
      have e2 := Lib.hid e2
      go_roundw
      case rel =>
        refine ⟨j + 1, fr - c, F', by go_num, by omega, ?_, by rw [seqH_succ]; exact e1.out, e2.out⟩
        show fr - c = _
        rw [hfr.out, show (((j + 1 : Nat) : Int)) * c = j * c + c by rw [Int.natCast_add, Int.add_mul]; simp]
        omega
      case measure => simp [intOf]; omega
    · have hjm : j = m := by omega
      subst hjm
      have hfc : fr = c - 1 := by have := hfr.out; omega
      obtain ⟨g1, cap, cur, rfl, hF, hcap, hcm⟩ := hsl.full (by omega)
      have mk := mk_bytes wr k (by omega) (by omega)
      have cv := cv_bytes wr k.toNat hkm.out
      have cp := Lib.hid (put_to (hs.alloc (zbytes k.toNat)) (zba k.toNat) (by rw [zba_size]; exact hkm.out) (by show (j : Int) < _; omega) (seq_full hzc.out hzl.out (by omega)))
      have hfc := Lib.hid hfc
      have hF := Lib.hid hF
      have hsl := Lib.hid hsl
      clear hs
      go_wp2_with fail
      refine cp.out.mono ?_
      rintro e w4 ⟨rfl, h4⟩
      clear cp mk cv
      have ht0 : 0 ≤ q % (j : Int) := Int.emod_nonneg _ (by omega)
      have ht1 : q % (j : Int) < j := Int.emod_lt_of_pos _ (by omega)
      have htn : ((q % (j : Int)).toNat : Int) = q % (j : Int) := Int.toNat_of_nonneg ht0
      have htl : (q % (j : Int)).toNat < j := by omega
      have hx : (seqH j)[(q % (j : Int)).toNat]? = some (.int .i64 (q % (j : Int) + 1)) := by rw [seqH_at htl, htn]
      have hcell : w4.cell? ⟨g1, (q % (j : Int)).toNat, none⟩ = some (.int .i64 (q % (j : Int) + 1)) := h4.at_ hsl.out htl hx
      have cd := drop_to h4 (((q % (j : Int)).toNat : Int) + 1) seq_few (seq_drop (fr := fr) hzc.out htl)
      rw [htn] at cd
      have cd := Lib.hid cd
      have htn := Lib.hid htn
      have htl := Lib.hid htl
      have hx := Lib.hid hx
      clear h4
      go_wp2_with fail
      refine cd.out.mono ?_
      rintro e w5 ⟨rfl, h5⟩
      have mk := mk_bytes w5 k (by omega) (by omega)
      have cv := cv_bytes w5 k.toNat hkm.out
      have cp := put_to (h5.alloc (zbytes k.toNat)) (zba k.toNat) (by rw [zba_size]; exact hkm.out) (by show (j : Int) < _; omega) (seq_again hzc.out hzl.out (by have := hfc.out; omega) htl.out (by omega))
      rw [Int.add_sub_cancel] at cp
      have cp := Lib.hid cp
      clear h5 hcell
      go_wp2_with fail
      refine cp.out.mono ?_
      rintro e w6 ⟨rfl, h6⟩
      clear mk cv
      have hcell : w6.cell? ⟨g1, (q % (j : Int)).toNat, none⟩ = some (.int .i64 (q % (j : Int) + 1)) := h6.at_ hsl.out htl.out hx.out
      have cf : Hid (Calls Try.prog 17 #[ptr w1.heap.size] w6 fun e w' => e = .returned (.int .i64 fr) ∧ w6 = w') := free_is h6
      have cl := live_is h6
      rw [show ((⟨fr, (j : Int) + 1, seqE (List.replicate k.toNat 0) j (q % (j : Int)).toNat ++ [((j : Int) + 1, 1, List.replicate k.toNat 0)]⟩ : SV).bs.length : Int) = j by
        show ((seqE _ j _ ++ [_]).length : Int) = j
        rw [List.length_append, seqE_len _ htl.out, List.length_cons, List.length_nil]
        omega] at cl
      have cl := Lib.hid cl
      have cc := count_to h6 (((q % (j : Int)).toNat : Int) + 1) (seq_count htl.out)
      rw [htn.out] at cc
      have cc := Lib.hid cc
      have hfb : (fr == c - 1) = true := by have := hfc.out; rw [beq_iff_eq]; exact this
      have h6 := Lib.hid h6
      go_wp2_with fail
      refine cf.out.mono ?_
      rintro e w7 ⟨rfl, rfl⟩
      go_wp2_with fail
      refine cl.out.mono ?_
      rintro e w7 ⟨rfl, rfl⟩
      go_wp2_with fail
      refine cc.out.mono ?_
      rintro e w7 ⟨rfl, rfl⟩
      go_wp2_with fail
      go_ret
      refine ⟨ret_bool (a := ((j : Int) + 1 != q % (j : Int) + 1)) (b := true) ?_, hb.out.trans (h6.out.below.mono hb.out.size)⟩
      rw [bne_iff_ne]
      omega

theorem room_walk (n r q : Int) (hn0 : 0 ≤ n) (hn1 : n ≤ 255) (hr0 : 0 ≤ r) (hr1 : r ≤ 255) (hq0 : 0 ≤ q) (hq1 : q ≤ 255) (w : World) :
    Calls Try.prog 6 #[.int .u8 n, .int .u8 r, .int .u8 q] w fun e w' => e = .returned (.bool true) ∧ Below w.heap.size w w' := by
  have hk : 1 ≤ n % 256 + 1 ∧ n % 256 + 1 ≤ 256 := by omega
  rcases cls_cases (n % 256 + 1) with ⟨h, hc⟩ | ⟨h, hc⟩ | ⟨⟨h, h'⟩, hc⟩ | ⟨⟨h, h'⟩, hc⟩ | ⟨⟨h, h'⟩, hc⟩ | ⟨⟨h, h'⟩, hc⟩
  · omega
  · omega
  all_goals exact room_core n r q _ hn0 hn1 hr0 hr1 hq0 hq1 hc (by omega) (by omega) w
end Go.Proofs.Ytpeedcghpdnogaa
