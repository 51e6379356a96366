/- The statement of layer 1 on handles: none is told twice, what is gone is stale for ever, with all gone all is free. -/
import Derived.Test.YtpeedcghpdnogaaSlabN
import Derived.OpenShut
namespace Go.Proofs.Ytpeedcghpdnogaa
open Go.RowKit

structure NV (V : SV) (i : Nat) : Prop where
  last : V.last = i
  one : ∀ x ∈ V.bs, x.2.1 = 1 ∧ 1 ≤ x.1 ∧ x.1 ≤ i
  nodup : (V.bs.map (·.1)).Nodup
  room : V.free + V.used = 100000
  few : V.bs.length ≤ i

theorem NV.start : NV (SV.new 100000) 0 := by
  refine ⟨rfl, fun x hx => absurd hx List.not_mem_nil, List.nodup_nil, ?_, Nat.le_refl _⟩
  simp only [SV.new, SV.used, List.map_nil, List.sum_nil]
  omega

theorem used_le (V : SV) : V.used ≤ 256 * V.bs.length := by
  unfold SV.used
  generalize V.bs = l
  induction l with
  | nil => simp
  | cons x l ih =>
    have := (cls_le x.2.2.length).2
    simp only [List.map_cons, List.sum_cons, List.length_cons]
    omega

theorem NV.put {V : SV} {i : Nat} (h : NV V i) (hi : i < 40) {z : List UInt8} (hz : z.length ≤ 256) :
    ∃ V', V.put z = (((i : Int) + 1, 0), V') ∧ NV V' (i + 1) := by
  have hc := cls_le z.length
  have hu := used_le V
  have hf := h.few
  have hr := h.room
  refine ⟨⟨V.free - cls z.length, (i : Int) + 1, V.bs ++ [((i : Int) + 1, 1, z)]⟩, ?_, ?_⟩
  · unfold SV.put
    rw [if_neg (by omega), if_neg (by omega), h.last]
  · refine ⟨by simp, fun x hx => ?_, ?_, ?_, ?_⟩
    · rcases List.mem_append.1 hx with hx | hx
      · obtain ⟨h1, h2, h3⟩ := h.one x hx
        exact ⟨h1, h2, by omega⟩
      · obtain rfl := List.mem_singleton.1 hx
        exact ⟨rfl, by show (1 : Int) ≤ (i : Int) + 1; omega, by show (i : Int) + 1 ≤ _; omega⟩
    · simp only [List.map_append, List.map_cons, List.map_nil]
      refine List.nodup_append.2 ⟨h.nodup, by simp, fun x hx y hy => ?_⟩
      obtain ⟨b, hb, rfl⟩ := List.mem_map.1 hx
      obtain rfl := List.mem_singleton.1 hy
      have := (h.one b hb).2.2
      omega
    · have hr' : V.free + (V.bs.map fun x => cls x.2.2.length).sum = 100000 := hr
      simp only [SV.used, List.map_append, List.map_cons, List.map_nil, List.sum_append, List.sum_cons, List.sum_nil]
      omega
    · simp only [List.length_append, List.length_cons, List.length_nil]
      omega

theorem NV.few' {V : SV} {i : Nat} (h : NV V i) : ∀ x ∈ V.bs, x.2.1 < 9223372036854775807 := fun x hx => by rw [(h.one x hx).1]; decide

theorem NV.drop {V : SV} {i : Nat} (h : NV V i) (k : Int) :
    ∃ V', (V.count k = 1 ∧ V.drop k = ((true, 0), V') ∨ V.count k = 0 ∧ V.drop k = ((false, 13), V') ∧ V' = V) ∧ NV V' i ∧ ∀ x ∈ V'.bs, x ∈ V.bs ∧ x.1 ≠ k := by
  cases hs : V.seek k with
  | none =>
    refine ⟨V, .inr ⟨by unfold SV.count; rw [hs], by unfold SV.drop; rw [hs], rfl⟩, h, fun x hx => ⟨hx, fun e => ?_⟩⟩
    have := List.find?_eq_none.1 hs x hx
    simp [e] at this
  | some y =>
    have hy := List.mem_of_find?_eq_some hs
    have hy1 := (h.one y hy).1
    have hsub : (V.bs.eraseP (·.1 == k)).Sublist V.bs := List.eraseP_sublist
    refine ⟨⟨V.free + cls y.2.2.length, V.last, V.bs.eraseP (·.1 == k)⟩, .inl ⟨by unfold SV.count; rw [hs]; exact hy1, by unfold SV.drop; rw [hs]; show (if 1 < y.2.1 then _ else _) = _; rw [if_neg (by omega)]⟩, ⟨h.last, fun x hx => h.one x (hsub.subset hx), (hsub.map _).nodup h.nodup, ?_, Nat.le_trans hsub.length_le h.few⟩, fun x hx => ⟨hsub.subset hx, fun e => ?_⟩⟩
    · have hue := used_erase hs
      have hr' : V.free + (V.bs.map fun x => cls x.2.2.length).sum = 100000 := h.room
      show (V.free + cls y.2.2.length) + ((V.bs.eraseP (·.1 == k)).map fun x => cls x.2.2.length).sum = 100000
      omega
    · have hk : y.1 = k := by simpa using List.find?_some hs
      obtain ⟨l1, l2, hb⟩ := List.append_of_mem hy
      have hn := h.nodup
      rw [hb] at hn
      simp only [List.map_append, List.map_cons] at hn
      have e1 : ∀ z ∈ l1, ¬ (z.1 == k) = true := by
        intro z hz e
        have e : z.1 = k := by simpa using e
        exact (List.nodup_append.1 hn).2.2 z.1 (List.mem_map_of_mem hz) y.1 (by simp) (e.trans hk.symm)
      rw [hb, List.eraseP_append_right _ e1] at hx
      have hk' : (y.1 == k) = true := by simpa using hk
      simp only [List.eraseP_cons, hk', cond_true] at hx
      rcases List.mem_append.1 hx with hx | hx
      · exact e1 x hx (by simpa using e)
      · exact (List.nodup_cons.1 (List.nodup_append.1 hn).2.1).1 (by rw [hk, ← e]; exact List.mem_map_of_mem hx)

theorem NV.stale {V : SV} {k : Int} (h : ∀ x ∈ V.bs, x.1 ≠ k) : V.hold k = (13, V) := by
  unfold SV.hold SV.seek
  rw [List.find?_eq_none.2 (fun x hx e => h x hx (by simpa using e))]

theorem NV.done {V : SV} {i : Nat} (h : NV V i) (hb : ∀ x ∈ V.bs, (i : Int) < x.1) : V.free = 100000 ∧ V.bs = [] := by
  have e : V.bs = [] := by
    cases hbs : V.bs with
    | nil => rfl
    | cons x l =>
      have h1 := (h.one x (by rw [hbs]; simp)).2.2
      have h2 := hb x (by rw [hbs]; simp)
      omega
  have hr := h.room
  unfold SV.used at hr
  rw [e] at hr
  refine ⟨by simpa using hr, e⟩

/-- A slice of bytes that came in: what lies at each of its places. -/
def RowAt (w : World) (a : Option Addr) (len : Nat) (rd : Nat → Int) : Prop :=
  ∀ j, j < len → ∃ b off, a = some ⟨b, off, none⟩ ∧ w.cell? ⟨b, off + j, none⟩ = some (.int .u8 (rd j)) ∧ 0 ≤ rd j ∧ rd j ≤ 255

theorem RowAt.of {w : World} {a : Option Addr} {len cap : Nat} {zs : List Int}
    (h : (a = none ∧ len = 0 ∧ cap = 0 ∧ zs = []) ∨ ∃ x, a = some x ∧ len ≤ cap ∧ cap ≤ maxLen ∧ zs.length = cap ∧ (∀ i, i < zs.length → w.cell? (x.add i) = some (.int .u8 (zs.getD i 0))) ∧ ∀ n ∈ zs, (Lit.int .u8 n).wf = true) :
    RowAt w a len (fun j => zs.getD j 0) := by
  intro j hj
  rcases h with ⟨_, h, _⟩ | ⟨x, rfl, h1, _, h3, h4, h5⟩
  · omega
  · obtain ⟨b, off, rfl, hc⟩ := ints_at h4 (by omega)
    have hr := range_u8 h5 j
    refine ⟨b, off, rfl, hc j (by omega), ?_⟩
    simpa [List.getD_eq_getElem?_getD] using hr

theorem RowAt.len {w : World} {a : Option Addr} {len cap : Nat} {zs : List Int}
    (h : (a = none ∧ len = 0 ∧ cap = 0 ∧ zs = []) ∨ ∃ x, a = some x ∧ len ≤ cap ∧ cap ≤ maxLen ∧ zs.length = cap ∧ (∀ i, i < zs.length → w.cell? (x.add i) = some (.int .u8 (zs.getD i 0))) ∧ ∀ n ∈ zs, (Lit.int .u8 n).wf = true) :
    len ≤ maxLen := by
  rcases h with ⟨_, h, _⟩ | ⟨x, _, h1, h2, _⟩
  · rw [h]; exact Nat.zero_le _
  · exact Nat.le_trans h1 h2

theorem RowAt.kept {w w' : World} {a : Option Addr} {len : Nat} {rd : Nat → Int} (h : RowAt w a len rd) (hb : Below w.heap.size w w') : RowAt w' a len rd := by
  intro j hj
  obtain ⟨b, off, h1, h2, h3⟩ := h j hj
  have hlt := World.block_lt_of_cell? w _ h2
  exact ⟨b, off, h1, by rw [hb.cell (p := ⟨b, off + j, none⟩) hlt]; exact h2, h3⟩

theorem SliceIs.form {T : TypeId} {size n : Nat} {v : Value} {xs : List Value} {F : List (Nat × Obj)} (h : SliceIs T size v n xs F) : ∃ a cap, v = .slice a n cap ∧ n ≤ cap ∧ cap ≤ maxLen ∧ ∀ k, k < n → ∃ g, a = some ⟨g, 0, none⟩ := by
  obtain ⟨_, ⟨h1, h2, _⟩ | ⟨g, cap, cur, h1, _, h3, h4, _⟩⟩ := h
  · exact ⟨none, 0, by rw [h1, h2], by omega, Nat.zero_le _, fun k hk => by omega⟩
  · exact ⟨_, cap, h1, h3, h4, fun _ _ => ⟨g, rfl⟩⟩

set_option maxRecDepth 100000 in
set_option maxHeartbeats 4000000 in
theorem new_walk (a0 a1 : Option Addr) (len0 cap0 len1 cap1 : Nat) (r0 r1 : Nat → Int) (w : World) (w0 : RowAt w a0 len0 r0) (w1 : RowAt w a1 len1 r1) (hl0 : len0 ≤ maxLen) (hl1 : len1 ≤ maxLen) :
    Calls Try.prog 5 #[.slice a0 len0 cap0, .slice a1 len1 cap1] w fun e w' => e = .returned (.bool true) ∧ Below w.heap.size w w' := by
  have hk := Lib.hid (known_true w)
  have hm0 : (len0 : Int) ≤ 9223372036854775807 := by unfold maxLen at hl0; omega
  have hm1 : (len1 : Int) ≤ 9223372036854775807 := by unfold maxLen at hl1; omega
  clear hl0 hl1
  have w0 := Lib.hid w0
  have w1 := Lib.hid w1
  by_cases hb0 : 40 < len0
  · go_enter Try.func5, Try.ntmps5
    go_wp2_with fail
    refine hk.out.mono ?_
    rintro e w2 ⟨rfl, hw⟩
    have hw := Lib.hid hw
    go_wp2_with fail
    go_ret
    exact ⟨rfl, hw.out⟩
  by_cases hb1 : 40 < len1
  · go_enter Try.func5, Try.ntmps5
    go_wp2_with fail
    refine hk.out.mono ?_
    rintro e w2 ⟨rfl, hw⟩
    have hw := Lib.hid hw
    go_wp2_with fail
    go_ret
    exact ⟨rfl, hw.out⟩
  have hb0' : len0 ≤ 40 := by omega
  have hb1' : len1 ≤ 40 := by omega
  clear hb0 hb1 hm0 hm1
  go_enter Try.func5, Try.ntmps5
  go_wp2_with fail
  refine hk.out.mono ?_
  rintro e w2 ⟨rfl, hw⟩
  have w0 := w0.out.kept hw
  have w1 := w1.out.kept hw
  have hw := Lib.hid hw
  have cn := Lib.hid (new_is (St.start w2) 100000)
  have w0 := Lib.hid w0
  have w1 := Lib.hid w1
  go_wp2_with fail
  refine cn.out.mono ?_
  rintro e w3 ⟨rfl, h3⟩
  have h3 := Lib.hid h3
  clear cn hk
  go_wp2_with fail
  obtain ⟨i0, hi, hz0, hz1, hz2⟩ := info_parts infInt
  go_loopw [6, 7] (fun v i wr => ∃ (j : Nat) (V : SV) (F : List (Nat × Obj)), i = .int .i64 j ∧ j ≤ len0 ∧ SliceIs 3 1 v j (seqH j) F ∧
    SlabIs w2.heap.size w2 wr w2.heap.size V F ∧ NV V j) (fun _ i _ => len0 - (intOf i).toNat)
  case atStart => exact ⟨0, _, [], rfl, Nat.zero_le _, SliceIs.nil, h3.out, NV.start⟩
  case round =>
    obtain ⟨j, V, F, rfl, hj, hsl, hs, hv⟩ := hrel
    clear h3
    obtain ⟨av, capv, rfl, hcv, hcm, hav⟩ := hsl.form
    have hav := Lib.hid hav
    by_cases hlt : j < len0
    · obtain ⟨b, off, rfl, hc, hr0, hr1⟩ := (w0.out.kept hs.below) j hlt
      have w0' := w0
      clear w0
      generalize hrj : r0 j = x at *
      clear hrj
      have mk := mk_bytes wr x hr0 (by omega)
      have hxm : x.toNat ≤ maxLen := by unfold maxLen; omega
      have cv := cv_bytes wr x.toNat hxm
      obtain ⟨V1, hp1, hv1⟩ := hv.put (by omega) (z := List.replicate x.toNat 0) (by rw [List.length_replicate]; omega)
      have cp := Lib.hid (put_to (hs.alloc (zbytes x.toNat)) (zba x.toNat) (by rw [zba_size]; exact hxm) (by rw [hv.last]; omega) hp1)
      have hxm := Lib.hid hxm
      have hsl := Lib.hid hsl
      clear hs hv hp1
      have hv1 := Lib.hid hv1
      go_wp2_with fail
      refine cp.out.mono ?_
      rintro e w4 ⟨rfl, h4⟩
      clear cp mk cv hc
      have h4 := Lib.hid h4
      go_wp2_with fail
      go_loop [10] (fun t => ∃ k : Nat, t = .int .i64 k ∧ k ≤ j) (fun t => j - (intOf t).toNat)
      case atStart => exact ⟨0, rfl, Nat.zero_le _⟩
      case round =>
        obtain ⟨k, rfl, hk⟩ := hrel
        by_cases hkj : k < j
        · obtain ⟨g, rfl⟩ := hav.out k hkj
          have hcell := h4.out.at_ hsl.out hkj (seqH_at hkj)
          have hne : ((k : Int) + 1 == (j : Int) + 1) = false := by rw [beq_eq_false_iff_ne]; omega
          go_wp2_with fail
          go_round
          case rel => exact ⟨k + 1, by go_num, by omega⟩
          case measure => simp [intOf]; omega
        · obtain rfl : k = j := by omega
          have hs5 := h4.out.alloc (.cells #[.int .i64 ((k : Int) + 1)] 3)
          have hrow := Lib.hid (hs5.row hsl.out)
          have hge := Lib.hid hs5.base
          have hs5 := Lib.hid hs5
          by_cases hlt1 : k < len1
          · obtain ⟨b1, off1, rfl, hc1, hy0, hy1⟩ := w1.out k hlt1
            have w1' := w1
            clear w1
            have hc1 := Lib.hid hc1
            generalize hry : r1 k = y at *
            clear hry
            by_cases hy3 : y % 3 = 0
            · have hy3' : (y % 3 == 0) = true := by rw [beq_iff_eq]; exact hy3
              clear hy3
              have ht0 : 0 ≤ y % ((k : Int) + 1) := Int.emod_nonneg _ (by omega)
              have ht1 : y % ((k : Int) + 1) < (k : Int) + 1 := Int.emod_lt_of_pos _ (by omega)
              have htn : ((y % ((k : Int) + 1)).toNat : Int) = y % ((k : Int) + 1) := Int.toNat_of_nonneg ht0
              have htl : (y % ((k : Int) + 1)).toNat < k + 1 := by omega
              have hx2 : (seqH (k + 1))[(y % ((k : Int) + 1)).toNat]? = some (.int .i64 (y % ((k : Int) + 1) + 1)) := by rw [seqH_at htl, htn]
              have htn := Lib.hid htn
              have htl := Lib.hid htl
              have hx2 := Lib.hid hx2
              obtain ⟨V2, hcd, hv2, _⟩ := hv1.out.drop (y % ((k : Int) + 1) + 1)
              have hv2 := Lib.hid hv2
              rcases hcd with ⟨hcnt, hdr⟩ | ⟨hcnt, hdr, _⟩
              · have hcnt := Lib.hid hcnt
                have hdr := Lib.hid hdr
                go_wp2_with (at_builtin; refine wpList_append_own_at _ rfl (.tmp 61) (.tmp 63) 28 rfl w2.heap.size 3 i0 (.int .i64 0) 1 8 uInts hi hz0 hz1 hz2 rfl (by decide) _ _ _ rfl hrow.out ⟨w4.heap.size, 0, none⟩ 1 1 [.int .i64 ((k : Int) + 1)] rfl rfl (cell_one_new _ _ _) (by intro u hu; obtain rfl := List.mem_singleton.1 hu; rfl) (by unfold maxLen; omega) (by omega) hge.out ?_; intro v2 w5 hown2 hgrow2 _ hat2; obtain ⟨F2, hsl2, hs2⟩ := hs5.out.appended hsl.out hown2 hgrow2 hat2; clear hown2 hgrow2 hat2; have hcy := (hs2.below.cell (p := ⟨b1, off1 + k, none⟩) (World.block_lt_of_cell? _ _ hc1.out)).trans hc1.out; obtain ⟨g2, cap2, cur2, rfl, hF2, hcap2, hcapm2⟩ := hsl2.full (by omega); rw [← seqH_succ] at hsl2; have hct := hs2.at_ hsl2 htl.out hx2.out; have cc := Lib.hid (count_to hs2 (y % ((k : Int) + 1) + 1) hcnt.out); have cd := Lib.hid (drop_to hs2 (y % ((k : Int) + 1) + 1) hv1.out.few' hdr.out); have hsl3 := Lib.hid hsl2; clear hsl2 hs2)
                refine cc.out.mono ?_
                rintro e w6 ⟨rfl, rfl⟩
                go_wp2_with fail
                refine cd.out.mono ?_
                rintro e w6 ⟨rfl, h6⟩
                have h6 := Lib.hid h6
                clear cc cd hcy hct
                go_wp2_with fail
                go_roundw
                case rel => exact ⟨k + 1, V2, F2, by go_num, by omega, hsl3.out, h6.out, hv2.out⟩
                case measure => simp [intOf]; omega
              · have hcnt := Lib.hid hcnt
                have hdr := Lib.hid hdr
                go_wp2_with (at_builtin; refine wpList_append_own_at _ rfl (.tmp 61) (.tmp 63) 28 rfl w2.heap.size 3 i0 (.int .i64 0) 1 8 uInts hi hz0 hz1 hz2 rfl (by decide) _ _ _ rfl hrow.out ⟨w4.heap.size, 0, none⟩ 1 1 [.int .i64 ((k : Int) + 1)] rfl rfl (cell_one_new _ _ _) (by intro u hu; obtain rfl := List.mem_singleton.1 hu; rfl) (by unfold maxLen; omega) (by omega) hge.out ?_; intro v2 w5 hown2 hgrow2 _ hat2; obtain ⟨F2, hsl2, hs2⟩ := hs5.out.appended hsl.out hown2 hgrow2 hat2; clear hown2 hgrow2 hat2; have hcy := (hs2.below.cell (p := ⟨b1, off1 + k, none⟩) (World.block_lt_of_cell? _ _ hc1.out)).trans hc1.out; obtain ⟨g2, cap2, cur2, rfl, hF2, hcap2, hcapm2⟩ := hsl2.full (by omega); rw [← seqH_succ] at hsl2; have hct := hs2.at_ hsl2 htl.out hx2.out; have cc := Lib.hid (count_to hs2 (y % ((k : Int) + 1) + 1) hcnt.out); have cd := Lib.hid (drop_to hs2 (y % ((k : Int) + 1) + 1) hv1.out.few' hdr.out); have hsl3 := Lib.hid hsl2; clear hsl2 hs2)
                refine cc.out.mono ?_
                rintro e w6 ⟨rfl, rfl⟩
                go_wp2_with fail
                refine cd.out.mono ?_
                rintro e w6 ⟨rfl, h6⟩
                have h6 := Lib.hid h6
                clear cc cd hcy hct
                go_wp2_with fail
                go_roundw
                case rel => exact ⟨k + 1, V2, F2, by go_num, by omega, hsl3.out, h6.out, hv2.out⟩
                case measure => simp [intOf]; omega
            · have hy3' : (y % 3 == 0) = false := by rw [beq_eq_false_iff_ne]; exact hy3
              clear hy3
              go_wp2_with (at_builtin; refine wpList_append_own_at _ rfl (.tmp 61) (.tmp 63) 28 rfl w2.heap.size 3 i0 (.int .i64 0) 1 8 uInts hi hz0 hz1 hz2 rfl (by decide) _ _ _ rfl hrow.out ⟨w4.heap.size, 0, none⟩ 1 1 [.int .i64 ((k : Int) + 1)] rfl rfl (cell_one_new _ _ _) (by intro u hu; obtain rfl := List.mem_singleton.1 hu; rfl) (by unfold maxLen; omega) (by omega) hge.out ?_; intro v2 w5 hown2 hgrow2 _ hat2; obtain ⟨F2, hsl2, hs2⟩ := hs5.out.appended hsl.out hown2 hgrow2 hat2; clear hown2 hgrow2 hat2; have hcy := (hs2.below.cell (p := ⟨b1, off1 + k, none⟩) (World.block_lt_of_cell? _ _ hc1.out)).trans hc1.out; have hsl3 := Lib.hid hsl2; have hs3 := Lib.hid hs2; clear hsl2 hs2)
              go_roundw
              case rel => exact ⟨k + 1, V1, F2, by go_num, by omega, by rw [seqH_succ]; exact hsl3.out, hs3.out, hv1.out⟩
              case measure => simp [intOf]; omega
          · go_wp2_with (at_builtin; refine wpList_append_own_at _ rfl (.tmp 61) (.tmp 63) 28 rfl w2.heap.size 3 i0 (.int .i64 0) 1 8 uInts hi hz0 hz1 hz2 rfl (by decide) _ _ _ rfl hrow.out ⟨w4.heap.size, 0, none⟩ 1 1 [.int .i64 ((k : Int) + 1)] rfl rfl (cell_one_new _ _ _) (by intro u hu; obtain rfl := List.mem_singleton.1 hu; rfl) (by unfold maxLen; omega) (by omega) hge.out ?_; intro v2 w5 hown2 hgrow2 _ hat2; obtain ⟨F2, hsl2, hs2⟩ := hs5.out.appended hsl.out hown2 hgrow2 hat2; clear hown2 hgrow2 hat2; have hsl3 := Lib.hid hsl2; have hs3 := Lib.hid hs2; clear hsl2 hs2)
            go_roundw
            case rel => exact ⟨k + 1, V1, F2, by go_num, by omega, by rw [seqH_succ]; exact hsl3.out, hs3.out, hv1.out⟩
            case measure => simp [intOf]; omega
    · have hjl : j = len0 := by omega
      subst hjl
      have hs := Lib.hid hs
      have hsl := Lib.hid hsl
      have hv := Lib.hid hv
      go_wp2_with fail
      go_loopw [15] (fun t wx => ∃ (k : Nat) (V : SV), t = .int .i64 k ∧ k ≤ j ∧ SlabIs w2.heap.size w2 wx w2.heap.size V F ∧ NV V j ∧ ∀ x ∈ V.bs, (k : Int) < x.1) (fun t _ => j - (intOf t).toNat)
      case atStart => exact ⟨0, V, rfl, Nat.zero_le _, hs.out, hv.out, fun x hx => by have := (hv.out.one x hx).2.1; omega⟩
      case round =>
        obtain ⟨k, V, rfl, hk, hs', hv', hgt⟩ := hrel
        by_cases hkj : k < j
        · obtain ⟨g, rfl⟩ := hav.out k hkj
          have hcell := hs'.at_ hsl.out hkj (seqH_at hkj)
          obtain ⟨V2, hcd, hv2, hne⟩ := hv'.drop ((k : Int) + 1)
          rcases hcd with ⟨hcnt, hdr⟩ | ⟨hcnt, hdr, hVV⟩
          · have cc := Lib.hid (count_to hs' ((k : Int) + 1) hcnt)
            have cd := Lib.hid (drop_to hs' ((k : Int) + 1) hv'.few' hdr)
            have hne := Lib.hid hne
            have hgt := Lib.hid hgt
            have hv2 := Lib.hid hv2
            clear hs' hv' hcnt hdr
            go_wp2_with fail
            refine cc.out.mono ?_
            rintro e w4 ⟨rfl, rfl⟩
            go_wp2_with fail
            refine cd.out.mono ?_
            rintro e w4 ⟨rfl, h4⟩
            have hcell := h4.at_ hsl.out hkj (seqH_at hkj)
            have ch := Lib.hid (hold_to h4 ((k : Int) + 1) hv2.out.few' (NV.stale fun x hx => (hne.out x hx).2))
            clear cc cd h4
            go_wp2_with fail
            refine ch.out.mono ?_
            rintro e w5 ⟨rfl, h5⟩
            have h5 := Lib.hid h5
            clear ch
            go_wp2_with fail
            go_roundw
            case rel => exact ⟨k + 1, V2, by go_num, by omega, h5.out, hv2.out, fun x hx => by have h1 := hgt.out x (hne.out x hx).1; have h2 := (hne.out x hx).2; omega⟩
            case measure => simp [intOf]; omega
          · subst hVV
            have cc := Lib.hid (count_to hs' ((k : Int) + 1) hcnt)
            have ch := Lib.hid (hold_to hs' ((k : Int) + 1) hv'.few' (NV.stale fun x hx => (hne x hx).2))
            have hne := Lib.hid hne
            have hgt := Lib.hid hgt
            have hv2 := Lib.hid hv2
            clear hs' hv' hcnt hdr
            go_wp2_with fail
            refine cc.out.mono ?_
            rintro e w4 ⟨rfl, rfl⟩
            go_wp2_with fail
            refine ch.out.mono ?_
            rintro e w5 ⟨rfl, h5⟩
            have h5 := Lib.hid h5
            clear ch
            go_wp2_with fail
            go_roundw
            case rel => exact ⟨k + 1, V2, by go_num, by omega, h5.out, hv2.out, fun x hx => by have h1 := hgt.out x hx; have h2 := (hne.out x hx).2; omega⟩
            case measure => simp [intOf]; omega
        · obtain rfl : k = j := by omega
          obtain ⟨hf1, hf2⟩ := hv'.done hgt
          have cf := free_is hs'
          rw [hf1] at cf
          have cf := Lib.hid cf
          have cl := live_is hs'
          rw [hf2] at cl
          have cl : Hid (Calls Try.prog 19 #[ptr w2.heap.size] _ fun e w' => e = .returned (.int .i64 0) ∧ _ = w') := cl
          have hs' := Lib.hid hs'
          clear hf1 hf2 hgt hv'
          go_wp2_with fail
          refine cf.out.mono ?_
          rintro e w4 ⟨rfl, rfl⟩
          go_wp2_with fail
          refine cl.out.mono ?_
          rintro e w4 ⟨rfl, rfl⟩
          go_wp2_with fail
          go_ret
          exact ⟨rfl, hw.out.trans (hs'.out.below.mono hw.out.size)⟩
end Go.Proofs.Ytpeedcghpdnogaa
