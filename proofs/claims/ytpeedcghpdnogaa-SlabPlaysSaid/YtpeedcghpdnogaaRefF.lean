/- The statement of layer 1 that plays a row of steps on both slabs. -/
import Derived.Test.YtpeedcghpdnogaaRefE
import Derived.Deep.LoopGhost
import Derived.Deep.CutBlock
import Derived.Deep.DeepCutAuto
import Derived.Deep.QuietTactic
import Derived.BigQuiet
namespace Go.Proofs.Ytpeedcghpdnogaa
open Go.RowKit

structure StepG where
  what : Int
  at_ : Int
  text : ByteArray

/-- A slice of steps that came in: what lies at each of its places. -/
def StepAt (w : World) (a : Option Addr) (len : Nat) (rd : Nat → StepG) : Prop :=
  ∀ j, j < len → ∃ b off, a = some ⟨b, off, none⟩ ∧ w.cell? ⟨b, off + j * 3, none⟩ = some (.int .i64 (rd j).what) ∧ w.cell? ⟨b, off + j * 3 + 1, none⟩ = some (.int .i64 (rd j).at_) ∧ w.cell? ⟨b, off + j * 3 + 2, none⟩ = some (.string (rd j).text) ∧
    -9223372036854775808 ≤ (rd j).what ∧ (rd j).what ≤ 9223372036854775807 ∧ -9223372036854775808 ≤ (rd j).at_ ∧ (rd j).at_ ≤ 9223372036854775807 ∧ (rd j).text.size ≤ maxLen

theorem StepAt.kept {w w' : World} {a : Option Addr} {len : Nat} {rd : Nat → StepG} (h : StepAt w a len rd) (hb : Below w.heap.size w w') : StepAt w' a len rd := by
  intro j hj
  obtain ⟨b, off, h1, h2, h3, h4, h5⟩ := h j hj
  have hlt := World.block_lt_of_cell? w _ h2
  exact ⟨b, off, h1, by rw [hb.cell (p := ⟨b, off + j * 3, none⟩) hlt]; exact h2, by rw [hb.cell (p := ⟨b, off + j * 3 + 1, none⟩) hlt]; exact h3, by rw [hb.cell (p := ⟨b, off + j * 3 + 2, none⟩) hlt]; exact h4, h5⟩

def roomOf (room : Int) : Int := min (max room 0) 100000

theorem plays_start {B : Nat} {w0 w : World} {sb : Nat} {room : Int} (h : SlabIs B w0 w sb (SV.new room) []) :
    Calls Try.prog 10 #[.int .i64 room] w fun e w' => e = .returned (ptr w.heap.size) ∧ PP B w0 w' sb w.heap.size (roomOf room) [] [] := by
  obtain ⟨g, h1, h2, h3, h4, h5⟩ := h
  refine (rnew_is h5 room).mono fun _ w' ⟨he, v, Fs, e1, e2⟩ => ⟨he, g, v, Fs, h1, ?_, h3, ?_, e1, ?_⟩
  · rw [h2]
    show SV.mk (roomOf room) 0 [] = SV.mk (roomOf room - 0) 0 []
    rw [Int.sub_zero]
  · have : viewOf (roomOf room) [] = SV.new room := by
      show SV.mk (roomOf room - 0) 0 [] = SV.mk (roomOf room) 0 []
      rw [Int.sub_zero]
    rw [this]
    exact h4
  · have z := e2.perm (List.perm_append_comm_assoc g.heap ((w.heap.size, refObj v (roomOf room) 0 0) :: Fs) []).symm
    exact z

set_option maxRecDepth 100000 in
set_option maxHeartbeats 4000000 in
theorem plays_walk (room : Int) (a0 : Option Addr) (len0 cap0 : Nat) (r0 : Nat → StepG) (w : World) (w0 : StepAt w a0 len0 r0) (hl0 : len0 ≤ maxLen) :
    Calls Try.prog 3 #[.int .i64 room, .slice a0 len0 cap0] w fun e w' => e = .returned (.bool true) ∧ Below w.heap.size w w' := by
  have hk := Lib.hid (known_true w)
  have hm0 : (len0 : Int) ≤ 9223372036854775807 := by unfold maxLen at hl0; omega
  clear hl0
  have w0 := Lib.hid w0
  by_cases hb0 : 80 < len0
  · go_enter Try.func3, Try.ntmps3
    go_wp2_with fail
    refine hk.out.mono ?_
    rintro e w2 ⟨rfl, hw⟩
    have hw := Lib.hid hw
    go_wp2_with fail
    go_ret
    exact ⟨rfl, hw.out⟩
  have hb0' : len0 ≤ 80 := by omega
  clear hb0 hm0
  go_enter Try.func3, Try.ntmps3
  go_wp2_with fail
  refine hk.out.mono ?_
  rintro e w2 ⟨rfl, hw⟩
  have w0 := w0.out.kept hw
  have hw := Lib.hid hw
  have cn := Lib.hid (new_is (St.start w2) room)
  have w0 := Lib.hid w0
  go_wp2_with fail
  refine cn.out.mono ?_
  rintro e w3 ⟨rfl, h3⟩
  have cr := Lib.hid (plays_start h3)
  clear cn hk h3
  go_wp2_with fail
  refine cr.out.mono ?_
  rintro e w4 ⟨rfl, h4⟩
  have h4 := Lib.hid h4
  have hR : 0 ≤ roomOf room ∧ roomOf room ≤ 100000 := by unfold roomOf; omega
  generalize roomOf room = R at *
  clear cr
  go_wp2_with fail
  obtain ⟨i0, hi, hz0, hz1, hz2⟩ := info_parts infInt
  go_loopg [7, 8] len0 (fun k v i wr => ∃ (j : Nat) (L : List (ByteArray × Int)) (F : List (Nat × Obj)), i = .int .i64 j ∧ j + k = len0 ∧ SliceIs 3 1 v L.length (seqH L.length) F ∧
    PP w2.heap.size w2 wr w2.heap.size w3.heap.size R L F ∧ Few R L j)
  case atStart => exact ⟨0, [], [], rfl, by omega, SliceIs.nil, h4.out, hR.1, hR.2, Nat.le_refl _, Nat.zero_le _, by simp⟩
  case round =>
    obtain ⟨j, L, F, rfl, hj, hsl, hp, hfew⟩ := hrel
    clear h4
    obtain ⟨av, capv, rfl, hcv, hcm, hav⟩ := hsl.form
    have hav := Lib.hid hav
    by_cases hlt : j < len0
    · obtain ⟨b, off, rfl, hc0, hc1, hc2, hw0, hw1, ha0, ha1, hsz⟩ := (w0.out.kept hp.below) j hlt
      have w0' := w0
      clear w0
      generalize hrj : r0 j = x at *
      clear hrj
      obtain ⟨wh, at_, txt⟩ := x
      have hsl := Lib.hid hsl
      have hp := Lib.hid hp
      have hfew := Lib.hid hfew
      simp only at hc0 hc1 hc2 hw0 hw1 ha0 ha1 hsz
      go_upto_region 12 with fail
      go_cut [51] (fun s51 wx => s51 = .bool (decide (0 ≤ at_ ∧ 0 < L.length)) ∧ wx = wr.alloc (.cells #[.int .i64 wh, .int .i64 at_, .string txt] 30))
      case first =>
        by_cases q1 : 0 ≤ at_
        · by_cases q2 : 0 < L.length
          · go_wp2_with fail
            go_meet
            case rel => exact ⟨congrArg Value.bool (decide_eq_true (show 0 ≤ at_ ∧ 0 < L.length from ⟨q1, q2⟩)).symm, rfl⟩
          · go_wp2_with fail
            go_meet
            case rel => exact ⟨congrArg Value.bool (decide_eq_false (show ¬ (0 ≤ at_ ∧ 0 < L.length) from fun h => q2 h.2)).symm, rfl⟩
        · go_wp2_with fail
          go_meet
          case rel => exact ⟨congrArg Value.bool (decide_eq_false (show ¬ (0 ≤ at_ ∧ 0 < L.length) from fun h => by omega)).symm, rfl⟩
      case rest =>
        obtain ⟨rfl, rfl⟩ := hcut
        have hp1 := Lib.hid (hp.out.alloc (.cells #[.int .i64 wh, .int .i64 at_, .string txt] 30))
        go_upto_if 51 with fail
        go_cut [10, 11] (fun s10 s11 wx => ∃ at' is', s10 = .int .i64 at' ∧ s11 = .int .i64 is' ∧ Names L at' is' ∧ PP w2.heap.size w2 wx w2.heap.size w3.heap.size R L ((wr.heap.size, .cells #[.int .i64 wh, .int .i64 at_, .string txt] 30) :: F))
        case first =>
          by_cases q1 : 0 ≤ at_
          · by_cases q2 : 0 < L.length
            · as_aux_lemma =>
                obtain ⟨g, rfl⟩ := hav.out 0 q2
                have qd : decide (0 ≤ at_ ∧ 0 < L.length) = true := decide_eq_true ⟨q1, q2⟩
                rw [qd]
                have hlen : 0 < (L.length : Int) := by omega
                obtain ⟨t, ht⟩ : ∃ t : Nat, at_ % (L.length : Int) = (t : Int) := ⟨(at_ % (L.length : Int)).toNat, by have := Int.emod_nonneg at_ (show (L.length : Int) ≠ 0 by omega); omega⟩
                have htl : t < L.length := by have := Int.emod_lt_of_pos at_ hlen; omega
                have htl2 : (t : Int) < (L.length : Int) := by omega
                have hmod : Int.tmod at_ (L.length : Int) = (t : Int) := by rw [Int.tmod_eq_emod_of_nonneg q1]; exact ht
                have hll := hfew.out.len
                have htop := hfew.out.top
                have hcell := (((hp1.out.sub (List.sublist_cons_self _ _)).row hsl.out).cellAt t (by omega)).trans (seqH_at htl)
                have hne : ((L.length : Int) == 0) = false := by rw [beq_eq_false_iff_ne]; omega
                have hw1 : IntKind.i64.wrap ((t : Int)) = t := IntWalk.i64_in _ (by omega)
                have hw2 : IntKind.i64.wrap ((t : Int) + 1) = t + 1 := IntWalk.i64_in _ (by omega)
                have cx1 := hp1.out.cell (b := wr.heap.size) (i := 1) (v := .int .i64 at_) List.mem_cons_self rfl
                have hnn : (0 : Int) ≤ (t : Int) := by omega
                go_wp2_with fail
                go_region
                all_goals
                  go_wp2_with fail
                  go_meet
                  exact ⟨_, _, rfl, rfl, .inr ⟨t, htl, rfl, rfl⟩, hp1.out.drew⟩
            · have qd : decide (0 ≤ at_ ∧ 0 < L.length) = false := decide_eq_false fun h => q2 h.2
              rw [qd]
              go_wp2_with fail
              go_meet
              case rel => exact ⟨0, 0, rfl, rfl, .inl ⟨by decide, rfl⟩, hp1.out⟩
          · have qd : decide (0 ≤ at_ ∧ 0 < L.length) = false := decide_eq_false fun h => q1 h.1
            rw [qd]
            go_wp2_with fail
            go_meet
            case rel => exact ⟨at_, 0, rfl, rfl, .inl ⟨by omega, rfl⟩, hp1.out⟩
        case rest =>
          obtain ⟨at', is', rfl, rfl, hnm, hp2⟩ := hcut
          have hp2 := Lib.hid hp2
          have hnm := Lib.hid hnm
          clear hp1
          have cx0 := hp2.out.cell (b := wr.heap.size) (i := 0) (v := .int .i64 wh) List.mem_cons_self rfl
          have cx2 := hp2.out.cell (b := wr.heap.size) (i := 2) (v := .string txt) List.mem_cons_self rfl
          have hsz2 : (txt.size : Int) ≤ 9223372036854775807 := by unfold maxLen at hsz; omega
          go_upto_block 2 with fail
          go_cut [7] (fun v wx => ∃ L' F', SliceIs 3 1 v L'.length (seqH L'.length) F' ∧ PP w2.heap.size w2 wx w2.heap.size w3.heap.size R L' F' ∧ Few R L' (j + 1))
          case first =>
            by_cases hbig : 400 < txt.size
            · as_aux_lemma =>
                have hbig2 : (400 : Int) < txt.size := by omega
                go_wp2_with fail
                go_ret
                exact ⟨rfl, hw.out.trans (hp2.out.below.mono hw.out.size)⟩
            · have hbig2 : (txt.size : Int) ≤ 400 := by omega
              by_cases hw3 : wh ≤ 3
              · obtain ⟨a, c, L', hd, cput, rput⟩ := put_both hp2.out hfew.out txt hsz
                have cput := Lib.hid cput
                have rput := Lib.hid rput
                rcases hd with ⟨rfl, hc, rfl⟩ | ⟨rfl, rfl, rfl⟩
                · as_aux_lemma =>
                    have hcb : (c == 0) = false := by rcases hc with rfl | rfl <;> rfl
                    have hc := Lib.hid hc
                    go_wp2_with fail
                    refine cput.out.mono ?_
                    rintro e w5 ⟨rfl, h5⟩
                    have cx2' := h5.cell (b := wr.heap.size) (i := 2) (v := .string txt) List.mem_cons_self rfl
                    have cr := Lib.hid (rput.out w5 h5)
                    clear cput rput
                    go_wp2_with fail
                    refine cr.out.mono ?_
                    rintro e w6 ⟨rfl, h6⟩
                    have h6 := Lib.hid h6
                    go_wp2_with fail
                    go_meet
                    case rel => exact ⟨_, F, hsl.out, h6.out.sub (List.sublist_cons_self _ _), hfew.out.more (by omega)⟩
                · as_aux_lemma =>
                    go_wp2_with fail
                    refine cput.out.mono ?_
                    rintro e w5 ⟨rfl, h5⟩
                    have cx2' := h5.cell (b := wr.heap.size) (i := 2) (v := .string txt) List.mem_cons_self rfl
                    have cr := Lib.hid (rput.out w5 h5)
                    clear cput rput
                    go_wp2_with fail
                    refine cr.out.mono ?_
                    rintro e w6 ⟨rfl, h6⟩
                    have hlen0 : (0 : Int) < (L.length : Int) + 1 := by omega
                    have h7 := ((h6.sub (List.sublist_cons_self _ _)).alloc (.cells #[.int .i64 ((L.length : Int) + 1)] 3)).sub (List.sublist_cons_self _ _)
                    have hrow := Lib.hid (h7.row hsl.out)
                    have hge := Lib.hid h7.base
                    have h7 := Lib.hid h7
                    have hll := hfew.out.len
                    have htop := hfew.out.top
                    clear h6
                    go_wp2_with (at_builtin; refine wpList_append_own_at _ rfl (.tmp 133) (.tmp 135) 28 rfl w2.heap.size 3 i0 (.int .i64 0) 1 8 uInts hi hz0 hz1 hz2 rfl (by decide) _ _ _ rfl hrow.out ⟨w6.heap.size, 0, none⟩ 1 1 [.int .i64 ((L.length : Int) + 1)] rfl rfl (cell_one_new _ _ _) (by intro u hu; obtain rfl := List.mem_singleton.1 hu; rfl) (by unfold maxLen; omega) (by omega) hge.out ?_; intro v2 w8 hown2 hgrow2 _ hat2; obtain ⟨F2, hsl2, h8⟩ := h7.out.appended hsl.out hown2 hgrow2 hat2; have hsl2 := Lib.hid hsl2; have h8 := Lib.hid h8; clear hown2 hgrow2 hat2)
                    go_meet
                    case rel => exact ⟨_, F2, by rw [List.length_append]; show SliceIs _ _ _ (L.length + 1) (seqH (L.length + 1)) _; rw [seqH_succ]; exact hsl2.out, h8.out, hfew.out.put (by omega) txt⟩
              · by_cases hw5 : wh ≤ 5
                · as_aux_lemma =>
                    obtain ⟨c, L', hl', hf', chold, rhold⟩ := hold_both hp2.out hfew.out (by omega) hnm.out
                    have chold := Lib.hid chold
                    have rhold := Lib.hid rhold
                    have hl' := Lib.hid hl'
                    go_wp2_with fail
                    refine chold.out.mono ?_
                    rintro e w5 ⟨rfl, h5⟩
                    have cr := Lib.hid (rhold.out w5 h5)
                    clear chold rhold h5
                    go_wp2_with fail
                    refine cr.out.mono ?_
                    rintro e w6 ⟨rfl, h6⟩
                    have h6 := Lib.hid h6
                    go_wp2_with fail
                    go_meet
                    case rel => exact ⟨L', F, by rw [hl'.out]; exact hsl.out, h6.out.sub (List.sublist_cons_self _ _), hf'⟩
                · as_aux_lemma =>
                    obtain ⟨a, c, L', hl', hf', cdrop, rdrop⟩ := drop_both hp2.out hfew.out (by omega) hnm.out
                    have cdrop := Lib.hid cdrop
                    have rdrop := Lib.hid rdrop
                    have hl' := Lib.hid hl'
                    go_wp2_with fail
                    refine cdrop.out.mono ?_
                    rintro e w5 ⟨rfl, h5⟩
                    have cr := Lib.hid (rdrop.out w5 h5)
                    clear cdrop rdrop h5
                    go_wp2_with fail
                    refine cr.out.mono ?_
                    rintro e w6 ⟨rfl, h6⟩
                    have h6 := Lib.hid h6
                    go_wp2_with fail
                    go_meet
                    case rel => exact ⟨L', F, by rw [hl'.out]; exact hsl.out, h6.out.sub (List.sublist_cons_self _ _), hf'⟩
          case rest =>
            as_aux_lemma =>
              obtain ⟨L', F', hsl', hp', hfew'⟩ := hcut
              clear hp hsl hfew hav hp2 hnm cx0 cx2
              obtain ⟨av2, capv2, rfl, hcv2, hcm2, hav2⟩ := hsl'.form
              obtain ⟨c, l, cf, crf, cl, hcl⟩ := free_both hp' hfew'
              have c3 := hcl 0
              rw [World.drewN_zero] at c3
              have hav2 := Lib.hid hav2
              have cf := Lib.hid cf
              have crf := Lib.hid crf
              have cl := Lib.hid cl
              clear hcl
              have hsl' := Lib.hid hsl'
              have hp' := Lib.hid hp'
              have hfew' := Lib.hid hfew'
              go_upto_region 32 with fail
              go_cut [161] (fun s wx => s = .bool false ∧ ∃ m, wx = wc.drewN m)
              case first =>
                go_quiet ((first | (go_at_call 17; exact cf.out _) | (go_at_call 18; exact crf.out _) | (go_at_call 19; exact cl.out _)))
                go_wp2_with fail
                go_meet
                case rel => exact ⟨rfl, _, rfl⟩
              case rest =>
                obtain ⟨rfl, m, rfl⟩ := hcut
                have hp3 := Lib.hid (hp'.out.drewN m)
                have hll := hfew'.out.len
                have htop := hfew'.out.top
                have hln : (L'.length : Int) ≤ 80 := by omega
                clear cf crf cl c3 hp'
                go_wp2_with fail
                go_loopg [20] L'.length (fun k t wt => ∃ q : Nat, t = .int .i64 q ∧ q + k = L'.length ∧ PP w2.heap.size w2 wt w2.heap.size w3.heap.size R L' F')
                case atStart => exact ⟨0, rfl, by omega, hp3.out⟩
                case round =>
                  obtain ⟨q, rfl, hq, hp4⟩ := hrel
                  clear hp3
                  by_cases hqlt : q < L'.length
                  · obtain ⟨g, rfl⟩ := hav2.out q hqlt
                    have hcell := ((hp4.row hsl'.out).cellAt q (by omega)).trans (seqH_at hqlt)
                    obtain ⟨s, c, cget, rget⟩ := get_both hp4 hfew'.out hqlt
                    have cget := Lib.hid cget
                    have rget := Lib.hid rget
                    clear hp4
                    have hqi : (q : Int) < L'.length := by omega
                    go_wp2_with fail
                    refine cget.out.mono ?_
                    rintro e w5 ⟨rfl, h5⟩
                    have hcell5 := ((h5.row hsl'.out).cellAt q (by omega)).trans (seqH_at hqlt)
                    have cr := Lib.hid (rget.out w5 h5)
                    obtain ⟨d, cc, crc⟩ := count_both h5 hfew'.out hqlt
                    have cc := Lib.hid cc
                    have crc := Lib.hid crc
                    have h5 := Lib.hid h5
                    clear cget rget hcell
                    go_wp2_with fail
                    refine cr.out.mono ?_
                    rintro e w6 ⟨rfl, rfl⟩
                    go_wp2_with fail
                    refine cc.out.mono ?_
                    rintro e w6 ⟨rfl, rfl⟩
                    go_wp2_with fail
                    refine crc.out.mono ?_
                    rintro e w6 ⟨rfl, rfl⟩
                    go_wp2_with fail
                    go_roundg (L'.length - (q + 1))
                    case measure => omega
                    case rel => exact ⟨q + 1, by go_num, by omega, h5.out⟩
                  · have hp4 := Lib.hid hp4
                    go_wp2_with fail
                    go_roundg (len0 - (j + 1))
                    case measure => omega
                    case rel => exact ⟨j + 1, L', F', by go_num, by omega, hsl'.out, hp4.out, hfew'.out⟩
    · have hp := Lib.hid hp
      have hsl := Lib.hid hsl
      have hfew := Lib.hid hfew
      go_wp2_with fail
      go_ret
      exact ⟨rfl, hw.out.trans (hp.out.below.mono hw.out.size)⟩
end Go.Proofs.Ytpeedcghpdnogaa
