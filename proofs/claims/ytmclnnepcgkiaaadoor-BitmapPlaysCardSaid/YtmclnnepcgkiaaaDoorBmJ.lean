/- BitmapRound's walk. -/
import Derived.Test.YtmclnnepcgkiaaaDoorBmI
namespace Go.Proofs.YtmclnnepcgkiaaaDoor
open Go.RowKit
set_option linter.unusedVariables false

theorem ins_place {s : Nat → Bool} {k p : Nat} (hp : p < k) : setB s k (p : Int) true = ins s p := by simp [setB, place_in hp]
theorem cnt_ins_new {s : Nat → Bool} {k p : Nat} (hp : p < k) (hs : s p = false) : ((cntB (ins s p) k : Nat) : Int) = ((cntB s k : Nat) : Int) + 1 := by rw [cntB_ins hp hs]; rfl

set_option maxHeartbeats 8000000 in
set_option maxRecDepth 100000 in
theorem round_walk (a : Option Addr) (len cap : Nat) (n : Int) (w : World) (hT : Tab w.heap.size w) (hn0 : 0 ≤ n) (hn1 : n ≤ 65535)
    (hl : ∀ w', Below w.heap.size w w' → ∀ i, i < len → ∃ b off x, a = some ⟨b, off, none⟩ ∧ w'.cell? ⟨b, off + i, none⟩ = some (.int .u16 x) ∧ 0 ≤ x ∧ x ≤ 65535) :
    Calls Tryd.prog 4 #[.slice a len cap, .int .u16 n] w fun e w' => e = .returned (.bool true) ∧ Below w.heap.size w w' := by
  have hk := Lib.hid (known4_true w hT)
  by_cases hlong : (40 : Int) < len
  · clear hl
    go_enter Tryd.func4, Tryd.ntmps4
    go_wp2_with fail
    refine hk.out.mono ?_
    rintro e w1 ⟨rfl, hb⟩
    replace hb := Lib.hid hb
    go_wp2_with fail
    go_ret
    exact ⟨rfl, hb.out⟩
  · have hlen : len ≤ 40 := by omega
    clear hlong
    have hlong : decide ((40 : Int) < len) = false := by simp; omega
    replace hl := Lib.hid hl
    obtain ⟨k, hk0⟩ : ∃ k : Nat, n % 4000 + 1 = k := ⟨(n % 4000 + 1).toNat, by omega⟩
    have hkp : 0 < k := by omega
    have hk5 : k ≤ 4000 := by omega
    have hkne : ((k : Int) == 0) = false := by rw [beq_eq_false_iff_ne]; omega
    have cn : Hid (∀ w', Below w.heap.size w w' → Calls Tryd.prog 7 #[.int .i64 k] w' fun e w'' => ∃ bb, e = .returned (bptr bb) ∧ BmIs w'.heap.size w' w'' bb none0 k []) := Lib.hid fun w' hb => bm_new (hT.below hb) (St.start w') (by omega)
    have hk1 : (k : Int) ≤ 4000 := by omega
    have hk2 : (0 : Int) < k := by omega
    clear hT
    go_enter Tryd.func4, Tryd.ntmps4
    go_wp2_with fail
    refine hk.out.mono ?_
    rintro e w1 ⟨rfl, hb⟩
    replace hb := Lib.hid hb
    go_wp2_with fail
    refine (cn.out _ hb.out).mono ?_
    rintro e w2 ⟨bb, rfl, h2⟩
    have hmk := mk_bools w2 k (by omega)
    have h3 : Both w1.heap.size w1 (w2.alloc (setObj' none0 k)) bb w2.heap.size none0 none0 k [] := h2.allocF _
    replace h3 := Lib.hid h3
    clear h2 cn hk
    go_wp2_with fail
    generalize w2.heap.size = sb at *
    generalize w2.alloc (setObj' none0 k) = w3 at *
    clear hmk
    go_loopw [8, 9] (fun c i wr => ∃ (j : Nat) (s : Nat → Bool), i = .int .i64 j ∧ j ≤ len ∧ c = .int .i64 (cntB s k : Nat) ∧ Both w1.heap.size w1 wr bb sb s s k []) (fun _ i _ => len - (intOf i).toNat)
    case atStart => exact ⟨0, none0, rfl, Nat.zero_le _, by rw [show cntB none0 k = 0 from cntB_none k]; rfl, h3.out⟩
    case round =>
      obtain ⟨j, s, rfl, hj, rfl, hs⟩ := hrel
      clear h3
      have hcle : cntB s k ≤ k := cntB_le s k
      have hc0 : (0 : Int) ≤ (cntB s k : Nat) := by omega
      have hc1 : ((cntB s k : Nat) : Int) ≤ 4000 := by omega
      by_cases hlt : j < len
      · obtain ⟨b, off, x, ea, hcx, hx0, hx1⟩ := hl.out wr (hb.out.trans ((BmIs.below hs).mono hb.out.size)) j hlt
        subst ea
        have hlt' : (j : Int) < len := by omega
        have hj0 : (0 : Int) ≤ j := by omega
        obtain ⟨p, hp0⟩ : ∃ p : Nat, x % (k : Int) = p := ⟨(x % (k : Int)).toNat, by have := Int.emod_nonneg x (show (k : Int) ≠ 0 by omega); omega⟩
        have hpk : p < k := by have := Int.emod_lt_of_pos x (show (0 : Int) < k by omega); omega
        have hp1 : (p : Int) < k := by omega
        have hp2 : (0 : Int) ≤ p := by omega
        have cs := Lib.hid (bm_set hs p true (ins_place hpk))
        have hnew := Lib.hid (@cnt_ins_new s k p hpk)
        have hold := Lib.hid (@ins_same s p)
        clear hs hcle
        go_wp2_with fail
        refine cs.out.mono ?_
        rintro e w5 ⟨rfl, h5⟩
        have hat := Both.at_ h5 hpk
        have hsf := Both.soft h5 p
        have h6 : Hid (Both w1.heap.size w1 (w5.setCell ⟨sb, p, none⟩ (.bool true)) bb sb (ins s p) (ins s p) k []) := Lib.hid (Both.put h5 p true)
        clear h5 cs
        cases hsp : s p with
        | false =>
          rw [hsp] at hat
          replace hnew := Lib.hid (hnew.out hsp)
          clear hsp hold
          go_wp2_with fail
          go_roundw
          case rel => exact ⟨j + 1, _, by go_num, by omega, by rw [← hnew.out], h6.out⟩
          case measure => simp [intOf]; omega
        | true =>
          rw [hsp] at hat
          replace hold := Lib.hid (hold.out hsp)
          clear hsp hnew
          go_wp2_with fail
          go_roundw
          case rel => exact ⟨j + 1, s, by go_num, by omega, rfl, by have := h6.out; rw [hold.out] at this; exact this⟩
          case measure => simp [intOf]; omega
      · have hsb : ∀ p, s p = true → p < k := hs.2.1
        have hmore := Lib.hid (fun f hf h => @next_more k s f hf h)
        obtain ⟨c, hc⟩ : ∃ c, cntB s k = c := ⟨_, rfl⟩
        have hround := Lib.hid (fun f hf h => @next_round k s f hf h hsb)
        have hany := Lib.hid (fun (h : 0 < cntB s k) b => @next_any_of k s 0 h b hsb)
        have hno := Lib.hid (fun h a => @next_no k s h hsb a)
        rw [hc] at hc0 hc1 ⊢
        replace hc := Lib.hid hc
        replace hs := Lib.hid hs
        clear hcle hsb
        go_wp2_with fail
        go_loopw [11, 12, 13] (fun f l i wr => ∃ (j from_ : Nat), i = .int .i64 j ∧ f = .int .i64 from_ ∧ l = .int .i64 ((from_ : Int) - 1) ∧ from_ ≤ k ∧ j ≤ c ∧ cntB s from_ = j ∧ Both w1.heap.size w1 wr bb sb s s k []) (fun _ _ i _ => c - (intOf i).toNat)
        case atStart => exact ⟨0, 0, rfl, rfl, rfl, Nat.zero_le _, Nat.zero_le _, rfl, hs.out⟩
        case round =>
          obtain ⟨j', f, rfl, rfl, rfl, hf, hjc, hcf, hs2⟩ := hrel
          have hf0 : (0 : Int) ≤ f := by omega
          have hf1 : (f : Int) ≤ 4000 := by omega
          by_cases hlt2 : j' < c
          · obtain ⟨x, m1, m2, m3, m4, m5⟩ := hmore.out f hf (by rw [hc.out, hcf]; exact hlt2)
            have cs := Lib.hid (bm_next hs2 f (by omega) (r := some x) (by rw [Int.toNat_natCast]; exact m1))
            have hx1 : (f : Int) ≤ x := by omega
            have hx2 : (x : Int) < k := by omega
            have hx3 : (0 : Int) ≤ x := by omega
            have hlt2' : (j' : Int) < c := by omega
            replace hcf := Lib.hid hcf
            replace m1 := Lib.hid m1
            replace m4 := Lib.hid m4
            replace m5 := Lib.hid m5
            clear hs2
            go_wp2_with fail
            refine cs.out.mono ?_
            rintro e w5 ⟨rfl, h5⟩
            have hat := Both.at_ h5 m3
            rw [m4.out] at hat
            replace h5 := Lib.hid h5
            clear cs
            simp only [Option.getD_some, Option.isSome_some]
            go_wp2_with fail
            go_roundw
            case rel => exact ⟨j' + 1, x + 1, by go_num, by go_num, by go_num, by omega, by omega, by rw [m5.out, hcf.out], h5.out⟩
            case measure => simp [intOf]; omega
          · have e : j' = c := by omega
            subst e
            by_cases hz : j' = 0
            · have hb0 : ((j' : Int) == 0) = true := by rw [beq_iff_eq]; omega
              have hcz : cntB s k = 0 := by rw [hc.out]; exact hz
              have cs := Lib.hid (bm_next hs2 0 (by decide) (r := none) (hno.out hcz _))
              have cc := Lib.hid (fun w' (h : Both w1.heap.size w1 w' bb sb s s k []) => bm_count h hcz)
              clear hs2 hcf hcz hz
              go_wp2_with fail
              refine cs.out.mono ?_
              rintro e w5 ⟨rfl, h5⟩
              replace h5 := Lib.hid h5
              simp only [Option.getD_none, Option.isSome_none]
              go_wp2_with fail
              refine (cc.out _ h5.out).mono ?_
              rintro e w6 ⟨rfl, h6⟩
              have hfin := Lib.hid (hb.out.trans (h6.below.mono hb.out.size))
              clear h5 h6 hb
              go_wp2_with fail
              go_ret
              exact ⟨rfl, hfin.out⟩
            · have hb0 : ((j' : Int) == 0) = false := by rw [beq_eq_false_iff_ne]; omega
              obtain ⟨x, hx⟩ := hany.out (by rw [hc.out]; omega) 0
              have hx2 := (hround.out f hf (by rw [hc.out]; exact hcf)).trans hx
              have cs := Lib.hid (bm_next hs2 f (by omega) (r := some x) (by rw [Int.toNat_natCast]; exact hx2))
              have cs0 := Lib.hid (fun w' (h : Both w1.heap.size w1 w' bb sb s s k []) => bm_next h 0 (by decide) (r := some x) hx)
              have cc := Lib.hid (fun w' (h : Both w1.heap.size w1 w' bb sb s s k []) => bm_count h hc.out)
              clear hs2 hcf hz hx hx2
              go_wp2_with fail
              refine cs.out.mono ?_
              rintro e w5 ⟨rfl, h5⟩
              replace h5 := Lib.hid h5
              simp only [Option.getD_some, Option.isSome_some]
              go_wp2_with fail
              refine (cs0.out _ h5.out).mono ?_
              rintro e w6 ⟨rfl, h6⟩
              replace h6 := Lib.hid h6
              simp only [Option.getD_some, Option.isSome_some]
              go_wp2_with fail
              refine (cc.out _ h6.out).mono ?_
              rintro e w7 ⟨rfl, h7⟩
              have hfin := Lib.hid (hb.out.trans (h7.below.mono hb.out.size))
              clear h5 h6 h7 hb
              go_wp2_with fail
              go_ret
              exact ⟨rfl, hfin.out⟩

theorem round_row {a : Option Addr} {len cap : Nat} {n : Int} {w : World} (hT : Tab w.heap.size w) (h0 : Read Tryd.prog w 36 [.slice a len cap]) (h1 : Read Tryd.prog w 37 [.int .u16 n]) :
    Calls Tryd.prog 4 #[.slice a len cap, .int .u16 n] w fun e w' => e = .returned (.bool true) ∧ Below w.heap.size w w' := by
  obtain ⟨m, e, hm⟩ := h1.int Tryd.underlying37
  cases e
  obtain ⟨hn0, hn1⟩ := bounds_u16 hm
  obtain ⟨rd, hr⟩ := h0.slice Tryd.underlying36 (of_decide_eq_true (by kernel_rfl))
  refine round_walk a len cap n w hT hn0 hn1 fun w' hb i hi => ?_
  obtain ⟨x, hx, hwf⟩ := (hr.at_ i hi).1.int Tryd.underlying37
  obtain ⟨b, off, ha, hc⟩ := hr.cell hb hi
  have h2 := hc 0 (.int .u16 x) (by rw [hx]; rfl)
  rw [show Tryd.prog.cellsOf 37 = 1 by kernel_rfl, Nat.mul_one, Nat.add_zero] at h2
  obtain ⟨q0, q1⟩ := bounds_u16 hwf
  exact ⟨b, off, x, ha, h2, q0, q1⟩
end Go.Proofs.YtmclnnepcgkiaaaDoor
