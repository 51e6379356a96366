/- BitmapPlays' walk: every row of places that are set and not. -/
import Derived.Test.YtmclnnepcgkiaaaDoorBmJ
import Derived.Test.YtmclnnepcgkiaaaDoorBmK
namespace Go.Proofs.YtmclnnepcgkiaaaDoor
open Go.RowKit
set_option linter.unusedVariables false

structure BStep where
  on : Bool
  at_ : Int
  frm : Int

theorem bstep_shape {w : World} {cs : List Value} (h : Read Tryd.prog w 28 cs) : ∃ s : BStep, cs = [.bool s.on, .int .i64 s.at_, .int .i64 s.frm] ∧ (-9223372036854775808 ≤ s.at_ ∧ s.at_ ≤ 9223372036854775807) ∧ (-9223372036854775808 ≤ s.frm ∧ s.frm ≤ 9223372036854775807) := by
  obtain ⟨hl, hf⟩ := Read.struct Tryd.underlying28 h
  rw [show Tryd.prog.cellsOf 28 = 3 by kernel_rfl] at hl
  obtain ⟨v0, v1, v2, rfl⟩ : ∃ v0 v1 v2, cs = [v0, v1, v2] := by
    match cs, hl with
    | [v0, v1, v2], _ => exact ⟨v0, v1, v2, rfl⟩
  have t0 : Read Tryd.prog w 4 (([v0, v1, v2].drop 0).take (Tryd.prog.cellsOf 4)) := hf 0 _ rfl
  have t1 : Read Tryd.prog w 3 (([v0, v1, v2].drop 1).take (Tryd.prog.cellsOf 3)) := hf 1 _ rfl
  have t2 : Read Tryd.prog w 3 (([v0, v1, v2].drop 2).take (Tryd.prog.cellsOf 3)) := hf 2 _ rfl
  rw [show Tryd.prog.cellsOf 3 = 1 by kernel_rfl] at t1 t2
  rw [show Tryd.prog.cellsOf 4 = 1 by kernel_rfl] at t0
  obtain ⟨b0, e0⟩ := Read.bool Tryd.underlying4 t0
  obtain ⟨n1, e1, b1⟩ := Read.int Tryd.underlying3 t1
  obtain ⟨n2, e2, b2⟩ := Read.int Tryd.underlying3 t2
  simp at e0 e1 e2
  subst e0 e1 e2
  exact ⟨⟨b0, n1, n2⟩, rfl, bounds_i64 b1, bounds_i64 b2⟩

theorem Both.drews {B : Nat} {w0 w w' : World} {bb sb k : Nat} {s t : Nat → Bool} {G : List (Nat × Obj)} (h : Both B w0 w bb sb s t k G) (hd : Drew w w') : Both B w0 w' bb sb s t k G := BmIs.drews h hd
theorem Both.readSet {B : Nat} {w0 w : World} {bb sb k : Nat} {s t : Nat → Bool} {G : List (Nat × Obj)} (h : Both B w0 w bb sb s t k G) : ReadSet w sb k t := fun i hi => h.at_ hi
theorem off_place {s : Nat → Bool} {k p : Nat} (hp : p < k) : setB s k (p : Int) false = del s p := by simp [setB, place_in hp]
theorem has_in {s : Nat → Bool} {k p : Nat} (hp : p < k) : hasB s k (p : Int) = s p := by simp [hasB, place_in hp]
theorem has_out {s : Nat → Bool} {k : Nat} {i : Int} (h : isPlaceB k i = false) : hasB s k i = false := by simp [hasB, h]
theorem set_out {s : Nat → Bool} {k : Nat} {i : Int} (h : isPlaceB k i = false) (on : Bool) : setB s k i on = s := by simp [setB, h]

set_option maxHeartbeats 16000000 in
set_option maxRecDepth 100000 in
theorem plays4_walk (a : Option Addr) (len cap : Nat) (rd : Nat → List Value) (n : Int) (w : World) (hT : Tab w.heap.size w) (hl : RowsAt Tryd.prog w 28 a len rd) :
    Calls Tryd.prog 3 #[.int .i64 n, .slice a len cap] w fun e w' => e = .returned (.bool true) ∧ Below w.heap.size w w' := by
  have hk := Lib.hid (known4_true w hT)
  by_cases hlong : (80 : Int) < len
  · clear hl
    go_enter Tryd.func3, Tryd.ntmps3
    go_wp2_with fail
    refine hk.out.mono ?_
    rintro e w1 ⟨rfl, hb⟩
    replace hb := Lib.hid hb
    go_wp2_with fail
    go_ret
    exact ⟨rfl, hb.out⟩
  · have hlen : len ≤ 80 := by omega
    clear hlong
    have hlong : decide ((80 : Int) < len) = false := by simp; omega
    replace hl := Lib.hid hl
    obtain ⟨k, hk5, hn⟩ : ∃ k : Nat, k ≤ 5000 ∧ (n < 0 ∧ k = 0 ∨ n = k ∨ 5000 < n ∧ k = 5000) := by
      by_cases h0 : n < 0
      · exact ⟨0, by omega, .inl ⟨h0, rfl⟩⟩
      · by_cases h1 : n ≤ 5000
        · exact ⟨n.toNat, by omega, .inr (.inl (by omega))⟩
        · exact ⟨5000, by omega, .inr (.inr ⟨by omega, rfl⟩)⟩
    have hk1 : (k : Int) ≤ 5000 := by omega
    have hk2 : (0 : Int) ≤ k := by omega
    have cn : Hid (∀ w', Below w.heap.size w w' → Calls Tryd.prog 7 #[.int .i64 n] w' (NewR w'.heap.size w' k [])) := Lib.hid fun w' hb => new_any (hT.below hb) (St.start w') n k hk5 hn
    replace hn := Lib.hid hn
    clear hT
    go_enter Tryd.func3, Tryd.ntmps3
    go_wp2_with fail
    refine hk.out.mono ?_
    rintro e w1 ⟨rfl, hb⟩
    replace hb := Lib.hid hb
    clear hk
    go_upto_region 5 with fail
    go_cut [5] (fun v wx => v = .int .i64 (k : Int) ∧ wx = w1)
    case first =>
      rcases hn.out with ⟨h0, rfl⟩ | rfl | ⟨h0, rfl⟩
      · go_wp2_with fail
        go_meet
        case rel => exact ⟨rfl, rfl⟩
      · rcases Nat.eq_zero_or_pos k with rfl | h1
        · go_wp2_with fail
          go_meet
          case rel => exact ⟨rfl, rfl⟩
        · go_wp2_with fail
          go_meet
          case rel => exact ⟨rfl, rfl⟩
      · go_wp2_with fail
        go_meet
        case rel => exact ⟨rfl, rfl⟩
    case rest =>
      obtain ⟨rfl, rfl⟩ := hcut
      clear hn
      go_wp2_with fail
      refine (cn.out _ hb.out).mono ?_
      rintro e w2 ⟨bb, rfl, h2⟩
      have hmk := mk_bools w2 k (by omega)
      have h3 : Both wc.heap.size wc (w2.alloc (setObj' none0 k)) bb w2.heap.size none0 none0 k [] := BmIs.allocF h2 _
      replace h3 := Lib.hid h3
      clear h2 cn
      go_wp2_with fail
      generalize w2.heap.size = sb at *
      generalize w2.alloc (setObj' none0 k) = w3 at *
      clear hmk
      have hcell : Hid (∀ w', Below wc.heap.size wc w' → ∀ i, i < len → ∃ b off s, a = some ⟨b, off, none⟩ ∧ w'.cell? ⟨b, off + i * 3, none⟩ = some (.bool (BStep.on s)) ∧ w'.cell? ⟨b, off + i * 3 + 1, none⟩ = some (.int .i64 s.at_) ∧ w'.cell? ⟨b, off + i * 3 + 2, none⟩ = some (.int .i64 s.frm) ∧
          (-9223372036854775808 ≤ s.at_ ∧ s.at_ ≤ 9223372036854775807) ∧ (-9223372036854775808 ≤ s.frm ∧ s.frm ≤ 9223372036854775807)) := Lib.hid fun w' hw i hi => by
        obtain ⟨b, off, e, hc⟩ := hl.out.cell (hb.out.trans (hw.mono hb.out.size)) hi
        obtain ⟨s, hs, h1, h2⟩ := bstep_shape (hl.out.at_ i hi).1
        rw [hs] at hc
        exact ⟨b, off, s, e, hc 0 _ rfl, hc 1 _ rfl, hc 2 _ rfl, h1, h2⟩
      clear hl
      go_loopw [8, 9] (fun c i wr => ∃ (j : Nat) (s : Nat → Bool), i = .int .i64 j ∧ j ≤ len ∧ c = .int .i64 (cntB s k : Nat) ∧ Both wc.heap.size wc wr bb sb s s k []) (fun _ i _ => len - (intOf i).toNat)
      case atStart => exact ⟨0, none0, rfl, Nat.zero_le _, by rw [show cntB none0 k = 0 from cntB_none k]; rfl, h3.out⟩
      case round =>
        obtain ⟨j, s, rfl, hj, rfl, hs⟩ := hrel
        clear h3
        by_cases hlt : j < len
        · obtain ⟨b, off, st, ea, hc0, hc1, hc2, hat, hfr⟩ := hcell.out _ (BmIs.below hs) j hlt
          subst ea
          obtain ⟨on, at_, frm⟩ := st
          simp only at hc0 hc1 hc2 hat hfr
          obtain ⟨hat0, hat1⟩ := hat
          obtain ⟨hfr0, hfr1⟩ := hfr
          have hcle : cntB s k ≤ k := cntB_le s k
          have hcn0 : (0 : Int) ≤ (cntB s k : Nat) := by omega
          have hcn1 : ((cntB s k : Nat) : Int) ≤ 5000 := by omega
          have hlt' : (j : Int) < len := by omega
          have hj0 : (0 : Int) ≤ j := by omega
          have hbox : Both wc.heap.size wc (wr.alloc (.cells #[.bool on, .int .i64 at_, .int .i64 frm] 28)) bb sb s s k [(wr.heap.size, .cells #[.bool on, .int .i64 at_, .int .i64 frm] 28)] := hs.alloc _
          have hd0 : (wr.alloc (.cells #[.bool on, .int .i64 at_, .int .i64 frm] 28)).cell? ⟨wr.heap.size, 0, none⟩ = some (.bool on) := by simp
          have hd1 : (wr.alloc (.cells #[.bool on, .int .i64 at_, .int .i64 frm] 28)).cell? ⟨wr.heap.size, 1, none⟩ = some (.int .i64 at_) := by simp
          clear hs hcle
          have tail : ∀ (t : Nat → Bool) W, Both wc.heap.size wc W bb sb t t k [(wr.heap.size, .cells #[.bool on, .int .i64 at_, .int .i64 frm] 28)] →
              Calls Tryd.prog 9 #[bptr bb, .int .i64 frm] W fun e w' => e = .returned (.tuple #[.int .i64 (((nextAt t k frm.toNat).getD 0 : Nat) : Int), .bool (nextAt t k frm.toNat).isSome]) ∧ Both wc.heap.size wc w' bb sb t t k [(wr.heap.size, .cells #[.bool on, .int .i64 at_, .int .i64 frm] 28)] := fun t W h => bm_next h frm hfr1 rfl
          have tail2 : ∀ (t : Nat → Bool) W, Both wc.heap.size wc W bb sb t t k [(wr.heap.size, .cells #[.bool on, .int .i64 at_, .int .i64 frm] 28)] →
              Calls Tryd.prog 10 #[.slice (some ⟨sb, 0, none⟩) k k, .int .i64 frm] W fun e w' => e = .returned (.tuple #[.int .i64 (((nextAt t k frm.toNat).getD 0 : Nat) : Int), .bool (nextAt t k frm.toNat).isSome]) ∧ W = w' := fun t W h => refNext_any h.readSet h.2.1 hk5 frm
          replace tail := Lib.hid tail
          replace tail2 := Lib.hid tail2
          by_cases hin : 0 ≤ at_ ∧ at_ < (k : Int)
          · obtain ⟨hin0, hin1⟩ := hin
            obtain ⟨p, rfl⟩ : ∃ p : Nat, at_ = p := ⟨at_.toNat, by omega⟩
            have hpk : p < k := by omega
            cases on <;> cases hsp : s p
            · as_aux_lemma =>
                have cs := Lib.hid (bm_set hbox (p : Int) false (off_place hpk))
                have hbp := Lib.hid (@has_in (del s p) k p hpk)
                have hcnt := Lib.hid (congrArg (fun f => cntB f k) (del_same hsp))
                clear hbox
                go_wp2_with fail
                refine cs.out.mono ?_
                rintro e w5 ⟨rfl, h5⟩
                replace h5 : Both wc.heap.size wc w5 bb sb (del s p) s k [(wr.heap.size, .cells #[.bool false, .int .i64 (p : Int), .int .i64 frm] 28)] := h5
                have q0 := h5.gcell (i := 0) List.mem_cons_self rfl
                have q1 := h5.gcell (i := 1) List.mem_cons_self rfl
                have q3 := h5.at_ hpk
                rw [hsp] at q3
                replace h5 := Lib.hid h5
                clear cs hd0 hd1
                go_wp2_with fail
                go_quiet (fail)
                have hdr := (Drew.refl w5).drewN nq
                generalize w5.drewN nq = w6 at *
                replace h5 := h5.out.drews hdr
                clear q0 q1 q3 hdr
                have q0 := h5.gcell (i := 0) List.mem_cons_self rfl
                have q1 := h5.gcell (i := 1) List.mem_cons_self rfl
                have q3 := h5.at_ hpk
                rw [hsp] at q3
                replace h5 := Lib.hid h5
                go_wp2_with fail
                go_quiet (fail)
                have hdr := (Drew.refl w6).drewN nq
                generalize w6.drewN nq = w7 at *
                replace h5 := h5.out.drews hdr
                clear q0 q1 q3 hdr
                have q0 := h5.gcell (i := 0) List.mem_cons_self rfl
                have q1 := h5.gcell (i := 1) List.mem_cons_self rfl
                have q3 := h5.at_ hpk
                rw [hsp] at q3
                have q5 := h5.soft p
                have h8 : Both wc.heap.size wc (w7.setCell ⟨sb, p, none⟩ (.bool false)) bb sb (del s p) (del s p) k [(wr.heap.size, .cells #[.bool false, .int .i64 (p : Int), .int .i64 frm] 28)] := h5.put p false
                clear h5
                have q6 := h8.gcell (i := 2) List.mem_cons_self rfl
                have ct := Lib.hid (tail.out _ _ h8)
                clear h8 tail
                go_wp2_with fail
                refine ct.out.mono ?_
                rintro e w9 ⟨rfl, h9⟩
                have r2 := h9.gcell (i := 2) List.mem_cons_self rfl
                have r1 := h9.gcell (i := 1) List.mem_cons_self rfl
                have r3 := h9.at_ hpk
                have ct2 := Lib.hid (tail2.out _ _ h9)
                have ch := Lib.hid (bm_has h9 (p : Int) hbp.out)
                have cc := Lib.hid (fun W (h : Both wc.heap.size wc W bb sb (del s p) (del s p) k [(wr.heap.size, .cells #[.bool false, .int .i64 (p : Int), .int .i64 frm] 28)]) => bm_count h hcnt.out)
                replace h9 := Lib.hid h9
                generalize nextAt (del s p) k frm.toNat = r at *
                clear ct tail2
                go_wp2_with fail
                refine ct2.out.mono ?_
                rintro e w10 ⟨rfl, rfl⟩
                generalize r.isSome = ok at *
                generalize ((r.getD 0 : Nat) : Int) = x at *
                go_wp2_with fail
                refine ch.out.mono ?_
                rintro e w11 ⟨rfl, h11⟩
                replace h11 : Both wc.heap.size wc w11 bb sb (del s p) (del s p) k [(wr.heap.size, .cells #[.bool false, .int .i64 (p : Int), .int .i64 frm] 28)] := h11
                have s1 := h11.gcell (i := 1) List.mem_cons_self rfl
                have s3 := h11.at_ hpk
                have cc2 := Lib.hid (cc.out _ h11)
                clear h11 ch h9
                go_wp2_with fail
                refine cc2.out.mono ?_
                rintro e w12 ⟨rfl, h9⟩
                replace h9 := Lib.hid h9
                go_wp2_with fail
                go_roundw
                case rel => exact ⟨j + 1, _, by go_num, by omega, congrArg (fun c : Nat => Value.int .i64 (c : Int)) hcnt.out.symm, Both.sub h9.out (List.nil_sublist _)⟩
                case measure => simp [intOf]; omega
            · as_aux_lemma =>
                have cs := Lib.hid (bm_set hbox (p : Int) false (off_place hpk))
                have hbp := Lib.hid (@has_in (del s p) k p hpk)
                obtain ⟨c, hcnt⟩ : ∃ c, cntB (del s p) k = c := ⟨_, rfl⟩
                have hcs : cntB s k = c + 1 := by rw [← hcnt]; exact (cntB_del hpk hsp).symm
                rw [hcs] at hcn0 hcn1 ⊢
                replace hcnt := Lib.hid hcnt
                clear hcs
                clear hbox
                go_wp2_with fail
                refine cs.out.mono ?_
                rintro e w5 ⟨rfl, h5⟩
                replace h5 : Both wc.heap.size wc w5 bb sb (del s p) s k [(wr.heap.size, .cells #[.bool false, .int .i64 (p : Int), .int .i64 frm] 28)] := h5
                have q0 := h5.gcell (i := 0) List.mem_cons_self rfl
                have q1 := h5.gcell (i := 1) List.mem_cons_self rfl
                have q3 := h5.at_ hpk
                rw [hsp] at q3
                replace h5 := Lib.hid h5
                clear cs hd0 hd1
                go_wp2_with fail
                go_quiet (fail)
                have hdr := (Drew.refl w5).drewN nq
                generalize w5.drewN nq = w6 at *
                replace h5 := h5.out.drews hdr
                clear q0 q1 q3 hdr
                have q0 := h5.gcell (i := 0) List.mem_cons_self rfl
                have q1 := h5.gcell (i := 1) List.mem_cons_self rfl
                have q3 := h5.at_ hpk
                rw [hsp] at q3
                replace h5 := Lib.hid h5
                go_wp2_with fail
                go_quiet (fail)
                have hdr := (Drew.refl w6).drewN nq
                generalize w6.drewN nq = w7 at *
                replace h5 := h5.out.drews hdr
                clear q0 q1 q3 hdr
                have q0 := h5.gcell (i := 0) List.mem_cons_self rfl
                have q1 := h5.gcell (i := 1) List.mem_cons_self rfl
                have q3 := h5.at_ hpk
                rw [hsp] at q3
                have q5 := h5.soft p
                have h8 : Both wc.heap.size wc (w7.setCell ⟨sb, p, none⟩ (.bool false)) bb sb (del s p) (del s p) k [(wr.heap.size, .cells #[.bool false, .int .i64 (p : Int), .int .i64 frm] 28)] := h5.put p false
                clear h5
                have q6 := h8.gcell (i := 2) List.mem_cons_self rfl
                have ct := Lib.hid (tail.out _ _ h8)
                clear h8 tail
                go_wp2_with fail
                refine ct.out.mono ?_
                rintro e w9 ⟨rfl, h9⟩
                have r2 := h9.gcell (i := 2) List.mem_cons_self rfl
                have r1 := h9.gcell (i := 1) List.mem_cons_self rfl
                have r3 := h9.at_ hpk
                have ct2 := Lib.hid (tail2.out _ _ h9)
                have ch := Lib.hid (bm_has h9 (p : Int) hbp.out)
                have cc := Lib.hid (fun W (h : Both wc.heap.size wc W bb sb (del s p) (del s p) k [(wr.heap.size, .cells #[.bool false, .int .i64 (p : Int), .int .i64 frm] 28)]) => bm_count h hcnt.out)
                replace h9 := Lib.hid h9
                generalize nextAt (del s p) k frm.toNat = r at *
                clear ct tail2
                go_wp2_with fail
                refine ct2.out.mono ?_
                rintro e w10 ⟨rfl, rfl⟩
                generalize r.isSome = ok at *
                generalize ((r.getD 0 : Nat) : Int) = x at *
                go_wp2_with fail
                refine ch.out.mono ?_
                rintro e w11 ⟨rfl, h11⟩
                replace h11 : Both wc.heap.size wc w11 bb sb (del s p) (del s p) k [(wr.heap.size, .cells #[.bool false, .int .i64 (p : Int), .int .i64 frm] 28)] := h11
                have s1 := h11.gcell (i := 1) List.mem_cons_self rfl
                have s3 := h11.at_ hpk
                have cc2 := Lib.hid (cc.out _ h11)
                clear h11 ch h9
                go_wp2_with fail
                refine cc2.out.mono ?_
                rintro e w12 ⟨rfl, h9⟩
                replace h9 := Lib.hid h9
                go_wp2_with fail
                go_roundw
                case rel => exact ⟨j + 1, _, by go_num, by omega, by rw [hcnt.out], Both.sub h9.out (List.nil_sublist _)⟩
                case measure => simp [intOf]; omega
            · as_aux_lemma =>
                have cs := Lib.hid (bm_set hbox (p : Int) true (ins_place hpk))
                have hbp := Lib.hid (@has_in (ins s p) k p hpk)
                have hcnt := Lib.hid (cntB_ins hpk hsp)
                clear hbox
                go_wp2_with fail
                refine cs.out.mono ?_
                rintro e w5 ⟨rfl, h5⟩
                replace h5 : Both wc.heap.size wc w5 bb sb (ins s p) s k [(wr.heap.size, .cells #[.bool true, .int .i64 (p : Int), .int .i64 frm] 28)] := h5
                have q0 := h5.gcell (i := 0) List.mem_cons_self rfl
                have q1 := h5.gcell (i := 1) List.mem_cons_self rfl
                have q3 := h5.at_ hpk
                rw [hsp] at q3
                replace h5 := Lib.hid h5
                clear cs hd0 hd1
                go_wp2_with fail
                go_quiet (fail)
                have hdr := (Drew.refl w5).drewN nq
                generalize w5.drewN nq = w6 at *
                replace h5 := h5.out.drews hdr
                clear q0 q1 q3 hdr
                have q0 := h5.gcell (i := 0) List.mem_cons_self rfl
                have q1 := h5.gcell (i := 1) List.mem_cons_self rfl
                have q3 := h5.at_ hpk
                rw [hsp] at q3
                have q5 := h5.soft p
                have h8 : Both wc.heap.size wc (w6.setCell ⟨sb, p, none⟩ (.bool true)) bb sb (ins s p) (ins s p) k [(wr.heap.size, .cells #[.bool true, .int .i64 (p : Int), .int .i64 frm] 28)] := h5.put p true
                clear h5
                have q6 := h8.gcell (i := 2) List.mem_cons_self rfl
                have ct := Lib.hid (tail.out _ _ h8)
                clear h8 tail
                go_wp2_with fail
                refine ct.out.mono ?_
                rintro e w9 ⟨rfl, h9⟩
                have r2 := h9.gcell (i := 2) List.mem_cons_self rfl
                have r1 := h9.gcell (i := 1) List.mem_cons_self rfl
                have r3 := h9.at_ hpk
                have ct2 := Lib.hid (tail2.out _ _ h9)
                have ch := Lib.hid (bm_has h9 (p : Int) hbp.out)
                have cc := Lib.hid (fun W (h : Both wc.heap.size wc W bb sb (ins s p) (ins s p) k [(wr.heap.size, .cells #[.bool true, .int .i64 (p : Int), .int .i64 frm] 28)]) => bm_count h hcnt.out)
                replace h9 := Lib.hid h9
                generalize nextAt (ins s p) k frm.toNat = r at *
                clear ct tail2
                go_wp2_with fail
                refine ct2.out.mono ?_
                rintro e w10 ⟨rfl, rfl⟩
                generalize r.isSome = ok at *
                generalize ((r.getD 0 : Nat) : Int) = x at *
                go_wp2_with fail
                refine ch.out.mono ?_
                rintro e w11 ⟨rfl, h11⟩
                replace h11 : Both wc.heap.size wc w11 bb sb (ins s p) (ins s p) k [(wr.heap.size, .cells #[.bool true, .int .i64 (p : Int), .int .i64 frm] 28)] := h11
                have s1 := h11.gcell (i := 1) List.mem_cons_self rfl
                have s3 := h11.at_ hpk
                have cc2 := Lib.hid (cc.out _ h11)
                clear h11 ch h9
                go_wp2_with fail
                refine cc2.out.mono ?_
                rintro e w12 ⟨rfl, h9⟩
                replace h9 := Lib.hid h9
                go_wp2_with fail
                go_roundw
                case rel => exact ⟨j + 1, _, by go_num, by omega, by rw [hcnt.out]; go_num, Both.sub h9.out (List.nil_sublist _)⟩
                case measure => simp [intOf]; omega
            · as_aux_lemma =>
                have cs := Lib.hid (bm_set hbox (p : Int) true (ins_place hpk))
                have hbp := Lib.hid (@has_in (ins s p) k p hpk)
                have hcnt := Lib.hid (congrArg (fun f => cntB f k) (ins_same hsp))
                clear hbox
                go_wp2_with fail
                refine cs.out.mono ?_
                rintro e w5 ⟨rfl, h5⟩
                replace h5 : Both wc.heap.size wc w5 bb sb (ins s p) s k [(wr.heap.size, .cells #[.bool true, .int .i64 (p : Int), .int .i64 frm] 28)] := h5
                have q0 := h5.gcell (i := 0) List.mem_cons_self rfl
                have q1 := h5.gcell (i := 1) List.mem_cons_self rfl
                have q3 := h5.at_ hpk
                rw [hsp] at q3
                replace h5 := Lib.hid h5
                clear cs hd0 hd1
                go_wp2_with fail
                go_quiet (fail)
                have hdr := (Drew.refl w5).drewN nq
                generalize w5.drewN nq = w6 at *
                replace h5 := h5.out.drews hdr
                clear q0 q1 q3 hdr
                have q0 := h5.gcell (i := 0) List.mem_cons_self rfl
                have q1 := h5.gcell (i := 1) List.mem_cons_self rfl
                have q3 := h5.at_ hpk
                rw [hsp] at q3
                replace h5 := Lib.hid h5
                go_wp2_with fail
                go_quiet (fail)
                have hdr := (Drew.refl w6).drewN nq
                generalize w6.drewN nq = w7 at *
                replace h5 := h5.out.drews hdr
                clear q0 q1 q3 hdr
                have q0 := h5.gcell (i := 0) List.mem_cons_self rfl
                have q1 := h5.gcell (i := 1) List.mem_cons_self rfl
                have q3 := h5.at_ hpk
                rw [hsp] at q3
                have q5 := h5.soft p
                have h8 : Both wc.heap.size wc (w7.setCell ⟨sb, p, none⟩ (.bool true)) bb sb (ins s p) (ins s p) k [(wr.heap.size, .cells #[.bool true, .int .i64 (p : Int), .int .i64 frm] 28)] := h5.put p true
                clear h5
                have q6 := h8.gcell (i := 2) List.mem_cons_self rfl
                have ct := Lib.hid (tail.out _ _ h8)
                clear h8 tail
                go_wp2_with fail
                refine ct.out.mono ?_
                rintro e w9 ⟨rfl, h9⟩
                have r2 := h9.gcell (i := 2) List.mem_cons_self rfl
                have r1 := h9.gcell (i := 1) List.mem_cons_self rfl
                have r3 := h9.at_ hpk
                have ct2 := Lib.hid (tail2.out _ _ h9)
                have ch := Lib.hid (bm_has h9 (p : Int) hbp.out)
                have cc := Lib.hid (fun W (h : Both wc.heap.size wc W bb sb (ins s p) (ins s p) k [(wr.heap.size, .cells #[.bool true, .int .i64 (p : Int), .int .i64 frm] 28)]) => bm_count h hcnt.out)
                replace h9 := Lib.hid h9
                generalize nextAt (ins s p) k frm.toNat = r at *
                clear ct tail2
                go_wp2_with fail
                refine ct2.out.mono ?_
                rintro e w10 ⟨rfl, rfl⟩
                generalize r.isSome = ok at *
                generalize ((r.getD 0 : Nat) : Int) = x at *
                go_wp2_with fail
                refine ch.out.mono ?_
                rintro e w11 ⟨rfl, h11⟩
                replace h11 : Both wc.heap.size wc w11 bb sb (ins s p) (ins s p) k [(wr.heap.size, .cells #[.bool true, .int .i64 (p : Int), .int .i64 frm] 28)] := h11
                have s1 := h11.gcell (i := 1) List.mem_cons_self rfl
                have s3 := h11.at_ hpk
                have cc2 := Lib.hid (cc.out _ h11)
                clear h11 ch h9
                go_wp2_with fail
                refine cc2.out.mono ?_
                rintro e w12 ⟨rfl, h9⟩
                replace h9 := Lib.hid h9
                go_wp2_with fail
                go_roundw
                case rel => exact ⟨j + 1, _, by go_num, by omega, congrArg (fun c : Nat => Value.int .i64 (c : Int)) hcnt.out.symm, Both.sub h9.out (List.nil_sublist _)⟩
                case measure => simp [intOf]; omega
          · have hout : isPlaceB k at_ = false := by simp only [isPlaceB, Bool.and_eq_false_imp, decide_eq_true_eq, decide_eq_false_iff_not]; omega
            have cs := Lib.hid (bm_set hbox at_ on (set_out hout on))
            replace hout := Lib.hid hout
            have hdec : (0 ≤ at_ ∧ decide (at_ < (k : Int)) = false) ∨ decide (0 ≤ at_) = false := by
              by_cases h0 : 0 ≤ at_
              · exact .inl ⟨h0, by simp; omega⟩
              · exact .inr (by simpa using h0)
            clear hin hbox
            rcases hdec with ⟨hde0, hde⟩ | hde
            all_goals
              go_wp2_with fail
              refine cs.out.mono ?_
              rintro e w5 ⟨rfl, h5⟩
              replace h5 : Both wc.heap.size wc w5 bb sb s s k [(wr.heap.size, .cells #[.bool on, .int .i64 at_, .int .i64 frm] 28)] := h5
              have q1 := h5.gcell (i := 1) List.mem_cons_self rfl
              have q2 := h5.gcell (i := 2) List.mem_cons_self rfl
              have ct := Lib.hid (tail.out _ _ h5)
              clear cs hd0 hd1 h5 tail
              go_wp2_with fail
              refine ct.out.mono ?_
              rintro e w9 ⟨rfl, h9⟩
              have r2 := h9.gcell (i := 2) List.mem_cons_self rfl
              have r1 := h9.gcell (i := 1) List.mem_cons_self rfl
              have ct2 := Lib.hid (tail2.out _ _ h9)
              have ch := Lib.hid (bm_has h9 at_ (has_out hout.out))
              have cc := Lib.hid (fun W (h : Both wc.heap.size wc W bb sb (s) (s) k [(wr.heap.size, .cells #[.bool on, .int .i64 at_, .int .i64 frm] 28)]) => bm_count h rfl)
              replace h9 := Lib.hid h9
              generalize nextAt (s) k frm.toNat = r at *
              clear ct tail2
              go_wp2_with fail
              refine ct2.out.mono ?_
              rintro e w10 ⟨rfl, rfl⟩
              generalize r.isSome = ok at *
              generalize ((r.getD 0 : Nat) : Int) = x at *
              go_wp2_with fail
              refine ch.out.mono ?_
              rintro e w11 ⟨rfl, h11⟩
              replace h11 : Both wc.heap.size wc w11 bb sb (s) (s) k [(wr.heap.size, .cells #[.bool on, .int .i64 at_, .int .i64 frm] 28)] := h11
              have s1 := h11.gcell (i := 1) List.mem_cons_self rfl
              have cc2 := Lib.hid (cc.out _ h11)
              clear h11 ch h9
              go_wp2_with fail
              refine cc2.out.mono ?_
              rintro e w12 ⟨rfl, h9⟩
              replace h9 := Lib.hid h9
              go_wp2_with fail
              go_roundw
              case rel => exact ⟨j + 1, _, by go_num, by omega, rfl, Both.sub h9.out (List.nil_sublist _)⟩
              case measure => simp [intOf]; omega
        · have hfin := Lib.hid (hb.out.trans ((BmIs.below hs).mono hb.out.size))
          clear hs
          go_wp2_with fail
          go_ret
          exact ⟨rfl, hfin.out⟩

theorem plays4_row {a : Option Addr} {len cap : Nat} {n : Int} {w : World} (hT : Tab w.heap.size w) (r1 : Read Tryd.prog w 22 [.slice a len cap]) :
    Calls Tryd.prog 3 #[.int .i64 n, .slice a len cap] w fun e w' => e = .returned (.bool true) ∧ Below w.heap.size w w' := by
  obtain ⟨rd, hl⟩ := Read.slice Tryd.underlying22 (by rw [show Tryd.prog.cellsOf 28 = 3 by kernel_rfl]; decide) r1
  exact plays4_walk a len cap rd n w hT hl
end Go.Proofs.YtmclnnepcgkiaaaDoor
