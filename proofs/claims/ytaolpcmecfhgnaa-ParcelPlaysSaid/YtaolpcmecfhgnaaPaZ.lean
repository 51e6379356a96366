/- ParcelPlays: every row of steps, side by side. -/
import Derived.Test.YtaolpcmecfhgnaaPaY
import Derived.Test.YtaolpcmecfhgnaaPaK
import Derived.Deep.LoopGhost
namespace Go.Proofs.Ytaolpcmecfhgnaa
open Go.RowKit
open Go.ChangeMaps (setBlock)
set_option linter.unusedVariables false
set_option linter.unusedSectionVars false
set_option linter.unusedSimpArgs false
set_option maxRecDepth 100000

section
variable {w : World}
/-- A step's cells behind its What. -/
abbrev StB21 (W : World) (b : Nat) (x : S21) : Prop := W.cell? ⟨b, 1, none⟩ = some (.int .i64 x.bits) ∧ W.cell? ⟨b, 2, none⟩ = some (tx x.a) ∧ W.cell? ⟨b, 3, none⟩ = some (tx x.b) ∧ W.cell? ⟨b, 4, none⟩ = some (.int .i64 x.s) ∧ W.cell? ⟨b, 5, none⟩ = some (.int .i64 x.r) ∧ W.cell? ⟨b, 6, none⟩ = some (.int .i64 x.t)
theorem step_at21 {B pb qb : Nat} {w0 W : World} {p : Pcl} {x : S21} {Y : List (Nat × Obj)} (h : PaIs B w0 W pb p Y) (hm : (qb, stO21 x) ∈ Y) : StB21 W qb x :=
  ⟨h.cell hm rfl, h.cell hm rfl, h.cell hm rfl, h.cell hm rfl, h.cell hm rfl, h.cell hm rfl⟩
set_option maxHeartbeats 8000000 in
theorem plays21_walk {a0 : Option Addr} {n cap : Nat} {G : List S21} (hG : Stp21 w a0 n G) :
    Calls Try.prog 3 #[.slice a0 n cap] w fun e w' => e = .returned (.bool true) ∧ Below w.heap.size w w' := by
  have c1 := Lib.hid (known21_true w)
  by_cases h80 : 80 < n
  · have h80' : (80 : Int) < n := by omega
    clear hG
    go_enter Try.func3, Try.ntmps3
    go_wp2_with fail
    refine c1.out.mono ?_
    rintro e w1 ⟨rfl, hb⟩
    replace hb := Lib.hid hb
    go_wp2_with fail
    go_ret
    exact ⟨rfl, hb.out⟩
  have h80' : (n : Int) ≤ 80 := by omega
  have hGl := hG.size
  replace hG := Lib.hid hG
  go_enter Try.func3, Try.ntmps3
  go_wp2_with fail
  refine c1.out.mono ?_
  rintro e w1 ⟨rfl, hb⟩
  have c2 : Hid (Calls Try.prog 7 #[] w1 fun r w' => ∃ pb, r = .returned (pptr pb) ∧ PaIs w.heap.size w w' pb z0P []) := Lib.hid ((pa_new ((St.start w).grow hb)).mono fun r w' h => ⟨_, h⟩)
  clear c1 hb h80
  go_wp2_with fail
  refine c2.out.mono ?_
  rintro e w2 ⟨pb, rfl, h⟩
  have h0 : Hid (Pl21 w pb w2.heap.size 0 [] (w2.alloc (refO z0P))) := Lib.hid ⟨z0P, OkP.new, Nat.le_refl _, h.alloc (refO z0P)⟩
  clear c2 h
  go_wp2_with fail
  generalize w2.heap.size = rb at *
  go_loopg [5] n (fun g v5 wr => ∃ i : Nat, v5 = .int .i64 i ∧ i + g = n ∧ Hid (Pl21 w pb rb i [] wr))
  case atStart => exact ⟨0, rfl, by omega, h0⟩
  case round =>
    clear h0
    obtain ⟨i, rfl, hi, hP⟩ := hrel
    obtain ⟨p, ok, hpl, hT⟩ := hP.out
    have hi0 : (0 : Int) ≤ i := by omega
    by_cases hlt : i < n
    rotate_left
    · have fin := Lib.hid (PaIs.below hT)
      clear hP hT hpl ok
      go_wp2_with fail
      go_ret
      exact ⟨rfl, fin.out⟩
    have hi1 : (i : Int) < n := by omega
    obtain ⟨x, hx⟩ : ∃ x, G[i]? = some x := ⟨_, List.getElem?_eq_getElem (by omega)⟩
    obtain ⟨ba, oa, rfl, k0, k1, k2, k3, k4, k5, k6⟩ := (hG.out.below (PaIs.below hT)).at_ i x hx
    have h1 : Law21 w.heap.size w (wr.alloc (stO21 x)) pb rb p [(wr.heap.size, stO21 x)] := (PaIs.alloc hT (stO21 x)).permF (List.Perm.swap _ _ _)
    obtain ⟨what, bits, xa, xb, cs, cr, ct⟩ := x
    simp only at k0 k1 k2 k3 k4 k5 k6
    clear hx hP hT
    go_upto_block 2 with fail
    clear k0 k1 k2 k3 k4 k5 k6
    generalize wr.heap.size = qb at *
    obtain ⟨W1, hW1⟩ : ∃ W1, W1 = wr.alloc (stO21 ⟨what, bits, xa, xb, cs, cr, ct⟩) := ⟨_, rfl⟩
    rw [← hW1] at h1 ⊢
    clear hW1
    obtain ⟨y1, y2, y3, y4, y5, y6⟩ := step_at21 (x := ⟨what, bits, xa, xb, cs, cr, ct⟩) h1 (List.mem_cons_of_mem _ List.mem_cons_self)
    have y0 : W1.cell? ⟨qb, 0, none⟩ = some (.int .i64 what) := PaIs.cell h1 (t := qb) (c := #[_, _, _, _, _, _, _]) (List.mem_cons_of_mem _ List.mem_cons_self) rfl
    have hp1 : p.bytes.length ≤ 24000 := by omega
    simp only at y1 y2 y3 y4 y5 y6
    by_cases hlen : 300 < xa.length ∨ 300 < xb.length
    · have fin := Lib.hid (PaIs.below h1)
      have hlen' : (300 : Int) < xa.length ∨ (¬ (300 : Int) < xa.length ∧ (300 : Int) < xb.length) := by omega
      clear h1 ok hpl hp1
      rcases hlen' with e1 | ⟨e1, e2⟩
      · go_wp2_with fail
        go_ret
        exact ⟨rfl, fin.out⟩
      · go_wp2_with fail
        go_ret
        exact ⟨rfl, fin.out⟩
    have la : ¬ (300 : Int) < xa.length := by omega
    have lb : ¬ (300 : Int) < xb.length := by omega
    have la2 : xa.length ≤ 300 := by omega
    have lb2 : xb.length ≤ 300 := by omega
    go_cut [7] (fun v7 wx => v7 = .bool true ∧ Hid (Pl21 w pb rb (i + 1) [(qb, stO21 ⟨what, bits, xa, xb, cs, cr, ct⟩)] wx))
    case first =>
      clear hlen
      replace la2 := Lib.hid la2
      replace lb2 := Lib.hid lb2
      replace hpl := Lib.hid hpl
      replace hp1 := Lib.hid hp1
      replace ok := Lib.hid ok
      by_cases hw1 : what ≤ 1
      · obtain ⟨an, han⟩ : ∃ an, (beginP p xa xb bits).1 = an := ⟨_, rfl⟩
        obtain ⟨q, hq⟩ : ∃ q, (beginP p xa xb bits).2 = q := ⟨_, rfl⟩
        have cA : Hid (∀ W, Law21 w.heap.size w W pb rb p [(qb, stO21 ⟨what, bits, xa, xb, cs, cr, ct⟩)] → Calls Try.prog 8 #[pptr pb, tx xa, tx xb, .int .i64 bits] W fun r w' => r = .returned (.int .i64 an) ∧ PaIs w.heap.size w w' pb q ((rb, refO p) :: [(qb, stO21 ⟨what, bits, xa, xb, cs, cr, ct⟩)]) ∧ (w'.cell? ⟨qb, 1, none⟩ = some (.int .i64 bits) ∧ w'.cell? ⟨qb, 2, none⟩ = some (tx xa) ∧ w'.cell? ⟨qb, 3, none⟩ = some (tx xb) ∧ w'.cell? ⟨qb, 4, none⟩ = some (.int .i64 cs) ∧ w'.cell? ⟨qb, 5, none⟩ = some (.int .i64 cr) ∧ w'.cell? ⟨qb, 6, none⟩ = some (.int .i64 ct))) := Lib.hid fun W h => by
          refine (law_begin h xa xb bits la2.out lb2.out).mono ?_
          rintro r w' ⟨rfl, h'⟩
          rw [han, hq] at *
          exact ⟨rfl, h', step_at21 (x := ⟨what, bits, xa, xb, cs, cr, ct⟩) h' (List.mem_cons_of_mem _ List.mem_cons_self)⟩
        have cB : Hid (∀ W, PaIs w.heap.size w W pb q ((rb, refO p) :: [(qb, stO21 ⟨what, bits, xa, xb, cs, cr, ct⟩)]) → Calls Try.prog 9 #[pptr rb, tx xa, tx xb, .int .i64 bits] W fun r w' => r = .returned (.int .i64 an) ∧ Law21 w.heap.size w w' pb rb q [(qb, stO21 ⟨what, bits, xa, xb, cs, cr, ct⟩)] ∧ (w'.cell? ⟨qb, 1, none⟩ = some (.int .i64 bits) ∧ w'.cell? ⟨qb, 2, none⟩ = some (tx xa) ∧ w'.cell? ⟨qb, 3, none⟩ = some (tx xb) ∧ w'.cell? ⟨qb, 4, none⟩ = some (.int .i64 cs) ∧ w'.cell? ⟨qb, 5, none⟩ = some (.int .i64 cr) ∧ w'.cell? ⟨qb, 6, none⟩ = some (.int .i64 ct))) := Lib.hid fun W h => by
          refine (law_rbegin h ok.out xa xb bits hq).mono ?_
          rintro r w' ⟨rfl, h'⟩
          rw [han]
          exact ⟨rfl, h', step_at21 (x := ⟨what, bits, xa, xb, cs, cr, ct⟩) h' (List.mem_cons_of_mem _ List.mem_cons_self)⟩
        have toP : Hid (∀ W, Law21 w.heap.size w W pb rb q [(qb, stO21 ⟨what, bits, xa, xb, cs, cr, ct⟩)] → Pl21 w pb rb (i + 1) [(qb, stO21 ⟨what, bits, xa, xb, cs, cr, ct⟩)] W) := Lib.hid fun W h => ⟨q, hq ▸ ok.out.begin, by rw [← hq, begin_len]; have := hpl.out; omega, h⟩
        have hO : Law21 w.heap.size w W1.drew pb rb p [(qb, stO21 ⟨what, bits, xa, xb, cs, cr, ct⟩)] := PaIs.grow h1 (drew_b _)
        have hS0 := Lib.hid (step_at21 (x := ⟨what, bits, xa, xb, cs, cr, ct⟩) hO (List.mem_cons_of_mem _ List.mem_cons_self))
        clear h1 han hq
        go_upto_region 16 with fail
        clear y0 y1 y2 y3 y4 y5 y6
        go_region_held3 (fun X => X.cell? ⟨qb, 1, none⟩ = some (.int .i64 bits) ∧ X.cell? ⟨qb, 2, none⟩ = some (tx xa) ∧ X.cell? ⟨qb, 3, none⟩ = some (tx xb) ∧ X.cell? ⟨qb, 4, none⟩ = some (.int .i64 cs) ∧ X.cell? ⟨qb, 5, none⟩ = some (.int .i64 cr) ∧ X.cell? ⟨qb, 6, none⟩ = some (.int .i64 ct)) (first | exact hS | exact hS0.out | go_keep) (first
          | (go_at_call 9; refine (cB.out _ (by assumption)).mono ?_; rintro r w'' ⟨rfl, hO2, hS⟩)
          | (go_at_call 8; refine (cA.out _ (by assumption)).mono ?_; rintro r w'' ⟨rfl, hO1, hS⟩))
        have fin := Lib.hid (toP.out _ hO2)
        clear hO hO1 hO2 cA cB toP hS0
        go_wp2_with fail
        go_meet
        case rel => exact ⟨rfl, fin⟩
      by_cases hw3 : what ≤ 3
      · obtain ⟨⟨⟨o1, an⟩, q⟩, hq⟩ : ∃ z, headP p cs cr ct = z := ⟨_, rfl⟩
        have toP : Hid (∀ W, Law21 w.heap.size w W pb rb q [(qb, stO21 ⟨what, bits, xa, xb, cs, cr, ct⟩)] → Pl21 w pb rb (i + 1) [(qb, stO21 ⟨what, bits, xa, xb, cs, cr, ct⟩)] W) := Lib.hid fun W h => ⟨q, by have := ok.out.head (s := cs) (r := cr) (t := ct); rw [hq] at this; exact this, by have := head_len (p := p) (s := cs) (r := cr) (t := ct); rw [hq] at this; simp only at this; rw [this]; have := hpl.out; omega, h⟩
        have cA := pa_head h1 (by have := hp1.out; omega) cs cr ct
        rw [hq] at cA
        have cB : Hid (∀ W, PaIs w.heap.size w W pb q ((rb, refO p) :: [(qb, stO21 ⟨what, bits, xa, xb, cs, cr, ct⟩)]) → Calls Try.prog 11 #[pptr rb, cntV cs cr ct] W fun v w' => v = .returned (.tuple #[.bool o1, .int .i64 an]) ∧ Law21 w.heap.size w w' pb rb q [(qb, stO21 ⟨what, bits, xa, xb, cs, cr, ct⟩)]) := Lib.hid fun W h => by
          have := law_rhead h (by have := hp1.out; omega) cs cr ct (by rw [hq])
          rw [hq] at this
          exact this
        replace cA := Lib.hid cA
        clear h1 hq
        go_wp2_with fail
        refine cA.out.mono ?_
        rintro r w3 ⟨rfl, h2⟩
        obtain ⟨z1, z2, z3, z4, z5, z6⟩ := step_at21 (x := ⟨what, bits, xa, xb, cs, cr, ct⟩) h2 (List.mem_cons_of_mem _ List.mem_cons_self)
        have cB2 := Lib.hid (cB.out _ h2)
        clear cA cB h2 y0 y1 y2 y3 y4 y5 y6
        go_wp2_with fail
        refine cB2.out.mono ?_
        rintro r w4 ⟨rfl, h3⟩
        have fin := Lib.hid (toP.out _ h3)
        clear cB2 h3 toP z1 z2 z3 z4 z5 z6
        go_wp2_with fail
        go_meet
        case rel => exact ⟨rfl, fin⟩
      by_cases hw7 : what ≤ 7
      · obtain ⟨⟨⟨o1, an⟩, q⟩, hq⟩ : ∃ z, bodyP p xa = z := ⟨_, rfl⟩
        have toP : Hid (∀ W, Law21 w.heap.size w W pb rb q [(qb, stO21 ⟨what, bits, xa, xb, cs, cr, ct⟩)] → Pl21 w pb rb (i + 1) [(qb, stO21 ⟨what, bits, xa, xb, cs, cr, ct⟩)] W) := Lib.hid fun W h => ⟨q, by have := ok.out.body (b := xa); rw [hq] at this; exact this, by have := body_len (p := p) (b := xa); rw [hq] at this; simp only at this; have := hpl.out; have := la2.out; omega, h⟩
        have cA := pa_body h1 xa (by have := hp1.out; have := la2.out; omega)
        rw [hq] at cA
        have cB : Hid (∀ W, PaIs w.heap.size w W pb q ((rb, refO p) :: [(qb, stO21 ⟨what, bits, xa, xb, cs, cr, ct⟩)]) → Calls Try.prog 13 #[pptr rb, tx xa] W fun v w' => v = .returned (.tuple #[.bool o1, .int .i64 an]) ∧ Law21 w.heap.size w w' pb rb q [(qb, stO21 ⟨what, bits, xa, xb, cs, cr, ct⟩)]) := Lib.hid fun W h => by
          have := law_rbody h ok.out xa (by have := hp1.out; have := la2.out; omega) (by rw [hq])
          rw [hq] at this
          exact this
        replace cA := Lib.hid cA
        clear h1 hq
        go_wp2_with fail
        refine cA.out.mono ?_
        rintro r w3 ⟨rfl, h2⟩
        obtain ⟨z1, z2, z3, z4, z5, z6⟩ := step_at21 (x := ⟨what, bits, xa, xb, cs, cr, ct⟩) h2 (List.mem_cons_of_mem _ List.mem_cons_self)
        have cB2 := Lib.hid (cB.out _ h2)
        clear cA cB h2 y0 y1 y2 y3 y4 y5 y6
        go_wp2_with fail
        refine cB2.out.mono ?_
        rintro r w4 ⟨rfl, h3⟩
        have fin := Lib.hid (toP.out _ h3)
        clear cB2 h3 toP z1 z2 z3 z4 z5 z6
        go_wp2_with fail
        go_meet
        case rel => exact ⟨rfl, fin⟩
      by_cases hw8 : (what == 8) = true
      · obtain ⟨⟨⟨e, bs, bi⟩, q⟩, hq⟩ : ∃ z, takeP p = z := ⟨_, rfl⟩
        have toP : Hid (∀ W, Law21 w.heap.size w W pb rb q [(qb, stO21 ⟨what, bits, xa, xb, cs, cr, ct⟩)] → Pl21 w pb rb (i + 1) [(qb, stO21 ⟨what, bits, xa, xb, cs, cr, ct⟩)] W) := Lib.hid fun W h => ⟨q, by have := ok.out.take; rw [hq] at this; exact this, by have := take_len (p := p); rw [hq] at this; simp only at this; have := hpl.out; omega, h⟩
        have cA := pa_take h1
        rw [hq] at cA
        have cB : Hid (∀ W o, PaIs w.heap.size w W pb q ((rb, refO p) :: [(qb, stO21 ⟨what, bits, xa, xb, cs, cr, ct⟩)]) → Calls Try.prog 15 #[pptr rb] (W.alloc o) fun v w' => v = .returned (.tuple #[enV e, tx bs, .int .i64 bi]) ∧ Law21 w.heap.size w w' pb rb q ((W.heap.size, o) :: [(qb, stO21 ⟨what, bits, xa, xb, cs, cr, ct⟩)])) := Lib.hid fun W o h => by
          have := law_rtake ((h.alloc o).permF (List.Perm.swap _ _ _)) ok.out (by have := hp1.out; omega) (by rw [hq])
          rw [hq] at this
          exact this
        replace cA := Lib.hid cA
        clear h1 hq
        go_wp2_with fail
        refine cA.out.mono ?_
        rintro r w3 ⟨rfl, h2⟩
        have cB2 := Lib.hid (cB.out _ (enO e) h2)
        clear cA cB h2 y1 y2 y3 y4 y5 y6
        go_wp2_with fail
        refine cB2.out.mono ?_
        rintro r w4 ⟨rfl, h3⟩
        obtain ⟨x0, x1, x2, x3, x4, x5, x6, x7, x8, x9⟩ : EnAt (w4.alloc (enO e)) w3.heap.size e := by
          have h4 := PaIs.alloc h3 (enO e)
          have hm : (w3.heap.size, enO e) ∈ (w4.heap.size, enO e) :: (rb, refO q) :: (w3.heap.size, enO e) :: [(qb, stO21 ⟨what, bits, xa, xb, cs, cr, ct⟩)] := by simp
          exact ⟨h4.cell hm rfl, h4.cell hm rfl, h4.cell hm rfl, h4.cell hm rfl, h4.cell hm rfl, h4.cell hm rfl, h4.cell hm rfl, h4.cell hm rfl, h4.cell hm rfl, h4.cell hm rfl⟩
        have fin := Lib.hid (toP.out _ (PaIs.sub (PaIs.alloc h3 (enO e)) ((List.Sublist.cons_cons _ (List.sublist_cons_self _ _)).trans (List.sublist_cons_self _ _))))
        clear cB2 h3 toP
        go_wp2_with fail
        go_meet
        case rel => exact ⟨rfl, fin⟩
      · have hw8' : (what == 8) = false := by simpa using hw8
        have cA := pa_clear h1
        have cB : Hid (∀ W, PaIs w.heap.size w W pb z0P ((rb, refO p) :: [(qb, stO21 ⟨what, bits, xa, xb, cs, cr, ct⟩)]) → RpC W rb (!decide (p.next = 0)) (decide (2 ≤ p.next)) p ∧ Pl21 w pb rb (i + 1) [(qb, stO21 ⟨what, bits, xa, xb, cs, cr, ct⟩)] (rpPut W rb false false z0P)) := Lib.hid fun W h => by
          obtain ⟨Z, z, k⟩ := h.ref
          exact ⟨RpC.of z List.mem_cons_self, z0P, OkP.new, Nat.zero_le _, k _ z0P (St.rpPut z)⟩
        replace cA := Lib.hid cA
        clear h1
        go_wp2_with fail
        refine cA.out.mono ?_
        rintro r w3 ⟨rfl, h2⟩
        obtain ⟨⟨c0, c1, c2, c3, c4, c5, c6, c7, c8, c9, c10, c11, c12, c13, f⟩, fin⟩ := cB.out _ h2
        replace fin := Lib.hid fin
        clear cA cB h2 y0 y1 y2 y3 y4 y5 y6
        go_wp2_with fail
        go_meet
        case rel => exact ⟨rfl, fin⟩
    case rest =>
      obtain ⟨rfl, hP⟩ := hcut
      clear h1 y0 y1 y2 y3 y4 y5 y6 ok hpl hp1 la la2 lb lb2 hlen
      clear p
      obtain ⟨p, ok, hpl, hT⟩ := hP.out
      obtain ⟨g, hg⟩ : ∃ g, (!decide (p.next = 0)) = g := ⟨_, rfl⟩
      have cO : Hid (∀ W, Law21 w.heap.size w W pb rb p [(qb, stO21 ⟨what, bits, xa, xb, cs, cr, ct⟩)] → Calls Try.prog 17 #[pptr pb] W fun r w' => r = .returned (.bool g) ∧ Law21 w.heap.size w w' pb rb p [(qb, stO21 ⟨what, bits, xa, xb, cs, cr, ct⟩)] ∧ w'.cell? ⟨rb, 0, none⟩ = some (.bool g)) := Lib.hid fun W h => by
        refine (pa_open h).mono ?_
        rintro r w' ⟨rfl, h'⟩
        have h0 : w'.cell? ⟨rb, 0, none⟩ = some (.bool (!decide (p.next = 0))) := PaIs.cell h' (t := rb) List.mem_cons_self rfl
        rw [hg] at h0 ⊢
        exact ⟨rfl, h', h0⟩
      have hO : Law21 w.heap.size w wc.drew pb rb p [(qb, stO21 ⟨what, bits, xa, xb, cs, cr, ct⟩)] := PaIs.grow hT (drew_b _)
      have hS0 : Hid (wc.drew.cell? ⟨rb, 0, none⟩ = some (.bool g)) := Lib.hid (by
        have h0 : wc.drew.cell? ⟨rb, 0, none⟩ = some (.bool (!decide (p.next = 0))) := PaIs.cell hO (t := rb) List.mem_cons_self rfl
        rw [hg] at h0
        exact h0)
      have toP : Hid (∀ W, Law21 w.heap.size w W pb rb p [(qb, stO21 ⟨what, bits, xa, xb, cs, cr, ct⟩)] → Pl21 w pb rb (i + 1) [] W) := Lib.hid fun W h => ⟨p, ok, hpl, PaIs.sub h (List.sublist_append_left [(rb, refO p)] _)⟩
      clear hT hg hP ok hpl
      go_upto_region 29 with fail
      go_region_held3 (fun X => X.cell? ⟨rb, 0, none⟩ = some (.bool g)) (first | exact hS | exact hS0.out | go_keep) ((go_at_call 17; refine (cO.out _ (by assumption)).mono ?_; rintro r w'' ⟨rfl, hO2, hS⟩))
      have fin := Lib.hid (toP.out _ hO2)
      clear hO hO2 cO toP hS0
      go_wp2_with fail
      go_roundg (n - (i + 1))
      case measure => omega
      case rel => exact ⟨i + 1, by go_num, by omega, fin⟩
end
theorem plays21_row {a0 : Option Addr} {n cap : Nat} {w : World} (r0 : Read Try.prog w 22 [.slice a0 n cap]) :
    Calls Try.prog 3 #[.slice a0 n cap] w fun e w' => e = .returned (.bool true) ∧ Below w.heap.size w w' := by
  obtain ⟨rd, hr⟩ := r0.slice (by kernel_rfl : Try.prog.underlying 22 = some (.slice 34)) (by decide +kernel)
  obtain ⟨G, hG⟩ := Stp21.of hr
  exact plays21_walk hG
end Go.Proofs.Ytaolpcmecfhgnaa
