/- The document's parcel: bytes, what is taken. -/
import Derived.Test.YtaolpcmecfhgnaaPaS
namespace Go.Proofs.Ytaolpcmecfhgnaa
open Go.RowKit
open Go.ChangeMaps (setBlock)
set_option linter.unusedVariables false
set_option linter.unusedSectionVars false
set_option linter.unusedSimpArgs false
set_option maxRecDepth 100000

section
variable {B : Nat} {w0 w w' W : World} {b rb : Nat} {p : Pcl} {g hd : Bool} {F F' S C H : List (Nat × Obj)}
set_option maxHeartbeats 4000000 in
theorem rf_body (h : RPaIs B w0 w rb p F) (ok : OkP p) (y : List UInt8) (hb : p.bytes.length + y.length ≤ 1000000) : Calls Try.prog 13 #[pptr rb, tx y] w (RComeR B w0 rb (bodyP p y) F) := by
  unfold RPaIs at h
  have c := RpC.of h List.mem_cons_self
  have hg : Hid (∀ n, RPaIs B w0 (w.drewN n) rb p F) := Lib.hid fun n => h.drewN n
  have l0 : (0 : Int) ≤ p.bytes.length := by omega
  have l1 : (0 : Int) ≤ y.length := by omega
  have l2 : (p.bytes.length : Int) + y.length ≤ 1000000 := by omega
  by_cases hn : 2 ≤ p.next
  rotate_left
  · have e1 : decide (2 ≤ p.next) = false := by simp; omega
    have he : bodyP p y = ((false, 505), p) := by
      unfold bodyP
      rw [if_neg fun h => hn (by omega)]
    rw [he]
    have k1 := c.c1
    rw [e1] at k1
    clear h c hn ok e1 he hb
    go_enter Try.func13, Try.ntmps13
    go_wp2_with fail
    go_quiet (fail)
    go_wp2_with fail
    go_ret2
    exact ⟨rfl, hg.out _⟩
  · have e1 : decide (2 ≤ p.next) = true := by simp [hn]
    have e0 : (!decide (p.next = 0)) = true := by simp; omega
    have cw := Lib.hid fun n => rf_whole_q (h.drewN n) (show p.bytes.length ≤ 1000000 by omega)
    rw [e1, Bool.true_and] at cw
    have k1 := c.c1
    rw [e1] at k1
    by_cases h3 : p.next = 3
    · have he : bodyP p y = ((false, 505), p) := by
        unfold bodyP
        rw [if_neg fun h => by omega]
      rw [he]
      rw [show decide ((p.bytes.length : Int) = p.size) = true from decide_eq_true (ok.three h3)] at cw
      clear h c hn ok e1 he hb h3 e0
      go_enter Try.func13, Try.ntmps13
      go_wp2_with fail
      go_quiet ((go_at_call 19; exact Calls.quiet_of (cw.out _)))
      go_wp2_with fail
      go_ret2
      exact ⟨rfl, hg.out _⟩
    · have h2 : p.next = 2 := by have := ok.most; omega
      rw [show decide ((p.bytes.length : Int) = p.size) = false from decide_eq_false (ok.two h2)] at cw
      have k4 := c.c4
      have k12 := c.c12
      by_cases hq : (p.bytes.length : Int) + y.length ≤ p.size
      rotate_left
      · have he : bodyP p y = ((false, 505), p) := by
          unfold bodyP
          rw [if_neg fun h => hq h.2]
        rw [he]
        have hB : p.size < (p.bytes.length : Int) + y.length := by omega
        clear h c hn ok e1 he hb h3 e0 h2 hq
        go_enter Try.func13, Try.ntmps13
        go_wp2_with fail
        go_quiet ((go_at_call 19; exact Calls.quiet_of (cw.out _)))
        go_wp2_with fail
        go_ret2
        exact ⟨rfl, hg.out _⟩
      · have he : bodyP p y = weighP { p with bytes := p.bytes ++ y } := by
          unfold bodyP
          rw [if_pos ⟨h2, hq⟩]
        rw [he]
        have hB : ¬ p.size < (p.bytes.length : Int) + y.length := by omega
        have h5 : Hid (∀ n, ∃ V, V = w.drewN n ∧ V.cell? ⟨rb, 12, none⟩ = some (tx p.bytes) ∧ V.frozen? ⟨rb, 12, none⟩ = false ∧ St B w0 (V.setCell ⟨rb, 12, none⟩ (tx (p.bytes ++ y))) ((rb, rpO true true { p with bytes := p.bytes ++ y }) :: F)) := Lib.hid fun n => by
          have hn := h.drewN n
          rw [e0, e1] at hn
          exact ⟨_, rfl, hn.cell List.mem_cons_self rfl, St.soft hn List.mem_cons_self 12, hn.set0 12 (tx (p.bytes ++ y))⟩
        have hlen : (p.bytes ++ y).length ≤ 1000000 := by rw [List.length_append]; exact hb
        have hadd := fun W => run_string_add_lists (P := Try.prog) W p.bytes y (by omega) (by omega)
        clear h c hn ok e1 he hb h3 e0 h2 hq
        go_enter Try.func13, Try.ntmps13
        go_wp2_with fail
        go_quiet ((go_at_call 19; exact Calls.quiet_of (cw.out _)))
        obtain ⟨V, hV, v12, s12, h6⟩ := h5.out nq
        have cw2 := rf_whole h6 hlen
        obtain ⟨q, hq⟩ : ∃ q, q = (true && decide (((p.bytes ++ y).length : Int) = p.size)) := ⟨_, rfl⟩
        simp only at cw2
        rw [← hq] at cw2
        replace cw2 := Lib.hid cw2
        replace hq := Lib.hid hq
        clear h5 cw h6 hg
        go_upto_region 3 with fail
        rw [← hV]
        clear hV
        go_wp2_with fail
        refine cw2.out.mono ?_
        rintro e w5 ⟨rfl, h7⟩
        obtain ⟨a1, a2⟩ := weigh_ref _ h7
        have fin : Hid (RComeR B w0 rb (weighP { p with bytes := p.bytes ++ y }) F (.returned (.tuple #[.bool q, .int .i64 0])) w5) := Lib.hid ⟨by rw [a1, hq.out]; rfl, a2⟩
        clear h7 cw2 a1 a2
        go_wp2_with fail
        go_ret2
        exact fin.out
/-- Behind what is taken of the document's. -/
def RTakeR (B : Nat) (w0 : World) (rb : Nat) (r : (Ent × List UInt8 × Int) × Pcl) (F : List (Nat × Obj)) (e : Ending) (w' : World) : Prop :=
  e = .returned (.tuple #[enV r.1.1, tx r.1.2.1, .int .i64 r.1.2.2]) ∧ RPaIs B w0 w' rb r.2 F
set_option maxHeartbeats 1000000 in
theorem rf_take_no (h : RPaIs B w0 w rb p F) (ok : OkP p) (hn : ¬ p.next = 3) (hb : p.bytes.length ≤ 1000000) : Calls Try.prog 15 #[pptr rb] w (RTakeR B w0 rb ((z0E, [], 0), p) F) := by
  unfold RPaIs at h
  have e : (decide (2 ≤ p.next) && decide ((p.bytes.length : Int) = p.size)) = false := by
    by_cases h2 : p.next = 2
    · simp [ok.two h2]
    · have := ok.most
      have : ¬ 2 ≤ p.next := by omega
      simp [this]
  have cw := rf_whole ((h.alloc (enO z0E)).perm (List.Perm.swap _ _ _)) hb
  rw [e] at cw
  replace cw := Lib.hid cw
  clear h e ok hn
  go_enter Try.func15, Try.ntmps15
  go_wp2_with fail
  refine cw.out.mono ?_
  rintro r w5 ⟨rfl, h5⟩
  obtain ⟨v0, v1, v2, v3, v4, v5, v6, v7, v8, v9⟩ := St.enAt h5 (b := w.heap.size) (e := z0E) (List.mem_cons_of_mem _ List.mem_cons_self)
  have s5 := fun i => St.soft h5 (b := w.heap.size) (List.mem_cons_of_mem _ List.mem_cons_self) i
  have h6 := (h5.perm (List.Perm.swap _ _ _)).enPut (e := z0E)
  have f6 := Lib.hid (h6.enAt List.mem_cons_self)
  have fin : Hid (RPaIs B w0 _ rb p F) := Lib.hid (h6.sub (List.sublist_cons_self _ _))
  clear h5 h6 cw
  go_wp2_with fail
  exact bodyPost_ret (ret_take rfl rfl rfl rfl f6.out rfl) rfl ⟨rfl, fin.out⟩
set_option maxHeartbeats 4000000 in
theorem rf_take_yes (h : RPaIs B w0 w rb p F) (ok : OkP p) (hn : p.next = 3) (hb : p.bytes.length ≤ 1000000) : Calls Try.prog 15 #[pptr rb] w (RTakeR B w0 rb ((parE p, p.bytes, p.bits), z0P) F) := by
  unfold RPaIs at h
  have e : (decide (2 ≤ p.next) && decide ((p.bytes.length : Int) = p.size)) = true := by simp [hn, ok.three hn]
  have cw := rf_whole ((h.alloc (enO z0E)).perm (List.Perm.swap _ _ _)) hb
  rw [e] at cw
  obtain ⟨nx, pe, pk, psz, pp, pt, pby, pbi⟩ := p
  simp only at hn
  subst hn
  replace cw : Hid (Calls Try.prog 19 #[pptr rb] (w.alloc (enO z0E)) fun r w' => r = .returned (.bool true) ∧ St B w0 w' ((rb, rpO true true ⟨3, pe, pk, psz, pp, pt, pby, pbi⟩) :: (w.heap.size, enO z0E) :: F)) := Lib.hid cw
  clear h e ok
  go_enter Try.func15, Try.ntmps15
  go_wp2_with fail
  refine cw.out.mono ?_
  rintro r w5 ⟨rfl, h5⟩
  have hs0 := Lib.hid (RpC.of h5.drew List.mem_cons_self)
  have P1 := Lib.hid (RpC.of (h5.drew.alloc (enO z0E)) (List.mem_cons_of_mem _ List.mem_cons_self))
  have P2 := Lib.hid (RpC.of (h5.drew.alloc (enO ⟨0, 0, psz, pe, pk, pp, pt, 0, false, 0⟩)) (List.mem_cons_of_mem _ List.mem_cons_self))
  have hT1 := Lib.hid ((h5.drew.alloc (enO ⟨0, 0, psz, pe, pk, pp, pt, 0, false, 0⟩)).perm (List.Perm.swap _ _ _))
  clear cw h5
  generalize w.heap.size = qb at *
  go_upto_region 3 with fail
  refine wp_region_held_drew (S := fun wr => RpC wr rb true true ⟨3, pe, pk, psz, pp, pt, pby, pbi⟩) (by kernel_rfl) hs0.out (fun hHeld => ?_)
  generalize w5.drew = Z at *
  refine wpAnyH_take (i := 0) (oi := { dst := some 12, op := Op.move (Operand.tmp 0), type := 26, pos := "mailcoachref14.go:356", after := #[], guard := none }) (v := ?_) rfl (by kernel_rfl) (by kernel_rfl) (by kernel_rfl) (fun _ _ _ h => h) (Or.inl ⟨by rfl, ?_⟩) hHeld ?_
  rotate_left 1
  · (intro w' hSw; clear hSw; go_simp; (try with_reducible rfl))
  try simp only [Act.put, List.setIfInBounds_toArray, List.set_cons_zero, List.set_cons_succ]
  refine wpAnyH_take (i := 1) (oi := { dst := some 13, op := Op.nilCheck (Operand.tmp 12), type := 0, pos := "mailcoachref14.go:356", after := #[{ on := 0, ground := Ground.data }], guard := none }) (v := ?_) rfl (by kernel_rfl) (by kernel_rfl) (by kernel_rfl) (fun _ _ _ h => h) (Or.inl ⟨by rfl, ?_⟩) hHeld ?_
  rotate_left 1
  · (intro w' hSw; clear hSw; go_simp; (try with_reducible rfl))
  try simp only [Act.put, List.setIfInBounds_toArray, List.set_cons_zero, List.set_cons_succ]
  refine wpAnyH_take (i := 2) (oi := { dst := some 14, op := Op.fieldAddr 30 (Operand.tmp 13) 2, type := 0, pos := "mailcoachref14.go:356", after := #[{ on := 1, ground := Ground.data }], guard := none }) (v := ?_) rfl (by kernel_rfl) (by kernel_rfl) (by kernel_rfl) (fun _ _ _ h => h) (Or.inl ⟨by rfl, ?_⟩) hHeld ?_
  rotate_left 1
  · (intro w' hSw; clear hSw; go_simp; (try with_reducible rfl))
  try simp only [Act.put, List.setIfInBounds_toArray, List.set_cons_zero, List.set_cons_succ]
  refine wpAnyH_take (i := 3) (oi := { dst := some 15, op := Op.load 28 (Operand.tmp 14), type := 28, pos := "mailcoachref14.go:356", after := #[{ on := 2, ground := Ground.data }], guard := none }) (v := ?_) rfl (by kernel_rfl) (by kernel_rfl) (by kernel_rfl) (fun _ _ _ h => h) (Or.inl ⟨by rfl, ?_⟩) hHeld ?_
  rotate_left 1
  · (intro w' hSw; obtain ⟨c0, c1, c2, c3, c4, c5, c6, c7, c8, c9, c10, c11, c12, c13, -⟩ := hSw; go_simp; (try with_reducible rfl))
  try simp only [Act.put, List.setIfInBounds_toArray, List.set_cons_zero, List.set_cons_succ]
  refine wpAnyH_take (i := 4) (oi := { dst := some 16, op := Op.move (Operand.tmp 0), type := 26, pos := "mailcoachref14.go:356", after := #[{ on := 13, ground := Ground.gcOnly Departure.lateStores }], guard := none }) (v := ?_) rfl (by kernel_rfl) (by kernel_rfl) (by kernel_rfl) (fun _ _ _ h => h) (Or.inl ⟨by rfl, ?_⟩) hHeld ?_
  rotate_left 1
  · (intro w' hSw; clear hSw; go_simp; (try with_reducible rfl))
  try simp only [Act.put, List.setIfInBounds_toArray, List.set_cons_zero, List.set_cons_succ]
  refine wpAnyH_take (i := 5) (oi := { dst := some 17, op := Op.nilCheck (Operand.tmp 16), type := 0, pos := "mailcoachref14.go:356", after := #[{ on := 4, ground := Ground.data }, { on := 13, ground := Ground.gcOnly Departure.lateStores }], guard := none }) (v := ?_) rfl (by kernel_rfl) (by kernel_rfl) (by kernel_rfl) (fun _ _ _ h => h) (Or.inl ⟨by rfl, ?_⟩) hHeld ?_
  rotate_left 1
  · (intro w' hSw; clear hSw; go_simp; (try with_reducible rfl))
  try simp only [Act.put, List.setIfInBounds_toArray, List.set_cons_zero, List.set_cons_succ]
  refine wpAnyH_take (i := 6) (oi := { dst := some 18, op := Op.fieldAddr 30 (Operand.tmp 17) 3, type := 0, pos := "mailcoachref14.go:356", after := #[{ on := 5, ground := Ground.data }, { on := 13, ground := Ground.gcOnly Departure.lateStores }], guard := none }) (v := ?_) rfl (by kernel_rfl) (by kernel_rfl) (by kernel_rfl) (fun _ _ _ h => h) (Or.inl ⟨by rfl, ?_⟩) hHeld ?_
  rotate_left 1
  · (intro w' hSw; clear hSw; go_simp; (try with_reducible rfl))
  try simp only [Act.put, List.setIfInBounds_toArray, List.set_cons_zero, List.set_cons_succ]
  refine wpAnyH_take (i := 7) (oi := { dst := some 19, op := Op.load 9 (Operand.tmp 18), type := 9, pos := "mailcoachref14.go:356", after := #[{ on := 6, ground := Ground.data }, { on := 13, ground := Ground.gcOnly Departure.lateStores }], guard := none }) (v := ?_) rfl (by kernel_rfl) (by kernel_rfl) (by kernel_rfl) (fun _ _ _ h => h) (Or.inl ⟨by rfl, ?_⟩) hHeld ?_
  rotate_left 1
  · (intro w' hSw; obtain ⟨c0, c1, c2, c3, c4, c5, c6, c7, c8, c9, c10, c11, c12, c13, -⟩ := hSw; go_simp; (try with_reducible rfl))
  try simp only [Act.put, List.setIfInBounds_toArray, List.set_cons_zero, List.set_cons_succ]
  refine wpAnyH_take (i := 8) (oi := { dst := some 20, op := Op.move (Operand.tmp 0), type := 26, pos := "mailcoachref14.go:356", after := #[{ on := 14, ground := Ground.gcOnly Departure.lateStores }], guard := none }) (v := ?_) rfl (by kernel_rfl) (by kernel_rfl) (by kernel_rfl) (fun _ _ _ h => h) (Or.inl ⟨by rfl, ?_⟩) hHeld ?_
  rotate_left 1
  · (intro w' hSw; clear hSw; go_simp; (try with_reducible rfl))
  try simp only [Act.put, List.setIfInBounds_toArray, List.set_cons_zero, List.set_cons_succ]
  refine wpAnyH_take (i := 9) (oi := { dst := some 21, op := Op.nilCheck (Operand.tmp 20), type := 0, pos := "mailcoachref14.go:356", after := #[{ on := 8, ground := Ground.data }, { on := 14, ground := Ground.gcOnly Departure.lateStores }], guard := none }) (v := ?_) rfl (by kernel_rfl) (by kernel_rfl) (by kernel_rfl) (fun _ _ _ h => h) (Or.inl ⟨by rfl, ?_⟩) hHeld ?_
  rotate_left 1
  · (intro w' hSw; clear hSw; go_simp; (try with_reducible rfl))
  try simp only [Act.put, List.setIfInBounds_toArray, List.set_cons_zero, List.set_cons_succ]
  refine wpAnyH_take (i := 10) (oi := { dst := some 22, op := Op.fieldAddr 30 (Operand.tmp 21) 4, type := 0, pos := "mailcoachref14.go:356", after := #[{ on := 9, ground := Ground.data }, { on := 14, ground := Ground.gcOnly Departure.lateStores }], guard := none }) (v := ?_) rfl (by kernel_rfl) (by kernel_rfl) (by kernel_rfl) (fun _ _ _ h => h) (Or.inl ⟨by rfl, ?_⟩) hHeld ?_
  rotate_left 1
  · (intro w' hSw; clear hSw; go_simp; (try with_reducible rfl))
  try simp only [Act.put, List.setIfInBounds_toArray, List.set_cons_zero, List.set_cons_succ]
  refine wpAnyH_take (i := 11) (oi := { dst := some 23, op := Op.load 3 (Operand.tmp 22), type := 3, pos := "mailcoachref14.go:356", after := #[{ on := 10, ground := Ground.data }, { on := 14, ground := Ground.gcOnly Departure.lateStores }], guard := none }) (v := ?_) rfl (by kernel_rfl) (by kernel_rfl) (by kernel_rfl) (fun _ _ _ h => h) (Or.inl ⟨by rfl, ?_⟩) hHeld ?_
  rotate_left 1
  · (intro w' hSw; obtain ⟨c0, c1, c2, c3, c4, c5, c6, c7, c8, c9, c10, c11, c12, c13, -⟩ := hSw; go_simp; (try with_reducible rfl))
  try simp only [Act.put, List.setIfInBounds_toArray, List.set_cons_zero, List.set_cons_succ]
  refine wpAnyH_ready (rs := [12]) (by kernel_rfl) (by simp) (AllReadyH.cons (o := { dst := some 5, op := Op.alloc 28, type := 0, pos := "mailcoachref14.go:356", after := #[], guard := none }) rfl (fun K hK => ?_) AllReadyH.nil)
  clear hHeld
  go_simp
  refine hK.out _ _ P1.out (fun hHeld => ?_)
  clear hK K
  try simp only [Act.put, List.setIfInBounds_toArray, List.set_cons_zero, List.set_cons_succ]
  refine wpAnyH_ready (rs := [13]) (by kernel_rfl) (by simp) (AllReadyH.cons (o := { dst := none, op := Op.store 28 (Operand.tmp 5) (Operand.tmp 15), type := 0, pos := "mailcoachref14.go:356", after := #[{ on := 12, ground := Ground.data }, { on := 3, ground := Ground.data }, { on := 0, ground := Ground.phase }, { on := 1, ground := Ground.phase }, { on := 2, ground := Ground.phase }, { on := 3, ground := Ground.phase }, { on := 4, ground := Ground.textOnly Departure.lateStores }, { on := 5, ground := Ground.textOnly Departure.lateStores }, { on := 6, ground := Ground.textOnly Departure.lateStores }, { on := 7, ground := Ground.textOnly Departure.lateStores }, { on := 8, ground := Ground.textOnly Departure.lateStores }, { on := 9, ground := Ground.textOnly Departure.lateStores }, { on := 10, ground := Ground.textOnly Departure.lateStores }, { on := 11, ground := Ground.textOnly Departure.lateStores }, { on := 12, ground := Ground.phase }], guard := none }) rfl (fun K hK => ?_) AllReadyH.nil)
  clear hHeld
  go_simp
  refine hK.out _ _ P2.out (fun hHeld => ?_)
  clear hK K
  try simp only [Act.put, List.setIfInBounds_toArray, List.set_cons_zero, List.set_cons_succ]
  refine wpAnyH_take (i := 14) (oi := { dst := some 6, op := Op.assign (Operand.tmp 19), type := 9, pos := "mailcoachref14.go:356", after := #[{ on := 7, ground := Ground.data }, { on := 13, ground := Ground.chain }, { on := 0, ground := Ground.phase }, { on := 1, ground := Ground.phase }, { on := 2, ground := Ground.phase }, { on := 3, ground := Ground.phase }, { on := 4, ground := Ground.phase }, { on := 5, ground := Ground.phase }, { on := 6, ground := Ground.phase }, { on := 7, ground := Ground.phase }, { on := 8, ground := Ground.textOnly Departure.lateStores }, { on := 9, ground := Ground.textOnly Departure.lateStores }, { on := 10, ground := Ground.textOnly Departure.lateStores }, { on := 11, ground := Ground.textOnly Departure.lateStores }, { on := 12, ground := Ground.phase }, { on := 13, ground := Ground.phase }], guard := none }) (v := ?_) rfl (by kernel_rfl) (by kernel_rfl) (by kernel_rfl) (fun _ _ _ h => h) (Or.inl ⟨by rfl, ?_⟩) hHeld ?_
  rotate_left 1
  · (intro w' hSw; clear hSw; go_simp; (try with_reducible rfl))
  try simp only [Act.put, List.setIfInBounds_toArray, List.set_cons_zero, List.set_cons_succ]
  refine wpAnyH_take (i := 15) (oi := { dst := some 7, op := Op.assign (Operand.tmp 23), type := 3, pos := "mailcoachref14.go:356", after := #[{ on := 11, ground := Ground.data }, { on := 14, ground := Ground.chain }, { on := 0, ground := Ground.phase }, { on := 1, ground := Ground.phase }, { on := 2, ground := Ground.phase }, { on := 3, ground := Ground.phase }, { on := 4, ground := Ground.phase }, { on := 5, ground := Ground.phase }, { on := 6, ground := Ground.phase }, { on := 7, ground := Ground.phase }, { on := 8, ground := Ground.phase }, { on := 9, ground := Ground.phase }, { on := 10, ground := Ground.phase }, { on := 11, ground := Ground.phase }, { on := 12, ground := Ground.phase }, { on := 13, ground := Ground.phase }, { on := 14, ground := Ground.phase }], guard := none }) (v := ?_) rfl (by kernel_rfl) (by kernel_rfl) (by kernel_rfl) (fun _ _ _ h => h) (Or.inl ⟨by rfl, ?_⟩) hHeld ?_
  rotate_left 1
  · (intro w' hSw; clear hSw; go_simp; (try with_reducible rfl))
  try simp only [Act.put, List.setIfInBounds_toArray, List.set_cons_zero, List.set_cons_succ]
  refine wpAnyH_done (by kernel_rfl) ?_ _
  clear hHeld
  replace P2 := hT1.out
  obtain ⟨o0, o1, o2, o3, o4, o5, o6, o7, o8, o9, o10, o11, o12, o13, os⟩ := RpC.of P2 List.mem_cons_self
  have h7 := P2.rpPut (g := false) (hd := false) (p := z0P)
  have e5 := St.enAt h7 (b := Z.heap.size) (e := ⟨0, 0, psz, pe, pk, pp, pt, 0, false, 0⟩) (List.mem_cons_of_mem _ List.mem_cons_self)
  have r5 := St.enAt h7 (b := qb) (e := z0E) (List.mem_cons_of_mem _ (List.mem_cons_of_mem _ List.mem_cons_self))
  have s5 := fun i => St.soft h7 (b := qb) (List.mem_cons_of_mem _ (List.mem_cons_of_mem _ List.mem_cons_self)) i
  have h8 := St.enPut (e := ⟨0, 0, psz, pe, pk, pp, pt, 0, false, 0⟩) (h7.perm (enMid [_] F _ _))
  have f7 := Lib.hid (h8.enAt List.mem_cons_self)
  have g7 : Hid (RPaIs B w0 _ rb z0P F) := Lib.hid (h8.sub (enMid2 [_] F _ _))
  clear P1 P2 hT1 h8 hs0
  obtain ⟨u0, u1, u2, u3, u4, u5, u6, u7, u8, u9⟩ := e5
  obtain ⟨v0, v1, v2, v3, v4, v5, v6, v7, v8, v9⟩ := r5
  replace h7 := Lib.hid h7
  generalize Z.heap.size = zb at *
  go_wp2_with fail
  exact bodyPost_ret (ret_take rfl rfl rfl rfl f7.out rfl) rfl ⟨rfl, g7.out⟩
theorem rf_take (h : RPaIs B w0 w rb p F) (ok : OkP p) (hb : p.bytes.length ≤ 1000000) : Calls Try.prog 15 #[pptr rb] w (RTakeR B w0 rb (takeP p) F) := by
  unfold takeP
  split
  · exact rf_take_yes h ok (by assumption) hb
  · exact rf_take_no h ok (by assumption) hb
end
end Go.Proofs.Ytaolpcmecfhgnaa
