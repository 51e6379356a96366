/- The document's exchanges: auto, Delete, Declare, The document's exchanges: Declare, The document's table inside its exchanges: Add, The document's exchanges: Bind, The document's exchanges: Unbind, SameBindings; what the document's DropQueue holds, The document's table inside its exchanges: DropQueue, The document's exchanges: DropQueue. -/
import Derived.Test.YtoecaonmehbfeaaGreatY15
import Derived.Test.YtoecaonmehbfeaaGreatY13
import Derived.Test.YtoecaonmehbfeaaGreatY04
/- The document's exchanges: auto, Delete, Declare. -/
namespace Go.Proofs.YtoecaonmehbfeaaGreat
open Go.RowKit
set_option linter.unusedVariables false
set_option maxRecDepth 100000

section
variable {B : Nat} {w0 w w' : World} {F F' T R Q S : List (Nat × Obj)} {rb i : Nat} {A A' : List Bnd} {P P' : List Plc} {v tv u lv : Value} {n x : List UInt8} {l : List (List UInt8)} {b : Bnd} {p : Plc}

theorem dropP_ix (hn : (P.map (·.1)).Nodup) (hx : P[i]? = some p) : P.eraseIdx i = dropP P p.1 := by
  have e : P = P.take i ++ p :: P.drop (i + 1) := by
    have := (List.take_append_drop i P).symm
    rwa [split_at hx] at this
  have h2 := dropP_split (X := P.take i) (Y := P.drop (i + 1)) (p := p) (by rw [← e]; exact hn)
  rw [← e] at h2
  rw [h2, List.eraseIdx_eq_take_drop_succ]
theorem filter_none (h : ofB A n = []) : A.filter (fun b => !(b.1 == n)) = A := by
  refine List.filter_eq_self.2 fun b hb => ?_
  unfold ofB at h
  rw [List.filter_eq_nil_iff] at h
  have := h b hb
  simpa using this
theorem and1_val (n : Int) : bits .and .i64 n 1 = if unuB n = true then 1 else 0 := by
  unfold unuB
  rw [and1]
  rcases Int.emod_two_eq n with e | e <;> rw [e] <;> decide

/-- Of, asked of the table inside. -/
theorem rof_is (h : RxIs B w0 w rb P A F) (few : A.length ≤ 40) (n : List UInt8) : Calls Tryz.prog 27 #[.pointer (some ⟨rb, 1, none⟩), tx n] w (OfR w (ofB A n)) := by
  obtain ⟨lv, R, -, hT⟩ := h
  obtain ⟨v, h1, h2⟩ := hT.one
  exact xrof_any h1 h2 (by omega) n

set_option maxHeartbeats 4000000 in
theorem rauto_any (h : RxIs B w0 w rb P A F) (hF : FineX P A) (n : List UInt8) :
    Calls Tryz.prog 53 #[bpt rb, tx n] w fun e w' => e = .returned (.tuple #[]) ∧ RxIs B w0 w' rb (leaveX P A n) A F := by
  have few := hF.few
  have fewA := hF.rows.few
  have c1 := Lib.hid (rat_any h few n)
  rcases ix_cases P n with ⟨e1, e2⟩ | ⟨i, p, e1, e2, e3, e4⟩
  · rw [e2] at c1
    have el : leaveX P A n = P := by rw [leaveX, e1]
    rw [el]
    replace h := Lib.hid h
    clear e1 e2 el hF
    go_enter Tryz.func53, Tryz.ntmps53
    go_wp2_with fail
    refine c1.out.mono ?_
    rintro e w1 ⟨rfl, rfl⟩
    go_wp2_with fail
    exact bodyPost_end (results_none rfl _ _ _) rfl ⟨rfl, h.out⟩
  · rw [e2] at c1
    have el : leaveX P A n = if p.2.2 = true ∧ ofB A n = [] then dropP P n else P := by rw [leaveX, e1]
    have hi := (List.getElem?_eq_some_iff.1 e3).1
    obtain ⟨a, cap, k0, -, hrows⟩ := h.form
    obtain ⟨g1, o1, rfl, -, -, k3⟩ := hrows i p e3
    have hi0 : (0 : Int) ≤ i := by omega
    have hi1 : (i : Int) < P.length := by omega
    clear hrows
    cases hau : p.2.2 with
    | false =>
      rw [hau] at el k3
      rw [if_neg (by simp)] at el k3
      rw [el]
      replace h := Lib.hid h
      clear e1 e2 el hF e3 hi
      go_enter Tryz.func53, Tryz.ntmps53
      go_wp2_with fail
      refine c1.out.mono ?_
      rintro e w1 ⟨rfl, rfl⟩
      go_wp2_with fail
      exact bodyPost_end (results_none rfl _ _ _) rfl ⟨rfl, h.out⟩
    | true =>
      rw [hau] at el k3
      rw [if_pos rfl] at k3
      have co := Lib.hid (rof_is h fewA n)
      have grow := Lib.hid (fun w1 hb => h.grow (w' := w1) hb)
      by_cases ho : ofB A n = []
      · rw [if_pos ⟨rfl, ho⟩] at el
        rw [el]
        have cg : Hid (∀ w1, Below w.heap.size w w1 → Calls Tryz.prog 42 #[bpt rb, .int .i64 i] w1 fun e w' => e = .returned (.tuple #[]) ∧ RxIs B w0 w' rb (dropP P n) A F) := Lib.hid fun w1 hb => by
          refine (rgone_any (grow.out _ hb) few fewA e3).mono ?_
          rintro e w' ⟨rfl, h2⟩
          rw [dropP_ix hF.once e3, e4, filter_none ho] at h2
          exact ⟨rfl, h2⟩
        rw [ho] at co
        clear e1 e2 el hF e3 hi h grow ho
        go_enter Tryz.func53, Tryz.ntmps53
        go_wp2_with fail
        refine c1.out.mono ?_
        rintro e w1 ⟨rfl, rfl⟩
        go_wp2_with fail
        refine co.out.mono ?_
        rintro e w2 ⟨u, rfl, ⟨a2, cap2, rfl, -⟩, hb⟩
        replace cg := Lib.hid (cg.out _ hb)
        clear hb co
        go_wp2_with fail
        refine cg.out.mono ?_
        rintro e w3 ⟨rfl, fin⟩
        replace fin := Lib.hid fin
        go_wp2_with fail
        exact bodyPost_end (results_none rfl _ _ _) rfl ⟨rfl, fin.out⟩
      · rw [if_neg (fun e => ho e.2)] at el
        rw [el]
        have hlB : (((ofB A n).length : Int) == 0) = false := by
          rw [beq_eq_false_iff_ne]
          have := List.length_pos_iff.2 ho
          omega
        generalize (ofB A n) = rows at *
        clear e1 e2 el hF e3 hi h ho
        go_enter Tryz.func53, Tryz.ntmps53
        go_wp2_with fail
        refine c1.out.mono ?_
        rintro e w1 ⟨rfl, rfl⟩
        go_wp2_with fail
        refine co.out.mono ?_
        rintro e w2 ⟨u, rfl, ⟨a2, cap2, rfl, -⟩, hb⟩
        replace grow := Lib.hid (grow.out _ hb)
        clear hb co
        generalize rows.length = q0 at *
        go_wp2_with fail
        exact bodyPost_end (results_none rfl _ _ _) rfl ⟨rfl, grow.out⟩

set_option maxHeartbeats 4000000 in
theorem rdelete_is (h : RxIs B w0 w rb P A F) (hF : FineX P A) (n : List UInt8) (bt : Int) {z : Int} (e0 : delX P A n (unuB bt) = (P', A', z)) :
    Calls Tryz.prog 11 #[bpt rb, tx n, .int .i64 bt] w fun e w' => e = .returned (.int .i64 z) ∧ RxIs B w0 w' rb P' A' F := by
  have few := hF.few
  have fewA := hF.rows.few
  have c1 := Lib.hid (rat_any h few n)
  by_cases hn : n = []
  · have e : delX P A n (unuB bt) = (P, A, 403) := by rw [delX, if_pos hn]
    rw [e] at e0
    simp only [Prod.mk.injEq] at e0
    obtain ⟨rfl, rfl, rfl⟩ := e0
    subst hn
    replace h := Lib.hid h
    generalize ixV P [] = iv at *
    clear hF e
    go_enter Tryz.func11, Tryz.ntmps11
    go_wp2_with fail
    refine c1.out.mono ?_
    rintro e w1 ⟨rfl, rfl⟩
    go_wp2_with fail
    go_ret
    exact ⟨rfl, h.out⟩
  have h0B : (n == []) = false := by simpa using hn
  have h0C : n.isEmpty = false := by simpa using hn
  rcases ix_cases P n with ⟨e1, e2⟩ | ⟨i, p, e1, e2, e3, e4⟩
  · have e : delX P A n (unuB bt) = (P, A, 404) := by rw [delX, if_neg hn, e1]
    rw [e] at e0
    simp only [Prod.mk.injEq] at e0
    obtain ⟨rfl, rfl, rfl⟩ := e0
    rw [e2] at c1
    replace h := Lib.hid h
    clear hF e e1 e2
    go_enter Tryz.func11, Tryz.ntmps11
    go_wp2_with fail
    refine c1.out.mono ?_
    rintro e w1 ⟨rfl, rfl⟩
    go_wp2_with fail
    go_ret
    exact ⟨rfl, h.out⟩
  · have e : delX P A n (unuB bt) = if unuB bt = true ∧ ofB A n ≠ [] then (P, A, 406) else (dropP P n, A.filter (fun b => !(b.1 == n)), 0) := by rw [delX, if_neg hn, e1]
    rw [e2] at c1
    have hi0 : (0 : Int) ≤ i := by omega
    have hi1 : ¬ (i : Int) < 0 := by omega
    have co := Lib.hid (rof_is h fewA n)
    have grow := Lib.hid (fun w1 hb => h.grow (w' := w1) hb)
    have hv := and1_val bt
    have cg : Hid (∀ w1, Below w.heap.size w w1 → Calls Tryz.prog 42 #[bpt rb, .int .i64 i] w1 fun e w' => e = .returned (.tuple #[]) ∧ RxIs B w0 w' rb (dropP P n) (A.filter fun b => !(b.1 == n)) F) := Lib.hid fun w1 hb => by
      refine (rgone_any (grow.out _ hb) few fewA e3).mono ?_
      rintro e w' ⟨rfl, h2⟩
      rw [dropP_ix hF.once e3, e4] at h2
      exact ⟨rfl, h2⟩
    cases hun : unuB bt with
    | false =>
      rw [hun] at e hv e0
      rw [if_neg (by simp)] at e hv
      rw [e] at e0
      simp only [Prod.mk.injEq] at e0
      obtain ⟨rfl, rfl, rfl⟩ := e0
      replace cg := Lib.hid (cg.out w (Below.refl _ _))
      generalize dropP P n = P2 at *
      generalize (A.filter fun b => !(b.1 == n)) = A2 at *
      clear hF e e1 e2 e3 hun co grow h
      go_enter Tryz.func11, Tryz.ntmps11
      go_wp2_with fail
      refine c1.out.mono ?_
      rintro e w1 ⟨rfl, rfl⟩
      go_wp2_with fail
      refine cg.out.mono ?_
      rintro e w3 ⟨rfl, fin⟩
      replace fin := Lib.hid fin
      go_wp2_with fail
      go_ret
      exact ⟨rfl, fin.out⟩
    | true =>
      rw [hun] at e hv e0
      rw [if_pos rfl] at hv
      by_cases ho : ofB A n = []
      · rw [if_neg (fun h' => h'.2 ho)] at e
        rw [e] at e0
        simp only [Prod.mk.injEq] at e0
        obtain ⟨rfl, rfl, rfl⟩ := e0
        rw [ho] at co
        generalize dropP P n = P2 at *
        generalize (A.filter fun b => !(b.1 == n)) = A2 at *
        clear hF e e1 e2 e3 hun grow h ho
        go_enter Tryz.func11, Tryz.ntmps11
        go_wp2_with fail
        refine c1.out.mono ?_
        rintro e w1 ⟨rfl, rfl⟩
        go_wp2_with fail
        refine co.out.mono ?_
        rintro e w2 ⟨u, rfl, ⟨a2, cap2, rfl, -⟩, hb⟩
        replace cg := Lib.hid (cg.out _ hb)
        clear hb co
        go_wp2_with fail
        refine cg.out.mono ?_
        rintro e w3 ⟨rfl, fin⟩
        replace fin := Lib.hid fin
        go_wp2_with fail
        go_ret
        exact ⟨rfl, fin.out⟩
      · rw [if_pos ⟨rfl, ho⟩] at e
        rw [e] at e0
        simp only [Prod.mk.injEq] at e0
        obtain ⟨rfl, rfl, rfl⟩ := e0
        have hpos : 0 < (ofB A n).length := List.length_pos_iff.2 ho
        have hposI : (0 : Int) < (ofB A n).length := by omega
        generalize (ofB A n) = rows at *
        clear hF e e1 e2 e3 hun h ho cg
        go_enter Tryz.func11, Tryz.ntmps11
        go_wp2_with fail
        refine c1.out.mono ?_
        rintro e w1 ⟨rfl, rfl⟩
        go_wp2_with fail
        refine co.out.mono ?_
        rintro e w2 ⟨u, rfl, ⟨a2, cap2, rfl, -⟩, hb⟩
        replace grow := Lib.hid (grow.out _ hb)
        clear hb co
        generalize rows.length = q0 at *
        go_wp2_with fail
        go_ret
        exact ⟨rfl, grow.out⟩
end
end Go.Proofs.YtoecaonmehbfeaaGreat

/- The document's exchanges: Declare. -/
namespace Go.Proofs.YtoecaonmehbfeaaGreat
open Go.RowKit
set_option linter.unusedVariables false
set_option maxRecDepth 100000

section
variable {B : Nat} {w0 w w' : World} {F F' T R Q S : List (Nat × Obj)} {rb i : Nat} {A A' : List Bnd} {P P' : List Plc} {v tv u lv : Value} {n x : List UInt8} {l : List (List UInt8)} {b : Bnd} {p : Plc} {kd bt z : Int}

/-- The row of exchanges with one more, laid anew: the runs. -/
def MoreR (B : Nat) (w0 : World) (rb : Nat) (P : List Plc) (A : List Bnd) (F : List (Nat × Obj)) (p : Plc) (lv : Value) (W : World) : Prop :=
  ∃ a3 c3 W2, (Builtin.append_ #[27, 27] 0 #[.slice none 0 0, lv]).run Tryz.prog W = .ok (.slice a3 P.length c3) W2 ∧
    ∃ a4 c4 W3, (Builtin.append_ #[27, 27] 0 #[.slice a3 P.length c3, .slice (some ⟨W2.heap.size, 0, none⟩) 1 1]).run Tryz.prog (W2.alloc (.cells #[tx p.1, .int .i64 p.2.1, .int .i64 (if p.2.2 = true then 2 else 0)] 69)) = .ok (.slice a4 (P.length + 1) c4) W3 ∧
      W3.frozen? ⟨rb, 0, none⟩ = false ∧ W3.cell? ⟨rb, 0, none⟩ = some lv ∧ RxIs B w0 (W3.setCell ⟨rb, 0, none⟩ (.slice a4 (P.length + 1) c4)) rb (P ++ [p]) A F
theorem more_runs (h : RxIs B w0 w rb P A F) (few : P.length ≤ 8) (p : Plc) : ∃ a cap, w.cell? ⟨rb, 0, none⟩ = some (.slice a P.length cap) ∧ MoreR B w0 rb P A F p (.slice a P.length cap) w := by
  obtain ⟨lv, tv, R, Q, h1, h2, hst⟩ := h.open
  have h1' : SlIs _ _ _ _ _ _ := h1
  obtain ⟨a, cap, rfl, -⟩ := h1'.form
  refine ⟨a, cap, hst.cell (b := rb) (i := 0) (List.mem_append_left _ List.mem_cons_self) rfl, ?_⟩
  obtain ⟨a3, c3, W2, F2, hr3, hs3, hst3⟩ := apEx.copy hst (h1'.reads hst) (exsV_one _) (by unfold maxLen; omega) (by omega)
  have hrd : Reads (W2.alloc (.cells #[tx p.1, .int .i64 p.2.1, .int .i64 (if p.2.2 = true then 2 else 0)] 69)) (.slice (some ⟨W2.heap.size, 0, none⟩) 1 1) 1 3 (exsV [p]) :=
    Reads.block (b := W2.heap.size) (cs := exsV [p]) (MapKept.heap_alloc W2 _).1 rfl 1
  have hst3' : St B w0 W2 ((((rb, .cells #[.slice a P.length cap, tv] 32) :: (Q ++ F)) ++ R) ++ F2) := hst3
  have hst4 := hst3'.alloc (.cells #[tx p.1, .int .i64 p.2.1, .int .i64 (if p.2.2 = true then 2 else 0)] 69)
  obtain ⟨a4, c4, W3, F4, hr4, hs4, hst5⟩ := apEx.append hs3 (A := (W2.heap.size, .cells #[tx p.1, .int .i64 p.2.1, .int .i64 (if p.2.2 = true then 2 else 0)] 69) :: (((rb, .cells #[.slice a P.length cap, tv] 32) :: (Q ++ F)) ++ R)) hst4 hrd (exsV_one _) (by unfold maxLen; omega) (by omega)
  rw [← exsV_append] at hs4
  have hst6 : St B w0 W3 ((rb, .cells #[.slice a P.length cap, tv] 32) :: (Q ++ F) ++ F4) := hst5.sub (by
    refine List.Sublist.append ?_ (List.Sublist.refl _)
    exact (List.sublist_append_left _ _).trans (List.sublist_cons_self _ _))
  have hm6 : (rb, .cells #[.slice a P.length cap, tv] 32) ∈ (rb, .cells #[.slice a P.length cap, tv] 32) :: (Q ++ F) ++ F4 := by simp
  refine ⟨a3, c3, W2, hr3, a4, c4, W3, hr4, hst6.soft (b := rb) hm6 0, hst6.cell (b := rb) (i := 0) hm6 rfl, ?_⟩
  have hst7 : St B w0 (W3.setCell ⟨rb, 0, none⟩ (.slice a4 (P.length + 1) c4)) ((rb, .cells #[.slice a4 (P.length + 1) c4, tv] 32) :: (Q ++ F) ++ F4) := by
    have := hst6.set0 0 (.slice a4 (P.length + 1) c4)
    exact this
  refine RxIs.shut ?_ h2 hst7
  show SlIs _ _ _ (P ++ [p]).length _ _
  rw [List.length_append, List.length_singleton]
  exact hs4

theorem two_bits {a b : Bool} (h : a ≠ b) : ((if a = true then (2 : Int) else 0) == (if b = true then 2 else 0)) = false := by
  cases a <;> cases b <;> simp_all
set_option maxHeartbeats 8000000 in
theorem rdeclare_is (h : RxIs B w0 w rb P A F) (few : P.length ≤ 8) (hl : n.length ≤ maxLen) (e0 : declX P n kd (autoB bt) = (P', z)) :
    Calls Tryz.prog 9 #[bpt rb, tx n, .int .i64 kd, .int .i64 bt] w fun e w' => e = .returned (.int .i64 z) ∧ RxIs B w0 w' rb P' A F := by
  have c1 := Lib.hid (rat_any h few n)
  have cn := Lib.hid (fun w => risname_any n hl w)
  have hv := and2 bt
  clear hl
  generalize autoB bt = ab at *
  by_cases hn : n = []
  · have e : declX P n kd ab = (P, 403) := by rw [declX, if_pos hn]
    rw [e] at e0
    simp only [Prod.mk.injEq] at e0
    obtain ⟨rfl, rfl⟩ := e0
    subst hn
    replace h := Lib.hid h
    generalize ixV P [] = iv at *
    clear e cn hv
    go_enter Tryz.func9, Tryz.ntmps9
    go_wp2_with fail
    refine c1.out.mono ?_
    rintro e w1 ⟨rfl, rfl⟩
    go_wp2_with fail
    go_ret
    exact ⟨rfl, h.out⟩
  have h0B : (n == []) = false := by simpa using hn
  have h0C : n.isEmpty = false := by simpa using hn
  by_cases hbad : isNm n = false ∨ ¬ (1 ≤ kd ∧ kd ≤ 3)
  · have e : declX P n kd ab = (P, 406) := by rw [declX, if_neg hn, if_pos hbad]
    rw [e] at e0
    simp only [Prod.mk.injEq] at e0
    obtain ⟨rfl, rfl⟩ := e0
    replace h := Lib.hid h
    generalize ixV P n = iv at *
    have h3 : isNm n = false ∨ (isNm n = true ∧ kd < 1) ∨ (isNm n = true ∧ ¬ kd < 1 ∧ 3 < kd) := by
      cases hf : isNm n with
      | false => exact .inl rfl
      | true =>
        rw [hf] at hbad
        have h4 : ¬ (1 ≤ kd ∧ kd ≤ 3) := hbad.resolve_left (by decide)
        by_cases h5 : kd < 1
        · exact .inr (.inl ⟨rfl, h5⟩)
        · exact .inr (.inr ⟨rfl, h5, by omega⟩)
    clear e hbad hn hv
    rcases h3 with hf | ⟨hf, hk⟩ | ⟨hf, hk, hk'⟩
    all_goals
      rw [hf] at cn
      clear hf
      go_enter Tryz.func9, Tryz.ntmps9
      go_wp2_with fail
      refine c1.out.mono ?_
      rintro e w1 ⟨rfl, rfl⟩
      go_wp2_with fail
      refine (cn.out _).mono ?_
      rintro e w1 ⟨rfl, rfl⟩
      go_wp2_with fail
      go_ret
      exact ⟨rfl, h.out⟩
  have hbad' := hbad
  simp only [not_or, Bool.not_eq_false, Decidable.not_not] at hbad'
  obtain ⟨hf, hk1, hk3⟩ := hbad'
  rw [hf] at cn
  have hkC : kd = 1 ∨ kd = 2 ∨ kd = 3 := by omega
  rcases ix_cases P n with ⟨e1, e2⟩ | ⟨i, p, e1, e2, e3, e4⟩
  · have e : declX P n kd ab = if 8 ≤ P.length then (P, 506) else (P ++ [(n, kd, ab)], 0) := by rw [declX, if_neg hn, if_neg hbad, e1]
    rw [e2] at c1
    obtain ⟨a, cap, k0, hM⟩ := more_runs h few (n, kd, ab)
    by_cases hfull : 8 ≤ P.length
    · rw [if_pos hfull] at e
      rw [e] at e0
      simp only [Prod.mk.injEq] at e0
      obtain ⟨rfl, rfl⟩ := e0
      have hfI : (8 : Int) ≤ P.length := by omega
      replace h := Lib.hid h
      clear e e1 e2 hbad hf hn hM hv hk1 hk3
      rcases hkC with rfl | rfl | rfl
      all_goals
       go_enter Tryz.func9, Tryz.ntmps9
       go_wp2_with fail
       refine c1.out.mono ?_
       rintro e w1 ⟨rfl, rfl⟩
       go_wp2_with fail
       refine (cn.out _).mono ?_
       rintro e w1 ⟨rfl, rfl⟩
       go_wp2_with fail
       go_ret
       exact ⟨rfl, h.out⟩
    · rw [if_neg hfull] at e
      rw [e] at e0
      simp only [Prod.mk.injEq] at e0
      obtain ⟨rfl, rfl⟩ := e0
      have hfI : ¬ (8 : Int) ≤ P.length := by omega
      obtain ⟨a3, c3, W2, run1, a4, c4, W3, run2, f3, x3, fin⟩ := hM
      replace fin := Lib.hid fin
      simp only at run2
      rw [← hv] at run2
      clear e e1 e2 hbad hf hn h hv hk1 hk3
      rcases hkC with rfl | rfl | rfl
      all_goals
       go_enter Tryz.func9, Tryz.ntmps9
       go_wp2_with fail
       refine c1.out.mono ?_
       rintro e w1 ⟨rfl, rfl⟩
       go_wp2_with fail
       refine (cn.out _).mono ?_
       rintro e w1 ⟨rfl, rfl⟩
       go_wp2_with (at_builtin; first | refine wpList_append_go rfl (.const (.slice none 0 0)) (.tmp 73) 27 27 rfl _ _ rfl rfl run1 ?_ | refine wpList_append_go rfl (.tmp 74) (.tmp 79) 27 27 rfl _ _ rfl rfl run2 ?_)
       go_ret
       exact ⟨rfl, fin.out⟩
  · have e : declX P n kd ab = if p.2.1 = kd ∧ p.2.2 = ab then (P, 0) else (P, 406) := by rw [declX, if_neg hn, if_neg hbad, e1]
    rw [e2] at c1
    have hi := (List.getElem?_eq_some_iff.1 e3).1
    obtain ⟨a, cap, k0, -, hrows⟩ := h.form
    obtain ⟨g1, o1, rfl, -, k2, k3⟩ := hrows i p e3
    have hi0 : (0 : Int) ≤ i := by omega
    have hi1 : (i : Int) < P.length := by omega
    clear hrows
    replace h := Lib.hid h
    by_cases hs1 : p.2.1 = kd
    · rw [hs1] at k2
      by_cases hs2 : p.2.2 = ab
      · rw [if_pos ⟨hs1, hs2⟩] at e
        rw [e] at e0
        simp only [Prod.mk.injEq] at e0
        obtain ⟨rfl, rfl⟩ := e0
        rw [hs2] at k3
        rw [← hv] at k3
        clear e e1 e2 hbad hf hn hs1 hs2 e3 hi hv hk1 hk3
        rcases hkC with rfl | rfl | rfl
        all_goals
         go_enter Tryz.func9, Tryz.ntmps9
         go_wp2_with fail
         refine c1.out.mono ?_
         rintro e w1 ⟨rfl, rfl⟩
         go_wp2_with fail
         refine (cn.out _).mono ?_
         rintro e w1 ⟨rfl, rfl⟩
         go_wp2_with fail
         go_ret
         exact ⟨rfl, h.out⟩
      · rw [if_neg (fun h' => hs2 h'.2)] at e
        rw [e] at e0
        simp only [Prod.mk.injEq] at e0
        obtain ⟨rfl, rfl⟩ := e0
        have hb2 := two_bits hs2
        rw [← hv] at hb2
        generalize (if p.2.2 = true then (2 : Int) else 0) = pv at *
        have hb3 : (pv != bits .and .i64 bt 2) = true := by rw [bne, hb2]; rfl
        clear e e1 e2 hbad hf hn hs1 hs2 e3 hi hv hk1 hk3
        rcases hkC with rfl | rfl | rfl
        all_goals
         go_enter Tryz.func9, Tryz.ntmps9
         go_wp2_with fail
         refine c1.out.mono ?_
         rintro e w1 ⟨rfl, rfl⟩
         go_wp2_with fail
         refine (cn.out _).mono ?_
         rintro e w1 ⟨rfl, rfl⟩
         go_wp2_with fail
         go_ret
         exact ⟨rfl, h.out⟩
    · rw [if_neg (fun h' => hs1 h'.1)] at e
      rw [e] at e0
      simp only [Prod.mk.injEq] at e0
      obtain ⟨rfl, rfl⟩ := e0
      have hb2 : (p.2.1 == kd) = false := by simpa using hs1
      generalize p.2.1 = pk at *
      generalize (if p.2.2 = true then (2 : Int) else 0) = pv at *
      clear e e1 e2 hbad hf hn e3 hi hv hk1 hk3
      rcases hkC with rfl | rfl | rfl
      all_goals
       go_enter Tryz.func9, Tryz.ntmps9
       go_wp2_with fail
       refine c1.out.mono ?_
       rintro e w1 ⟨rfl, rfl⟩
       go_wp2_with fail
       refine (cn.out _).mono ?_
       rintro e w1 ⟨rfl, rfl⟩
       go_wp2_with fail
       go_ret
       exact ⟨rfl, h.out⟩
end
end Go.Proofs.YtoecaonmehbfeaaGreat

/- The document's table inside its exchanges: Add. -/
namespace Go.Proofs.YtoecaonmehbfeaaGreat
open Go.RowKit
set_option linter.unusedVariables false
set_option maxRecDepth 100000

section
variable {x0 : Value} {B : Nat} {w0 w w' : World} {S F A X : List (Nat × Obj)} {T : TypeId} {tb : Nat} {v u z : Value} {L l : List Bnd} {b : Bnd}

/-! ### Add -/
set_option maxHeartbeats 4000000 in
theorem xradd_any (h : TcIs T x0 B w0 w tb L A) (hL : L.length ≤ 40) (b : Bnd) : Calls Tryz.prog 47 #[rpt tb, bV b] w (AddC T x0 B w0 tb L b A) := by
  have h1 := h.alloc (bO b)
  have q0 : (w.alloc (bO b)).cell? ⟨w.heap.size, 0, none⟩ = some (tx b.1) := by simp
  have q1 : (w.alloc (bO b)).cell? ⟨w.heap.size, 1, none⟩ = some (tx b.2.1) := by simp
  have q2 : (w.alloc (bO b)).cell? ⟨w.heap.size, 2, none⟩ = some (tx b.2.2) := by simp
  obtain ⟨W1, hW⟩ : ∃ W1, W1 = w.alloc (bO b) := ⟨_, rfl⟩
  rw [← hW] at h1 q0 q1 q2
  obtain ⟨v, ho, hv⟩ := h1.one
  obtain ⟨a, cap, rfl, hr⟩ := rows_at2 ho hv
  have fin : Hid (∀ w2, Below W1.heap.size W1 w2 → (b ∈ L → AddC T x0 B w0 tb L b A (.returned (.tuple #[.bool false, .int .i64 0])) w2) ∧ (b ∉ L → 40 ≤ L.length → AddC T x0 B w0 tb L b A (.returned (.tuple #[.bool false, .int .i64 12])) w2)) := Lib.hid fun w2 hb2 => by
    have h2 := (h1.grow hb2).sub (List.sublist_cons_self _ _)
    refine ⟨fun hin => ⟨by rw [addL, if_pos hin], by rw [addL, if_pos hin]; exact h2⟩, fun hin hf => ⟨by rw [addL, if_neg hin, if_pos hf], by rw [addL, if_neg hin, if_pos hf]; exact h2⟩⟩
  have hq : Hid (∀ w2, Below W1.heap.size W1 w2 → w2.cell? ⟨w.heap.size, 0, none⟩ = some (tx b.1) ∧ w2.cell? ⟨w.heap.size, 1, none⟩ = some (tx b.2.1) ∧ w2.cell? ⟨w.heap.size, 2, none⟩ = some (tx b.2.2)) := Lib.hid fun w2 hb2 =>
    ⟨cellOn (c := (_, 0)) q0 hb2, cellOn (c := (_, 1)) q1 hb2, cellOn (c := (_, 2)) q2 hb2⟩
  have ap : Hid (b ∉ L → ¬ 40 ≤ L.length → ∀ W, Below W1.heap.size W1 W →
      (∃ a2 c2 W2, (Builtin.append_ #[28, 28] 0 #[.slice none 0 0, .slice a L.length cap]).run Tryz.prog W = .ok (.slice a2 L.length c2) W2 ∧
        (W2.cell? ⟨w.heap.size, 0, none⟩ = some (tx b.1) ∧ W2.cell? ⟨w.heap.size, 1, none⟩ = some (tx b.2.1) ∧ W2.cell? ⟨w.heap.size, 2, none⟩ = some (tx b.2.2)) ∧
        ∃ a3 c3 W3, (Builtin.append_ #[28, 28] 0 #[.slice a2 L.length c2, .slice (some ⟨W2.heap.size, 0, none⟩) 1 1]).run Tryz.prog (W2.alloc (bO b)) = .ok (.slice a3 (L.length + 1) c3) W3 ∧
          (W3.cell? ⟨tb, 1, none⟩ = some (.slice a L.length cap) ∧ W3.frozen? ⟨tb, 1, none⟩ = false) ∧ AddC T x0 B w0 tb L b A (.returned (.tuple #[.bool true, .int .i64 0])) (W3.setCell ⟨tb, 1, none⟩ (.slice a3 (L.length + 1) c3))) ∧
      ((W.alloc (bO b)).cell? ⟨tb, 1, none⟩ = some (.slice a L.length cap) ∧ ∃ a2 c2 W2, (Builtin.append_ #[28, 28] 0 #[.slice none 0 0, .slice a L.length cap]).run Tryz.prog (W.alloc (bO b)) = .ok (.slice a2 L.length c2) W2 ∧
        ∃ a3 c3 W3, (Builtin.append_ #[28, 28] 0 #[.slice a2 L.length c2, .slice (some ⟨W.heap.size, 0, none⟩) 1 1]).run Tryz.prog W2 = .ok (.slice a3 (L.length + 1) c3) W3 ∧
          (W3.cell? ⟨tb, 1, none⟩ = some (.slice a L.length cap) ∧ W3.frozen? ⟨tb, 1, none⟩ = false) ∧ AddC T x0 B w0 tb L b A (.returned (.tuple #[.bool true, .int .i64 0])) (W3.setCell ⟨tb, 1, none⟩ (.slice a3 (L.length + 1) c3)))) := by
    refine Lib.hid fun hin hfull W hb => ?_
    obtain ⟨v', S, hs, hst⟩ := h1.grow hb
    have e : v' = .slice a L.length cap := by
      have e1 := hst.cell (b := tb) (i := 1) (v := v') (List.mem_append_right _ List.mem_cons_self) rfl
      have e2 := (hr.out W hb).1.1
      exact Option.some.inj (e1.symm.trans e2)
    subst e
    have last : ∀ W3 a3 c3 F3 R, BnsIs (.slice a3 (L.length + 1) c3) (L ++ [b]) F3 → St B w0 W3 ((((w.heap.size, bO b) :: A) ++ (tb, .cells #[x0, .slice a L.length cap] T) :: (S ++ R)) ++ F3) →
        (W3.cell? ⟨tb, 1, none⟩ = some (.slice a L.length cap) ∧ W3.frozen? ⟨tb, 1, none⟩ = false) ∧ AddC T x0 B w0 tb L b A (.returned (.tuple #[.bool true, .int .i64 0])) (W3.setCell ⟨tb, 1, none⟩ (.slice a3 (L.length + 1) c3)) := by
      intro W3 a3 c3 F3 R hs3 hst3
      have hst4 : St B w0 W3 (((w.heap.size, bO b) :: A) ++ (tb, .cells #[x0, .slice a L.length cap] T) :: F3) := hst3.sub (by
        rw [List.append_assoc]
        exact (List.Sublist.refl _).append ((List.sublist_append_right _ _).cons_cons _))
      refine ⟨⟨hst4.cell (b := tb) (i := 1) (List.mem_append_right _ List.mem_cons_self) rfl, St.soft (b := tb) hst4 (List.mem_append_right _ List.mem_cons_self) 1⟩, ?_, ?_⟩
      · rw [addL, if_neg hin, if_neg hfull]
      · rw [addL, if_neg hin, if_neg hfull]
        have h5 := hst4.set 1 (.slice a3 (L.length + 1) c3)
        exact ⟨_, F3, hs3, h5.sub (by rw [List.cons_append]; exact List.sublist_cons_self _ _)⟩
    refine ⟨?_, (cellOn (c := (tb, 1)) (hr.out W hb).1.1 (new_below W (bO b))), ?_⟩
    · obtain ⟨a2, c2, W2, F2, hrun2, hs2, hst2⟩ := bnd_copy (X := ((w.heap.size, bO b) :: A) ++ [(tb, .cells #[x0, .slice a L.length cap] T)]) hs (by simpa using hst) (by omega)
      have hm0 : (w.heap.size, bO b) ∈ ((((w.heap.size, bO b) :: A) ++ [(tb, .cells #[x0, .slice a L.length cap] T)]) ++ S) ++ F2 := List.mem_append_left _ (List.mem_append_left _ (List.mem_append_left _ List.mem_cons_self))
      refine ⟨a2, c2, W2, hrun2, ⟨hst2.cell hm0 rfl, hst2.cell hm0 rfl, hst2.cell hm0 rfl⟩, ?_⟩
      obtain ⟨a3, c3, W3, F3, hrun3, hs3, hst3⟩ := bnd_append hs2 hst2 b (by omega)
      exact ⟨a3, c3, W3, hrun3, last W3 a3 c3 F3 [] hs3 (by simpa using hst3)⟩
    · have hst1 := hst.alloc (bO b)
      obtain ⟨a2, c2, W2, F2, hrun2, hs2, hst2⟩ := bnd_copy (X := (W.heap.size, bO b) :: (((w.heap.size, bO b) :: A) ++ [(tb, .cells #[x0, .slice a L.length cap] T)])) hs (by simpa using hst1) (by omega)
      obtain ⟨a3, c3, W3, F3, hrun3, hs3, hst3⟩ := bnd_put (p := W.heap.size) (b := b) hs2 hst2 (by simp) (by omega)
      refine ⟨a2, c2, W2, hrun2, a3, c3, W3, hrun3, last W3 a3 c3 F3 [] hs3 ?_⟩
      have := hst3.sub (H' := _) (List.sublist_cons_self _ _)
      simpa using this
  obtain ⟨D, hD⟩ : ∃ D, D = addL L b := ⟨_, rfl⟩
  have hmem : Hid (∀ (i : Nat) y, L[i]? = some y → y = b → b ∈ L) := Lib.hid fun i y hy e => e ▸ List.mem_of_getElem? hy
  obtain ⟨b1, b2, b3⟩ := b
  simp only at hq ap
  replace hW : Hid (w.alloc (.cells #[tx b1, tx b2, tx b3] 34) = W1) := Lib.hid hW.symm
  clear h h1 hv ho q0 q1 q2 hD
  go_enter Tryz.func47, Tryz.ntmps47
  go_upto_region 1 with fail
  rw [hW.out]
  go_wp2_with fail
  go_loopg [6] L.length (fun g v6 wr => ∃ i : Nat, v6 = .int .i64 i ∧ i + g = L.length ∧ Hid ((b1, b2, b3) ∉ L.take i) ∧ Hid (Below W1.heap.size W1 wr))
  case atStart => exact ⟨0, rfl, by omega, Lib.hid (by simp), Lib.hid (Below.refl _ _)⟩
  case round =>
    obtain ⟨i, rfl, hi, hno, hbel⟩ := hrel
    have hi0 : (0 : Int) ≤ i := by omega
    obtain ⟨⟨ct, fz⟩, hrows⟩ := hr.out wr hbel.out
    obtain ⟨q0, q1, q2⟩ := hq.out wr hbel.out
    by_cases hlt : i < L.length
    · have hi1 : (i : Int) < L.length := by omega
      have hx : L[i]? = some L[i] := List.getElem?_eq_getElem hlt
      generalize L[i] = y at hx
      obtain ⟨c1, o1, rfl, k1, k2, k3⟩ := hrows i y hx
      rcases bnd_cases y (b1, b2, b3) with rfl | hc
      · have f := Lib.hid (fun n => (fin.out (wr.drewN n) (bel hbel.out (drewN_below wr n))).1 (hmem.out i _ hx rfl))
        simp only at k1 k2 k3
        clear hx hno hr hrows fin ap fz hmem
        go_wp2_with fail
        go_quiet (fail)
        go_wp2_with fail
        go_ret2
        exact f.out _
      · have hno2 := Lib.hid (not_in_step hno.out hx (fun e => bnd_ne hc e.symm))
        have hb2 := Lib.hid (fun n => bel hbel.out (drewN_below wr n))
        obtain ⟨y1, y2, y3⟩ := y
        simp only at k1 k2 k3 hc
        clear hx hno hr hrows fin ap fz hmem
        rcases hc with hc | ⟨rfl, hc⟩ | ⟨rfl, rfl, hc⟩
        all_goals
          go_wp2_with fail
          go_quiet (fail)
          go_wp2_with fail
          go_roundg (L.length - (i + 1))
          case measure => omega
          case rel => exact ⟨i + 1, by go_num, by omega, hno2, Lib.hid (hb2.out _)⟩
    · have hin := hno.out
      rw [List.take_of_length_le (by omega)] at hin
      by_cases hfull : 40 ≤ L.length
      · have hfI : (40 : Int) ≤ L.length := by omega
        have f := Lib.hid ((fin.out wr hbel.out).2 hin hfull)
        clear hno hr hrows fin ap fz hmem
        go_wp2_with fail
        go_ret2
        exact f.out
      · have hfI : ¬ (40 : Int) ≤ L.length := by omega
        have hb2 : Below W1.heap.size W1 wr.drew := bel hbel.out (Below.refl _ wr).drew
        obtain ⟨⟨a2, c2, W2, run1, ⟨m0, m1, m2⟩, a3, c3, W3, run2, ⟨k0, k1⟩, f⟩, dt, a4, c4, W4, run3, a5, c5, W5, run4, ⟨k2, k3⟩, f2⟩ := ap.out hin hfull wr.drew hb2
        have dt' : (wr.alloc (.cells #[tx b1, tx b2, tx b3] 34)).cell? ⟨tb, 1, none⟩ = some (.slice a L.length cap) := dt
        have run3' : (Builtin.append_ #[28, 28] 0 #[.slice none 0 0, .slice a L.length cap]).run Tryz.prog (wr.alloc (.cells #[tx b1, tx b2, tx b3] 34)).drew = .ok (.slice a4 L.length c4) W4 := run3
        have run4' : (Builtin.append_ #[28, 28] 0 #[.slice a4 L.length c4, .slice (some ⟨wr.heap.size, 0, none⟩) 1 1]).run Tryz.prog W4 = .ok (.slice a5 (L.length + 1) c5) W5 := run4
        replace f := Lib.hid f
        replace f2 := Lib.hid f2
        clear dt run3 run4 hfull hL
        clear hno hr hrows fin ap fz hmem hb2 hq hin
        go_wp2_with fail
        go_region_law (first
          | (refine step_append_go rfl (.const (.slice none 0 0)) (.tmp 35) 28 28 rfl _ _ rfl rfl run1 ?_)
          | (refine step_append_go rfl (.const (.slice none 0 0)) (.tmp 35) 28 28 rfl _ _ rfl rfl run3' ?_)
          | (refine step_append_go rfl (.tmp 36) (.tmp 38) 28 28 rfl _ _ rfl rfl run2 ?_)
          | (refine step_append_go rfl (.tmp 36) (.tmp 38) 28 28 rfl _ _ rfl rfl run4' ?_))
        all_goals
          go_wp2_with fail
          go_ret2
          first | exact f.out | exact f2.out
end
end Go.Proofs.YtoecaonmehbfeaaGreat

/- The document's exchanges: Bind. -/
namespace Go.Proofs.YtoecaonmehbfeaaGreat
open Go.RowKit
set_option linter.unusedVariables false
set_option maxRecDepth 100000

section
variable {B : Nat} {w0 w w' : World} {F F' T R Q S : List (Nat × Obj)} {rb i g : Nat} {A A' : List Bnd} {P P' : List Plc} {v tv u lv : Value} {n x : List UInt8} {l : List (List UInt8)} {b : Bnd} {p : Plc} {kd bt z : Int}

theorem RxIs.alloc (h : RxIs B w0 w rb P A F) (o : Obj) : RxIs B w0 (w.alloc o) rb P A ((w.heap.size, o) :: F) := by
  obtain ⟨lv, tv, R, Q, h1, h2, h3⟩ := h.open
  refine RxIs.shut h1 h2 ((h3.alloc o).perm ?_)
  refine perm_by fun a => ?_
  simp only [List.count_append, List.count_cons, List.append_assoc, List.cons_append]
  omega
theorem RxIs.cell (h : RxIs B w0 w rb P A F) {cs : Array Value} {ty : TypeId} (hm : (g, .cells cs ty) ∈ F) (hi : cs[i]? = some v) : w.cell? ⟨g, i, none⟩ = some v := by
  obtain ⟨lv, tv, R, Q, h1, h2, h3⟩ := h.open
  exact h3.cell (List.mem_append_left _ (List.mem_cons_of_mem _ (List.mem_append_right _ hm))) hi
theorem RxIs.drew (h : RxIs B w0 w rb P A F) : RxIs B w0 w.drew rb P A F := h.grow (Below.refl _ w).drew
/-- Add, asked of the table inside. -/
theorem RxIs.add (h : RxIs B w0 w rb P A F) (few : A.length ≤ 40) (b : Bnd) : Calls Tryz.prog 47 #[.pointer (some ⟨rb, 1, none⟩), bV b] w fun e w' => e = .returned (.tuple #[.bool (addL A b).2.1, .int .i64 (addL A b).2.2]) ∧ RxIs B w0 w' rb P (addL A b).1 F := by
  obtain ⟨lv, R, h1, hT⟩ := h
  refine (xradd_any hT few b).mono ?_
  rintro e w' ⟨rfl, h2⟩
  exact ⟨rfl, lv, R, h1, h2⟩

set_option maxHeartbeats 4000000 in
theorem rbind_is (h : RxIs B w0 w rb P A F) (hF : FineX P A) (b : Bnd) :
    Calls Tryz.prog 13 #[bpt rb, bV b] w fun e w' => e = .returned (.int .i64 (bindX P A b).2) ∧ RxIs B w0 w' rb P (bindX P A b).1 F := by
  have few := hF.few
  have fewA := hF.rows.few
  have h1 := h.alloc (bO b)
  obtain ⟨W1, hW⟩ : ∃ W1, W1 = w.alloc (bO b) := ⟨_, rfl⟩
  rw [← hW] at h1
  obtain ⟨qb, hqb⟩ : ∃ qb, qb = w.heap.size := ⟨_, rfl⟩
  rw [← hqb] at h1
  have q0 : W1.cell? ⟨qb, 0, none⟩ = some (tx b.1) := h1.cell (g := qb) (i := 0) List.mem_cons_self rfl
  have q1 : W1.cell? ⟨qb, 1, none⟩ = some (tx b.2.1) := h1.cell (g := qb) (i := 1) List.mem_cons_self rfl
  have q2 : W1.cell? ⟨qb, 2, none⟩ = some (tx b.2.2) := h1.cell (g := qb) (i := 2) List.mem_cons_self rfl
  have d0 : W1.drew.cell? ⟨qb, 0, none⟩ = some (tx b.1) := q0
  have d1 : W1.drew.cell? ⟨qb, 1, none⟩ = some (tx b.2.1) := q1
  have d2 : W1.drew.cell? ⟨qb, 2, none⟩ = some (tx b.2.2) := q2
  have c1 := Lib.hid (rat_any h1 few b.1)
  have ck := Lib.hid (fun w => riskey_any b.2.2 w)
  have same := Lib.hid (h1.sub (F' := F) (List.sublist_cons_self _ _))
  have ca : Hid (Calls Tryz.prog 47 #[.pointer (some ⟨rb, 1, none⟩), bV b] W1.drew fun e w' => e = .returned (.tuple #[.bool (addL A b).2.1, .int .i64 (addL A b).2.2]) ∧ RxIs B w0 w' rb P (addL A b).1 ((qb, bO b) :: F) ∧
      w'.cell? ⟨qb, 0, none⟩ = some (tx b.1) ∧ w'.cell? ⟨qb, 1, none⟩ = some (tx b.2.1) ∧ w'.cell? ⟨qb, 2, none⟩ = some (tx b.2.2)) := Lib.hid ((RxIs.add h1.drew fewA b).mono fun e w' h2 => ⟨h2.1, h2.2, h2.2.cell (g := qb) (i := 0) List.mem_cons_self rfl, h2.2.cell (g := qb) (i := 1) List.mem_cons_self rfl, h2.2.cell (g := qb) (i := 2) List.mem_cons_self rfl⟩)
  have hs0 : Hid (W1.drew.cell? ⟨qb, 0, none⟩ = some (tx b.1) ∧ W1.drew.cell? ⟨qb, 1, none⟩ = some (tx b.2.1) ∧ W1.drew.cell? ⟨qb, 2, none⟩ = some (tx b.2.2)) := Lib.hid ⟨d0, d1, d2⟩
  have eW : Hid (w.alloc (.cells #[tx b.1, tx b.2.1, tx b.2.2] 34) = W1) := Lib.hid hW.symm
  have eq : Hid (w.heap.size = qb) := Lib.hid hqb.symm
  obtain ⟨ans, hans⟩ : ∃ ans, ans = bindX P A b := ⟨_, rfl⟩
  rw [← hans]
  by_cases hn : b.1 = []
  · have e : ans = (A, 403) := by rw [hans, bindX, if_pos hn]
    rw [e]
    obtain ⟨b1, b2, b3⟩ := b
    simp only at hn q0 c1 eW
    subst hn
    generalize ixV P [] = iv at *
    clear h h1 hF hW hqb e hans ca ck
    go_enter Tryz.func13, Tryz.ntmps13
    go_upto_region 1 with fail
    rw [eW.out, eq.out]
    go_wp2_with fail
    go_ret
    exact ⟨rfl, same.out⟩
  have h0B : (b.1 == []) = false := by simpa using hn
  have h0C : b.1.isEmpty = false := by simpa using hn
  rcases ix_cases P b.1 with ⟨e1, e2⟩ | ⟨i, p, e1, e2, e3, e4⟩
  · have e : ans = (A, 404) := by rw [hans, bindX, if_neg hn, e1]
    rw [e]
    rw [e2] at c1
    obtain ⟨b1, b2, b3⟩ := b
    simp only at h0B h0C q0 c1 eW
    clear h h1 hF hW hqb e hans ca ck e1 e2 hn
    go_enter Tryz.func13, Tryz.ntmps13
    go_upto_region 1 with fail
    rw [eW.out, eq.out]
    go_wp2_with fail
    refine c1.out.mono ?_
    rintro e w1 ⟨rfl, rfl⟩
    go_wp2_with fail
    go_ret
    exact ⟨rfl, same.out⟩
  rw [e2] at c1
  have hi0 : (0 : Int) ≤ i := by omega
  by_cases hk : 40 < b.2.2.length
  · have e : ans = (A, 406) := by rw [hans, bindX, if_neg hn, e1]; dsimp only; rw [if_pos hk]
    rw [e]
    rw [decide_eq_false (by omega)] at ck
    obtain ⟨b1, b2, b3⟩ := b
    simp only at h0B h0C q0 q2 c1 eW ck
    clear h h1 hF hW hqb e hans ca e1 e2 e3 e4 hn
    go_enter Tryz.func13, Tryz.ntmps13
    go_upto_region 1 with fail
    rw [eW.out, eq.out]
    go_wp2_with fail
    refine c1.out.mono ?_
    rintro e w1 ⟨rfl, rfl⟩
    go_wp2_with fail
    refine (ck.out _).mono ?_
    rintro e w1 ⟨rfl, rfl⟩
    go_wp2_with fail
    go_ret
    exact ⟨rfl, same.out⟩
  rw [decide_eq_true (by omega)] at ck
  have hans2 : ans = if (addL A b).2.2 = 0 then ((addL A b).1, 0) else (A, 506) := by rw [hans, bindX, if_neg hn, e1]; dsimp only; rw [if_neg hk]
  have hke : (addL A b).2.2 ≠ 0 → (addL A b).1 = A := by
    intro hne
    unfold addL at hne ⊢
    split
    · rfl
    · rename_i h1
      rw [if_neg h1] at hne
      split
      · rfl
      · rename_i h2
        rw [if_neg h2] at hne
        exact absurd rfl hne
  have fin : Hid (∀ w2, RxIs B w0 w2 rb P (addL A b).1 ((qb, bO b) :: F) → RxIs B w0 w2 rb P ans.1 F) := Lib.hid fun w2 h2 => by
    rw [hans2]
    split
    · exact h2.sub (List.sublist_cons_self _ _)
    · rename_i hne
      rw [hke hne] at h2
      exact h2.sub (List.sublist_cons_self _ _)
  have hz : ans.2 = if (addL A b).2.2 = 0 then 0 else 506 := by rw [hans2]; split <;> rfl
  generalize ans.2 = az at *
  generalize ans.1 = aA at *
  generalize (addL A b).2.2 = ec at *
  generalize (addL A b).2.1 = ok at *
  generalize (addL A b).1 = A2 at *
  obtain ⟨b1, b2, b3⟩ := b
  simp only at h0B h0C q0 q2 c1 eW ck hs0 ca
  clear d0 d1 d2
  clear h h1 hF hW hqb hans hans2 e1 e2 e3 e4 hn hke hk same q1
  by_cases hec : ec = 0
  · rw [if_pos hec] at hz
    subst hec
    subst hz
    go_enter Tryz.func13, Tryz.ntmps13
    go_upto_region 1 with fail
    rw [eW.out, eq.out]
    go_wp2_with fail
    refine c1.out.mono ?_
    rintro e w1 ⟨rfl, rfl⟩
    go_wp2_with fail
    refine (ck.out _).mono ?_
    rintro e w1 ⟨rfl, rfl⟩
    go_wp2_with fail
    go_region_held3 (fun x => x.cell? ⟨qb, 0, none⟩ = some (tx b1) ∧ x.cell? ⟨qb, 1, none⟩ = some (tx b2) ∧ x.cell? ⟨qb, 2, none⟩ = some (tx b3)) (first | exact kS | exact hs0.out) (first
      | (go_at_call 47; refine ca.out.mono ?_; rintro e w'' ⟨rfl, h2, kS⟩))
    replace fin := Lib.hid (fin.out _ h2)
    clear h2 ca kS hs0
    go_wp2_with fail
    go_ret
    exact ⟨rfl, fin.out⟩
  · rw [if_neg hec] at hz
    have hecB : (ec == 0) = false := by simpa using hec
    have hecC : (ec != 0) = true := by simpa using hec
    subst hz
    go_enter Tryz.func13, Tryz.ntmps13
    go_upto_region 1 with fail
    rw [eW.out, eq.out]
    go_wp2_with fail
    refine c1.out.mono ?_
    rintro e w1 ⟨rfl, rfl⟩
    go_wp2_with fail
    refine (ck.out _).mono ?_
    rintro e w1 ⟨rfl, rfl⟩
    go_wp2_with fail
    go_region_held3 (fun x => x.cell? ⟨qb, 0, none⟩ = some (tx b1) ∧ x.cell? ⟨qb, 1, none⟩ = some (tx b2) ∧ x.cell? ⟨qb, 2, none⟩ = some (tx b3)) (first | exact kS | exact hs0.out) (first
      | (go_at_call 47; refine ca.out.mono ?_; rintro e w'' ⟨rfl, h2, kS⟩))
    replace fin := Lib.hid (fin.out _ h2)
    clear h2 ca kS hs0
    go_wp2_with fail
    go_ret
    exact ⟨rfl, fin.out⟩
end
end Go.Proofs.YtoecaonmehbfeaaGreat

/- The document's exchanges: Unbind. -/
namespace Go.Proofs.YtoecaonmehbfeaaGreat
open Go.RowKit
set_option linter.unusedVariables false
set_option maxRecDepth 100000

section
variable {B : Nat} {w0 w w' : World} {F F' T R Q S : List (Nat × Obj)} {rb i g : Nat} {A A' : List Bnd} {P P' : List Plc} {v tv u lv : Value} {n x : List UInt8} {l : List (List UInt8)} {b : Bnd} {p : Plc} {kd bt z : Int}

theorem cut_in (A : List Bnd) (b : Bnd) : decide ((A.filter fun x => !(x == b)).length < A.length) = decide (b ∈ A) := by
  apply decide_eq_decide.2
  rw [List.length_filter_lt_length_iff_exists]
  constructor
  · rintro ⟨x, hx, hn⟩
    simp only [Bool.not_eq_true, Bool.not_eq_false', beq_iff_eq] at hn
    exact hn ▸ hx
  · exact fun h => ⟨b, h, by simp⟩
/-- Drop, asked of the table inside. -/
theorem RxIs.unb (h : RxIs B w0 w rb P A F) (few : A.length ≤ 40) (b : Bnd) : Calls Tryz.prog 52 #[.pointer (some ⟨rb, 1, none⟩), bV b] w fun e w' => e = .returned (.bool (decide (b ∈ A))) ∧ RxIs B w0 w' rb P (A.filter fun x => !(x == b)) F := by
  obtain ⟨lv, R, h1, hT⟩ := h
  refine (xrdrop_any hT (by omega) b).mono ?_
  rintro e w' ⟨rfl, h2⟩
  exact ⟨by rw [cut_in], lv, R, h1, h2⟩

set_option maxHeartbeats 4000000 in
theorem runbind_is (h : RxIs B w0 w rb P A F) (hF : FineX P A) (b : Bnd) :
    Calls Tryz.prog 15 #[bpt rb, bV b] w fun e w' => e = .returned (.int .i64 (unbX P A b).2.2) ∧ RxIs B w0 w' rb (unbX P A b).1 (unbX P A b).2.1 F := by
  have few := hF.few
  have fewA := hF.rows.few
  have h1 := h.alloc (bO b)
  obtain ⟨W1, hW⟩ : ∃ W1, W1 = w.alloc (bO b) := ⟨_, rfl⟩
  rw [← hW] at h1
  obtain ⟨qb, hqb⟩ : ∃ qb, qb = w.heap.size := ⟨_, rfl⟩
  rw [← hqb] at h1
  have q0 : W1.cell? ⟨qb, 0, none⟩ = some (tx b.1) := h1.cell (g := qb) (i := 0) List.mem_cons_self rfl
  have q1 : W1.cell? ⟨qb, 1, none⟩ = some (tx b.2.1) := h1.cell (g := qb) (i := 1) List.mem_cons_self rfl
  have q2 : W1.cell? ⟨qb, 2, none⟩ = some (tx b.2.2) := h1.cell (g := qb) (i := 2) List.mem_cons_self rfl
  have c1 := Lib.hid (rat_any h1 few b.1)
  have same := Lib.hid (h1.sub (F' := F) (List.sublist_cons_self _ _))
  have cd : Hid (Calls Tryz.prog 52 #[.pointer (some ⟨rb, 1, none⟩), bV b] W1.drew fun e w' => e = .returned (.bool (decide (b ∈ A))) ∧ w'.cell? ⟨qb, 0, none⟩ = some (tx b.1) ∧ RxIs B w0 w' rb P (A.filter fun x => !(x == b)) F ∧
      Calls Tryz.prog 53 #[bpt rb, tx b.1] w' fun e w' => e = .returned (.tuple #[]) ∧ RxIs B w0 w' rb (leaveX P (A.filter fun x => !(x == b)) b.1) (A.filter fun x => !(x == b)) F) := Lib.hid ((RxIs.unb h1.drew fewA b).mono fun e w' h2 => by
    have h3 := h2.2.sub (F' := F) (List.sublist_cons_self _ _)
    exact ⟨h2.1, h2.2.cell (g := qb) (i := 0) List.mem_cons_self rfl, h3, rauto_any h3 (hF.sub _) b.1⟩)
  have eW : Hid (w.alloc (.cells #[tx b.1, tx b.2.1, tx b.2.2] 34) = W1) := Lib.hid hW.symm
  have eq : Hid (w.heap.size = qb) := Lib.hid hqb.symm
  obtain ⟨ans, hans⟩ : ∃ ans, ans = unbX P A b := ⟨_, rfl⟩
  rw [← hans]
  by_cases hn : b.1 = []
  · have e : ans = (P, A, 403) := by rw [hans, unbX, if_pos hn]
    rw [e]
    obtain ⟨b1, b2, b3⟩ := b
    simp only at hn q0 c1 eW
    subst hn
    generalize ixV P [] = iv at *
    clear h h1 hF hW hqb e hans cd
    go_enter Tryz.func15, Tryz.ntmps15
    go_upto_region 1 with fail
    rw [eW.out, eq.out]
    go_wp2_with fail
    go_ret
    exact ⟨rfl, same.out⟩
  have h0B : (b.1 == []) = false := by simpa using hn
  have h0C : b.1.isEmpty = false := by simpa using hn
  rcases ix_cases P b.1 with ⟨e1, e2⟩ | ⟨i, p, e1, e2, e3, e4⟩
  · have e : ans = (P, A, 404) := by rw [hans, unbX, if_neg hn, e1]
    rw [e]
    rw [e2] at c1
    obtain ⟨b1, b2, b3⟩ := b
    simp only at h0B h0C q0 c1 eW
    clear h h1 hF hW hqb e hans cd e1 e2 hn
    go_enter Tryz.func15, Tryz.ntmps15
    go_upto_region 1 with fail
    rw [eW.out, eq.out]
    go_wp2_with fail
    refine c1.out.mono ?_
    rintro e w1 ⟨rfl, rfl⟩
    go_wp2_with fail
    go_ret
    exact ⟨rfl, same.out⟩
  rw [e2] at c1
  have hi0 : (0 : Int) ≤ i := by omega
  have e : ans = (if b ∈ A then leaveX P (A.filter fun x => !(x == b)) b.1 else P, A.filter (fun x => !(x == b)), 0) := by rw [hans, unbX, if_neg hn, e1]
  rw [e]
  generalize leaveX P (A.filter fun x => !(x == b)) b.1 = P2 at *
  generalize (A.filter fun x => !(x == b)) = A2 at *
  by_cases hin : b ∈ A
  · rw [if_pos hin]
    rw [decide_eq_true hin] at cd
    obtain ⟨b1, b2, b3⟩ := b
    simp only at h0B h0C q0 q1 q2 c1 eW cd
    clear h h1 hF hW hqb e hans e1 e2 e3 e4 hn hin same
    go_enter Tryz.func15, Tryz.ntmps15
    go_upto_region 1 with fail
    rw [eW.out, eq.out]
    go_wp2_with fail
    refine c1.out.mono ?_
    rintro e w1 ⟨rfl, rfl⟩
    go_wp2_with fail
    go_still_tail 4, (by kernel_rfl)
    change wpList _ _ _ _ _ (World.drew _)
    go_wp2_with fail
    refine cd.out.mono ?_
    rintro e w2 ⟨rfl, k0, -, cl⟩
    replace cl := Lib.hid cl
    clear cd
    go_wp2_with fail
    refine cl.out.mono ?_
    rintro e w3 ⟨rfl, fin⟩
    replace fin := Lib.hid fin
    go_wp2_with fail
    go_ret
    exact ⟨rfl, fin.out⟩
  · rw [if_neg hin]
    rw [decide_eq_false hin] at cd
    obtain ⟨b1, b2, b3⟩ := b
    simp only at h0B h0C q0 q1 q2 c1 eW cd
    clear h h1 hF hW hqb e hans e1 e2 e3 e4 hn hin same
    go_enter Tryz.func15, Tryz.ntmps15
    go_upto_region 1 with fail
    rw [eW.out, eq.out]
    go_wp2_with fail
    refine c1.out.mono ?_
    rintro e w1 ⟨rfl, rfl⟩
    go_wp2_with fail
    go_still_tail 4, (by kernel_rfl)
    change wpList _ _ _ _ _ (World.drew _)
    go_wp2_with fail
    refine cd.out.mono ?_
    rintro e w2 ⟨rfl, -, fin, -⟩
    replace fin := Lib.hid fin
    clear cd
    go_wp2_with fail
    go_ret
    exact ⟨rfl, fin.out⟩
end
end Go.Proofs.YtoecaonmehbfeaaGreat

/- SameBindings; what the document's DropQueue holds. -/
namespace Go.Proofs.YtoecaonmehbfeaaGreat
open Go.RowKit
set_option linter.unusedVariables false
set_option maxRecDepth 100000

section
variable {B : Nat} {w0 w w' : World} {S F A X : List (Nat × Obj)} {T : TypeId} {tb : Nat} {v u z : Value} {L l : List Bnd} {b : Bnd}

set_option maxHeartbeats 1000000 in
theorem sameB_true {v1 v2 : Value} (h1 : ReadBs w v1 l) (h2 : ReadBs w v2 l) (hl : l.length ≤ 1073741824) : Calls Tryz.prog 25 #[v1, v2] w fun e w' => e = .returned (.bool true) ∧ Below w.heap.size w w' := by
  obtain ⟨a1, c1, rfl, h1⟩ := h1
  obtain ⟨a2, c2, rfl, h2⟩ := h2
  replace h1 := Lib.hid h1
  replace h2 := Lib.hid h2
  go_enter Tryz.func25, Tryz.ntmps25
  go_wp2_with fail
  go_loopg [5] l.length (fun g i wt => ∃ p : Nat, i = .int .i64 p ∧ p + g = l.length ∧ ∃ m, wt = w.drewN m)
  case atStart => exact ⟨0, rfl, by omega, 0, rfl⟩
  case round =>
    obtain ⟨p, rfl, hp, m, rfl⟩ := hrel
    have hp0 : (0 : Int) ≤ p := by omega
    by_cases hlt : p < l.length
    · have hx : l[p]? = some l[p] := List.getElem?_eq_getElem hlt
      generalize l[p] = x at hx
      obtain ⟨b1, o1, rfl, k1, k2, k3⟩ := h1.out p x hx
      obtain ⟨b2, o2, rfl, k4, k5, k6⟩ := h2.out p x hx
      obtain ⟨x1, x2, x3⟩ := x
      simp only at k1 k2 k3 k4 k5 k6
      have hp1 : (p : Int) < l.length := by omega
      clear hx
      go_wp2_with fail
      go_quiet (fail)
      go_wp2_with fail
      go_roundg (l.length - (p + 1))
      case measure => omega
      case rel => exact ⟨p + 1, by go_num, by omega, _, rfl⟩
    · go_wp2_with fail
      go_ret
      exact ⟨rfl, drewN_below _ _⟩

/-! ### DropQueue -/
def RdqAt (w : World) (L : List Bnd) (x : List UInt8) (u z : Value) (i : Nat) (w' : World) : Prop :=
  ∃ S R, BnsIs u ((L.take i).filter fun b => !(b.2.1 == x)) S ∧ TssIs z (onceL [] (((L.take i).filter fun b => b.2.1 == x).map (·.1))) R ∧ St w.heap.size w w' (S ++ R)
end
end Go.Proofs.YtoecaonmehbfeaaGreat

/- The document's table inside its exchanges: DropQueue. -/
namespace Go.Proofs.YtoecaonmehbfeaaGreat
open Go.RowKit
set_option linter.unusedVariables false
set_option maxRecDepth 100000

section
variable {x0 : Value} {B : Nat} {w0 w w' : World} {S F A X : List (Nat × Obj)} {T : TypeId} {tb : Nat} {v u z : Value} {L l : List Bnd} {b : Bnd}

set_option maxHeartbeats 4000000 in
theorem xrdropQ_any (h : TcIs T x0 B w0 w tb L A) (hL : L.length ≤ 10000) (hfit : ∀ b ∈ L, FitB b) (x : List UInt8) :
    Calls Tryz.prog 56 #[rpt tb, tx x] w (CutNC T x0 B w0 tb (L.filter fun b => !(b.2.1 == x)) A (onceL [] ((L.filter fun b => b.2.1 == x).map (·.1)))) := by
  obtain ⟨v, ho, hv⟩ := h.one
  obtain ⟨a, cap, rfl, hr⟩ := rows_at2 ho hv
  have h0 : Hid (RdqAt w L x (.slice none 0 0) (.slice none 0 0) 0 w) := Lib.hid ⟨[], [], BnsIs.nil, TssIs.nil, St.start w⟩
  have hmax : ∀ (i : Nat), ∀ y ∈ onceL [] (((L.take i).filter fun b => b.2.1 == x).map (·.1)), y.length ≤ maxLen := by
    intro i y hy
    rcases (onceL_mem _ _ _).1 hy with h | h
    · simp at h
    · obtain ⟨b, hb, rfl⟩ := List.mem_map.1 h
      have := (hfit b (List.mem_of_mem_take (List.mem_filter.1 hb).1)).1
      unfold maxLen
      omega
  have hlenO : ∀ (i : Nat), (onceL [] (((L.take i).filter fun b => b.2.1 == x).map (·.1))).length ≤ 10000 := by
    intro i
    have h1 := onceL_len [] (((L.take i).filter fun b => b.2.1 == x).map (·.1))
    have h2 := filter_len_take (L := L) (fun b => b.2.1 == x) i
    rw [List.length_map, List.length_nil] at h1
    have h3 := List.length_filter_le (fun b : Bnd => b.2.1 == x) (L.take i)
    rw [List.length_take] at h3
    omega
  replace hmax := Lib.hid hmax
  replace hlenO := Lib.hid hlenO
  have fin : Hid (∀ i u z w1, L.length ≤ i → RdqAt w L x u z i w1 → ∃ au qu cu az qz cz, u = .slice au qu cu ∧ z = .slice az qz cz ∧ CutNC T x0 B w0 tb (L.filter fun b => !(b.2.1 == x)) A (onceL [] ((L.filter fun b => b.2.1 == x).map (·.1))) (.returned z) (w1.setCell ⟨tb, 1, none⟩ u)) := by
    refine Lib.hid ?_
    rintro i u z w1 hi ⟨S, R, hs, hz, hst⟩
    rw [List.take_of_length_le hi] at hs hz
    obtain ⟨au, cu, e1⟩ := hs.form
    obtain ⟨az, cz, e2⟩ := hz.form
    exact ⟨au, _, cu, az, _, cz, e1, e2, z, R, rfl, hz, TcIs.turn (S := R) h hs (hst.perm List.perm_append_comm)⟩
  clear h hv ho hfit
  go_enter Tryz.func56, Tryz.ntmps56
  go_wp2_with fail
  go_loopg [5, 6, 7] L.length (fun g v5 v6 v7 wr => ∃ i : Nat, v7 = .int .i64 i ∧ i + g = L.length ∧ Hid (RdqAt w L x v5 v6 i wr))
  case atStart => exact ⟨0, rfl, by omega, h0⟩
  case round =>
    clear h0
    obtain ⟨i, rfl, hi, hR⟩ := hrel
    have hi0 : (0 : Int) ≤ i := by omega
    have hbel : Below w.heap.size w wr := by obtain ⟨S, R, -, -, hst⟩ := hR.out; exact hst.below
    obtain ⟨⟨ct, fz⟩, hrows⟩ := hr.out wr hbel
    clear hbel
    by_cases hlt : i < L.length
    · obtain ⟨S, R, hs, hz, hst⟩ := hR.out
      have hi1 : (i : Int) < L.length := by omega
      have hx : L[i]? = some L[i] := List.getElem?_eq_getElem hlt
      generalize L[i] = y at hx
      obtain ⟨b1, o1, rfl, k1, k2, k3⟩ := hrows i y hx
      have st1 := filter_step (p := fun b => !(b.2.1 == x)) hx
      have st2 := filter_step (p := fun b => b.2.1 == x) hx
      have hl1 := filter_len_take (L := L) (fun b => !(b.2.1 == x)) i
      have hlO := hlenO.out i
      have hm := hmax.out i
      cases hpx : (y.2.1 == x) with
      | false =>
        simp only [hpx, Bool.not_false, if_true, Bool.false_eq_true, if_false, List.append_nil] at st1 st2
        obtain ⟨a2, cap2, W2, F2, hrun, hs2, hst2⟩ := bnd_append (X := R) hs (hst.perm List.perm_append_comm) y (by omega)
        have nxt : Hid (RdqAt w L x (.slice a2 (((L.take i).filter fun b => !(b.2.1 == x)).length + 1) cap2) _ (i + 1) W2) := Lib.hid ⟨F2, R, by rw [st1]; exact hs2, by rw [st2]; exact hz, hst2.perm List.perm_append_comm⟩
        obtain ⟨au, cu, rfl⟩ := hs.form
        obtain ⟨az, cz, rfl⟩ := hz.form
        obtain ⟨y1, y2, y3⟩ := y
        simp only at k1 k2 k3 hpx
        generalize ((L.take i).filter fun b => !(b.2.1 == x)).length = q0 at *
        generalize (onceL [] (((L.take i).filter fun b => b.2.1 == x).map (·.1))).length = q1 at *
        clear hR hx hr hrows hs hz hst hs2 hst2 st1 st2 hl1 hlO hm hmax hlenO fin fz
        go_wp2_with (at_builtin; refine wpList_append_go rfl (.tmp 27) (.tmp 35) 28 28 rfl _ _ rfl rfl hrun ?_)
        go_roundg (L.length - (i + 1))
        case measure => omega
        case rel => exact ⟨i + 1, by go_num, by omega, nxt⟩
      | true =>
        simp only [hpx, Bool.not_true, if_true, Bool.false_eq_true, if_false, List.append_nil] at st1 st2
        have st3 : onceL [] (((L.take (i + 1)).filter fun b => b.2.1 == x).map (·.1)) = onceS (onceL [] (((L.take i).filter fun b => b.2.1 == x).map (·.1))) y.1 := by
          rw [st2, List.map_append]
          exact onceL_snoc _ _ _
        generalize onceL [] (((L.take i).filter fun b => b.2.1 == x).map (·.1)) = m at *
        have cn := Lib.hid (has_any (TssIs.read (X := S) hz hst hm) (by omega) y.1)
        by_cases hin : y.1 ∈ m
        · rw [decide_eq_true hin] at cn
          rw [onceS, if_pos hin] at st3
          have nxt : Hid (RdqAt w L x _ _ (i + 1) wr) := Lib.hid ⟨S, R, by rw [st1]; exact hs, by rw [st3]; exact hz, hst⟩
          obtain ⟨au, cu, rfl⟩ := hs.form
          obtain ⟨az, cz, rfl⟩ := hz.form
          obtain ⟨y1, y2, y3⟩ := y
          simp only at k1 k2 k3 hpx
          obtain rfl := beq_iff_eq.1 hpx
          generalize ((L.take i).filter fun b => !(b.2.1 == y2)).length = q0 at *
          generalize m.length = q1 at *
          clear hR hx hr hrows hs hz hst st1 st2 st3 hl1 hlO hm hmax hlenO fin fz hpx hin
          go_wp2_with fail
          refine cn.out.mono ?_
          rintro e w3 ⟨rfl, rfl⟩
          go_wp2_with fail
          go_roundg (L.length - (i + 1))
          case measure => omega
          case rel => exact ⟨i + 1, by go_num, by omega, nxt⟩
        · rw [decide_eq_false hin] at cn
          rw [onceS, if_neg hin] at st3
          obtain ⟨a2, cap2, W2, F2, hrun, hs2, hst2⟩ := TssIs.append (X := S) hz hst y.1 (by omega)
          have nxt : Hid (RdqAt w L x _ (.slice a2 (m.length + 1) cap2) (i + 1) W2) := Lib.hid ⟨S, F2, by rw [st1]; exact hs, by rw [st3]; exact hs2, hst2⟩
          obtain ⟨au, cu, rfl⟩ := hs.form
          obtain ⟨az, cz, rfl⟩ := hz.form
          obtain ⟨y1, y2, y3⟩ := y
          simp only at k1 k2 k3 hpx
          obtain rfl := beq_iff_eq.1 hpx
          generalize ((L.take i).filter fun b => !(b.2.1 == y2)).length = q0 at *
          generalize m.length = q1 at *
          clear hR hx hr hrows hs hz hst hs2 hst2 st1 st2 st3 hl1 hlO hm hmax hlenO fin fz hpx hin
          go_wp2_with fail
          refine cn.out.mono ?_
          rintro e w3 ⟨rfl, rfl⟩
          go_wp2_with (at_builtin; refine wpList_append_go rfl (.tmp 48) (.tmp 57) 45 45 rfl _ _ rfl rfl hrun ?_)
          go_roundg (L.length - (i + 1))
          case measure => omega
          case rel => exact ⟨i + 1, by go_num, by omega, nxt⟩
    · obtain ⟨au, qu, cu, az, qz, cz, rfl, rfl, f⟩ := fin.out _ _ _ _ (by omega) hR.out
      replace f := Lib.hid f
      clear hR hr hrows hmax hlenO fin
      go_wp2_with fail
      go_ret
      exact f.out

end
end Go.Proofs.YtoecaonmehbfeaaGreat

/- The document's exchanges: DropQueue. -/
namespace Go.Proofs.YtoecaonmehbfeaaGreat
open Go.RowKit
set_option linter.unusedVariables false
set_option maxRecDepth 100000

section
variable {B : Nat} {w0 w w' : World} {F F' T R Q S : List (Nat × Obj)} {rb i g : Nat} {A A' : List Bnd} {P P' : List Plc} {v tv u lv : Value} {n x : List UInt8} {l : List (List UInt8)} {b : Bnd} {p : Plc} {kd bt z : Int}

theorem rleaves_step (P : List Plc) (A : List Bnd) {i : Nat} (hx : l[i]? = some n) : leavesX P A (l.take (i + 1)) = leaveX (leavesX P A (l.take i)) A n := by
  unfold leavesX
  rw [List.take_add_one, hx, Option.toList_some, List.foldl_append]
  rfl
set_option maxHeartbeats 4000000 in
theorem rdropq_is (h : RxIs B w0 w rb P A F) (hF : FineX P A) (x : List UInt8) :
    Calls Tryz.prog 17 #[bpt rb, tx x] w fun e w' => e = .returned (.tuple #[]) ∧ RxIs B w0 w' rb (dropqX P A x).1 (dropqX P A x).2 F := by
  have few := hF.few
  have fewA := hF.rows.few
  obtain ⟨A', hA'⟩ : ∃ A', A' = A.filter fun b => !(b.2.1 == x) := ⟨_, rfl⟩
  obtain ⟨l, hl⟩ : ∃ l, l = onceL [] ((A.filter fun b => b.2.1 == x).map (·.1)) := ⟨_, rfl⟩
  have ed : dropqX P A x = (leavesX P A' l, A') := by rw [dropqX, hA', hl]
  rw [ed]
  have fine' : FineX P A' := by rw [hA']; exact hF.sub _
  have hl40 : l.length ≤ 40 := by
    have h1 := onceL_len [] ((A.filter fun b => b.2.1 == x).map (·.1))
    rw [List.length_map, List.length_nil, ← hl] at h1
    have := List.length_filter_le (fun b : Bnd => b.2.1 == x) A
    omega
  have hlm : ∀ y ∈ l, y.length ≤ maxLen := by
    intro y hy
    rw [hl] at hy
    rcases (onceL_mem _ _ _).1 hy with h' | h'
    · simp at h'
    · obtain ⟨b, hb, rfl⟩ := List.mem_map.1 h'
      exact (hF.rows.fit b (List.mem_filter.1 hb).1).max.1
  have cq : Hid (Calls Tryz.prog 56 #[.pointer (some ⟨rb, 1, none⟩), tx x] w fun e w' => ∃ a cap S, e = .returned (.slice a l.length cap) ∧ TssIs (.slice a l.length cap) l S ∧ RxIs B w0 w' rb P A' (F ++ S)) := Lib.hid (by
    obtain ⟨lv, R, h1, hT⟩ := h
    refine (xrdropQ_any hT (by omega) hF.rows.fit x).mono ?_
    rintro e w' ⟨u, S, rfl, hu, h2⟩
    rw [← hl] at hu
    rw [← hA'] at h2
    obtain ⟨a, cap, rfl⟩ := hu.form
    exact ⟨a, cap, S, rfl, hu, lv, R, h1, by rw [← List.append_assoc]; exact h2⟩)
  have clv : Hid (∀ (i : Nat) a cap S w1, TssIs (.slice a l.length cap) l S → RxIs B w0 w1 rb (leavesX P A' (l.take i)) A' (F ++ S) → ∀ n, l[i]? = some n → ∃ g off, a = some ⟨g, off, none⟩ ∧ w1.cell? ⟨g, off + i, none⟩ = some (tx n) ∧
      Calls Tryz.prog 53 #[bpt rb, tx n] w1 fun e w' => e = .returned (.tuple #[]) ∧ RxIs B w0 w' rb (leavesX P A' (l.take (i + 1))) A' (F ++ S)) := Lib.hid fun i a cap S w1 hu hE n hn => by
    obtain ⟨lv, tv, R, Q, h1, h2, h3⟩ := hE.open
    obtain ⟨a', cap', e', hta⟩ := hu.read (X := (rb, .cells #[lv, tv] 32) :: (Q ++ F) ++ R) (h3.perm (by
      refine perm_by fun a => ?_
      simp only [List.count_append, List.count_cons, List.append_assoc, List.cons_append]
      omega)) hlm
    cases e'
    obtain ⟨-, g, off, e1, hc1⟩ := hta.at_ i n hn
    refine ⟨g, off, e1, hc1, ?_⟩
    rw [rleaves_step _ _ hn]
    exact rauto_any hE (fine'.leaves _) n
  clear h hF hlm fine' hA' hl ed
  go_enter Tryz.func17, Tryz.ntmps17
  go_wp2_with fail
  refine cq.out.mono ?_
  rintro e w1 ⟨a, cap, S, rfl, hu, hE⟩
  have start : Hid (RxIs B w0 w1 rb (leavesX P A' (l.take 0)) A' (F ++ S)) := Lib.hid hE
  replace hu := Lib.hid hu
  clear hE cq
  go_wp2_with fail
  go_loopg [5] l.length (fun g v5 wr => ∃ i : Nat, v5 = .int .i64 i ∧ i + g = l.length ∧ Hid (RxIs B w0 wr rb (leavesX P A' (l.take i)) A' (F ++ S)))
  case atStart => exact ⟨0, rfl, by omega, start⟩
  case round =>
    clear start
    obtain ⟨i, rfl, hi, hR⟩ := hrel
    have hi0 : (0 : Int) ≤ i := by omega
    by_cases hlt : i < l.length
    · have hi1 : (i : Int) < l.length := by omega
      have hx : l[i]? = some l[i] := List.getElem?_eq_getElem hlt
      generalize l[i] = nm at hx
      obtain ⟨g1, o1, rfl, k1, cl⟩ := clv.out i a cap S wr hu.out hR.out nm hx
      replace cl := Lib.hid cl
      clear hR hx hu clv
      go_wp2_with fail
      refine cl.out.mono ?_
      rintro e w2 ⟨rfl, nxt⟩
      replace nxt := Lib.hid nxt
      clear cl
      go_wp2_with fail
      go_roundg (l.length - (i + 1))
      case measure => omega
      case rel => exact ⟨i + 1, by go_num, by omega, nxt⟩
    · have fin : Hid (RxIs B w0 wr rb (leavesX P A' l) A' F) := Lib.hid (by
        have := hR.out
        rw [List.take_of_length_le (by omega)] at this
        exact this.sub (List.sublist_append_left _ _))
      clear hR hu clv
      go_wp2_with fail
      exact bodyPost_end (results_none rfl _ _ _) rfl ⟨rfl, fin.out⟩
end
end Go.Proofs.YtoecaonmehbfeaaGreat
