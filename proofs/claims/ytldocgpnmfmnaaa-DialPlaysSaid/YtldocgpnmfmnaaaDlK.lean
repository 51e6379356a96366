/- Dials: Due. -/
import Derived.Test.YtldocgpnmfmnaaaDlJ
namespace Go.Proofs.Ytldocgpnmfmnaaa
open Go.RowKit
set_option linter.unusedVariables false

def idsV (L : List (Int × Int)) : List Value := L.map fun x => .int .i64 x.2

section
variable {B : Nat} {w0 w : World} {db : Nat} {M M' : List Mk} {hv : Value} {hF F R A S : List (Nat × Obj)} {mv : Option Nat} {es : List (Int × Value × Nat)} {clk : Nat} {i j p n : Nat} {m o : Mk} {L : List (Int × Int)}

theorem perm_j {α : Type} (d : α) (A R S F H : List α) : ((d :: (A ++ (R ++ (S ++ F)))) ++ H).Perm (((d :: (A ++ (R ++ F))) ++ H) ++ S) := by
  classical
  exact List.perm_iff_count.2 fun a => by simp only [List.count_append, List.count_cons]; omega
theorem DmAt.beside (h : DmAt B w0 w db M hv hF mv es clk (S ++ F)) : ∃ A, St B w0 w (A ++ S) ∧ ∀ w' S', St B w0 w' (A ++ S') → DmAt B w0 w' db M hv hF mv es clk (S' ++ F) :=
  ⟨((db, dialO hv mv) :: (mksO M ++ (mapH mv es clk ++ F))) ++ hF, h.at_.st.perm (perm_j _ _ _ _ _ _), fun w' S' h' => ⟨⟨h.at_.sl, h'.perm (perm_j _ _ _ _ _ _).symm, h.at_.times, h.at_.few⟩, h.map, h.ids, h.bare⟩⟩

theorem take_due {L1 L2 : List (Int × Int)} {now : Int} (h1 : ∀ x ∈ L1, x.1 ≤ now) (h2 : ∀ x, L2.head? = some x → ¬ x.1 ≤ now) : dueL now (L1 ++ L2) = L1 ∧ restL now (L1 ++ L2) = L2 := by
  unfold dueL restL
  induction L1 with
  | nil =>
    cases L2 with
    | nil => exact ⟨rfl, rfl⟩
    | cons x L2 =>
      have := h2 x rfl
      simp [this]
  | cons y L1 ih =>
    obtain ⟨e1, e2⟩ := ih fun x hx => h1 x (List.mem_cons_of_mem _ hx)
    have hy := h1 y List.mem_cons_self
    simp only [List.cons_append]
    rw [List.takeWhile_cons_of_pos (by simpa using hy), List.dropWhile_cons_of_pos (by simpa using hy), e1, e2]
    exact ⟨rfl, rfl⟩

/-- Behind Due. -/
def DueR (B : Nat) (w0 : World) (db : Nat) (L : List (Int × Int)) (now : Int) (F : List (Nat × Obj)) (e : Ending) (w' : World) : Prop :=
  ∃ v S, e = .returned v ∧ SlIs 3 1 v (dueL now L).length (idsV (dueL now L)) S ∧ DialIs B w0 w' db (restL now L) (S ++ F)

/-- .. on the way. -/
def DueAt (B : Nat) (w0 : World) (db : Nat) (L : List (Int × Int)) (now : Int) (F : List (Nat × Obj)) (g : Nat) (a' : Act) (w' : World) : Prop :=
  ∃ L1 L2 v S, Fr 50 [(0, mp db), (5, v), (6, .complex .f64 (floatOfInt .f64 (rst now)) (floatOfInt .f64 (rnd now)))] a' ∧ L1 ++ L2 = L ∧ (∀ x ∈ L1, x.1 ≤ now) ∧ L2.length = g ∧ SlIs 3 1 v L1.length (idsV L1) S ∧ DialIs B w0 w' db L2 (S ++ F)

theorem uInts5 : Try.prog.underlying 35 = some (.slice 3) := by kernel_rfl
theorem infInt5 : (Try.prog.info? 3).map (fun i => (i.zero, i.size, i.bytes)) = some (some (.int .i64 0), 1, 8) := by kernel_rfl

set_option maxHeartbeats 2000000 in
set_option maxRecDepth 100000 in
theorem dl_due (h : DialIs B w0 w db L F) (now : Int) (hn : T64 now) (hL : L.length ≤ 5000) : Calls Try.prog 14 #[mp db, .int .i64 now] w (DueR B w0 db L now F) := by
  have cT : Hid (Calls Try.prog 20 #[.int .i64 now, .int .i64 4294967296] w fun e w' => e = .returned (.complex .f64 (floatOfInt .f64 (rst now)) (floatOfInt .f64 (rnd now))) ∧ ∃ n, w' = w.drewN n) := Lib.hid (turn_any now 4294967296 hn (by decide) (by decide) w)
  replace h := Lib.hid h
  go_enter Try.func14, Try.ntmps14
  go_wp2_with fail
  refine wp_scope_ghost 0 (DueAt B w0 db L now F) rfl ?_ ?_
  · rintro g a' w' ⟨L1, L2, v, S, hfr, hLL, hdue, hg, hs, hD⟩
    obtain ⟨f, rfl, hl⟩ := hfr.lit
    clear hfr h cT
    simp only [List.mem_cons, List.not_mem_nil, or_false, forall_eq_or_imp, forall_eq] at hl
    obtain ⟨f0, f5, f6⟩ := hl
    simp only [List.range, List.range.loop, List.map, f0, f5, f6]
    clear f0 f5 f6
    obtain ⟨M, hv, hF, mv, es, clk, h1, h2, h3⟩ := id hD
    have c0 := h1.at_.c0
    have hlen := h3.len
    have stop : Hid ((∀ x, L2.head? = some x → ¬ x.1 ≤ now) → DueR B w0 db L now F (.returned v) w') := Lib.hid fun k => by
      obtain ⟨e1, e2⟩ := take_due hdue k
      rw [hLL] at e1 e2
      refine ⟨v, S, rfl, ?_, ?_⟩
      · rw [e1]; exact hs
      · rw [e2]; exact hD
    cases M with
    | nil =>
      obtain ⟨a, cap, rfl⟩ := h1.at_.form
      obtain rfl : L2 = [] := List.eq_nil_of_length_eq_zero (by simpa using hlen.symm)
      have fin := Lib.hid (stop.out (by simp))
      simp only [List.length_nil] at c0
      obtain ⟨av, cv, rfl, -, -, -⟩ := hs.form
      clear h1 h2 h3 hlen hD hs stop hdue
      go_wp2_with fail
      simp only [Exit.jump]
      go_ret
      exact fin.out
    | cons m M =>
      have hi : (m :: M)[0]? = some m := rfl
      obtain ⟨L', rfl⟩ := h3.head h2 hi
      obtain ⟨gb, off, cap, rfl, hcell, -⟩ := h1.at_.head hi
      have cg := hcell 0 m hi
      rw [Nat.add_zero] at cg
      have c1 := h1.at_.m1 hi
      have c2 := h1.at_.m0 hi
      have hfew := h1.at_.few
      rw [List.length_cons] at c0 hfew
      have hb1 : (M.length : Int) ≤ 5000 := by omega
      have hb0 : (0 : Int) ≤ M.length := by omega
      have hb2 : (0 : Int) < (M.length : Int) + 1 := by omega
      have hmt := h1.at_.times m List.mem_cons_self
      have ct : Hid (Calls Try.prog 24 #[placeV now, placeV m.t] w' fun e w'' => e = .returned (.bool (decide (now < m.t))) ∧ w' = w'') := Lib.hid (isAhead_any now m.t hn hmt w')
      unfold placeV at ct c1
      by_cases hlt : now < m.t
      · rw [decide_eq_true hlt] at ct
        have fin := Lib.hid (stop.out (by intro x hx; simp only [List.head?_cons, Option.some.injEq] at hx; subst hx; simp only; omega))
        obtain ⟨av, cv, rfl, -, -, -⟩ := hs.form
        clear h1 h2 h3 hlen hD hs stop hdue hcell hfew hlt
        go_wp2_with fail
        refine ct.out.mono ?_
        rintro e w2 ⟨rfl, rfl⟩
        go_wp2_with fail
        simp only [Exit.jump]
        go_ret
        exact fin.out
      · rw [decide_eq_false hlt] at ct
        obtain ⟨i0, hi0, hz0, hz1, hz2⟩ := info_parts5 infInt5
        obtain ⟨A, hA, hback⟩ := h1.beside
        have hrd := Reads.one w' (.int .i64 m.id) 3
        have hL1 : L1.length < 5000 := by
          have := congrArg List.length hLL
          simp at this
          omega
        obtain ⟨v2, W2, S2, hr, hs2, hst2⟩ := run_append_sl (P := Try.prog) 35 0 3 i0 _ 1 8 uInts5 hi0 hz0 hz1 hz2 rfl hs (A := (w'.heap.size, .cells #[.int .i64 m.id] 3) :: A) (hA.alloc (.cells #[.int .i64 m.id] 3)) hrd (by intro u hu; obtain rfl := List.mem_singleton.1 hu; rfl) (by unfold maxLen; omega) (by omega)
        have hD2 := hback W2 S2 (hst2.sub (List.sublist_cons_self _ _))
        have d0 := hD2.at_.c0
        rw [List.length_cons] at d0
        have dg : W2.cell? ⟨gb, off, none⟩ = some (mp m.b) := by
          obtain ⟨gb', off', cap', e, hcell', -⟩ := hD2.at_.head hi
          simp only [Value.slice.injEq, Option.some.injEq, Addr.mk.injEq, and_true] at e
          obtain ⟨⟨rfl, rfl⟩, -, rfl⟩ := e
          have := hcell' 0 m hi
          rwa [Nat.add_zero] at this
        have dr := Lib.hid (drop_any hD2 h2 hi)
        have fin : Hid (∀ w3 a3, Fr 50 [(0, mp db), (5, v2), (6, .complex .f64 (floatOfInt .f64 (rst now)) (floatOfInt .f64 (rnd now)))] a3 → DropR B w0 db (m :: M) m (S2 ++ F) (.returned (.tuple #[])) w3 → ∃ k, k < g ∧ DueAt B w0 db L now F k a3 w3) := Lib.hid fun w3 a3 hf ⟨_, M', hv', hF', mv', es', clk', k1, k2, k3⟩ => by
          refine ⟨L'.length, by simp at hg; omega, L1 ++ [(m.t, m.id)], L', v2, S2, hf, by rw [← hLL]; simp, ?_, rfl, ?_, M', hv', hF', mv', es', clk', k3, k2, h3.tail k1⟩
          · intro x hx
            rcases List.mem_append.1 hx with hx | hx
            · exact hdue x hx
            · obtain rfl := List.mem_singleton.1 hx
              simp only; omega
          · rw [List.length_append, List.length_singleton, show idsV (L1 ++ [(m.t, m.id)]) = idsV L1 ++ [.int .i64 m.id] by simp [idsV]]
            exact hs2
        obtain ⟨av, cv, rfl, -, -, -⟩ := hs.form
        obtain ⟨av2, cv2, rfl, -, -, -⟩ := hs2.form
        clear h1 h2 h3 hlen hD hs stop hdue hcell hfew hlt hA hback hrd hD2 hst2 hs2 hLL
        go_wp2_with fail
        refine ct.out.mono ?_
        rintro e w2 ⟨rfl, rfl⟩
        go_wp2_with (at_builtin; refine wpList_append_go rfl (.tmp 29) (.tmp 39) 35 35 rfl _ _ rfl rfl hr ?_)
        refine dr.out.mono ?_
        rintro e w3 ⟨rfl, k⟩
        have f2 := Lib.hid (fun a3 hf => fin.out w3 a3 hf ⟨rfl, k⟩)
        clear k
        go_wp2_with fail
        refine wp_goto ?_
        exact ⟨rfl, f2.out _ ⟨rfl, rfl, by simp⟩⟩
  · intro H
    replace H := Lib.hid H
    go_wp2_with fail
    refine cT.out.mono ?_
    rintro e w1 ⟨rfl, n, rfl⟩
    go_wp2_with fail
    refine wp_label ?_
    go_step
    go_step
    exact H.out L.length _ _ ⟨[], L, .slice none 0 0, [], ⟨rfl, rfl, by simp⟩, rfl, by simp, rfl, SlIs.nil, h.out.drewN n⟩
end
end Go.Proofs.Ytldocgpnmfmnaaa
