/- A dial in memory: marks in blocks of their own, told by a slice of pointers. Which of two marks is ahead; which one is first below another one. -/
import Derived.Test.YtldocgpnmfmnaaaDlB
import Derived.Test.YtldocgpnmfmnaaaDlP
import Derived.Test.YtldocgpnmfmnaaaSl
namespace Go.Proofs.Ytldocgpnmfmnaaa
open Go.RowKit
set_option linter.unusedVariables false

abbrev mp (b : Nat) : Value := .pointer (some ⟨b, 0, none⟩)
def mkC (i : Nat) (m : Mk) : Array Value := #[.int .i64 m.id, placeV m.t, .int .i64 (i : Int)]
def mkO (i : Nat) (m : Mk) : Nat × Obj := (m.b, .cells (mkC i m) 59)
def mksO (M : List Mk) : List (Nat × Obj) := M.mapIdx mkO
def ptrs (M : List Mk) : List Value := M.map fun m => mp m.b
def dialO (hv : Value) (mv : Option Nat) : Obj := .cells #[hv, .map mv] 54

structure DlAt (B : Nat) (w0 w : World) (db : Nat) (M : List Mk) (hv : Value) (hF : List (Nat × Obj)) (mv : Option Nat) (R : List (Nat × Obj)) : Prop where
  sl : SlIs 55 1 hv M.length (ptrs M) hF
  st : St B w0 w (((db, dialO hv mv) :: (mksO M ++ R)) ++ hF)
  times : ∀ m ∈ M, T64 m.t
  few : M.length ≤ 5000

theorem ptrs_len (M : List Mk) : (ptrs M).length = M.length := by simp [ptrs]
theorem ptrs_one (M : List Mk) : ∀ u ∈ ptrs M, u.oneCell' = true := by
  intro u hu
  obtain ⟨m, _, rfl⟩ := List.mem_map.1 hu
  rfl
theorem mksO_mem {M : List Mk} {i : Nat} {m : Mk} (h : M[i]? = some m) : mkO i m ∈ mksO M := by
  refine List.mem_of_getElem? (i := i) ?_
  simp [mksO, h]

section
variable {B : Nat} {w0 w : World} {db : Nat} {M : List Mk} {hv : Value} {hF R : List (Nat × Obj)} {mv : Option Nat} {i j : Nat} {m o : Mk}

theorem DlAt.c0 (h : DlAt B w0 w db M hv hF mv R) : w.cell? ⟨db, 0, none⟩ = some hv := h.st.cell (List.mem_append_left _ List.mem_cons_self) rfl
theorem DlAt.c1 (h : DlAt B w0 w db M hv hF mv R) : w.cell? ⟨db, 1, none⟩ = some (.map mv) := h.st.cell (List.mem_append_left _ List.mem_cons_self) rfl
theorem DlAt.soft (h : DlAt B w0 w db M hv hF mv R) (i : Nat) : w.frozen? ⟨db, i, none⟩ = false := St.soft h.st (List.mem_append_left _ List.mem_cons_self) i
theorem DlAt.drewN (h : DlAt B w0 w db M hv hF mv R) (n : Nat) : DlAt B w0 (w.drewN n) db M hv hF mv R := ⟨h.sl, h.st.drewN n, h.times, h.few⟩
theorem DlAt.mem (h : DlAt B w0 w db M hv hF mv R) (hi : M[i]? = some m) : mkO i m ∈ ((db, dialO hv mv) :: (mksO M ++ R)) ++ hF :=
  List.mem_append_left _ (List.mem_cons_of_mem _ (List.mem_append_left _ (mksO_mem hi)))
theorem DlAt.m0 (h : DlAt B w0 w db M hv hF mv R) (hi : M[i]? = some m) : w.cell? ⟨m.b, 0, none⟩ = some (.int .i64 m.id) := h.st.cell (h.mem hi) rfl
theorem DlAt.m1 (h : DlAt B w0 w db M hv hF mv R) (hi : M[i]? = some m) : w.cell? ⟨m.b, 1, none⟩ = some (placeV m.t) := h.st.cell (h.mem hi) rfl
theorem DlAt.m2 (h : DlAt B w0 w db M hv hF mv R) (hi : M[i]? = some m) : w.cell? ⟨m.b, 2, none⟩ = some (.int .i64 (i : Int)) := h.st.cell (h.mem hi) rfl
theorem DlAt.msoft (h : DlAt B w0 w db M hv hF mv R) (hi : M[i]? = some m) (k : Nat) : w.frozen? ⟨m.b, k, none⟩ = false := St.soft h.st (h.mem hi) k
theorem DlAt.form (h : DlAt B w0 w db M hv hF mv R) : ∃ a cap, hv = .slice a M.length cap := by
  obtain ⟨a, cap, h1, -⟩ := h.sl.form
  exact ⟨a, cap, h1⟩
theorem ptrs_at {M : List Mk} (hi : M[i]? = some m) : (ptrs M)[i]? = some (mp m.b) := by simp [ptrs, hi]
theorem DlAt.head (h : DlAt B w0 w db M hv hF mv R) (hi : M[i]? = some m) :
    ∃ g off cap, hv = .slice (some ⟨g, off, none⟩) M.length cap ∧ (∀ j o, M[j]? = some o → w.cell? ⟨g, off + j, none⟩ = some (mp o.b)) ∧ ∀ j, w.frozen? ⟨g, j, none⟩ = false := by
  obtain ⟨a, cap, rfl, _, _, ha⟩ := h.sl.form
  obtain ⟨g, off, rfl⟩ := ha i (List.getElem?_eq_some_iff.1 hi).1
  exact ⟨g, off, cap, rfl, fun j o hj => h.sl.cellAt h.st (ptrs_at hj), fun j => h.sl.soft h.st j⟩

/-- A callee that only draws, in a region behind one that drew: the sums as the walk has them. -/
theorem quiet_add {P : Program} {f : FuncId} {args : Array Value} {v : Value} {a b : Nat} (h : Calls P f args (w.drewN (a + b)) fun e w' => e = .returned v ∧ ∃ n, w' = (w.drewN (a + b)).drewN n) :
    Calls P f args (w.drewN (a + b)) fun e w'' => e = .returned v ∧ ∃ n, w'' = w.drewN (a + n) :=
  h.mono fun _ _ ⟨h1, n, h2⟩ => ⟨h1, b + n, by rw [h2, World.drewN_drewN, Nat.add_assoc]⟩

set_option maxHeartbeats 1000000 in
/-- One mark against another one, wherever both lie. -/
theorem mark_ahead (m o : Mk) (hm : T64 m.t) (ho : T64 o.t) (w : World) (a0 : w.cell? ⟨m.b, 0, none⟩ = some (.int .i64 m.id)) (a1 : w.cell? ⟨m.b, 1, none⟩ = some (placeV m.t))
    (b0 : w.cell? ⟨o.b, 0, none⟩ = some (.int .i64 o.id)) (b1 : w.cell? ⟨o.b, 1, none⟩ = some (placeV o.t)) :
    Calls Try.prog 26 #[mp m.b, mp o.b] w fun e w' => e = .returned (.bool (decide (ahead m o))) ∧ ∃ n, w' = w.drewN n := by
  have cl : Hid (∀ W, Calls Try.prog 24 #[placeV m.t, placeV o.t] W fun e w' => e = .returned (.bool (decide (m.t < o.t))) ∧ ∃ n, w' = W.drewN n) := Lib.hid (fun W => (isAhead_any m.t o.t hm ho W).mono fun _ _ ⟨h1, h2⟩ => ⟨h1, 0, h2.symm⟩)
  obtain ⟨mb, mi, mt⟩ := m
  obtain ⟨ob, oi, ot⟩ := o
  simp only at *
  have h1 := @order_re mt ot
  have h2 := order_im hm ho
  have e1 := time_eq mt
  have e2 := time_eq ot
  unfold placeV at *
  generalize floatOfInt .f64 (rst mt) = x1 at *
  generalize floatOfInt .f64 (rst ot) = x2 at *
  generalize floatOfInt .f64 (rnd mt) = y1 at *
  generalize floatOfInt .f64 (rnd ot) = y2 at *
  by_cases h : mt = ot
  · have e : decide (ahead ⟨mb, mi, mt⟩ ⟨ob, oi, ot⟩) = decide (mi < oi) := by
      unfold ahead; simp only [h]; simp
    rw [e]
    have k1 : FloatKind.f64.format.order x1 x2 = some .eq := by rw [h1, h]; simp
    have k2 : FloatKind.f64.format.order y1 y2 = some .eq := by rw [h2, h]; simp
    clear e h1 h2 e1 e2
    go_enter Try.func26, Try.ntmps26
    go_wp2_with fail
    go_quiet (fail)
    go_wp2_with fail
    go_quiet (fail)
    go_wp2_with fail
    go_ret
    exact ⟨rfl, _, World.drewN_drewN _ _ _⟩
  · have e : decide (ahead ⟨mb, mi, mt⟩ ⟨ob, oi, ot⟩) = decide (mt < ot) := by
      unfold ahead; simp only [h]; simp
    rw [e]
    by_cases hr : rnd mt = rnd ot
    · have k1 : (FloatKind.f64.format.order x1 x2 == some .eq) = false := by
        rw [h1]
        have : compare (rst mt) (rst ot) ≠ .eq := fun e => absurd (Int.compare_eq_eq.1 e) (by omega)
        simp [this]
      clear e h1 h2 e1 e2 hr
      go_enter Try.func26, Try.ntmps26
      go_wp2_with fail
      go_quiet (fail)
      go_wp2_with fail
      go_quiet ((go_at_call 24; exact quiet_add (cl.out _)))
      go_wp2_with fail
      go_ret
      exact ⟨rfl, _, World.drewN_drewN _ _ _⟩
    · have k1 : (FloatKind.f64.format.order y1 y2 == some .eq) = false := by
        rw [h2]
        have : compare (rnd mt) (rnd ot) ≠ .eq := fun e => hr (Int.compare_eq_eq.1 e)
        simp [this]
      clear e h1 h2 e1 e2 hr
      go_enter Try.func26, Try.ntmps26
      go_wp2_with fail
      go_quiet (fail)
      go_wp2_with fail
      go_quiet ((go_at_call 24; exact quiet_add (cl.out _)))
      go_wp2_with fail
      go_ret
      exact ⟨rfl, _, World.drewN_drewN _ _ _⟩
end
end Go.Proofs.Ytldocgpnmfmnaaa
