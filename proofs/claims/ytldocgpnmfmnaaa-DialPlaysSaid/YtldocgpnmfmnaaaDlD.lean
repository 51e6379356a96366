/- Dials: the first mark below one; two marks exchanged. -/
import Derived.Test.YtldocgpnmfmnaaaDlC
import Derived.Deep.RegionHeld3
namespace Go.Proofs.Ytldocgpnmfmnaaa
open Go.RowKit
set_option linter.unusedVariables false

section
variable {B : Nat} {w0 w : World} {db : Nat} {M : List Mk} {hv : Value} {hF R : List (Nat × Obj)} {mv : Option Nat} {i j p : Nat} {m o : Mk}

theorem DlAt.ahead (h : DlAt B w0 w db M hv hF mv R) (hi : M[i]? = some m) (hj : M[j]? = some o) (k : Nat) :
    Calls Try.prog 26 #[mp m.b, mp o.b] (w.drewN k) fun e w' => e = .returned (.bool (decide (ahead m o))) ∧ ∃ n, w' = (w.drewN k).drewN n :=
  mark_ahead m o (h.times _ (List.mem_of_getElem? hi)) (h.times _ (List.mem_of_getElem? hj)) _ ((h.drewN k).m0 hi) ((h.drewN k).m1 hi) ((h.drewN k).m0 hj) ((h.drewN k).m1 hj)

def belowV (M : List Mk) (p : Nat) : Value := match below M p with | none => .pointer none | some c => mp (V M c).b

set_option maxHeartbeats 1000000 in
theorem firstBelow_any (h : DlAt B w0 w db M hv hF mv R) (hi : M[p]? = some m) :
    Calls Try.prog 28 #[mp db, mp m.b] w fun e w' => e = .returned (belowV M p) ∧ ∃ n, w' = w.drewN n := by
  have c0 := h.c0
  have ca := h.m2 hi
  have hp := (List.getElem?_eq_some_iff.1 hi).1
  have hfew := h.few
  obtain ⟨g, off, cap, rfl, hcell, -⟩ := h.head hi
  have p0 : (0 : Int) ≤ p := by omega
  have p1 : (p : Int) ≤ 5000 := by omega
  by_cases hl : M.length ≤ 2 * p + 1
  · have hl' : (M.length : Int) ≤ 2 * p + 1 := by omega
    have e : belowV M p = .pointer none := by unfold belowV below; rw [if_pos hl]
    rw [e]
    clear h hcell hl hfew hp hi e
    go_enter Try.func28, Try.ntmps28
    go_wp2_with fail
    go_quiet (fail)
    go_wp2_with fail
    go_ret
    exact ⟨rfl, _, rfl⟩
  · have hl1 : 2 * (p : Int) + 1 < M.length := by omega
    have hl2 : (M.length : Int) ≤ 5000 := by omega
    have gl := V_get (M := M) (i := 2 * p + 1) (by omega)
    have cl : w.cell? ⟨g, off + (2 * p + 1), none⟩ = some (mp (V M (2 * p + 1)).b) := hcell _ _ gl
    by_cases hr : 2 * p + 2 < M.length
    · have hr1 : 2 * (p : Int) + 2 < M.length := by omega
      have gr := V_get (M := M) (i := 2 * p + 2) hr
      have cr : w.cell? ⟨g, off + (2 * p + 2), none⟩ = some (mp (V M (2 * p + 2)).b) := hcell _ _ gr
      have cm := h.ahead gr gl
      have e : belowV M p = if ahead (V M (2 * p + 2)) (V M (2 * p + 1)) then mp (V M (2 * p + 2)).b else mp (V M (2 * p + 1)).b := by
        unfold belowV below
        rw [if_neg hl]
        by_cases ha : Go.Proofs.Ytldocgpnmfmnaaa.ahead (V M (2 * p + 2)) (V M (2 * p + 1))
        · rw [if_pos ⟨hr, ha⟩, if_pos ha]
        · rw [if_neg (fun h => ha h.2), if_neg ha]
      rw [e]
      clear h hcell hl hfew hp hi e gl gr hr
      generalize V M (2 * p + 1) = l at *
      generalize V M (2 * p + 2) = r at *
      replace cm := Lib.hid cm
      by_cases ha : Go.Proofs.Ytldocgpnmfmnaaa.ahead r l
      · rw [decide_eq_true ha] at cm
        rw [if_pos ha]
        clear ha
        go_enter Try.func28, Try.ntmps28
        go_wp2_with fail
        go_quiet (fail)
        go_wp2_with fail
        go_quiet ((go_at_call 26; exact quiet_add (cm.out _)))
        go_wp2_with fail
        go_ret
        exact ⟨rfl, _, rfl⟩
      · rw [decide_eq_false ha] at cm
        rw [if_neg ha]
        clear ha
        go_enter Try.func28, Try.ntmps28
        go_wp2_with fail
        go_quiet (fail)
        go_wp2_with fail
        go_quiet ((go_at_call 26; exact quiet_add (cm.out _)))
        go_wp2_with fail
        go_ret
        exact ⟨rfl, _, rfl⟩
    · have hr1 : decide (2 * (p : Int) + 2 < M.length) = false := by simp; omega
      have e : belowV M p = mp (V M (2 * p + 1)).b := by
        unfold belowV below
        rw [if_neg hl, if_neg (fun h => hr h.1)]
      rw [e]
      clear h hcell hl hfew hp hi e gl hr
      generalize V M (2 * p + 1) = l at *
      go_enter Try.func28, Try.ntmps28
      go_wp2_with fail
      go_quiet (fail)
      go_wp2_with fail
      go_quiet (fail)
      go_wp2_with fail
      go_ret
      exact ⟨rfl, _, rfl⟩

/-! ### two marks exchanged -/
/-- A cell of a block turned, told by its place in a piece of the list. -/
theorem St.setAt {X L Y : List (Nat × Obj)} {b : Nat} {c : Array Value} {T : TypeId} {fr : Nat × Nat} (h : St B w0 w (X ++ (L ++ Y))) (hl : L[i]? = some (b, .cells c T fr)) (k : Nat) (v : Value) :
    St B w0 (w.setCell ⟨b, k, none⟩ v) (X ++ (L.set i (b, .cells (c.setIfInBounds k v) T fr) ++ Y)) := by
  obtain ⟨hlt, he⟩ := List.getElem?_eq_some_iff.1 hl
  have hsplit : L = L.take i ++ (b, .cells c T fr) :: L.drop (i + 1) := by rw [← he, List.getElem_cons_drop, List.take_append_drop]
  have hset : ∀ x, L.set i x = L.take i ++ x :: L.drop (i + 1) := fun x => List.set_eq_take_append_cons_drop.trans (if_pos hlt)
  have e1 : ∀ x, X ++ ((L.take i ++ x :: L.drop (i + 1)) ++ Y) = (X ++ L.take i) ++ x :: (L.drop (i + 1) ++ Y) := fun x => by simp
  rw [hset, e1]
  rw [hsplit, e1] at h
  exact h.set k v

theorem mksO_get (h : M[i]? = some m) : (mksO M)[i]? = some (mkO i m) := by simp [mksO, h]
theorem mksO_len : (mksO M).length = M.length := by simp [mksO]

/-- The marks' cells behind the first half of an exchange. -/
def halfO (M : List Mk) (i j : Nat) (m o : Mk) : List (Nat × Obj) := ((mksO M).set i (m.b, .cells (mkC j m) 59)).set j (o.b, .cells (mkC i o) 59)
theorem halfO_j (hi : M[i]? = some m) (hj : M[j]? = some o) : ((mksO M).set i (m.b, .cells (mkC j m) 59))[j]? = some (mkO j o) := by
  have hil := (List.getElem?_eq_some_iff.1 hi).1
  rw [List.getElem?_set, mksO_len, mksO_get hj]
  by_cases e : i = j
  · subst e
    rw [hi] at hj; cases hj
    rw [if_pos rfl, if_pos hil]; rfl
  · rw [if_neg e]
theorem halfO_get (hi : M[i]? = some m) (hj : M[j]? = some o) (k : Nat) : (halfO M i j m o)[k]? = if k = j then some (o.b, .cells (mkC i o) 59) else if k = i then some (m.b, .cells (mkC j m) 59) else (mksO M)[k]? := by
  have hil := (List.getElem?_eq_some_iff.1 hi).1
  have hjl := (List.getElem?_eq_some_iff.1 hj).1
  unfold halfO
  rw [List.getElem?_set, List.length_set, mksO_len]
  by_cases e : k = j
  · subst e; simp [hjl]
  · rw [if_neg (Ne.symm e), if_neg e, List.getElem?_set, mksO_len]
    by_cases e2 : k = i
    · subst e2; simp [hil]
    · rw [if_neg (Ne.symm e2), if_neg e2]
theorem halfO_i (hi : M[i]? = some m) (hj : M[j]? = some o) : (halfO M i j m o)[i]? = some (m.b, .cells (mkC j m) 59) := by
  rw [halfO_get hi hj]
  by_cases e : i = j
  · subst e
    rw [hi] at hj; cases hj
    rw [if_pos rfl]
  · rw [if_neg e, if_pos rfl]
theorem halfO_perm (hi : M[i]? = some m) (hj : M[j]? = some o) : (halfO M i j m o).Perm (mksO (swapL M i j)) := by
  have hil := (List.getElem?_eq_some_iff.1 hi).1
  have hjl := (List.getElem?_eq_some_iff.1 hj).1
  have hlen : (halfO M i j m o).length = M.length := by simp [halfO, mksO_len]
  have gi := (List.getElem?_eq_some_iff.1 (halfO_i hi hj)).2
  have gj := (List.getElem?_eq_some_iff.1 (by rw [halfO_get hi hj, if_pos rfl] : (halfO M i j m o)[j]? = some (o.b, .cells (mkC i o) 59))).2
  have hp : (((halfO M i j m o).set i ((halfO M i j m o)[j]'(by omega))).set j ((halfO M i j m o)[i]'(by omega))).Perm (halfO M i j m o) := List.set_set_perm (by omega) (by omega)
  rw [gi, gj] at hp
  refine hp.symm.trans (List.Perm.of_eq ?_)
  apply List.ext_getElem?
  intro k
  have hsw : (mksO (swapL M i j))[k]? = if k < M.length then some (mkO k (V (swapL M i j) k)) else none := by
    by_cases hk : k < M.length
    · rw [if_pos hk]
      exact mksO_get (V_get (by rw [swapL_len]; exact hk))
    · rw [if_neg hk]
      exact List.getElem?_eq_none (by rw [mksO_len, swapL_len]; omega)
  rw [hsw, V_swap hil hjl, List.getElem?_set, List.length_set, hlen, List.getElem?_set, hlen, halfO_get hi hj]
  by_cases e : k = j
  · subst e
    rw [if_pos rfl, if_pos hjl, if_pos rfl, if_pos hjl, V_eq hi]; rfl
  · rw [if_neg (Ne.symm e), if_neg e]
    by_cases e2 : k = i
    · subst e2
      rw [if_pos rfl, if_pos hil, if_pos rfl, if_pos hil, V_eq hj, if_neg e]; rfl
    · rw [if_neg (Ne.symm e2), if_neg e2, if_neg e, if_neg e2]
      by_cases hk : k < M.length
      · rw [if_pos hk]; exact mksO_get (V_get hk)
      · rw [if_neg hk]; exact List.getElem?_eq_none (by rw [mksO_len]; omega)
theorem ptrs_swap (hi : M[i]? = some m) (hj : M[j]? = some o) : ((ptrs M).set j (mp m.b)).set i (mp o.b) = ptrs (swapL M i j) := by
  have hil := (List.getElem?_eq_some_iff.1 hi).1
  have hjl := (List.getElem?_eq_some_iff.1 hj).1
  apply List.ext_getElem?
  intro k
  by_cases hk : k < M.length
  · rw [ptrs_at (V_get (M := swapL M i j) (by rw [swapL_len]; exact hk)), V_swap hil hjl, List.getElem?_set, List.length_set, ptrs_len, List.getElem?_set, ptrs_len, ptrs_at (V_get hk), V_eq hi, V_eq hj]
    by_cases e2 : k = i
    · subst e2
      rw [if_pos rfl, if_pos hil]
      by_cases e : k = j
      · subst e
        rw [hi] at hj; cases hj
        rw [if_pos rfl]
      · rw [if_neg e, if_pos rfl]
    · rw [if_neg (Ne.symm e2)]
      by_cases e : k = j
      · subst e
        rw [if_pos rfl, if_pos hjl, if_pos rfl]
      · rw [if_neg (Ne.symm e), if_neg e, if_neg e2]
  · rw [List.getElem?_eq_none (by simp [ptrs_len]; omega), List.getElem?_eq_none (by rw [ptrs_len, swapL_len]; omega)]

/-- What the walk is told of the worlds on the way. -/
structure SwapF (B : Nat) (w0 w : World) (db : Nat) (M : List Mk) (hv : Value) (mv : Option Nat) (R : List (Nat × Obj)) (i j g off mb ob : Nat) (W1 W2 W3 W4 : World) : Prop where
  o2 : W1.cell? ⟨ob, 2, none⟩ = some (.int .i64 (j : Int))
  of : W1.frozen? ⟨ob, 2, none⟩ = false
  d0 : W2.cell? ⟨db, 0, none⟩ = some hv
  m2 : W2.cell? ⟨mb, 2, none⟩ = some (.int .i64 (j : Int))
  o2' : W2.cell? ⟨ob, 2, none⟩ = some (.int .i64 (i : Int))
  gj : W2.cell? ⟨g, off + j, none⟩ = some (mp ob)
  gjf : W2.frozen? ⟨g, off + j, none⟩ = false
  d0' : W3.cell? ⟨db, 0, none⟩ = some hv
  m2' : W3.cell? ⟨mb, 2, none⟩ = some (.int .i64 (j : Int))
  o2'' : W3.cell? ⟨ob, 2, none⟩ = some (.int .i64 (i : Int))
  gi : W3.cell? ⟨g, off + i, none⟩ = some (mp mb)
  gif : W3.frozen? ⟨g, off + i, none⟩ = false
  d04 : W4.cell? ⟨db, 0, none⟩ = some hv
  m24 : W4.cell? ⟨mb, 2, none⟩ = some (.int .i64 (j : Int))
  o24 : W4.cell? ⟨ob, 2, none⟩ = some (.int .i64 (i : Int))
  fin : ∃ hF', DlAt B w0 W4 db (swapL M i j) hv hF' mv R

theorem swap_facts (h : DlAt B w0 w db M hv hF mv R) (hi : M[i]? = some m) (hj : M[j]? = some o) {g off cap : Nat} (he : hv = .slice (some ⟨g, off, none⟩) M.length cap) :
    SwapF B w0 w db M hv mv R i j g off m.b o.b (w.setCell ⟨m.b, 2, none⟩ (.int .i64 (j : Int))) ((w.setCell ⟨m.b, 2, none⟩ (.int .i64 (j : Int))).setCell ⟨o.b, 2, none⟩ (.int .i64 (i : Int)))
      (((w.setCell ⟨m.b, 2, none⟩ (.int .i64 (j : Int))).setCell ⟨o.b, 2, none⟩ (.int .i64 (i : Int))).setCell ⟨g, off + j, none⟩ (mp m.b))
      ((((w.setCell ⟨m.b, 2, none⟩ (.int .i64 (j : Int))).setCell ⟨o.b, 2, none⟩ (.int .i64 (i : Int))).setCell ⟨g, off + j, none⟩ (mp m.b)).setCell ⟨g, off + i, none⟩ (mp o.b)) := by
  subst he
  have s0 : St B w0 w ([(db, dialO (.slice (some ⟨g, off, none⟩) M.length cap) mv)] ++ (mksO M ++ (R ++ hF))) := by have := h.st; simpa using this
  have s1 := s0.setAt (mksO_get hi) 2 (.int .i64 (j : Int))
  have s2 := s1.setAt (halfO_j hi hj) 2 (.int .i64 (i : Int))
  have s1' : St B w0 (w.setCell ⟨m.b, 2, none⟩ (.int .i64 (j : Int))) ([(db, dialO (.slice (some ⟨g, off, none⟩) M.length cap) mv)] ++ ((mksO M).set i (m.b, .cells (mkC j m) 59) ++ (R ++ hF))) := s1
  have s2' : St B w0 ((w.setCell ⟨m.b, 2, none⟩ (.int .i64 (j : Int))).setCell ⟨o.b, 2, none⟩ (.int .i64 (i : Int))) (((db, dialO (.slice (some ⟨g, off, none⟩) M.length cap) mv) :: (halfO M i j m o ++ R)) ++ hF) := by
    have : St B w0 ((w.setCell ⟨m.b, 2, none⟩ (.int .i64 (j : Int))).setCell ⟨o.b, 2, none⟩ (.int .i64 (i : Int))) ([(db, dialO (.slice (some ⟨g, off, none⟩) M.length cap) mv)] ++ (halfO M i j m o ++ (R ++ hF))) := s2
    simpa using this
  obtain ⟨F3, h3, s3, e3⟩ := h.sl.set s2' j (mp m.b)
  obtain ⟨F4, h4, s4, e4⟩ := h3.set s3 i (mp o.b)
  have hjm : (o.b, .cells (mkC i o) 59) ∈ halfO M i j m o := List.mem_of_getElem? (i := j) (by rw [halfO_get hi hj, if_pos rfl])
  have him : (m.b, .cells (mkC j m) 59) ∈ halfO M i j m o := List.mem_of_getElem? (halfO_i hi hj)
  have hjx : ∀ {F : List (Nat × Obj)}, (o.b, Obj.cells (mkC i o) 59) ∈ ((db, dialO (.slice (some ⟨g, off, none⟩) M.length cap) mv) :: (halfO M i j m o ++ R)) ++ F := fun {F} => List.mem_append_left _ (List.mem_cons_of_mem _ (List.mem_append_left _ hjm))
  have hix : ∀ {F : List (Nat × Obj)}, (m.b, Obj.cells (mkC j m) 59) ∈ ((db, dialO (.slice (some ⟨g, off, none⟩) M.length cap) mv) :: (halfO M i j m o ++ R)) ++ F := fun {F} => List.mem_append_left _ (List.mem_cons_of_mem _ (List.mem_append_left _ him))
  have hdx : ∀ {F : List (Nat × Obj)}, (db, dialO (.slice (some ⟨g, off, none⟩) M.length cap) mv) ∈ ((db, dialO (.slice (some ⟨g, off, none⟩) M.length cap) mv) :: (halfO M i j m o ++ R)) ++ F := fun {F} => List.mem_append_left _ List.mem_cons_self
  have hm1 : mkO j o ∈ [(db, dialO (.slice (some ⟨g, off, none⟩) M.length cap) mv)] ++ ((mksO M).set i (m.b, .cells (mkC j m) 59) ++ (R ++ hF)) := List.mem_append_right _ (List.mem_append_left _ (List.mem_of_getElem? (halfO_j hi hj)))
  have xi : ((ptrs M).set j (mp m.b))[i]? = some (mp m.b) := by
    rw [List.getElem?_set, ptrs_len, ptrs_at hi]
    by_cases e : j = i
    · rw [if_pos e, if_pos (List.getElem?_eq_some_iff.1 hj).1]
    · rw [if_neg e]
  exact
    { o2 := s1'.cell hm1 rfl
      of := St.soft s1' hm1 2
      d0 := s2'.cell hdx rfl
      m2 := s2'.cell hix rfl
      o2' := s2'.cell hjx rfl
      gj := h.sl.cellAt s2' (ptrs_at hj)
      gjf := h.sl.soft s2' (off + j)
      d0' := s3.cell hdx rfl
      m2' := s3.cell hix rfl
      o2'' := s3.cell hjx rfl
      gi := h3.cellAt s3 xi
      gif := h3.soft s3 (off + i)
      d04 := s4.cell hdx rfl
      m24 := s4.cell hix rfl
      o24 := s4.cell hjx rfl
      fin := ⟨F4, by
        refine ⟨?_, ?_, ?_, ?_⟩
        · rw [swapL_len, ← ptrs_swap hi hj]; exact h4
        · refine s4.perm ?_
          exact ((((halfO_perm hi hj).append_right R).cons _).append_right F4)
        · intro x hx
          exact h.times x ((swapL_perm (List.getElem?_eq_some_iff.1 hi).1 (List.getElem?_eq_some_iff.1 hj).1).mem_iff.1 hx)
        · rw [swapL_len]; exact h.few⟩ }

/-- Behind a call without results: the marks lie as M' says. -/
def HeapR (B : Nat) (w0 : World) (db : Nat) (M' : List Mk) (hv : Value) (mv : Option Nat) (R : List (Nat × Obj)) (e : Ending) (w' : World) : Prop :=
  e = .returned (.tuple #[]) ∧ ∃ hF', DlAt B w0 w' db M' hv hF' mv R

set_option maxHeartbeats 2000000 in
theorem swap_any (h : DlAt B w0 w db M hv hF mv R) (hi : M[i]? = some m) (hj : M[j]? = some o) :
    Calls Try.prog 27 #[mp db, mp m.b, mp o.b] w (HeapR B w0 db (swapL M i j) hv mv R) := by
  have cm := h.m2 hi
  have co := h.m2 hj
  have fm := h.msoft hi 2
  have hp := (List.getElem?_eq_some_iff.1 hi).1
  have hq := (List.getElem?_eq_some_iff.1 hj).1
  have hfew := h.few
  obtain ⟨g, off, cap, rfl, -, -⟩ := h.head hi
  obtain ⟨o2, of, d0, m2, o2', gj, gjf, d0', m2', o2'', gi, gif, d04, m24, o24, fin⟩ := swap_facts h hi hj rfl
  have p0 : (0 : Int) ≤ i := by omega
  have p1 : (i : Int) < M.length := by omega
  have p2 : (0 : Int) ≤ j := by omega
  have p3 : (j : Int) < M.length := by omega
  replace fin := Lib.hid fin
  clear h hi hj
  go_enter Try.func27, Try.ntmps27
  go_wp2_with fail
  go_region
  clear o2 of cm co fm
  generalize (w.setCell ⟨m.b, 2, none⟩ (.int .i64 (j : Int))).setCell ⟨o.b, 2, none⟩ (.int .i64 (i : Int)) = W2 at *
  go_wp2_with fail
  go_region
  go_wp2_with fail
  obtain ⟨F', hF⟩ := fin.out
  exact bodyPost_end (results_none rfl _ _ _) rfl ⟨rfl, F', hF.drewN 2⟩
end
end Go.Proofs.Ytldocgpnmfmnaaa
