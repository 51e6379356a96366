/- An end of a row: what is taken off it and laid back; an ID laid in its place, lifted out of it. -/
import Derived.Test.YtmmagapggmcceaaRingD
import Derived.Deep.DeepCutAuto
import Derived.Deep.CutBlock
import Derived.Deep.Fields
import Derived.StillTailTactics
import Derived.Laws.EntriesVeiled
namespace Go.Proofs.Ytmmagapggmcceaa
open Go.RowKit
set_option linter.unusedVariables false
set_option linter.unusedSectionVars false
set_option maxRecDepth 100000

theorem RingIs.setF {B : Nat} {w0 w : World} {rb t : Nat} {l : List Int} {c : Array Value} {T : TypeId} {F : List (Nat × Obj)} (h : RingIs B w0 w rb l ((t, .cells c T) :: F)) (i : Nat) (v : Value) :
    RingIs B w0 (w.setCell ⟨t, i, none⟩ v) rb l ((t, .cells (c.setIfInBounds i v) T) :: F) := by
  obtain ⟨X, h1, h2⟩ := h.st
  exact h2 _ _ (St.perm ((h1.perm List.perm_middle).set0 i v) List.perm_middle.symm)
theorem RingIs.softF {B : Nat} {w0 w : World} {rb t : Nat} {l : List Int} {c : Array Value} {T : TypeId} {F : List (Nat × Obj)} (h : RingIs B w0 w rb l ((t, .cells c T) :: F)) (i : Nat) : w.frozen? ⟨t, i, none⟩ = false := by
  obtain ⟨X, h1, h2⟩ := h.st
  exact St.soft (h1.perm List.perm_middle) List.mem_cons_self i

/-- A row as it is seen from its front, or from its back. -/
def sideL (s : Bool) (v : List Int) : List Int := if s then v else v.reverse
theorem side_len (s : Bool) (v : List Int) : (sideL s v).length = v.length := by cases s <;> simp [sideL]
theorem side_side (s : Bool) (v : List Int) : sideL s (sideL s v) = v := by cases s <;> simp [sideL]

abbrev EndV (tk pt rb : Nat) : Value := .agg #[.func (.func tk) #[rptr rb] #[], .func (.func pt) #[rptr rb] #[]]
abbrev endO (tk pt rb : Nat) : Obj := .cells #[.func (.func tk) #[rptr rb] #[], .func (.func pt) #[rptr rb] #[]] 74
/-- What takes off an end, and what lays there. -/
structure EndOk (rb : Nat) (s : Bool) (tk pt : Nat) : Prop where
  goT : ∀ args w, (callFunc tk args).run Try.prog w = .ok (.enter tk args) w
  goP : ∀ args w, (callFunc pt args).run Try.prog w = .ok (.enter pt args) w
  take : ∀ B w0 w v F, RingIs B w0 w rb (sideL s v) F → Calls Try.prog tk #[rptr rb] w fun e w' => e = .returned (shiftR v) ∧ RingIs B w0 w' rb (sideL s v.tail) F
  put : ∀ B w0 w v F x, RingIs B w0 w rb (sideL s v) F → v.length < 536870912 → Calls Try.prog pt #[rptr rb, .int .i64 x] w fun e w' => e = .returned (.tuple #[]) ∧ RingIs B w0 w' rb (sideL s (x :: v)) F
theorem front_ok (rb : Nat) : EndOk rb true 56 59 :=
  ⟨goesIn Try.func56 (by kernel_rfl) rfl, goesIn Try.func59 (by kernel_rfl) rfl, fun B w0 w v F h => ring_shift h, fun B w0 w v F x h hl => ring_unshift h hl x⟩
theorem back_ok (rb : Nat) : EndOk rb false 60 58 :=
  ⟨goesIn Try.func60 (by kernel_rfl) rfl, goesIn Try.func58 (by kernel_rfl) rfl,
    fun B w0 w v F h => by
      have := ring_pop h
      have e1 : popR (sideL false v) = shiftR v := by cases v <;> simp [sideL, popR, shiftR]
      have e2 : (sideL false v).dropLast = sideL false v.tail := by cases v <;> simp [sideL]
      rw [e1, e2] at this
      exact this,
    fun B w0 w v F x h hl => by
      have := ring_push h (by rw [side_len]; exact hl) x
      have e1 : sideL false v ++ [x] = sideL false (x :: v) := by simp [sideL]
      rw [e1] at this
      exact this⟩

theorem ints_setA (l : List Int) (i : Nat) (x : Int) : (ints l).toArray.setIfInBounds i (.int .i64 x) = (ints (l.set i x)).toArray := by rw [List.setIfInBounds_toArray, ints_set]

section
variable {B : Nat} {w0 w : World} {rb tk pt : Nat} {s : Bool} {v : List Int} {F : List (Nat × Obj)}
/-- What is taken lies in t. -/
def takenL (v : List Int) (i n : Nat) : List Int := v.take i ++ List.replicate (n - i) 0
theorem taken_zero (v : List Int) (n : Nat) : takenL v 0 n = List.replicate n 0 := by simp [takenL]
theorem taken_all (v : List Int) (n : Nat) : takenL v n n = v.take n := by simp [takenL]
theorem taken_len {v : List Int} {i n : Nat} (h : i ≤ n) (h2 : n ≤ v.length) : (takenL v i n).length = n := by
  unfold takenL
  rw [List.length_append, List.length_take, List.length_replicate]
  omega
theorem taken_set {v : List Int} {i n : Nat} {x : Int} (h : i < n) (h2 : n ≤ v.length) (hx : v[i]? = some x) : (takenL v i n).set i x = takenL v (i + 1) n := by
  unfold takenL
  have hl : (v.take i).length = i := by rw [List.length_take]; omega
  rw [List.set_append_right _ _ (by omega), hl, Nat.sub_self, show n - i = (n - (i + 1)) + 1 by omega, List.replicate_succ, List.set_cons_zero, List.take_add_one, hx, List.append_assoc]
  rfl
def TakeJ (B : Nat) (w0 : World) (rb : Nat) (s : Bool) (tk pt : Nat) (v : List Int) (n eb t : Nat) (F : List (Nat × Obj)) (g : Nat) (a' : Act) (w' : World) : Prop :=
  ∃ i : Nat, i + g = n ∧ Fr 24 [(1, .int .i64 n), (2, .pointer (some ⟨eb, 0, none⟩)), (5, .slice (some ⟨t, 0, none⟩) n n), (6, .int .i64 i)] a' ∧ RingIs B w0 w' rb (sideL s (v.drop i)) ((t, intsObj (takenL v i n)) :: (eb, endO tk pt rb) :: F)

set_option maxHeartbeats 2000000 in
theorem takeOff_any (ok : EndOk rb s tk pt) (h : RingIs B w0 w rb (sideL s v) F) {n : Nat} (hn : n ≤ v.length) (hv : v.length ≤ 1000000) :
    Calls Try.prog 49 #[EndV tk pt rb, .int .i64 n] w fun e w' => ∃ t eb, e = .returned (.slice (some ⟨t, 0, none⟩) n n) ∧ RingIs B w0 w' rb (sideL s (v.drop n)) ((t, intsObj (v.take n)) :: (eb, endO tk pt rb) :: F) := by
  obtain ⟨goT, -, cT, -⟩ := ok
  replace cT := Lib.hid cT
  have hmk := mk_ints (w.alloc (endO tk pt rb)) n (by omega) (by omega)
  rw [Int.toNat_natCast] at hmk
  have h1 := (h.alloc (endO tk pt rb)).alloc (intsObj (List.replicate n 0))
  rw [← taken_zero v n] at h1
  replace h1 := Lib.hid h1
  clear h
  go_enter Try.func49, Try.ntmps49
  go_wp2_with fail
  refine wp_scope_ghost 0 (TakeJ B w0 rb s tk pt v n w.heap.size (w.alloc (endO tk pt rb)).heap.size F) rfl ?_ ?_
  · rintro g a' wr ⟨i, hi, hfr, hR⟩
    generalize w.heap.size = eb at *
    generalize (w.alloc (endO tk pt rb)).heap.size = t at *
    obtain ⟨f, rfl, hl'⟩ := hfr.lit
    clear hfr h1 hmk
    simp only [List.mem_cons, List.not_mem_nil, or_false, forall_eq_or_imp, forall_eq] at hl'
    obtain ⟨f1, f2, f5, f6⟩ := hl'
    simp only [List.range, List.range.loop, List.map, f1, f2, f5, f6]
    clear f1 f2 f5 f6
    have c0 : wr.cell? ⟨eb, 0, none⟩ = some (.func (.func tk) #[rptr rb] #[]) := hR.cell (b := eb) (List.mem_cons_of_mem _ List.mem_cons_self) rfl
    by_cases hlt : i < n
    · have hx : v[i]? = some v[i] := List.getElem?_eq_getElem (by omega)
      generalize v[i] = x at hx
      have hd : v.drop i = x :: v.drop (i + 1) := by
        have h1 := (List.getElem?_eq_some_iff.1 hx)
        obtain ⟨h2, h3⟩ := h1
        rw [List.drop_eq_getElem_cons h2, h3]
      have cc := cT.out _ _ _ _ _ hR
      rw [hd] at cc
      have cc2 : Hid (Calls Try.prog tk #[rptr rb] wr fun e w' => e = .returned (.tuple #[.int .i64 x, .bool true]) ∧ RingIs B w0 w' rb (sideL s (v.drop (i + 1))) ((t, intsObj (takenL v i n)) :: (eb, endO tk pt rb) :: F)) := Lib.hid cc
      clear cc hR
      have hi0 : (0 : Int) ≤ i := by omega
      have hi1 : (i : Int) < n := by omega
      have hiB : ((i : Int) == n) = false := by rw [beq_eq_false_iff_ne]; omega
      have hlen := taken_len (v := v) (i := i) (n := n) (by omega) hn
      have hset := taken_set hlt hn hx
      have hnx : (n : Int) ≤ 1000000 := by omega
      replace hlen := Lib.hid hlen
      replace hset := Lib.hid hset
      replace hd := Lib.hid hd
      replace hx := Lib.hid hx
      go_wp2_with fail
      refine cc2.out.mono ?_
      rintro e w2 ⟨rfl, h2⟩
      have s0 := h2.softF i
      have hk : w2.cell? ⟨t, i, none⟩ = some ((ints (takenL v i n))[i]'(by rw [ints_len, hlen.out]; omega)) := by
        exact h2.cell (b := t) List.mem_cons_self (by simp [ints, hlen.out, hlt])
      have h3 := h2.setF i (.int .i64 x)
      rw [ints_setA, hset.out] at h3
      have fin : Hid (∀ a', Fr 24 [(1, .int .i64 n), (2, .pointer (some ⟨eb, 0, none⟩)), (5, .slice (some ⟨t, 0, none⟩) n n), (6, .int .i64 ((i : Int) + 1))] a' → ∃ m, m < g ∧ TakeJ B w0 rb s tk pt v n eb t F m a' (w2.setCell ⟨t, i, none⟩ (.int .i64 x))) := by
        refine Lib.hid fun a' hf => ⟨g - 1, by omega, i + 1, by omega, hf, h3⟩
      generalize (ints (takenL v i n))[i]'(by rw [ints_len, hlen.out]; omega) = u at hk
      clear h2 h3 cc2
      go_wp2_with fail
      refine wp_goto ?_
      exact ⟨rfl, fin.out _ ⟨rfl, rfl, by simp⟩⟩
    · have hin : i = n := by omega
      subst hin
      rw [taken_all] at hR
      replace hR := Lib.hid hR
      go_wp2_with fail
      simp only [Exit.jump]
      go_ret
      exact ⟨_, _, rfl, hR.out⟩
  · intro H
    go_wp2_with fail
    refine wp_label ?_
    go_step
    go_step
    exact H n _ _ ⟨0, by omega, ⟨rfl, rfl, by simp⟩, h1.out⟩

def BackJ (B : Nat) (w0 : World) (rb : Nat) (s : Bool) (tk pt : Nat) (v u : List Int) (eb t n : Nat) (F : List (Nat × Obj)) (g : Nat) (a' : Act) (w' : World) : Prop :=
  g ≤ n ∧ Fr 18 [(1, .slice (some ⟨t, 0, none⟩) n n), (2, .pointer (some ⟨eb, 0, none⟩)), (4, .int .i64 g)] a' ∧ RingIs B w0 w' rb (sideL s (u.drop g ++ v)) ((eb, endO tk pt rb) :: (t, intsObj u) :: F)

set_option maxHeartbeats 2000000 in
theorem layBack_any (ok : EndOk rb s tk pt) {u : List Int} {t n : Nat} (hu : u.length = n) (h : RingIs B w0 w rb (sideL s v) ((t, intsObj u) :: F)) (hv : v.length + n ≤ 1000000) :
    Calls Try.prog 50 #[EndV tk pt rb, .slice (some ⟨t, 0, none⟩) n n] w fun e w' => e = .returned (.tuple #[]) ∧ RingIs B w0 w' rb (sideL s (u ++ v)) F := by
  obtain ⟨-, goP, -, cP⟩ := ok
  replace cP := Lib.hid cP
  have h1 := h.alloc (endO tk pt rb)
  rw [show v = u.drop n ++ v by rw [← hu]; simp] at h1
  replace h1 := Lib.hid h1
  clear h
  go_enter Try.func50, Try.ntmps50
  go_wp2_with fail
  refine wp_scope_ghost 0 (BackJ B w0 rb s tk pt v u w.heap.size t n F) rfl ?_ ?_
  · rintro g a' wr ⟨hg, hfr, hR⟩
    generalize w.heap.size = eb at *
    obtain ⟨f, rfl, hl'⟩ := hfr.lit
    clear hfr h1
    simp only [List.mem_cons, List.not_mem_nil, or_false, forall_eq_or_imp, forall_eq] at hl'
    obtain ⟨f1, f2, f4⟩ := hl'
    simp only [List.range, List.range.loop, List.map, f1, f2, f4]
    clear f1 f2 f4
    have c0 : wr.cell? ⟨eb, 1, none⟩ = some (.func (.func pt) #[rptr rb] #[]) := hR.cell (b := eb) List.mem_cons_self rfl
    by_cases hlt : 0 < g
    · obtain ⟨j, rfl⟩ : ∃ j, g = j + 1 := ⟨g - 1, by omega⟩
      have hx : u[j]? = some u[j] := List.getElem?_eq_getElem (by omega)
      generalize u[j] = x at hx
      have hd : u.drop j = x :: u.drop (j + 1) := by
        obtain ⟨h2, h3⟩ := List.getElem?_eq_some_iff.1 hx
        rw [List.drop_eq_getElem_cons h2, h3]
      have cx : wr.cell? ⟨t, j, none⟩ = some (.int .i64 x) := by
        exact hR.cell (b := t) (List.mem_cons_of_mem _ List.mem_cons_self) (by simp [ints, hx])
      have cc := cP.out _ _ _ _ _ x (hR.drewN 1) (by rw [List.length_append, List.length_drop]; omega)
      rw [← List.cons_append, ← hd] at cc
      replace cc := Lib.hid cc
      clear hR hd hx
      have hj0 : (0 : Int) ≤ j := by omega
      have hj1 : (j : Int) < n := by omega
      have hj2 : (0 : Int) < (j : Int) + 1 := by omega
      have hn2 : (n : Int) ≤ 1000000 := by omega
      have e1 : ((j + 1 : Nat) : Int) = (j : Int) + 1 := by omega
      rw [e1]
      replace e1 := Lib.hid e1
      go_wp2_with fail
      go_still_tail 6, (by kernel_rfl)
      change wpList _ _ _ _ _ wr.drew
      go_wp2_with fail
      refine cc.out.mono ?_
      rintro e w2 ⟨rfl, h2⟩
      replace h2 := Lib.hid h2
      go_wp2_with fail
      refine wp_goto ?_
      exact ⟨rfl, j, by omega, by omega, ⟨rfl, rfl, by simp⟩, h2.out⟩
    · have hin : g = 0 := by omega
      subst hin
      rw [List.drop_zero] at hR
      have fin := Lib.hid (hR.sub (F' := F) ((List.sublist_cons_self _ _).trans (List.sublist_cons_self _ _)))
      clear hR
      simp only [Int.cast_ofNat_Int]
      go_wp2_with fail
      simp only [Exit.jump]
      exact bodyPost_end (results_none rfl _ _ _) rfl ⟨rfl, fin.out⟩
  · intro H
    go_wp2_with fail
    refine wp_label ?_
    go_step
    go_step
    exact H n _ _ ⟨Nat.le_refl _, ⟨rfl, rfl, by simp⟩, h1.out⟩
end
end Go.Proofs.Ytmmagapggmcceaa
