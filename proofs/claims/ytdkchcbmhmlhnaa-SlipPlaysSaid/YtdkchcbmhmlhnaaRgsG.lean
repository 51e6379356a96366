/- Sets of numbers as their callers see them. -/
import Derived.Test.YtdkchcbmhmlhnaaRgsF
namespace Go.Proofs.Ytdkchcbmhmlhnaa
open Go.RowKit
set_option linter.unusedVariables false

section
variable {B : Nat} {w0 w : World} {F S Sx A F9 : List (Nat × Obj)} {rb : Nat} {v : Value} {l : List Row}

theorem RgsIs.canon (h : RgsIs B w0 w rb l F) : Canon l := h.1
theorem RgsIs.st (h : RgsIs B w0 w rb l F) : ∃ X, St B w0 w (X ++ F) ∧ ∀ w' F', St B w0 w' (X ++ F') → RgsIs B w0 w' rb l F' := by
  obtain ⟨hc, v, S, h⟩ := h
  refine ⟨(rb, .cells #[v, .int .i64 (cnt l)] 66) :: S, h.st.perm (by simp only [List.cons_append]; exact .cons _ List.perm_append_comm), fun w' F' h' => ⟨hc, v, S, h.sl, h'.perm (by simp only [List.cons_append]; exact .cons _ List.perm_append_comm)⟩⟩
theorem RgsIs.alloc (h : RgsIs B w0 w rb l F) (o : Obj) : RgsIs B w0 (w.alloc o) rb l ((w.heap.size, o) :: F) := by
  obtain ⟨X, h1, h2⟩ := h.st
  exact h2 _ _ ((h1.alloc o).perm List.perm_middle.symm)
theorem RgsIs.sub {F' : List (Nat × Obj)} (h : RgsIs B w0 w rb l F) (hs : F'.Sublist F) : RgsIs B w0 w rb l F' := by
  obtain ⟨X, h1, h2⟩ := h.st
  exact h2 _ _ (h1.sub ((List.Sublist.refl X).append hs))
theorem RgsIs.perm {F' : List (Nat × Obj)} (h : RgsIs B w0 w rb l F) (hp : F.Perm F') : RgsIs B w0 w rb l F' := by
  obtain ⟨X, h1, h2⟩ := h.st
  exact h2 _ _ (h1.perm (hp.append_left X))
theorem RgsIs.drewN (h : RgsIs B w0 w rb l F) (n : Nat) : RgsIs B w0 (w.drewN n) rb l F := by
  obtain ⟨X, h1, h2⟩ := h.st
  exact h2 _ _ (h1.drewN n)
theorem RgsIs.base (h : RgsIs B w0 w rb l F) : B ≤ w.heap.size := by
  obtain ⟨X, h1, h2⟩ := h.st
  exact h1.base
theorem RgsIs.below (h : RgsIs B w0 w rb l F) : Below B w0 w := by
  obtain ⟨X, h1, h2⟩ := h.st
  exact h1.below
theorem RgsIs.cell (h : RgsIs B w0 w rb l F) {b : Nat} {c : Array Value} {T : TypeId} (hm : (b, .cells c T) ∈ F) {i : Nat} {v : Value} (hi : c[i]? = some v) : w.cell? ⟨b, i, none⟩ = some v := by
  obtain ⟨X, h1, h2⟩ := h.st
  exact h1.cell (b := b) (i := i) (List.mem_append_right X hm) hi

set_option maxHeartbeats 400000 in
theorem rgs_new (h : St B w0 w F) : Calls Try.prog 28 #[] w fun e w' => e = .returned (gptr w.heap.size) ∧ RgsIs B w0 w' w.heap.size [] F := by
  have h1 : RgsIs B w0 (w.alloc (.cells #[.slice none 0 0, .int .i64 0] 66)) w.heap.size [] F :=
    ⟨canon_nil, _, [], SlIs.nil, by rw [cnt_nil, List.append_nil]; exact h.alloc _⟩
  replace h1 := Lib.hid h1
  clear h
  go_enter Try.func28, Try.ntmps28
  go_wp2_with fail
  go_ret
  exact ⟨rfl, h1.out⟩

theorem rgs_add (h : RgsIs B w0 w rb l F) (lo hi : Int) : Calls Try.prog 22 #[gptr rb, .int .i64 lo, .int .i64 hi] w (AddR B w0 rb l F lo hi) := by
  by_cases hn : max lo 1 ≤ min hi 1000000
  · exact add_some h lo hi hn
  · exact add_nothing h lo hi (by omega)
theorem rgs_cut (h : RgsIs B w0 w rb l F) (lo hi : Int) : Calls Try.prog 24 #[gptr rb, .int .i64 lo, .int .i64 hi] w (CutR B w0 rb l F lo hi) := by
  by_cases hn : max lo 1 ≤ min hi 1000000
  · exact cut_some h lo hi hn
  · exact cut_nothing h lo hi (by omega)

set_option maxHeartbeats 400000 in
theorem rgs_all (h : RgsIs B w0 w rb l F) : Calls Try.prog 34 #[gptr rb] w fun e w' => ∃ v' S', e = .returned v' ∧ SlIs 63 2 v' l.length (rowsV l) S' ∧ RgsIs B w0 w' rb l (F ++ S') := by
  obtain ⟨hc, v, S, h⟩ := h
  have c0 := h.c0
  have hlen := hc.len_half
  have cc := Lib.hid (rgsClone_any h.sl h.st (by omega) (rowsV_one l))
  have sl := Lib.hid h.sl
  obtain ⟨a, cap, rfl, -, -, -⟩ := h.sl.form
  replace hc := Lib.hid hc
  clear h
  go_enter Try.func34, Try.ntmps34
  go_wp2_with fail
  refine cc.out.mono ?_
  rintro e w1 ⟨v', S', rfl, h1, h2⟩
  have fin : RgsIs B w0 w1 rb l (F ++ S') := ⟨hc.out, _, S, sl.out, h2.perm (by simp only [List.append_assoc, List.cons_append]; exact .cons _ (List.perm_append_comm.append_left F))⟩
  replace h1 := Lib.hid h1
  replace fin := Lib.hid fin
  clear h2 cc
  go_wp2_with fail
  go_ret
  exact ⟨v', S', rfl, h1.out, fin.out⟩

def innB (l : List Row) (n : Int) : Bool := l.any fun r => decide (r.1 ≤ n) && decide (n ≤ r.2)
theorem innB_iff {l : List Row} {n : Int} : innB l n = true ↔ Inn l n := by simp [innB, Inn]
theorem innB_true {l : List Row} {n : Int} (h : Inn l n) : innB l n = true := innB_iff.2 h
theorem innB_false {l : List Row} {n : Int} (h : ¬ Inn l n) : innB l n = false := by
  rw [← Bool.not_eq_true, innB_iff]
  exact h

set_option maxHeartbeats 1000000 in
set_option maxRecDepth 100000 in
theorem rgs_has (h : RgsIs B w0 w rb l F) (n : Int) : Calls Try.prog 27 #[gptr rb, .int .i64 n] w fun e w' => e = .returned (.bool (innB l n)) ∧ RgsIs B w0 w' rb l F := by
  obtain ⟨hc, v, S, h⟩ := h
  have cr := Lib.hid (rowUp_any h hc n)
  obtain ⟨a, cap, rfl, -, -, -⟩ := h.sl.form
  have hlen := hc.len_half
  replace hc := Lib.hid hc
  clear h
  go_enter Try.func27, Try.ntmps27
  go_wp2_with fail
  refine cr.out.mono ?_
  rintro e w1 ⟨k, rfl, hk, hA, hC, h1⟩
  have c0 := h1.c0
  have hrd := h1.read
  have fin : RgsIs B w0 w1 rb l F := ⟨hc.out, _, S, h1⟩
  have hno : (∀ r ∈ l.drop k, n < r.1) → innB l n = false := fun hd => innB_false fun ⟨r, hr, e1, e2⟩ => by
    rw [← List.take_append_drop k l] at hr
    rcases List.mem_append.1 hr with hr | hr
    · have := hA r hr; omega
    · have := hd r hr; omega
  replace fin := Lib.hid fin
  clear cr h1
  by_cases hlt : k < l.length
  · have hr : l[k]? = some l[k] := List.getElem?_eq_getElem hlt
    have hd : l.drop k = l[k] :: l.drop (k + 1) := List.drop_eq_getElem_cons hlt
    have hge := hC l[k] (by rw [hd]; exact List.mem_cons_self)
    have hap : ∀ x ∈ l.drop (k + 1), l[k].2 + 1 < x.1 := by
      have h := hc.out.apart.drop (i := k)
      rw [hd] at h
      exact (List.pairwise_cons.1 h).1
    have hm : l[k] ∈ l := List.getElem_mem _
    have hfit := hc.out.fit l[k] hm
    generalize l[k] = r at *
    obtain ⟨r1, r2⟩ := r
    obtain ⟨a', cap', e, hrd⟩ := hrd
    cases e
    obtain ⟨b, off, rfl, k1, k2⟩ := hrd k _ hr
    simp only at k1 k2 hge hap hfit
    have hlt' : (k : Int) < l.length := by omega
    have hk0 : (0 : Int) ≤ k := by omega
    by_cases hle : r1 ≤ n
    · have e : innB l n = true := innB_true ⟨_, hm, hle, hge⟩
      replace e := Lib.hid e
      clear hrd hno hA hC hd hap hr hm
      go_wp2_with fail
      go_ret
      exact ⟨ret_bool e.out.symm, fin.out⟩
    · have e : innB l n = false := hno fun r hr' => by
        rw [hd] at hr'
        rcases List.mem_cons.1 hr' with rfl | hr'
        · show n < r1; omega
        · have := hap r hr'; omega
      have hle' : decide (r1 ≤ n) = false := by simpa using hle
      replace e := Lib.hid e
      clear hrd hno hA hC hd hap hr hm
      go_wp2_with fail
      go_ret
      exact ⟨ret_bool e.out.symm, fin.out⟩
  · have e : innB l n = false := hno (by rw [List.drop_of_length_le (by omega)]; simp)
    have hlt' : decide (k < l.length) = false := by simp; omega
    replace e := Lib.hid e
    clear hrd hno hA hC
    go_wp2_with fail
    go_ret
    exact ⟨ret_bool e.out.symm, fin.out⟩
end
end Go.Proofs.Ytdkchcbmhmlhnaa
