/- Sets of numbers: the numbers up to one. -/
import Derived.Test.YtkahncfhphdkfaaRgsG
namespace Go.Proofs.Ytkahncfhphdkfaa
open Go.RowKit
set_option linter.unusedVariables false

/-! ### the numbers of rows -/
def nums (r : Row) : List Int := (List.range (r.2 + 1 - r.1).toNat).map fun i : Nat => r.1 + i
def flat (l : List Row) : List Int := l.flatMap nums
def uptoL (l : List Row) (n : Int) : List Int := ((flat l).filter (fun x => decide (x ≤ n))).take 1000
def nms (l : List Int) : List Value := l.map (Value.int .i64)

theorem nms_len (l : List Int) : (nms l).length = l.length := by simp [nms]
theorem nms_one (l : List Int) : ∀ u ∈ nms l, u.oneCell' = true := by
  intro u hu
  obtain ⟨z, _, rfl⟩ := List.mem_map.1 hu
  rfl
theorem nums_len (r : Row) : (nums r).length = (r.2 + 1 - r.1).toNat := by simp [nums]
theorem nums_at {r : Row} {k : Nat} (h : (k : Int) < r.2 + 1 - r.1) : (nums r)[k]? = some (r.1 + k) := by
  have : k < (r.2 + 1 - r.1).toNat := by omega
  simp [nums, this]
theorem mem_nums {r : Row} {x : Int} (h : x ∈ nums r) : r.1 ≤ x ∧ x ≤ r.2 := by
  simp only [nums, List.mem_map, List.mem_range] at h
  obtain ⟨i, hi, rfl⟩ := h
  omega
theorem mem_nums_drop {r : Row} {x : Int} {k : Nat} (h : x ∈ (nums r).drop k) : r.1 + k ≤ x ∧ x ≤ r.2 := by
  obtain ⟨i, hi, rfl⟩ := List.mem_iff_getElem.1 h
  simp only [List.length_drop, nums_len] at hi
  rw [List.getElem_drop]
  simp only [nums, List.getElem_map, List.getElem_range]
  omega
theorem flat_cons (r : Row) (l : List Row) : flat (r :: l) = nums r ++ flat l := rfl
theorem flat_append (l m : List Row) : flat (l ++ m) = flat l ++ flat m := by simp [flat]
theorem mem_flat {l : List Row} {x : Int} : x ∈ flat l → ∃ r ∈ l, r.1 ≤ x ∧ x ≤ r.2 := fun h => by
  obtain ⟨r, hr, hx⟩ := List.mem_flatMap.1 h
  exact ⟨r, hr, mem_nums hx⟩
theorem flat_split {l : List Row} {j : Nat} {r : Row} (h : l[j]? = some r) (k : Nat) : flat l = (flat (l.take j) ++ (nums r).take k) ++ ((nums r).drop k ++ flat (l.drop (j + 1))) := by
  have hj : j < l.length := (List.getElem?_eq_some_iff.1 h).1
  have e : l = l.take j ++ (r :: l.drop (j + 1)) := by
    have : l[j] = r := by rw [List.getElem?_eq_getElem hj] at h; simpa using h
    rw [← this, ← List.drop_eq_getElem_cons hj, List.take_append_drop]
  rw [List.append_assoc, ← List.append_assoc ((nums r).take k), List.take_append_drop, ← flat_cons, ← flat_append, ← e]

theorem upto_done {P rest : List Int} {n : Int} (hP : ∀ x ∈ P, x ≤ n) (hl : P.length ≤ 1000) (h : P.length = 1000 ∨ ∀ x ∈ rest, n < x) : ((P ++ rest).filter (fun x => decide (x ≤ n))).take 1000 = P := by
  have h1 : P.filter (fun x => decide (x ≤ n)) = P := List.filter_eq_self.2 fun x hx => by simpa using hP x hx
  rw [List.filter_append, h1]
  rcases h with h | h
  · rw [← h]; exact List.take_left
  · have h2 : rest.filter (fun x => decide (x ≤ n)) = [] := List.filter_eq_nil_iff.2 fun x hx => by have := h x hx; simp; omega
    rw [h2, List.append_nil, List.take_of_length_le hl]

section
variable {B : Nat} {w0 w : World} {F S Sx A F9 : List (Nat × Obj)} {rb : Nat} {v : Value} {l : List Row}

theorem uInts3 : Try.prog.underlying 42 = some (.slice 3) := by kernel_rfl
theorem infInt3 : (Try.prog.info? 3).map (fun i => (i.zero, i.size, i.bytes)) = some (some (.int .i64 0), 1, 8) := by kernel_rfl

/-- One number more behind a slice that the call owns. -/
theorem nms_push {X Ft : List (Nat × Obj)} {T : List Int} {a : Option Addr} {cap : Nat} (hs : SlIs 3 1 (.slice a T.length cap) T.length (nms T) Ft) (hst : St B w0 w (X ++ Ft)) (x : Int) (hl : T.length ≤ 4000000) :
    ∃ a' cap' w' F', (Builtin.append_ #[42, 42] 0 #[.slice a T.length cap, .slice (some ⟨w.heap.size, 0, none⟩) 1 1]).run Try.prog (w.alloc (.cells #[.int .i64 x] 3)) = .ok (.slice a' (T.length + 1) cap') w' ∧
      SlIs 3 1 (.slice a' (T ++ [x]).length cap') (T ++ [x]).length (nms (T ++ [x])) F' ∧ St B w0 w' (X ++ F') := by
  obtain ⟨i0, hi0, hz0, hz1, hz2⟩ := info_parts infInt3
  have hst1 := (hst.alloc (.cells #[.int .i64 x] 3)).sub (List.sublist_cons_self _ _)
  obtain ⟨v', w', F', hr, hs', hst'⟩ := run_append_sl (P := Try.prog) 42 0 3 i0 _ 1 8 uInts3 hi0 hz0 hz1 hz2 rfl hs hst1 (Reads.one w (.int .i64 x) 3) (by intro u hu; obtain rfl := List.mem_singleton.1 hu; rfl) (by unfold maxLen; omega) (by omega)
  have e : nms T ++ [.int .i64 x] = nms (T ++ [x]) := by simp [nms]
  have el : T.length + 1 = (T ++ [x]).length := by simp
  obtain ⟨a', cap', rfl, -, -, -⟩ := hs'.form
  rw [e] at hs'
  refine ⟨a', cap', w', F', hr, ?_, hst'⟩
  rw [← el]
  exact hs'

def UptoR (B : Nat) (w0 : World) (rb : Nat) (l : List Row) (F : List (Nat × Obj)) (n : Int) (e : Ending) (w' : World) : Prop :=
  ∃ v' S', e = .returned v' ∧ SlIs 3 1 v' (uptoL l n).length (nms (uptoL l n)) S' ∧ RgsIs B w0 w' rb l (F ++ S')

set_option maxHeartbeats 4000000 in
set_option maxRecDepth 100000 in
theorem rgs_upto (h : RgsIs B w0 w rb l F) (n : Int) : Calls Try.prog 20 #[gptr rb, .int .i64 n] w (UptoR B w0 rb l F n) := by
  obtain ⟨hc, v, S, h⟩ := h
  have c0 := h.c0
  have hlen := hc.len_half
  obtain ⟨a, cap, rfl, -⟩ := h.read
  have hsl := Lib.hid h.sl
  have hst := Lib.hid h.st
  have fin : ∀ W a' cap' T Ft, T = uptoL l n → SlIs 3 1 (.slice a' T.length cap') T.length (nms T) Ft → St B w0 W ((((rb, .cells #[.slice a l.length cap, .int .i64 (cnt l)] 51) :: F) ++ S) ++ Ft) →
      UptoR B w0 rb l F n (.returned (.slice a' T.length cap')) W := fun W a' cap' T Ft hT h1 h2 => by
    subst hT
    exact ⟨_, Ft, rfl, h1, hc, _, S, hsl.out, h2.perm (by simp only [List.append_assoc, List.cons_append]; exact .cons _ (List.perm_append_comm.append_left F))⟩
  replace fin := Lib.hid fin
  have hcell : ∀ W Ft, St B w0 W ((((rb, .cells #[.slice a l.length cap, .int .i64 (cnt l)] 51) :: F) ++ S) ++ Ft) → ∀ j r, l[j]? = some r → ∃ b off, a = some ⟨b, off, none⟩ ∧ W.cell? ⟨b, off + j * 2, none⟩ = some (.int .i64 r.1) ∧ W.cell? ⟨b, off + j * 2 + 1, none⟩ = some (.int .i64 r.2) := fun W Ft h1 j r hr => by
    obtain ⟨a', cap', e, h2⟩ := hsl.out.readRows (h1.sub (List.sublist_append_left _ _))
    cases e
    exact h2 j r hr
  replace hcell := Lib.hid hcell
  have hcr : ∀ W Ft, St B w0 W ((((rb, .cells #[.slice a l.length cap, .int .i64 (cnt l)] 51) :: F) ++ S) ++ Ft) → W.cell? ⟨rb, 0, none⟩ = some (.slice a l.length cap) := fun W Ft h1 => h1.cell List.mem_cons_self rfl
  replace hcr := Lib.hid hcr
  replace hc := Lib.hid hc
  generalize hX : ((rb, Obj.cells #[Value.slice a l.length cap, .int .i64 (cnt l)] 51 (0, 0)) :: F) ++ S = X at *
  clear h hX
  go_enter Try.func20, Try.ntmps20
  go_wp2_with fail
  go_loopg [5, 14] l.length (fun g v5 v14 wr => ∃ (j cap' : Nat) (a' : Option Addr) (T : List Int) (Ft : List (Nat × Obj)), v14 = .int .i64 j ∧ v5 = .slice a' T.length cap' ∧ j + g = l.length ∧ Hid (T = flat (l.take j)) ∧ Hid (∀ x ∈ T, x ≤ n) ∧ T.length ≤ 1000 ∧ SlIs 3 1 (.slice a' T.length cap') T.length (nms T) Ft ∧ St B w0 wr (X ++ Ft))
  case atStart => exact ⟨0, 0, none, [], [], rfl, rfl, by omega, Lib.hid (by simp [flat]), Lib.hid (by simp), by simp, SlIs.nil, by simpa using hst.out⟩
  case round =>
    obtain ⟨j, cap', a', T, Ft, rfl, rfl, hj, hT, hTn, hTl, h1, h2⟩ := hrel
    replace h1 := Lib.hid h1
    replace h2 := Lib.hid h2
    by_cases hlt : j < l.length
    · have hr : l[j]? = some l[j] := List.getElem?_eq_getElem hlt
      have hfit := hc.out.fit l[j] (List.getElem_mem _)
      generalize l[j] = r at hr hfit
      obtain ⟨r1, r2⟩ := r
      obtain ⟨b, off, rfl, k1, k2⟩ := hcell.out _ _ h2.out j _ hr
      simp only at k1 k2 hfit
      have hj1 : (j : Int) < l.length := by omega
      have hj0 : (0 : Int) ≤ j := by omega
      have hst2 := Lib.hid (h2.out.alloc (.cells #[.int .i64 r1, .int .i64 r2] 40))
      have hrr := Lib.hid hr
      have hc0 : wr.cell? ⟨rb, 0, none⟩ = some (.slice (some ⟨b, off, none⟩) l.length cap) := hcr.out wr Ft h2.out
      obtain ⟨f1, f2, f3⟩ := hfit
      generalize hrbk : wr.heap.size = rbk at *
      clear hr h2
      go_wp2_with fail
      generalize wr.alloc (Obj.cells #[.int .i64 r1, .int .i64 r2] 40) = wo at *
      replace hrbk := Lib.hid hrbk
      clear k1 k2 hc0
      go_loopg [5, 8] (r2 + 1 - r1).toNat (fun g v5 v8 wi => ∃ (k cap' : Nat) (a' : Option Addr) (T : List Int) (Ft : List (Nat × Obj)), v8 = .int .i64 (r1 + k) ∧ v5 = .slice a' T.length cap' ∧ (k : Int) + g = r2 + 1 - r1 ∧ Hid (T = flat (l.take j) ++ (nums (r1, r2)).take k) ∧ Hid (∀ x ∈ T, x ≤ n) ∧ T.length ≤ 1000 ∧
        SlIs 3 1 (.slice a' T.length cap') T.length (nms T) Ft ∧ St B w0 wi (((rbk, .cells #[.int .i64 r1, .int .i64 r2] 40) :: X) ++ Ft))
      case atStart => exact ⟨0, cap', a', T, Ft, by simp, rfl, by omega, Lib.hid (by rw [hT.out]; simp), hTn, hTl, h1.out, hst2.out⟩
      case round =>
        clear hT hTn hTl h1 hst2
        obtain ⟨k, cap', a', T, Ft, rfl, rfl, hk, hT, hTn, hTl, h1, h2⟩ := hrel
        have hcr2 : wr.cell? ⟨rbk, 1, none⟩ = some (.int .i64 r2) := h2.cell (b := rbk) (c := #[.int .i64 r1, .int .i64 r2]) (T := 40) (fr := (0, 0)) (by simp) rfl
        by_cases hle : r1 + (k : Int) ≤ r2
        · have hsp := flat_split hrr.out k
          have hdr : (nums (r1, r2)).drop k = (r1 + (k : Int)) :: (nums (r1, r2)).drop (k + 1) := by
            have h3 := nums_at (r := (r1, r2)) (k := k) (by show (k : Int) < r2 + 1 - r1; omega)
            obtain ⟨h4, h5⟩ := List.getElem?_eq_some_iff.1 h3
            rw [← h5]
            exact List.drop_eq_getElem_cons h4
          have hret : (T.length = 1000 ∨ n < r1 + (k : Int)) → T = uptoL l n := fun hor => by
            rw [uptoL, hsp, ← hT.out]
            refine (upto_done hTn.out hTl (hor.imp_right fun hx y hy => ?_)).symm
            rcases List.mem_append.1 hy with hy | hy
            · have := (mem_nums_drop hy).1
              simp only at this
              omega
            · obtain ⟨r', hr', h3, h4⟩ := mem_flat hy
              have h5 : r2 + 1 < r'.1 := by
                have h6 := hc.out.apart.drop (i := j)
                have hjl : j < l.length := (List.getElem?_eq_some_iff.1 hrr.out).1
                have h7 : l[j] = (r1, r2) := (List.getElem?_eq_some_iff.1 hrr.out).2
                rw [List.drop_eq_getElem_cons hjl, h7] at h6
                exact (List.pairwise_cons.1 h6).1 r' hr'
              omega
          by_cases hxn : n < r1 + (k : Int)
          · as_aux_lemma =>
              have f2 := Lib.hid (fin.out _ _ _ _ _ (hret (.inr hxn)) h1 (h2.sub ((List.sublist_cons_self _ _).append (List.Sublist.refl _))))
              generalize T.length = tl at *
              clear h1 h2 hret hdr hsp
              go_wp2_with fail
              go_ret
              exact f2.out
          · by_cases hth : T.length = 1000
            · as_aux_lemma =>
                have f2 := Lib.hid (fin.out _ _ _ _ _ (hret (.inl hth)) h1 (h2.sub ((List.sublist_cons_self _ _).append (List.Sublist.refl _))))
                rw [hth] at f2 ⊢
                clear h1 h2 hret hdr hsp hth hTl
                go_wp2_with fail
                go_ret
                exact f2.out
            · as_aux_lemma =>
                have hth2 : T.length < 1000 := by omega
                obtain ⟨a2, cap2, w2, F2, hr2, h3, h4⟩ := nms_push h1 h2 (r1 + (k : Int)) (by omega)
                have hT2 : T ++ [r1 + (k : Int)] = flat (l.take j) ++ (nums (r1, r2)).take (k + 1) := by
                  rw [List.take_add_one, nums_at (r := (r1, r2)) (k := k) (by show (k : Int) < r2 + 1 - r1; omega), hT.out]
                  simp
                have hTn2 : ∀ x ∈ T ++ [r1 + (k : Int)], x ≤ n := fun x hx => by
                  rcases List.mem_append.1 hx with hx | hx
                  · exact hTn.out x hx
                  · obtain rfl := List.mem_singleton.1 hx; omega
                have hlen2 : Hid ((T ++ [r1 + (k : Int)]).length = T.length + 1) := Lib.hid (by simp)
                have hth3 : ((T.length : Int) == 1000) = false := by rw [beq_eq_false_iff_ne]; omega
                have hxn' : decide (n < r1 + (k : Int)) = false := by simp; omega
                replace hT2 := Lib.hid hT2
                replace hTn2 := Lib.hid hTn2
                replace h3 := Lib.hid h3
                replace h4 := Lib.hid h4
                clear h1 h2 hret hdr hsp hT hTn hth hxn
                go_wp2_with (at_builtin; refine wpList_append_go rfl (.tmp 35) (.tmp 37) 42 42 rfl _ _ rfl rfl hr2 ?_)
                go_roundg (r2 + 1 - r1 - (k + 1)).toNat
                case measure => omega
                case rel => exact ⟨k + 1, cap2, a2, _, F2, by go_num, by rw [hlen2.out], by omega, hT2, hTn2, by rw [hlen2.out]; omega, h3.out, h4.out⟩
        · as_aux_lemma =>
            have hT2 : T = flat (l.take (j + 1)) := by
              have e1 : (nums (r1, r2)).take k = nums (r1, r2) := List.take_of_length_le (by rw [nums_len]; show (r2 + 1 - r1).toNat ≤ k; omega)
              rw [hT.out, e1, List.take_add_one, hrr.out, flat_append]
              simp [flat]
            have h4 := h2.sub (H' := X ++ Ft) ((List.sublist_cons_self _ _).append (List.Sublist.refl _))
            have hle' : decide (r1 + (k : Int) ≤ r2) = false := by simpa using hle
            replace hT2 := Lib.hid hT2
            replace h1 := Lib.hid h1
            replace h4 := Lib.hid h4
            clear h2 hT hle
            go_wp2_with fail
            go_roundg (l.length - (j + 1))
            case measure => omega
            case rel => exact ⟨j + 1, cap', a', T, Ft, by go_num, rfl, by omega, hT2, hTn, hTl, h1.out, h4.out⟩
    · obtain rfl : j = l.length := by omega
      have hTu : T = uptoL l n := by
        have h3 := hT.out
        rw [List.take_length] at h3
        have := upto_done (P := T) (rest := []) hTn.out hTl (.inr (by simp))
        rw [List.append_nil] at this
        rw [uptoL, ← h3, this]
      have f2 := Lib.hid (fin.out _ _ _ _ _ hTu h1.out h2.out)
      generalize T.length = tl at *
      clear h1 h2 hTu
      go_wp2_with fail
      go_ret
      exact f2.out
end
end Go.Proofs.Ytkahncfhphdkfaa
