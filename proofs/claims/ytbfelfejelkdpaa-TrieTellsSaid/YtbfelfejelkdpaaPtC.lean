/- Words, the program's. -/
import Derived.Test.YtbfelfejelkdpaaPtB
import Derived.Test.YtbfelfejelkdpaaTss
import Derived.Test.YtbfelfejelkdpaaEdit
namespace Go.Proofs.Ytbfelfejelkdpaa
open Go.RowKit
set_option linter.unusedVariables false
set_option maxRecDepth 100000

theorem words_short (l : List UInt8) : ∀ x ∈ wordsL l, x.length ≤ l.length := by
  induction l with
  | nil => simp [wordsL]
  | cons c l ih =>
    unfold wordsL
    intro x hx
    rw [List.length_cons]
    split at hx
    · rcases List.mem_cons.1 hx with rfl | hx
      · simp
      · have := ih x hx
        omega
    · split at hx
      · rw [List.mem_singleton] at hx
        subst hx
        simp
      · rename_i w r h
        rw [h] at ih
        rcases List.mem_cons.1 hx with rfl | hx
        · have := ih w (by simp)
          rw [List.length_cons]
          omega
        · have := ih x (by simp [hx])
          omega

/-- What holds at Words' label. -/
def WordsAt (w : World) (l : List UInt8) (g : Nat) (a' : Act) (w' : World) : Prop :=
  ∃ (done : Wds) (r : List UInt8) (v : Value) (S : List (Nat × Obj)), r.length = g ∧ done ++ wordsL r = wordsL l ∧ r.length ≤ l.length ∧ Fr 21 [(0, tx r), (3, v)] a' ∧ TssIs v done S ∧ St w.heap.size w w' S

set_option maxHeartbeats 1000000 in
theorem words_st {l : List UInt8} (hl : l.length ≤ 1000000) (w : World) :
    Calls Try.prog 21 #[tx l] w fun e w' => ∃ v S, e = .returned v ∧ TssIs v (wordsL l) S ∧ St w.heap.size w w' S := by
  have hwl := words_len l
  have hws := words_short l
  go_enter Try.func21, Try.ntmps21
  go_wp2_with fail
  refine wp_scope_ghost 0 (WordsAt w l) rfl ?_ ?_
  · rintro g a' w' ⟨done, r, v, S, hg, hd, hr, hfr, hs, hst⟩
    obtain ⟨f, rfl, hl'⟩ := hfr.lit
    clear hfr
    simp only [List.mem_cons, List.not_mem_nil, or_false, forall_eq_or_imp, forall_eq] at hl'
    obtain ⟨f0, f3⟩ := hl'
    simp only [List.range, List.range.loop, List.map, f0, f3]
    clear f0 f3
    have hdl : done.length ≤ 1000000 := by
      have h1 := congrArg List.length hd
      have h2 := words_pos r
      rw [List.length_append] at h1
      omega
    obtain ⟨av, cv, rfl⟩ := hs.form
    rcases cut_cases r with hn | ⟨x, r', rfl, hx⟩
    · have c1 := Lib.hid (cut_none hn w')
      rw [words_none hn] at hd
      have ap : Hid (∀ w1, Below w'.heap.size w' w1 → ∃ a cap W2 S2, (Builtin.append_ #[23, 23] 0 #[.slice av done.length cv, .slice (some ⟨w1.heap.size, 0, none⟩) 1 1]).run Try.prog (w1.alloc (.cells #[tx r] 9)) = .ok (.slice a (done.length + 1) cap) W2 ∧
          TssIs (.slice a (done.length + 1) cap) (wordsL l) S2 ∧ St w.heap.size w W2 S2) := Lib.hid fun w1 hb => by
        have hst1 : St w.heap.size w w1 ([] ++ S) := hst.grow hb
        obtain ⟨a, cap, W2, F2, h1, h2, h3⟩ := hs.append hst1 r hdl
        exact ⟨a, cap, W2, F2, h1, by rw [← hd]; exact h2, h3⟩
      clear hs hst hd hws hwl hn
      generalize done.length = n at *
      go_wp2_with fail
      refine c1.out.mono ?_
      rintro e w1 ⟨rfl, hb⟩
      obtain ⟨a2, cap2, W2, S2, hrun, fin⟩ := ap.out _ hb
      replace fin := Lib.hid fin
      clear hb c1 ap
      go_wp2_with (at_builtin; refine wpList_append_go rfl (.tmp 13) (.tmp 15) 23 23 rfl _ _ rfl rfl hrun ?_)
      simp only [Exit.jump]
      go_ret
      exact ⟨_, _, rfl, fin.out.1, fin.out.2⟩
    · have c1 := Lib.hid (cut_some (r := r') hx (by unfold maxLen; omega) w')
      rw [words_cut hx] at hd
      have ap : Hid (∀ w1, Below w'.heap.size w' w1 → ∃ a cap W2 S2, (Builtin.append_ #[23, 23] 0 #[.slice av done.length cv, .slice (some ⟨w1.heap.size, 0, none⟩) 1 1]).run Try.prog (w1.alloc (.cells #[tx x] 9)) = .ok (.slice a (done.length + 1) cap) W2 ∧
          TssIs (.slice a (done.length + 1) cap) (done ++ [x]) S2 ∧ St w.heap.size w W2 S2) := Lib.hid fun w1 hb => by
        have hst1 : St w.heap.size w w1 ([] ++ S) := hst.grow hb
        obtain ⟨a, cap, W2, F2, h1, h2, h3⟩ := hs.append hst1 x hdl
        exact ⟨a, cap, W2, F2, h1, h2, h3⟩
      have hlen : (x ++ 46 :: r').length = x.length + 1 + r'.length := by simp; omega
      have hd2 : (done ++ [x]) ++ wordsL r' = wordsL l := by rw [← hd]; simp
      replace hlen := Lib.hid hlen
      replace hd2 := Lib.hid hd2
      clear hs hst hd hws hwl
      generalize x ++ 46 :: r' = L at *
      go_wp2_with fail
      refine c1.out.mono ?_
      rintro e w1 ⟨rfl, hb⟩
      obtain ⟨a2, cap2, W2, S2, hrun, fin1, fin2⟩ := ap.out _ hb
      replace fin1 := Lib.hid fin1
      replace fin2 := Lib.hid fin2
      clear hb c1 ap
      go_wp2_with (at_builtin; refine wpList_append_go rfl (.tmp 13) (.tmp 15) 23 23 rfl _ _ rfl rfl hrun ?_)
      refine wp_goto ?_
      have := hlen.out
      exact ⟨rfl, r'.length, by omega, done ++ [x], r', _, S2, rfl, hd2.out, by omega, ⟨rfl, rfl, by simp⟩, fin1.out, fin2.out⟩
  · intro H
    clear hws hwl
    have hst := Lib.hid (St.start w)
    go_wp2_with fail
    refine wp_label ?_
    go_step
    go_step
    exact H l.length _ _ ⟨[], l, _, [], rfl, rfl, Nat.le_refl _, ⟨rfl, rfl, by simp⟩, TssIs.nil, hst.out⟩
theorem words_to {l : List UInt8} (hl : l.length ≤ 1000000) (w : World) :
    Calls Try.prog 21 #[tx l] w fun e w' => ∃ v, e = .returned v ∧ ReadTs w' v (wordsL l) ∧ Below w.heap.size w w' := by
  refine (words_st hl w).mono ?_
  rintro e w' ⟨v, S, rfl, h1, h2⟩
  refine ⟨v, rfl, h1.read (X := []) h2 fun x hx => ?_, h2.below⟩
  have := words_short l x hx
  unfold maxLen
  omega
end Go.Proofs.Ytbfelfejelkdpaa
