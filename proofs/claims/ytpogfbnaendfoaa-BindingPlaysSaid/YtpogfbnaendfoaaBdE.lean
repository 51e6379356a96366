/- Rows cut out; names each once. -/
import Derived.Test.YtpogfbnaendfoaaBdD
namespace Go.Proofs.Ytpogfbnaendfoaa
open Go.RowKit
set_option linter.unusedVariables false

section
variable {B : Nat} {w0 w w' : World} {S F A X : List (Nat × Obj)} {T : TypeId} {tb : Nat} {v u : Value} {L : List Bnd} {p : Bnd → Bool} {f : Bnd → List UInt8}

/-- Behind cut: what went, what is left, the table's cell turned. -/
def CutR (w : World) (tb : Nat) (l m : List Bnd) (e : Ending) (w' : World) : Prop :=
  ∃ u S z R w1, e = .returned u ∧ BnsIs u l S ∧ BnsIs z m R ∧ St w.heap.size w w1 (S ++ R) ∧ w' = w1.setCell ⟨tb, 0, none⟩ z
def CutAt (w : World) (tb : Nat) (fv : Value) (L : List Bnd) (p : Bnd → Bool) (g : Nat) (a' : Act) (w' : World) : Prop :=
  ∃ (i : Nat) (u z : Value) (S R : List (Nat × Obj)), Fr 53 [(0, bpt tb), (1, fv), (5, u), (6, z), (7, .int .i64 i)] a' ∧ i + g = L.length ∧ BnsIs u ((L.take i).filter p) S ∧ BnsIs z ((L.take i).filter fun b => !p b) R ∧ St w.heap.size w w' (S ++ R)

set_option maxHeartbeats 4000000 in
theorem cut_any {g : Nat} {cb : Array Value} (h : OneAt T w tb v) (hv : ReadBs w v L) (hL : L.length ≤ 10000) (hp : TellsP w g cb p) :
    Calls Try.prog 24 #[bpt tb, .func (.func g) #[] cb] w (CutR w tb (L.filter p) (L.filter fun b => !p b)) := by
  obtain ⟨eg, his⟩ := hp
  have hg := Lib.hid his
  have ht := Lib.hid (fun w' hb => (⟨(h.below (w' := w') hb).cell, (h.below (w' := w') hb).soft⟩ : _ ∧ _))
  obtain ⟨a, cap, rfl, -⟩ := id hv
  have hr := Lib.hid (fun w' hb => hv.below (w' := w') hb)
  clear hv his h
  go_enter Try.func24, Try.ntmps24
  go_wp2_with fail
  refine wp_scope_ghost 0 (CutAt w tb (.func (.func g) #[] cb) L p) rfl ?_ ?_
  · rintro n a' w' ⟨i, u, z, S, R, hfr, hi, hs, hz, hst⟩
    obtain ⟨q, rfl, hl'⟩ := hfr.lit
    clear hfr
    simp only [List.mem_cons, List.not_mem_nil, or_false, forall_eq_or_imp, forall_eq] at hl'
    obtain ⟨f0, f1, f5, f6, f7⟩ := hl'
    simp only [List.range, List.range.loop, List.map, f0, f1, f5, f6, f7]
    clear f0 f1 f5 f6 f7
    have hi0 : (0 : Int) ≤ i := by omega
    obtain ⟨ct, fz⟩ := ht.out w' hst.below
    have hlen := filter_len_take (L := L) p i
    have hlen2 := filter_len_take (L := L) (fun b => !p b) i
    by_cases hlt : i < L.length
    · have hi1 : (i : Int) < L.length := by omega
      have hiB : ((i : Int) == L.length) = false := by rw [beq_eq_false_iff_ne]; omega
      have hx : L[i]? = some L[i] := List.getElem?_eq_getElem hlt
      generalize L[i] = x at hx
      have stp := filter_step (p := p) hx
      have stp2 := filter_step (p := fun b => !p b) hx
      obtain ⟨a1, c1, e, hcells⟩ := hr.out w' hst.below
      cases e
      obtain ⟨b1, o1, rfl, k1, k2, k3⟩ := hcells i x hx
      have cc := Lib.hid (hg.out w' hst.below x)
      have hx2 : Hid (∀ w2, Below w'.heap.size w' w2 → w2.cell? ⟨tb, 0, none⟩ = some (.slice (some ⟨b1, o1, none⟩) L.length cap) ∧ w2.cell? ⟨b1, o1 + i * 3, none⟩ = some (tx x.1) ∧ w2.cell? ⟨b1, o1 + i * 3 + 1, none⟩ = some (tx x.2.1) ∧ w2.cell? ⟨b1, o1 + i * 3 + 2, none⟩ = some (tx x.2.2)) := Lib.hid fun w2 hb =>
        ⟨(hb.cell (p := ⟨tb, 0, none⟩) (World.block_lt_of_cell? w' _ ct)).trans ct, (hb.cell (World.block_lt_of_cell? w' _ k1)).trans k1, (hb.cell (World.block_lt_of_cell? w' _ k2)).trans k2, (hb.cell (World.block_lt_of_cell? w' _ k3)).trans k3⟩
      cases hpx : p x with
      | true =>
        rw [hpx] at stp stp2 cc
        rw [if_pos rfl] at stp
        rw [if_neg (by decide), List.append_nil] at stp2
        have ap : Hid (∀ w2, Below w'.heap.size w' w2 → ∃ a cap2 W2, (Builtin.append_ #[27, 27] 0 #[u, .slice (some ⟨w2.heap.size, 0, none⟩) 1 1]).run Try.prog (w2.alloc (bO x)) = .ok (.slice a (((L.take i).filter p).length + 1) cap2) W2 ∧
            ∀ a', Fr 53 [(0, bpt tb), (1, .func (.func g) #[] cb), (5, .slice a (((L.take i).filter p).length + 1) cap2), (6, z), (7, .int .i64 ((i + 1 : Nat) : Int))] a' → ∃ m, m < n ∧ CutAt w tb (.func (.func g) #[] cb) L p m a' W2) := by
          refine Lib.hid fun w2 hb => ?_
          obtain ⟨a, cap2, W2, F2, hrun, hs2, hst2⟩ := bnd_append (X := R) hs ((hst.grow hb).perm List.perm_append_comm) x (by omega)
          refine ⟨a, cap2, W2, hrun, fun a' hf => ⟨n - 1, by omega, i + 1, _, _, F2, R, hf, by omega, ?_, ?_, hst2.perm List.perm_append_comm⟩⟩
          · rw [stp]
            exact hs2
          · rw [stp2]
            exact hz
        obtain ⟨au, cu, rfl⟩ := hs.form
        obtain ⟨az, cz, rfl⟩ := hz.form
        obtain ⟨x1, x2, x3⟩ := x
        simp only at k1 k2 k3
        generalize ((L.take i).filter p).length = q0 at *
        generalize ((L.take i).filter fun b => !p b).length = q1 at *
        clear hs hz hst hx hpx stp stp2 hlen hlen2 hr ht hg fz
        go_wp2_with fail
        refine cc.out.mono ?_
        rintro e w2 ⟨rfl, hb⟩
        obtain ⟨ct2, m1, m2, m3⟩ := hx2.out w2 hb
        obtain ⟨a2, cap2, W2, hrun, fin⟩ := ap.out _ hb
        replace fin := Lib.hid fin
        clear cc ap hx2 hb k1 k2 k3 ct
        go_wp2_with (at_builtin; refine wpList_append_go rfl (.tmp 41) (.tmp 49) 27 27 rfl _ _ rfl rfl hrun ?_)
        refine wp_goto ?_
        exact ⟨rfl, fin.out _ ⟨rfl, rfl, by simp⟩⟩
      | false =>
        rw [hpx] at stp stp2 cc
        rw [if_neg (by decide), List.append_nil] at stp
        rw [if_pos (by decide)] at stp2
        have ap : Hid (∀ w2, Below w'.heap.size w' w2 → ∃ a cap2 W2, (Builtin.append_ #[27, 27] 0 #[z, .slice (some ⟨w2.heap.size, 0, none⟩) 1 1]).run Try.prog (w2.alloc (bO x)) = .ok (.slice a (((L.take i).filter fun b => !p b).length + 1) cap2) W2 ∧
            ∀ a', Fr 53 [(0, bpt tb), (1, .func (.func g) #[] cb), (5, u), (6, .slice a (((L.take i).filter fun b => !p b).length + 1) cap2), (7, .int .i64 ((i + 1 : Nat) : Int))] a' → ∃ m, m < n ∧ CutAt w tb (.func (.func g) #[] cb) L p m a' W2) := by
          refine Lib.hid fun w2 hb => ?_
          obtain ⟨a, cap2, W2, F2, hrun, hs2, hst2⟩ := bnd_append (X := S) hz (hst.grow hb) x (by omega)
          refine ⟨a, cap2, W2, hrun, fun a' hf => ⟨n - 1, by omega, i + 1, _, _, S, F2, hf, by omega, ?_, ?_, hst2⟩⟩
          · rw [stp]
            exact hs
          · rw [stp2]
            exact hs2
        obtain ⟨au, cu, rfl⟩ := hs.form
        obtain ⟨az, cz, rfl⟩ := hz.form
        obtain ⟨x1, x2, x3⟩ := x
        simp only at k1 k2 k3
        generalize ((L.take i).filter p).length = q0 at *
        generalize ((L.take i).filter fun b => !p b).length = q1 at *
        clear hs hz hst hx hpx stp stp2 hlen hlen2 hr ht hg fz
        go_wp2_with fail
        refine cc.out.mono ?_
        rintro e w2 ⟨rfl, hb⟩
        obtain ⟨ct2, m1, m2, m3⟩ := hx2.out w2 hb
        obtain ⟨a2, cap2, W2, hrun, fin⟩ := ap.out _ hb
        replace fin := Lib.hid fin
        clear cc ap hx2 hb k1 k2 k3 ct
        go_wp2_with (at_builtin; refine wpList_append_go rfl (.tmp 8) (.tmp 16) 27 27 rfl _ _ rfl rfl hrun ?_)
        refine wp_goto ?_
        exact ⟨rfl, fin.out _ ⟨rfl, rfl, by simp⟩⟩
    · obtain rfl : i = L.length := by omega
      rw [List.take_of_length_le (Nat.le_refl _)] at hs hz
      have fin : Hid (CutR w tb (L.filter p) (L.filter fun b => !p b) (.returned u) (w'.setCell ⟨tb, 0, none⟩ z)) := Lib.hid ⟨u, S, z, R, w', rfl, hs, hz, hst, rfl⟩
      obtain ⟨au, cu, rfl⟩ := hs.form
      obtain ⟨az, cz, rfl⟩ := hz.form
      clear hs hz hst hg hr ht hlen hlen2
      go_wp2_with fail
      simp only [Exit.jump]
      go_ret
      exact fin.out
  · intro H
    go_wp2_with fail
    refine wp_label ?_
    go_step
    go_step
    exact H L.length _ _ ⟨0, _, _, [], [], ⟨rfl, rfl, by simp⟩, by omega, BnsIs.nil, BnsIs.nil, St.start w⟩

/-! ### eachOnce -/
def OnceR (w : World) (l : List (List UInt8)) (e : Ending) (w' : World) : Prop := ∃ u S, e = .returned u ∧ TssIs u l S ∧ St w.heap.size w w' S
def OnceAt (w : World) (rv : Value) (fv : Value) (L : List Bnd) (f : Bnd → List UInt8) (g : Nat) (a' : Act) (w' : World) : Prop :=
  ∃ (i : Nat) (u : Value) (S : List (Nat × Obj)), Fr 29 [(0, rv), (1, fv), (5, u), (6, .int .i64 i)] a' ∧ i + g = L.length ∧ TssIs u (onceL [] ((L.take i).map f)) S ∧ St w.heap.size w w' S

set_option maxHeartbeats 4000000 in
theorem once_any {g : Nat} {cb : Array Value} (hv : ReadBs w v L) (hL : L.length ≤ 10000) (hf : ∀ b ∈ L, (f b).length ≤ maxLen) (hp : TellsN w g cb f) :
    Calls Try.prog 27 #[v, .func (.func g) #[] cb] w (OnceR w (onceL [] (L.map f))) := by
  obtain ⟨eg, his⟩ := hp
  have hg := Lib.hid his
  obtain ⟨a, cap, rfl, -⟩ := id hv
  have hr := Lib.hid (fun w' hb => hv.below (w' := w') hb)
  replace hf := Lib.hid hf
  clear hv his
  go_enter Try.func27, Try.ntmps27
  go_wp2_with fail
  refine wp_scope_ghost 0 (OnceAt w (.slice a L.length cap) (.func (.func g) #[] cb) L f) rfl ?_ ?_
  · rintro n a' w' ⟨i, u, S, hfr, hi, hs, hst⟩
    obtain ⟨q, rfl, hl'⟩ := hfr.lit
    clear hfr
    simp only [List.mem_cons, List.not_mem_nil, or_false, forall_eq_or_imp, forall_eq] at hl'
    obtain ⟨f0, f1, f5, f6⟩ := hl'
    simp only [List.range, List.range.loop, List.map, f0, f1, f5, f6]
    clear f0 f1 f5 f6
    have hi0 : (0 : Int) ≤ i := by omega
    have hlen : (onceL [] ((L.take i).map f)).length ≤ 10000 := by
      have := onceL_len [] ((L.take i).map f)
      rw [List.length_map, List.length_take, List.length_nil] at this
      omega
    by_cases hlt : i < L.length
    · have hi1 : (i : Int) < L.length := by omega
      have hiB : ((i : Int) == L.length) = false := by rw [beq_eq_false_iff_ne]; omega
      have hx : L[i]? = some L[i] := List.getElem?_eq_getElem hlt
      generalize L[i] = x at hx
      have stp : onceL [] ((L.take (i + 1)).map f) = onceS (onceL [] ((L.take i).map f)) (f x) := by rw [map_step hx, onceL_snoc]
      obtain ⟨a1, c1, e, hcells⟩ := hr.out w' hst.below
      cases e
      obtain ⟨b1, o1, rfl, k1, k2, k3⟩ := hcells i x hx
      have cc := Lib.hid (hg.out w' hst.below x)
      have hml : ∀ y ∈ onceL [] ((L.take i).map f), y.length ≤ maxLen := by
        intro y hy
        rcases (onceL_mem _ _ _).1 hy with h | h
        · simp at h
        · obtain ⟨b, hb, rfl⟩ := List.mem_map.1 h
          exact hf.out b (List.mem_of_mem_take hb)
      generalize onceL [] ((L.take i).map f) = m at *
      have cn := Lib.hid (fun w2 (hb : Below w'.heap.size w' w2) => containsS_any (TssIs.read (X := []) hs (hst.grow hb) hml) (by omega) (f x))
      by_cases hin : f x ∈ m
      · rw [decide_eq_true hin] at cn
        rw [onceS, if_pos hin] at stp
        have fin : Hid (∀ w2, Below w'.heap.size w' w2 → ∀ a', Fr 29 [(0, .slice (some ⟨b1, o1, none⟩) L.length cap), (1, .func (.func g) #[] cb), (5, u), (6, .int .i64 ((i + 1 : Nat) : Int))] a' → ∃ m, m < n ∧ OnceAt w (.slice (some ⟨b1, o1, none⟩) L.length cap) (.func (.func g) #[] cb) L f m a' w2) :=
          Lib.hid fun w2 hb a' hf => ⟨n - 1, by omega, i + 1, _, S, hf, by omega, by rw [stp]; exact hs, hst.grow hb⟩
        obtain ⟨au, cu, rfl⟩ := hs.form
        obtain ⟨x1, x2, x3⟩ := x
        simp only at k1 k2 k3
        generalize m.length = q0 at *
        clear hs hst hx stp hlen hr hg hml hin
        generalize f (x1, x2, x3) = y at *
        go_wp2_with fail
        refine cc.out.mono ?_
        rintro e w2 ⟨rfl, hb⟩
        replace fin := Lib.hid (fin.out _ hb)
        replace cn := Lib.hid (cn.out _ hb)
        clear cc hb k1 k2 k3
        go_wp2_with fail
        refine cn.out.mono ?_
        rintro e w3 ⟨rfl, rfl⟩
        go_wp2_with fail
        refine wp_goto ?_
        exact ⟨rfl, fin.out _ ⟨rfl, rfl, by simp⟩⟩
      · rw [decide_eq_false hin] at cn
        rw [onceS, if_neg hin] at stp
        have ap : Hid (∀ w2, Below w'.heap.size w' w2 → ∃ a cap2 W2, (Builtin.append_ #[41, 41] 0 #[u, .slice (some ⟨w2.heap.size, 0, none⟩) 1 1]).run Try.prog (w2.alloc (.cells #[tx (f x)] 9)) = .ok (.slice a (m.length + 1) cap2) W2 ∧
            ∀ a', Fr 29 [(0, .slice (some ⟨b1, o1, none⟩) L.length cap), (1, .func (.func g) #[] cb), (5, .slice a (m.length + 1) cap2), (6, .int .i64 ((i + 1 : Nat) : Int))] a' → ∃ m, m < n ∧ OnceAt w (.slice (some ⟨b1, o1, none⟩) L.length cap) (.func (.func g) #[] cb) L f m a' W2) := by
          refine Lib.hid fun w2 hb => ?_
          obtain ⟨a, cap2, W2, F2, hrun, hs2, hst2⟩ := TssIs.append (X := []) hs (hst.grow hb) (f x) (by omega)
          refine ⟨a, cap2, W2, hrun, fun a' hf => ⟨n - 1, by omega, i + 1, _, F2, hf, by omega, ?_, hst2⟩⟩
          rw [stp]
          exact hs2
        obtain ⟨au, cu, rfl⟩ := hs.form
        obtain ⟨x1, x2, x3⟩ := x
        simp only at k1 k2 k3
        generalize m.length = q0 at *
        clear hs hst hx stp hlen hr hg hml hin
        generalize f (x1, x2, x3) = y at *
        go_wp2_with fail
        refine cc.out.mono ?_
        rintro e w2 ⟨rfl, hb⟩
        obtain ⟨a2, cap2, W2, hrun, fin⟩ := ap.out _ hb
        replace fin := Lib.hid fin
        replace cn := Lib.hid (cn.out _ hb)
        clear cc ap hb k1 k2 k3
        go_wp2_with fail
        refine cn.out.mono ?_
        rintro e w3 ⟨rfl, rfl⟩
        go_wp2_with (at_builtin; refine wpList_append_go rfl (.tmp 23) (.tmp 25) 41 41 rfl _ _ rfl rfl hrun ?_)
        refine wp_goto ?_
        exact ⟨rfl, fin.out _ ⟨rfl, rfl, by simp⟩⟩
    · obtain rfl : i = L.length := by omega
      rw [List.take_of_length_le (Nat.le_refl _)] at hs
      have fin : Hid (OnceR w (onceL [] (L.map f)) (.returned u) w') := Lib.hid ⟨u, S, rfl, hs, hst⟩
      obtain ⟨au, cu, rfl⟩ := hs.form
      clear hs hst hg hr hlen
      go_wp2_with fail
      simp only [Exit.jump]
      go_ret
      exact fin.out
  · intro H
    go_wp2_with fail
    refine wp_label ?_
    go_step
    go_step
    exact H L.length _ _ ⟨0, _, [], ⟨rfl, rfl, by simp⟩, by omega, TssIs.nil, St.start w⟩
end
end Go.Proofs.Ytpogfbnaendfoaa
