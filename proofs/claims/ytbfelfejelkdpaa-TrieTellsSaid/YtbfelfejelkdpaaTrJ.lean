/- A trie: pairs added, dropped. -/
import Derived.Test.YtbfelfejelkdpaaTrI
namespace Go.Proofs.Ytbfelfejelkdpaa
open Go.RowKit
open Go.ChangeMaps (setBlock)
set_option linter.unusedVariables false
set_option linter.unusedSectionVars false
set_option linter.unusedSimpArgs false
set_option maxRecDepth 100000

section
variable {B : Nat} {w0 w : World} {F : List (Nat × Obj)} {L : List Nd} {tb c : Nat} {n m : Nd} {M : Prs}

set_option maxHeartbeats 1000000 in
theorem add_any (h : TrIs B w0 w tb M F c) (l : List UInt8) (k : Int) (hl : l.length ≤ 1000) (hc : c ≤ 700000) (hM : M.length ≤ 100000) :
    Calls Try.prog 9 #[np tb, tx l, .int .i64 k] w fun e w' => e = .returned (.tuple #[]) ∧ TrIs B w0 w' tb (addM M (wordsL l, k)) F (c + (wordsL l).length + 1) := by
  obtain ⟨L, hst, ht, hid, hnd, hroot⟩ := h
  obtain ⟨n0, hn0, e1, e2⟩ := ht.root
  have cl := lay_any hst ht hn0 e1 l hl (by omega)
  have hwl := words_len l
  rw [e2] at cl
  replace cl := Lib.hid cl
  clear hst ht hn0 e1 e2
  generalize wordsL l = P at *
  have hPl : P.length ≤ 1001 := by omega
  clear hwl
  go_enter Try.func9, Try.ntmps9
  go_wp2_with fail
  refine cl.out.mono ?_
  rintro e w1 ⟨L1, m, rfl, hm, hmp, hst1, ht1, hs1⟩
  have ch := Lib.hid (hasI_any (hst1.tabI hm) (fun e => ((ht1.oks m hm).2.bare e).1) (ht1.bare m hm) k)
  have hiff : k ∈ m.i.es.map (·.1) ↔ (P, k) ∈ M := by
    rw [← HasId.of ht1 hm, hmp, hs1.ids, hid]
  clear cl
  by_cases hk : (P, k) ∈ M
  · have hd : decide (k ∈ m.i.es.map (·.1)) = true := by simpa using hiff.2 hk
    rw [hd] at ch
    have fin : Hid (∀ w2, Below w1.heap.size w1 w2 → TrIs B w0 w2 tb (addM M (P, k)) F (c + P.length + 1)) := Lib.hid fun w2 hb => by
      unfold addM
      rw [if_pos hk]
      exact ⟨L1, hst1.grow hb, ht1.mono (Nat.le_succ _), fun p k => (hs1.ids p k).trans (hid p k), hnd, hs1.root _ hroot⟩
    clear hst1 ht1 hs1 hid hnd hroot hm hmp hiff hd hk
    go_wp2_with fail
    refine ch.out.mono ?_
    rintro e w2 ⟨rfl, hb⟩
    have fin := Lib.hid (fin.out _ hb)
    clear hb
    go_wp2_with fail
    exact bodyPost_end (results_none rfl _ _ _) rfl ⟨rfl, fin.out⟩
  · have hd : decide (k ∈ m.i.es.map (·.1)) = false := by simpa using fun e => hk (hiff.1 e)
    have hk2 : k ∉ m.i.es.map (·.1) := fun e => hk (hiff.1 e)
    rw [hd] at ch
    have put : Hid (∀ w2, Below w1.heap.size w1 w2 → Calls Try.prog 19 #[.pointer (some ⟨m.b, 4, none⟩), .int .i64 k, .agg #[]] w2 fun e w3 => e = .returned (.tuple #[]) ∧
        w3.cell? ⟨tb, 6, none⟩ = some (.int .i64 M.length) ∧ w3.frozen? ⟨tb, 6, none⟩ = false ∧ TrIs B w0 (w3.setCell ⟨tb, 6, none⟩ (.int .i64 ((M.length : Int) + 1))) tb (addM M (P, k)) F (c + P.length + 1)) := Lib.hid fun w2 hb => by
      obtain ⟨R, hp, g1, g2⟩ := ids_turn (hst1.grow hb) ht1 hm
      refine (putI_is g1 rfl rfl (ht1.oks m hm).2 (by omega) hk2).mono ?_
      rintro e w3 ⟨rfl, i', ⟨g3, g4⟩, g5⟩
      have hbare : Bare i' := by
        intro e he
        have : (e.1, e.2.1) ∈ i'.rows := List.mem_map_of_mem (f := fun e => (e.1, e.2.1)) he
        rw [g3] at this
        rcases List.mem_append.1 this with h | h
        · obtain ⟨e', he', h'⟩ := List.mem_map.1 h
          simp only [Prod.mk.injEq] at h'
          rw [← h'.2]
          exact ht1.bare m hm e' he'
        · rw [List.mem_singleton, Prod.mk.injEq] at h
          exact h.2
      obtain ⟨k1, k2, k3, k4⟩ := g2 w3 i' (c + P.length + 1) g5 hbare (Nat.le_succ _) g4
      obtain ⟨q1, q2, L3, q3, q4, q5, q6, -⟩ := root_set (v' := .int .i64 ((M.length : Int) + 1)) k1 k2 (k3 _ (hs1.root _ hroot))
      refine ⟨rfl, q1, q2, L3, q3, q4, ?_, ?_, ?_⟩
      · intro p k'
        rw [q5, k4, mem_add, hmp]
        split
        · rename_i e
          subst e
          rw [g3, List.map_append, List.mem_append, keys_rows, ← HasId.of ht1 hm, hmp, hs1.ids, hid]
          simp
        · rename_i e
          rw [hs1.ids, hid]
          simp [e]
      · unfold addM
        rw [if_neg hk, List.nodup_append]
        exact ⟨hnd, by simp, by rintro a ha b hb rfl; rw [List.mem_singleton] at hb; subst hb; exact hk ha⟩
      · unfold addM
        rw [if_neg hk, List.length_append, List.length_singleton]
        simpa using q6
    have hMl : (M.length : Int) ≤ 100000 := by omega
    have hM0 : (0 : Int) ≤ M.length := by omega
    clear hst1 ht1 hs1 hid hnd hroot hm hmp hiff hd hk hk2
    generalize M.length = ml at *
    go_wp2_with fail
    refine ch.out.mono ?_
    rintro e w2 ⟨rfl, hb⟩
    have put := Lib.hid (put.out _ hb)
    clear hb
    go_wp2_with fail
    refine put.out.mono ?_
    rintro e w3 ⟨rfl, q1, q2, q3⟩
    replace q3 := Lib.hid q3
    clear put ch
    go_wp2_with fail
    exact bodyPost_end (results_none rfl _ _ _) rfl ⟨rfl, q3.out⟩

set_option maxHeartbeats 1000000 in
theorem tdrop_any (h : TrIs B w0 w tb M F c) (l : List UInt8) (k : Int) (hl : l.length ≤ 1000) (hc : c ≤ 700000) (hM : M.length ≤ 100000) :
    Calls Try.prog 8 #[np tb, tx l, .int .i64 k] w fun e w' => e = .returned (.bool (decide ((wordsL l, k) ∈ M))) ∧ TrIs B w0 w' tb (cutM M (wordsL l, k)) F c := by
  have hall := Lib.hid h
  obtain ⟨L, hst, ht, hid, hnd, hroot⟩ := h
  obtain ⟨n0, hn0, e1, e2⟩ := ht.root
  have cl := find_any hst ht hn0 e1 l hl
  rw [e2] at cl
  generalize wordsL l = P at *
  cases hm : nd L P with
  | none =>
    have hno : (P, k) ∉ M := fun e => by
      obtain ⟨q, hq, e3, -⟩ := (hid P k).2 e
      exact nd_none.1 hm q hq e3
    have hd : decide ((P, k) ∈ M) = false := by simpa using hno
    unfold ptrP at cl
    rw [hm] at cl
    rw [hd, cutM_none hno]
    replace cl := Lib.hid cl
    clear hst ht hid hnd hroot hn0 e1 e2 hm hno hd
    go_enter Try.func8, Try.ntmps8
    go_wp2_with fail
    refine cl.out.mono ?_
    rintro e w1 ⟨rfl, hb⟩
    have fin := Lib.hid (hall.out.grow hb)
    clear hb cl hall
    go_wp2_with fail
    go_ret
    exact ⟨rfl, fin.out⟩
  | some m =>
    obtain ⟨hm1, hm2⟩ := nd_mem hm
    have hiff : k ∈ m.i.es.map (·.1) ↔ (P, k) ∈ M := by
      rw [← HasId.of ht hm1, hm2, hid]
    unfold ptrP at cl
    rw [hm] at cl
    replace cl := Lib.hid cl
    have ch : Hid (∀ w1, Below w.heap.size w w1 → Calls Try.prog 15 #[.pointer (some ⟨m.b, 4, none⟩), .int .i64 k] w1 fun e w' => e = .returned (.bool (decide ((P, k) ∈ M))) ∧ Below w1.heap.size w1 w') := Lib.hid fun w1 hb => by
      have := hasI_any ((hst.grow hb).tabI hm1) (fun e => ((ht.oks m hm1).2.bare e).1) (ht.bare m hm1) k
      rw [decide_eq_decide.2 hiff] at this
      exact this
    by_cases hk : (P, k) ∈ M
    · have hd : decide ((P, k) ∈ M) = true := by simpa using hk
      rw [hd] at ch ⊢
      have cd : Hid (∀ w2, Below w.heap.size w w2 → Calls Try.prog 16 #[.pointer (some ⟨m.b, 4, none⟩), .int .i64 k] w2 fun e w3 => e = .returned (.tuple #[]) ∧
          w3.cell? ⟨tb, 6, none⟩ = some (.int .i64 M.length) ∧ w3.frozen? ⟨tb, 6, none⟩ = false ∧ Calls Try.prog 17 #[np m.b] (w3.setCell ⟨tb, 6, none⟩ (.int .i64 ((M.length : Int) - 1))) fun e w4 => e = .returned (.tuple #[]) ∧ TrIs B w0 w4 tb (cutM M (P, k)) F c) := Lib.hid fun w2 hb => by
        obtain ⟨R, hp, g1, g2⟩ := ids_turn (hst.grow hb) ht hm1
        refine (dropI_any g1 rfl rfl (ht.oks m hm1).2 (ht.bare m hm1) (by omega) (hiff.2 hk)).mono ?_
        rintro e w3 ⟨rfl, i', ⟨g3, g4⟩, g5⟩
        have hbare : Bare i' := by
          intro e he
          have : (e.1, e.2.1) ∈ i'.rows := List.mem_map_of_mem (f := fun e => (e.1, e.2.1)) he
          have := (List.mem_filter.1 (g3.mem_iff.1 this)).1
          obtain ⟨e', he', h'⟩ := List.mem_map.1 this
          simp only [Prod.mk.injEq] at h'
          rw [← h'.2]
          exact ht.bare m hm1 e' he'
        obtain ⟨k1, k2, k3, k4⟩ := g2 w3 i' c g5 hbare (Nat.le_refl _) g4
        obtain ⟨q1, q2, L3, q3, q4, q5, q6, q7⟩ := root_set (v' := .int .i64 ((M.length : Int) - 1)) k1 k2 (k3 _ hroot)
        refine ⟨rfl, q1, q2, ?_⟩
        obtain ⟨m3, hm3, -, e4⟩ := q7 { m with i := i' } List.mem_cons_self
        have e4 : m3.b = m.b := e4
        have pr := prune_any q3 q4 hm3 (by omega)
        rw [e4] at pr
        refine pr.mono ?_
        rintro e w4 ⟨rfl, L4, r1, r2, r3⟩
        refine ⟨rfl, L4, r1, r2, ?_, hnd.filter _, ?_⟩
        · intro p k'
          rw [r3.ids, q5, k4, mem_cut, hm2]
          split
          · rename_i e
            subst e
            rw [(g3.map (·.1)).mem_iff]
            have : k' ∈ (m.i.rows.filter fun x => decide (x.1 ≠ k)).map (·.1) ↔ k' ∈ m.i.rows.map (·.1) ∧ k' ≠ k := by
              simp only [List.mem_map, List.mem_filter, decide_eq_true_eq]
              constructor
              · rintro ⟨x, ⟨h1, h2⟩, rfl⟩
                exact ⟨⟨x, h1, rfl⟩, h2⟩
              · rintro ⟨⟨x, h1, rfl⟩, h2⟩
                exact ⟨x, ⟨h1, h2⟩, rfl⟩
            rw [this, keys_rows, ← HasId.of ht hm1, hm2, hid]
            simp
          · rename_i e
            rw [hid]
            simp [e]
        · have := cut_len hnd hk
          have e5 : ((cutM M (P, k)).length : Int) = (M.length : Int) - 1 := by omega
          rw [e5]
          exact r3.root _ q6
      have hMl : (M.length : Int) ≤ 100000 := by omega
      have hM0 : (1 : Int) ≤ M.length := by
        have := List.length_pos_of_mem hk
        omega
      clear hst ht hid hnd hroot hn0 e1 e2 hm hm1 hm2 hiff hd hk hall
      generalize M.length = ml at *
      go_enter Try.func8, Try.ntmps8
      go_wp2_with fail
      refine cl.out.mono ?_
      rintro e w1 ⟨rfl, hb⟩
      have ch := Lib.hid (ch.out _ hb)
      replace hb := Lib.hid hb
      go_wp2_with fail
      refine ch.out.mono ?_
      rintro e w2 ⟨rfl, hb2⟩
      have cd := Lib.hid (cd.out _ (bel hb.out hb2))
      clear hb hb2 ch cl
      go_wp2_with fail
      refine cd.out.mono ?_
      rintro e w3 ⟨rfl, q1, q2, q3⟩
      replace q3 := Lib.hid q3
      clear cd
      go_wp2_with fail
      refine q3.out.mono ?_
      rintro e w4 ⟨rfl, fin⟩
      replace fin := Lib.hid fin
      go_wp2_with fail
      go_ret
      exact ⟨rfl, fin.out⟩
    · have hd : decide ((P, k) ∈ M) = false := by simpa using hk
      rw [hd] at ch ⊢
      rw [cutM_none hk]
      clear hst ht hid hnd hroot hn0 e1 e2 hm hm1 hm2 hiff hd hk
      go_enter Try.func8, Try.ntmps8
      go_wp2_with fail
      refine cl.out.mono ?_
      rintro e w1 ⟨rfl, hb⟩
      have ch := Lib.hid (ch.out _ hb)
      replace hb := Lib.hid hb
      go_wp2_with fail
      refine ch.out.mono ?_
      rintro e w2 ⟨rfl, hb2⟩
      have fin := Lib.hid (hall.out.grow (bel hb.out hb2))
      clear hb hb2 ch cl hall
      go_wp2_with fail
      go_ret
      exact ⟨rfl, fin.out⟩
end
end Go.Proofs.Ytbfelfejelkdpaa
