/- Match, the document's: by a table. -/
import Derived.Test.YtbfelfejelkdpaaPtD
import Derived.RegionTactic
namespace Go.Proofs.Ytbfelfejelkdpaa
open Go.RowKit
set_option linter.unusedVariables false
set_option maxRecDepth 100000

theorem uBools0 : Try.prog.underlying 76 = some (.slice 4) := by kernel_rfl
theorem infBool0 : (Try.prog.info? 4).map (fun i => (i.zero, i.size, i.bytes)) = some (some (.bool false), 1, 1) := by kernel_rfl
/-- A row of so many answers. -/
def rowB (r : Nat → Bool) (m : Nat) : Obj := .cells ((List.range m).map fun i => Value.bool (r i)).toArray 4
/-- .. of which the first k are told. -/
def part (r : Nat → Bool) (k : Nat) : Nat → Bool := fun i => decide (i < k) && r i
theorem rowB_congr {r s : Nat → Bool} {m : Nat} (h : ∀ i, i < m → r i = s i) : rowB r m = rowB s m := by
  unfold rowB
  congr 2
  apply List.map_congr_left
  intro i hi
  rw [h i (List.mem_range.1 hi)]
theorem rowB_set {r s : Nat → Bool} {m k : Nat} {v : Bool} (h : ∀ i, i < m → s i = if i = k then v else r i) : (.cells (((List.range m).map fun i => Value.bool (r i)).toArray.setIfInBounds k (.bool v)) 4 : Obj) = rowB s m := by
  unfold rowB
  congr 1
  rw [List.setIfInBounds_toArray]
  congr 1
  apply List.ext_getElem?
  intro i
  rw [List.getElem?_set]
  by_cases hi : i < m
  · by_cases e : k = i
    · subst e
      simp [hi, h k hi]
    · simp [hi, h i hi, e, Ne.symm e]
  · by_cases e : k = i
    · subst e
      simp [hi]
    · simp [hi, e]
theorem part_next (r : Nat → Bool) (k : Nat) {m : Nat} : ∀ i, i < m → part r (k + 1) i = if i = k then r k else part r k i := by
  intro i _
  unfold part
  by_cases e : i = k
  · subst e; simp
  · rw [if_neg e]
    congr 1
    apply decide_eq_decide.2
    omega
theorem part_all (r : Nat → Bool) (m : Nat) : rowB (part r m) m = rowB r m := rowB_congr fun i hi => by simp [part, hi]
theorem mk_row10 (w : World) (n : Nat) (h1 : n ≤ 1073741824) :
    (Instr.makeSlice 76 (.int .i64 ((n : Int) + 1)) (.int .i64 ((n : Int) + 1))).run Try.prog w = .ok (.slice (some ⟨w.heap.size, 0, none⟩) (n + 1) (n + 1)) (w.alloc (rowB (fun _ => false) (n + 1))) := by
  obtain ⟨i0, hi, hz0, hz1, hz2⟩ := info_parts infBool0
  have h := run_make (P := Try.prog) w 76 4 i0 (.bool false) uBools0 hi hz0 .i64 .i64 ((n + 1 : Nat) : Int) ((n + 1 : Nat) : Int) (by omega) (Int.le_refl _) (by rw [hz2]; omega) (by omega)
  rw [show ((n : Int) + 1) = ((n + 1 : Nat) : Int) by omega, h, Int.toNat_natCast]
  congr 2
  unfold rowB
  congr 1
  apply Array.toList_inj.1
  rw [hz1, Nat.mul_one, show (Value.bool false).cells = #[Value.bool false] from rfl, toList_madeCells_one]
  apply List.ext_getElem?
  intro i
  by_cases hi : i < n + 1 <;> simp [hi]

/-- Both rows. -/
def Rows2 (w wr : World) (b2 b : Nat) (s r : Nat → Bool) (m : Nat) : Prop := St w.heap.size w wr [(b2, rowB s m), (b, rowB r m)]
section
variable {w wr : World} {b2 b m : Nat} {s r : Nat → Bool}
theorem Rows2.cell2 (h : Rows2 w wr b2 b s r m) {i : Nat} (hi : i < m) : wr.cell? ⟨b2, i, none⟩ = some (.bool (s i)) := St.cell (b := b2) h List.mem_cons_self (by simp [hi])
theorem Rows2.cell1 (h : Rows2 w wr b2 b s r m) {i : Nat} (hi : i < m) : wr.cell? ⟨b, i, none⟩ = some (.bool (r i)) := St.cell (b := b) h (List.mem_cons_of_mem _ List.mem_cons_self) (by simp [hi])
theorem Rows2.soft (h : Rows2 w wr b2 b s r m) (i : Nat) : wr.frozen? ⟨b2, i, none⟩ = false := St.soft (b := b2) h List.mem_cons_self i
theorem Rows2.drew (h : Rows2 w wr b2 b s r m) : Rows2 w wr.drew b2 b s r m := St.drew h
theorem Rows2.put (h : Rows2 w wr b2 b s r m) {k : Nat} {v : Bool} {s' : Nat → Bool} (hs : ∀ i, i < m → s' i = if i = k then v else s i) : Rows2 w (wr.setCell ⟨b2, k, none⟩ (.bool v)) b2 b s' r m := by
  have := St.set0 h k (.bool v)
  rw [rowB_set hs] at this
  exact this
end

set_option maxHeartbeats 8000000 in
set_option maxRecDepth 100000 in
theorem rmatch_to {p k : List UInt8} (hp : p.length ≤ 1000000) (hk : k.length ≤ 1000000) (w : World) :
    Calls Try.prog 26 #[tx p, tx k] w fun e w' => e = .returned (.bool (gl (wordsL p) (wordsL k))) ∧ Below w.heap.size w w' := by
  have c1 := Lib.hid (rwords_to hp w)
  have c2 := Lib.hid (fun W => rwords_to hk W)
  have lp : (wordsL p).length ≤ 1000001 := by have := words_len p; omega
  have lk : (wordsL k).length ≤ 1000001 := by have := words_len k; omega
  generalize wordsL p = P at *
  generalize wordsL k = K at *
  clear hp hk
  go_enter Try.func26, Try.ntmps26
  go_wp2_with fail
  refine c1.out.mono ?_
  rintro e w1 ⟨v1, rfl, ⟨a, ca, rfl, r1⟩, hb1⟩
  replace hb1 := Lib.hid hb1
  replace r1 := Lib.hid r1
  go_wp2_with fail
  refine (c2.out _).mono ?_
  rintro e w2 ⟨v2, rfl, ⟨c, cc, rfl, r2⟩, hb⟩
  have hb2 := Lib.hid (bel hb1.out hb)
  replace r1 := Lib.hid (r1.out.below hb)
  replace r2 := Lib.hid r2
  clear hb c1 c2 hb1
  have hmk : ∀ W : World, _ := fun W => mk_row10 W K.length (by omega)
  have h0 : St w2.heap.size w2 (w2.alloc (rowB (fun _ => false) (K.length + 1))) [(w2.heap.size, rowB (fun _ => false) (K.length + 1))] := (St.start w2).alloc _
  have h0f := h0.soft (b := w2.heap.size) (c := _) (T := _) List.mem_cons_self 0
  have h0c : (w2.alloc (rowB (fun _ => false) (K.length + 1))).cell? ⟨w2.heap.size, 0, none⟩ = some (.bool false) := h0.cell (b := w2.heap.size) List.mem_cons_self (by simp)
  have h1 := h0.set0 0 (.bool true)
  rw [rowB_set (s := rowR P K 0) (fun i hi => by
    by_cases e : i = 0 <;> simp [rowR, e])] at h1
  replace h1 := Lib.hid h1
  clear h0
  go_wp2_with fail
  clear h0f h0c
  generalize (w2.alloc (rowB (fun _ => false) (K.length + 1))).setCell ⟨w2.heap.size, 0, none⟩ (.bool true) = w3 at *
  go_loopg [7, 8] P.length (fun g v7 v8 wr => ∃ b i : Nat, v7 = .slice (some ⟨b, 0, none⟩) (K.length + 1) (K.length + 1) ∧ v8 = .int .i64 i ∧ i + g = P.length ∧ Hid (St w2.heap.size w2 wr [(b, rowB (rowR P K i) (K.length + 1))]))
  case atStart => exact ⟨_, 0, rfl, rfl, by omega, h1⟩
  case round =>
    clear h1
    obtain ⟨b, i, rfl, rfl, hi, hst⟩ := hrel
    have hi0 : (0 : Int) ≤ i := by omega
    by_cases hlt : i < P.length
    · have hi1 : (i : Int) < P.length := by omega
      have hx : P[i]? = some P[i] := List.getElem?_eq_getElem hlt
      have hnext : rowR P K (i + 1) = nextR (rowR P K i) P[i] K := by simp [rowR, List.getD_eq_getElem?_getD, hx]
      generalize P[i] = x at hx hnext
      have hR : Rows2 w2 (wr.alloc (rowB (fun _ => false) (K.length + 1))) wr.heap.size b (part (rowR P K (i + 1)) 0) (rowR P K i) (K.length + 1) := by
        have e : rowB (part (rowR P K (i + 1)) 0) (K.length + 1) = rowB (fun _ => false) (K.length + 1) := rowB_congr fun i _ => by simp [part]
        unfold Rows2
        rw [e]
        exact hst.out.alloc _
      replace hR := Lib.hid hR
      have cx : Hid (∀ W, Below w2.heap.size w2 W → ∃ ba offa, a = some ⟨ba, offa, none⟩ ∧ W.cell? ⟨ba, offa + i, none⟩ = some (tx x)) := Lib.hid fun W hb => ((r1.out.below hb).at_ i x hx).2
      replace hnext := Lib.hid hnext
      clear hst hx
      go_wp2_with fail
      generalize wr.heap.size = b2 at *
      generalize wr.alloc (rowB (fun _ => false) (K.length + 1)) = w4 at *
      go_loopg [10] (K.length + 1) (fun g v10 wt => ∃ k : Nat, v10 = .int .i64 k ∧ k + g = K.length + 1 ∧ Hid (Rows2 w2 wt b2 b (part (rowR P K (i + 1)) k) (rowR P K i) (K.length + 1)))
      case atStart => exact ⟨0, rfl, by omega, hR⟩
      case round =>
        clear hR
        obtain ⟨k, rfl, hk, hR⟩ := hrel
        have hk0 : (0 : Int) ≤ k := by omega
        by_cases hkn : k ≤ K.length
        · have hk1 : (k : Int) ≤ K.length := by omega
          obtain ⟨ba, offa, rfl, hcx⟩ := cx.out wr hR.out.below
          have hsf := hR.out.soft k
          have put : Hid (∀ v, rowR P K (i + 1) k = v → Rows2 w2 (wr.setCell ⟨b2, k, none⟩ (.bool v)) b2 b (part (rowR P K (i + 1)) (k + 1)) (rowR P K i) (K.length + 1)) := Lib.hid fun v hv => hR.out.put (fun i hi => by rw [← hv]; exact part_next _ _ i hi)
          have hc2 : wr.cell? ⟨b2, k, none⟩ = some (.bool false) := by
            have := hR.out.cell2 (i := k) (by omega)
            rwa [part, decide_eq_false (Nat.lt_irrefl k), Bool.false_and] at this
          by_cases hh : x = [35]
          · subst hh
            have hs := hnext.out
            rw [show nextR (rowR P K i) [35] K = hashR (rowR P K i) from if_pos rfl] at hs
            have hc1 := hR.out.cell1 (i := k) (by omega)
            cases hrk : rowR P K i k with
            | true =>
              have hv := Lib.hid (put.out true (by
                rw [hs]
                cases k with
                | zero => exact hrk
                | succ k => rw [hashR, hrk, Bool.true_or]))
              rw [hrk] at hc1
              clear put hs hrk hR
              go_wp2_with fail
              go_roundg (K.length + 1 - (k + 1))
              case measure => omega
              case rel => exact ⟨k + 1, by go_num, by omega, hv⟩
            | false =>
              cases k with
              | zero =>
                have hv := Lib.hid (put.out false (by rw [hs]; exact hrk))
                rw [hrk] at hc1
                clear put hs hrk hR
                go_wp2_with fail
                go_roundg (K.length + 1 - (0 + 1))
                case measure => omega
                case rel => exact ⟨0 + 1, by go_num, by omega, hv⟩
              | succ k =>
                have hv := Lib.hid (put.out (rowR P K (i + 1) k) (by rw [hs, hashR, hrk, Bool.false_or]))
                have hc3 := hR.out.cell2 (i := k) (by omega)
                rw [part, decide_eq_true (show k < k + 1 by omega), Bool.true_and] at hc3
                rw [hrk] at hc1
                have hkk : (0 : Int) ≤ k := by omega
                have hkp : (0 : Int) < ((k + 1 : Nat) : Int) := by omega
                have hke : ((k + 1 : Nat) : Int) - 1 = k := by omega
                clear put hs hrk hR
                go_wp2_with fail
                go_roundg (K.length + 1 - (k + 1 + 1))
                case measure => omega
                case rel => exact ⟨k + 1 + 1, by go_num, by omega, hv⟩
          · have hs := hnext.out
            rw [show nextR (rowR P K i) x K = oneR (rowR P K i) x K from if_neg hh] at hs
            have hhB : (x == [35]) = false := by simpa using hh
            cases k with
            | zero =>
              have hv := Lib.hid (put.out false (by rw [hs]; rfl))
              clear put hs hR
              go_wp2_with fail
              go_region
              replace hv := Lib.hid (Rows2.drew hv.out)
              go_wp2_with fail
              go_roundg (K.length + 1 - (0 + 1))
              case measure => omega
              case rel => exact ⟨0 + 1, by go_num, by omega, hv⟩
            | succ k =>
              replace hs : rowR P K (i + 1) (k + 1) = (rowR P K i k && stands x (K.getD k [])) := congrFun hs (k + 1)
              have hc1 := hR.out.cell1 (i := k) (by omega)
              have hkk : (0 : Int) ≤ k := by omega
              have hkp : (0 : Int) < ((k + 1 : Nat) : Int) := by omega
              have hke : ((k + 1 : Nat) : Int) - 1 = k := by omega
              have hy : K[k]? = some K[k] := List.getElem?_eq_getElem (by omega)
              have hyd : K.getD k [] = K[k] := by simp [List.getD_eq_getElem?_getD, hy]
              rw [hyd] at hs
              generalize K[k] = y at hy hs
              obtain ⟨-, bc, offc, rfl, hcy⟩ := (r2.out.below hR.out.below).at_ k y hy
              cases hrk : rowR P K i k with
              | false =>
                have hv := Lib.hid (put.out false (by rw [hs, hrk, Bool.false_and]))
                rw [hrk] at hc1
                clear put hs hR hrk hy hyd hcy
                go_wp2_with fail
                go_region
                replace hv := Lib.hid (Rows2.drew hv.out)
                go_wp2_with fail
                go_roundg (K.length + 1 - (k + 1 + 1))
                case measure => omega
                case rel => exact ⟨k + 1 + 1, by go_num, by omega, hv⟩
              | true =>
                rw [hrk, Bool.true_and] at hs
                rw [hrk] at hc1
                by_cases hx42 : x = [42]
                · have hx42B : (x == [42]) = true := by simpa using hx42
                  have hv := Lib.hid (put.out true (by rw [hs, stands, hx42B, Bool.true_or]))
                  clear put hs hR hrk hy hyd
                  go_wp2_with fail
                  go_region
                  replace hv := Lib.hid (Rows2.drew hv.out)
                  go_wp2_with fail
                  go_roundg (K.length + 1 - (k + 1 + 1))
                  case measure => omega
                  case rel => exact ⟨k + 1 + 1, by go_num, by omega, hv⟩
                · have hx42B : (x == [42]) = false := by simpa using hx42
                  have hv := Lib.hid (put.out (x == y) (by rw [hs, stands, hx42B, Bool.false_or]))
                  clear put hs hR hrk hy hyd
                  go_wp2_with fail
                  go_region
                  all_goals
                    replace hv := Lib.hid (Rows2.drew hv.out)
                    go_wp2_with fail
                    go_roundg (K.length + 1 - (k + 1 + 1))
                    case measure => omega
                    case rel => exact ⟨k + 1 + 1, by go_num, by omega, hv⟩
        · obtain rfl : k = K.length + 1 := by omega
          have hst : St w2.heap.size w2 wr [(b2, rowB (rowR P K (i + 1)) (K.length + 1))] := by
            have h2 := hR.out
            unfold Rows2 at h2
            rw [part_all] at h2
            exact h2.sub (List.Sublist.cons_cons _ (List.nil_sublist _))
          replace hst := Lib.hid hst
          clear hR cx hnext
          go_wp2_with fail
          go_roundg (P.length - (i + 1))
          case measure => omega
          case rel => exact ⟨b2, i + 1, rfl, by go_num, by omega, hst⟩
    · obtain rfl : i = P.length := by omega
      have hc := hst.out.cell (b := b) List.mem_cons_self (i := K.length) (v := .bool (gl P K)) (by simp [row_last])
      have hb := Lib.hid (bel hb2.out hst.out.below)
      clear hst
      go_wp2_with fail
      go_ret
      exact ⟨rfl, hb.out⟩
end Go.Proofs.Ytbfelfejelkdpaa
