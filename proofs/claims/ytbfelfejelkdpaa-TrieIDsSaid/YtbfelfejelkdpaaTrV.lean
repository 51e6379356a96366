/- TrieIDs, walked. -/
import Derived.Test.YtbfelfejelkdpaaTrU
namespace Go.Proofs.Ytbfelfejelkdpaa
open Go.RowKit
set_option linter.unusedVariables false
set_option linter.unusedSectionVars false
set_option linter.unusedSimpArgs false
set_option maxRecDepth 100000

abbrev rowsF (ia ib : Nat) (X Y : Nat → Bool) : List (Nat × Obj) := [(ib, allO Y), (ia, allO X)]
section
variable {B : Nat} {w0 w : World} {tb ia ib c k : Nat} {M : Prs} {X Y : Nat → Bool}
theorem cellX (h : TrIs B w0 w tb M (rowsF ia ib X Y) c) (hk : k < 256) : w.cell? ⟨ia, k, none⟩ = some (.bool (X k)) := h.cell (k := ia) (List.mem_cons_of_mem _ List.mem_cons_self) (by rw [List.getElem?_toArray, tabB_at _ hk])
theorem cellY (h : TrIs B w0 w tb M (rowsF ia ib X Y) c) (hk : k < 256) : w.cell? ⟨ib, k, none⟩ = some (.bool (Y k)) := h.cell (k := ib) List.mem_cons_self (by rw [List.getElem?_toArray, tabB_at _ hk])
theorem softX (h : TrIs B w0 w tb M (rowsF ia ib X Y) c) (j : Nat) : w.frozen? ⟨ia, j, none⟩ = false := TrIs.soft (cs := (tabB 256 X).toArray) (U := 39) h (List.mem_cons_of_mem _ List.mem_cons_self) j
theorem softY (h : TrIs B w0 w tb M (rowsF ia ib X Y) c) (j : Nat) : w.frozen? ⟨ib, j, none⟩ = false := TrIs.soft (cs := (tabB 256 Y).toArray) (U := 39) h List.mem_cons_self j
theorem setX (h : TrIs B w0 w tb M (rowsF ia ib X Y) c) (k : Nat) (b : Bool) : TrIs B w0 (w.setCell ⟨ia, k, none⟩ (.bool b)) tb M (rowsF ia ib (updB X k b) Y) c := by
  have h6 := TrIs.setA (P := [(ib, allO Y)]) (Q := []) h k (.bool b)
  rw [List.setIfInBounds_toArray, tabB_set] at h6
  exact h6
theorem setY (h : TrIs B w0 w tb M (rowsF ia ib X Y) c) (k : Nat) (b : Bool) : TrIs B w0 (w.setCell ⟨ib, k, none⟩ (.bool b)) tb M (rowsF ia ib X (updB Y k b)) c := by
  have h6 := TrIs.setA (P := []) (Q := [(ia, allO X)]) h k (.bool b)
  rw [List.setIfInBounds_toArray, tabB_set] at h6
  exact h6
theorem add_few {x : Wds × Int} {i : Nat} (h : M.length ≤ i) : (addM M x).length ≤ i + 1 := by
  unfold addM
  split
  · omega
  · simp; omega
theorem cnt_le (f : Nat → Bool) (k : Nat) : cnt12 f k ≤ k := by
  have := List.length_filter_le f (List.range k)
  rwa [List.length_range] at this
theorem told_row {f : Nat → Bool} {v : Value} (h : ReadInts w v (told f)) : ∃ a n cap, v = .slice a n cap ∧ n = cnt12 f 256 ∧ ∀ k, k < 256 → f k = true → cnt12 f k < n ∧ ∃ b off, a = some ⟨b, off, none⟩ ∧ w.cell? ⟨b, off + cnt12 f k, none⟩ = some (.int .i64 k) := by
  obtain ⟨a, cap, rfl, h⟩ := h
  refine ⟨a, _, cap, rfl, told_len f, fun k hk hf => ?_⟩
  have e := told_at hf hk
  exact ⟨(List.getElem?_eq_some_iff.1 e).1, h _ _ e⟩
end

set_option maxHeartbeats 16000000 in
theorem ids12_walk {a0 : Option Addr} {n cap t : Nat} {zs : List Int} {w : World} (hz : IntsAt .u8 w a0 n zs) (ht : t ≤ 255) : Calls Try.prog 5 #[.slice a0 n cap, .int .u8 t] w fun e w' => e = .returned (.bool true) ∧ Below w.heap.size w w' := by
  have c1 := Lib.hid (known12_true w)
  have hsz := hz.size
  have ht0 : (0 : Int) ≤ t := by omega
  have ht1 : (t : Int) ≤ 255 := by omega
  replace hz := Lib.hid hz
  have hz256 := zero256
  by_cases hn : n ≤ 30
  · have hn' : (n : Int) ≤ 30 := by omega
    go_enter Try.func5, Try.ntmps5
    go_wp2_with fail
    refine c1.out.mono ?_
    rintro e w1 ⟨rfl, hb⟩
    have c2 : Hid (Calls Try.prog 7 #[] w1 fun e w' => ∃ tb, e = .returned (np tb) ∧ TrIs w.heap.size w w' tb [] [] 1) := Lib.hid (new_any ⟨hb, hb.size, by simp, by simp⟩)
    clear c1 hb
    go_wp2_with fail
    refine c2.out.mono ?_
    rintro e w2 ⟨tb, rfl, h⟩
    have h0 := (h.alloc (allO fun _ => false)).alloc (allO fun _ => false)
    rw [World.size_alloc] at h0
    replace h0 := Lib.hid h0
    clear c2 h
    go_wp2_with fail
    go_loopg [8] n (fun g v8 wr => ∃ (i : Nat) (M : Prs) (X Y : Nat → Bool), v8 = .int .i64 i ∧ i + g = n ∧ Hid (IdsM M X Y ∧ M.length ≤ i) ∧ Hid (TrIs w.heap.size w wr tb M (rowsF w2.heap.size (w2.heap.size + 1) X Y) (3 * i + 1)))
    case atStart => exact ⟨0, [], _, _, rfl, by omega, Lib.hid ⟨IdsM.start, by simp⟩, h0⟩
    case round =>
      clear h0
      obtain ⟨i, M, X, Y, rfl, hi, hD, h⟩ := hrel
      have hi0 : (0 : Int) ≤ i := by omega
      by_cases hlt : i < n
      · have hi1 : (i : Int) < n := by omega
        have hx : zs[i]? = some zs[i] := List.getElem?_eq_getElem (by omega)
        generalize zs[i] = z at hx
        obtain ⟨ba, oa, rfl, cz⟩ := (hz.out.below h.out.below).at_ i z hx
        obtain ⟨z0, z1⟩ := bounds_u8 (hz.out.wf z (List.mem_of_getElem? hx))
        obtain ⟨z, rfl⟩ := Int.eq_ofNat_of_zero_le z0
        have hz255 : z < 256 := by omega
        by_cases hp : i % 2 = 0
        · have hp' : (i : Int) % 2 = 0 := by omega
          have ca := Lib.hid (add_is (M' := addM M (pX, (z : Int))) (c' := 3 * (i + 1) + 1) (P := pX) (l := [120, 46, 42]) (k := (z : Int)) (by decide) rfl (by simp; omega) h.out (by simp) (by omega) (by have := hD.out.2; omega))
          have nx : Hid (∀ w5, TrIs w.heap.size w w5 tb (addM M (pX, (z : Int))) (rowsF w2.heap.size (w2.heap.size + 1) X Y) (3 * (i + 1) + 1) →
              ((∃ v, w5.cell? ⟨w2.heap.size, z, none⟩ = some (.bool v)) ∧ w5.frozen? ⟨w2.heap.size, z, none⟩ = false ∧ w5.cell? ⟨ba, oa + i, none⟩ = some (.int .u8 z)) ∧ IdsM (addM M (pX, (z : Int))) (updB X z true) Y ∧ (addM M (pX, (z : Int))).length ≤ i + 1 ∧
              TrIs w.heap.size w (w5.setCell ⟨w2.heap.size, z, none⟩ (.bool true)) tb (addM M (pX, (z : Int))) (rowsF w2.heap.size (w2.heap.size + 1) (updB X z true) Y) (3 * (i + 1) + 1)) := Lib.hid fun w5 h5 => by
            obtain ⟨ba', oa', e1, cz5⟩ := (hz.out.below h5.below).at_ i z hx
            simp only [Option.some.injEq, Addr.mk.injEq, and_true] at e1
            obtain ⟨rfl, rfl⟩ := e1
            exact ⟨⟨⟨_, cellX h5 hz255⟩, softX h5 z, cz5⟩, hD.out.1.addX hz255, add_few hD.out.2, setX h5 z true⟩
          clear hD h hx
          go_wp2_with fail
          refine ca.out.mono ?_
          rintro e w5 ⟨rfl, h5⟩
          obtain ⟨⟨⟨v, k1⟩, k2, k3⟩, g1, g2, h6⟩ := nx.out _ h5
          replace h6 := Lib.hid h6
          have g3 := Lib.hid (And.intro g1 g2)
          clear h5 ca nx g1 g2
          go_wp2_with fail
          go_roundg (n - (i + 1))
          case measure => omega
          case rel => exact ⟨i + 1, _, _, _, by go_num, by omega, g3, h6⟩
        · have hp1 : (i : Int) % 2 = 1 := by omega
          have ca := Lib.hid (add_is (M' := addM M (pY, (z : Int))) (c' := 3 * (i + 1) + 1) (P := pY) (l := [35, 46, 121]) (k := (z : Int)) (by decide) rfl (by simp; omega) h.out (by simp) (by omega) (by have := hD.out.2; omega))
          have nx : Hid (∀ w5, TrIs w.heap.size w w5 tb (addM M (pY, (z : Int))) (rowsF w2.heap.size (w2.heap.size + 1) X Y) (3 * (i + 1) + 1) →
              ((∃ v, w5.cell? ⟨w2.heap.size + 1, z, none⟩ = some (.bool v)) ∧ w5.frozen? ⟨w2.heap.size + 1, z, none⟩ = false ∧ w5.cell? ⟨ba, oa + i, none⟩ = some (.int .u8 z)) ∧ IdsM (addM M (pY, (z : Int))) X (updB Y z true) ∧ (addM M (pY, (z : Int))).length ≤ i + 1 ∧
              TrIs w.heap.size w (w5.setCell ⟨w2.heap.size + 1, z, none⟩ (.bool true)) tb (addM M (pY, (z : Int))) (rowsF w2.heap.size (w2.heap.size + 1) X (updB Y z true)) (3 * (i + 1) + 1)) := Lib.hid fun w5 h5 => by
            obtain ⟨ba', oa', e1, cz5⟩ := (hz.out.below h5.below).at_ i z hx
            simp only [Option.some.injEq, Addr.mk.injEq, and_true] at e1
            obtain ⟨rfl, rfl⟩ := e1
            exact ⟨⟨⟨_, cellY h5 hz255⟩, softY h5 z, cz5⟩, hD.out.1.addY hz255, add_few hD.out.2, setY h5 z true⟩
          clear hD h hx
          go_wp2_with fail
          refine ca.out.mono ?_
          rintro e w5 ⟨rfl, h5⟩
          obtain ⟨⟨⟨v, k1⟩, k2, k3⟩, g1, g2, h6⟩ := nx.out _ h5
          replace h6 := Lib.hid h6
          have g3 := Lib.hid (And.intro g1 g2)
          clear h5 ca nx g1 g2
          go_wp2_with fail
          go_roundg (n - (i + 1))
          case measure => omega
          case rel => exact ⟨i + 1, _, _, _, by go_num, by omega, g3, h6⟩
      · obtain rfl : i = n := by omega
        have ht256 : t < 256 := by omega
        have ht2 : (t : Int) < 256 := by omega
        generalize w2.heap.size = ia at *
        have cd : Hid (∀ w9, TrIs w.heap.size w w9 tb M (rowsF ia (ia + 1) X Y) (3 * i + 1) → Calls Try.prog 8 #[np tb, tx [120, 46, 42], .int .i64 t] w9 fun e w' => e = .returned (.bool (X t)) ∧
            TrIs w.heap.size w w' tb (cutM M (pX, (t : Int))) (rowsF ia (ia + 1) X Y) (3 * i + 1) ∧ w'.cell? ⟨ia, t, none⟩ = some (.bool (X t))) := Lib.hid fun w9 h9 => by
          refine (tdrop_is (P := pX) (l := [120, 46, 42]) (k := (t : Int)) (by decide) rfl (hD.out.1.inX ht256) h9 (by simp) (by omega) (by have := hD.out.2; omega)).mono ?_
          rintro e w' ⟨rfl, h⟩
          exact ⟨rfl, h, cellX h ht256⟩
        have hTd := Lib.hid h.out.drew
        have hs0 : Hid (wr.drew.cell? ⟨ia, t, none⟩ = some (.bool (X t))) := Lib.hid (cellX hTd.out ht256)
        have hcw : wr.cell? ⟨ia, t, none⟩ = some (.bool (X t)) := cellX h.out ht256
        have hD2 := Lib.hid (hD.out.1.cutX (k := t))
        have after : Hid (∀ w4, TrIs w.heap.size w w4 tb (cutM M (pX, (t : Int))) (rowsF ia (ia + 1) X Y) (3 * i + 1) → w4.frozen? ⟨ia, t, none⟩ = false ∧ TrIs w.heap.size w (w4.setCell ⟨ia, t, none⟩ (.bool false)) tb (cutM M (pX, (t : Int))) (rowsF ia (ia + 1) (updB X t false) Y) (3 * i + 1)) := Lib.hid fun w4 h4 => ⟨softX h4 t, setX h4 t false⟩
        have hTd' := hTd.out
        generalize hX' : updB X t false = X' at *
        replace hX' := Lib.hid hX'
        have q1 : Hid (∀ w4, TrIs w.heap.size w w4 tb (cutM M (pX, (t : Int))) (rowsF ia (ia + 1) X' Y) (3 * i + 1) → Calls Try.prog 12 #[np tb, tx [120, 46, 121]] w4 fun e w' => ∃ v S, e = .returned v ∧ SlIs 3 1 v (told fun n => X' n || Y n).length ((told fun n => X' n || Y n).map encI) S ∧ TrIs w.heap.size w w' tb (cutM M (pX, (t : Int))) (S ++ rowsF ia (ia + 1) X' Y) (3 * i + 1)) :=
          Lib.hid fun w4 h4 => match_is (P := [[120], [121]]) (l := [120, 46, 121]) (by decide) (told_up _) hD2.out.hit1 h4 (by simp) (by omega)
        have q2 : Hid (∀ w4 S1, TrIs w.heap.size w w4 tb (cutM M (pX, (t : Int))) (S1 ++ rowsF ia (ia + 1) X' Y) (3 * i + 1) → Calls Try.prog 12 #[np tb, tx [120, 46, 122]] w4 fun e w' => ∃ v S, e = .returned v ∧ SlIs 3 1 v (told X').length ((told X').map encI) S ∧ TrIs w.heap.size w w' tb (cutM M (pX, (t : Int))) (S ++ (S1 ++ rowsF ia (ia + 1) X' Y)) (3 * i + 1)) :=
          Lib.hid fun w4 S1 h4 => match_is (P := [[120], [122]]) (l := [120, 46, 122]) (by decide) (told_up _) hD2.out.hit2 h4 (by simp) (by omega)
        obtain ⟨T1, T2, hT1, cT, aT, -⟩ : ∃ T1 T2 : World → Prop, Hid (T1 wr.drew) ∧ Hid (∀ w9, T1 w9 → Calls Try.prog 8 #[np tb, tx [120, 46, 42], .int .i64 t] w9 fun e w' => e = .returned (.bool (X t)) ∧ T2 w' ∧ w'.cell? ⟨ia, t, none⟩ = some (.bool (X t))) ∧
            Hid (∀ w4, T2 w4 → w4.frozen? ⟨ia, t, none⟩ = false ∧ Calls Try.prog 12 #[np tb, tx [120, 46, 121]] (w4.setCell ⟨ia, t, none⟩ (.bool false)) fun e w' => ∃ v S, e = .returned v ∧ SlIs 3 1 v (told fun n => X' n || Y n).length ((told fun n => X' n || Y n).map encI) S ∧ TrIs w.heap.size w w' tb (cutM M (pX, (t : Int))) (S ++ rowsF ia (ia + 1) X' Y) (3 * i + 1)) ∧ True :=
          ⟨_, _, Lib.hid hTd', cd, Lib.hid fun w4 h4 => ⟨(after.out w4 h4).1, q1.out _ (after.out w4 h4).2⟩, trivial⟩
        replace hT1 := hT1.out
        clear hD hD2 h hTd hTd' hX' q1 cd after
        generalize cutM M (pX, (t : Int)) = M' at *
        generalize X t = xt at *
        have hwt : IntKind.i64.wrap (t : Int) = t := IntWalk.i64_in _ (by omega)
        clear hcw hz
        go_wp2_with fail
        go_region_held3 (fun x => x.cell? ⟨ia, t, none⟩ = some (.bool xt)) (first | exact kS | exact hs0.out) (first
          | (go_at_call 8; refine (cT.out _ (by assumption)).mono ?_; rintro e w'' ⟨rfl, hT2, kS⟩))
        obtain ⟨k2, q3⟩ := aT.out _ hT2
        replace q3 := Lib.hid q3
        clear cT aT hT2 hT1 hs0 hwt
        go_wp2_with fail
        refine q3.out.mono ?_
        rintro e w5 ⟨v1, S1, rfl, hs1, h5⟩
        have q4 := Lib.hid (q2.out _ S1 h5)
        replace hs1 := Lib.hid hs1
        clear q3 q2 h5 kS k2
        go_wp2_with fail
        refine q4.out.mono ?_
        rintro e w6 ⟨v2, S2, rfl, hs2, h6⟩
        have r2 := h6.ints hs2
        have r1 : ReadInts w6 v1 (told fun n => X' n || Y n) := by
          obtain ⟨O, h7, -⟩ := h6.beside
          refine SlIs.readInts (A := O ++ (S2 ++ rowsF ia (ia + 1) X' Y)) hs1.out (h7.perm ?_)
          rw [List.append_assoc, List.append_assoc]
          exact List.Perm.append_left _ (List.Perm.append_left _ List.perm_append_comm)
        have cX : Hid (∀ k, k < 256 → w6.cell? ⟨ia, k, none⟩ = some (.bool (X' k))) := Lib.hid fun k hk => h6.cell (k := ia) (List.mem_append_right _ (List.mem_append_right _ (List.mem_cons_of_mem _ List.mem_cons_self))) (by rw [List.getElem?_toArray, tabB_at _ hk])
        have cY : Hid (∀ k, k < 256 → w6.cell? ⟨ia + 1, k, none⟩ = some (.bool (Y k))) := Lib.hid fun k hk => h6.cell (k := ia + 1) (List.mem_append_right _ (List.mem_append_right _ List.mem_cons_self)) (by rw [List.getElem?_toArray, tabB_at _ hk])
        have fin := Lib.hid h6.below
        obtain ⟨a1, n1, c1, rfl, e1, r1⟩ := told_row r1
        obtain ⟨a2, n2, c2, rfl, e2, r2⟩ := told_row r2
        have hF : Hid (∀ k, (fun n => X' n || Y n) k = (X' k || Y k)) := Lib.hid fun k => rfl
        generalize (fun n => X' n || Y n) = F at *
        have e0 : cnt12 F 0 = 0 := rfl
        have e3 : cnt12 X' 0 = 0 := rfl
        replace e0 := Lib.hid e0
        replace e3 := Lib.hid e3
        replace e1 := Lib.hid e1
        replace e2 := Lib.hid e2
        replace r1 := Lib.hid r1
        replace r2 := Lib.hid r2
        clear h6 hs1 hs2 q4
        go_wp2_with fail
        go_loopg [11, 12, 13] 256 (fun g v11 v12 v13 wr => ∃ k p q : Nat, v11 = .int .i64 p ∧ v12 = .int .i64 q ∧ v13 = .int .i64 k ∧ k + g = 256 ∧ wr = w6 ∧ Hid (cnt12 F k = p ∧ cnt12 X' k = q))
        case atStart => exact ⟨0, 0, 0, rfl, rfl, rfl, by omega, rfl, Lib.hid ⟨e0.out, e3.out⟩⟩
        case round =>
          obtain ⟨k, p, q, rfl, rfl, rfl, hk, rfl, hpq⟩ := hrel
          by_cases hlt : k < 256
          · have hk1 : (k : Int) < 256 := by omega
            have cx := cX.out k hlt
            have cy := cY.out k hlt
            have s1 := cnt_succ F k
            have s2 := cnt_succ X' k
            rw [hF.out k, hpq.out.1] at s1
            rw [hpq.out.2] at s2
            have g1 := r1.out k hlt
            have g2 := r2.out k hlt
            rw [hpq.out.1] at g1
            rw [hpq.out.2] at g2
            have hp9 : (p : Int) ≤ 256 := by have := cnt_le F k; rw [hpq.out.1] at this; omega
            have hq9 : (q : Int) ≤ 256 := by have := cnt_le X' k; rw [hpq.out.2] at this; omega
            have hp1 := Lib.hid (⟨rfl, rfl⟩ : cnt12 F (k + 1) = cnt12 F (k + 1) ∧ cnt12 X' (k + 1) = cnt12 X' (k + 1))
            generalize hp2 : cnt12 F (k + 1) = p1 at s1
            generalize hq2 : cnt12 X' (k + 1) = q1 at s2
            replace hp1 : Hid (cnt12 F (k + 1) = p1 ∧ cnt12 X' (k + 1) = q1) := Lib.hid ⟨hp2, hq2⟩
            clear hp2 hq2
            generalize X' k = x at *
            generalize Y k = y at *
            replace hpq := Lib.hid s1
            have s1 := hpq
            have s2 := Lib.hid s2
            clear hpq r1 r2 cX cY e0 e1 e2 e3
            cases x with
            | true =>
              obtain ⟨l1, b1, o1, rfl, m1⟩ := g1 (by simp)
              obtain ⟨l2, b2, o2, rfl, m2⟩ := g2 rfl
              have j1 : (p : Int) < n1 := by omega
              have j2 : (q : Int) < n2 := by omega
              clear l1 l2 g1 g2
              go_wp2_with fail
              go_roundg (256 - (k + 1))
              case measure => omega
              case rel => exact ⟨k + 1, p1, q1, congrArg (Value.int .i64) (by have := s1.out; simp at this; omega), congrArg (Value.int .i64) (by have := s2.out; simp at this; omega), by go_num, by omega, rfl, hp1⟩
            | false =>
              clear g2
              cases y with
              | true =>
                obtain ⟨l1, b1, o1, rfl, m1⟩ := g1 (by simp)
                have j1 : (p : Int) < n1 := by omega
                clear g1 l1
                go_wp2_with fail
                go_roundg (256 - (k + 1))
                case measure => omega
                case rel => exact ⟨k + 1, p1, q1, congrArg (Value.int .i64) (by have := s1.out; simp at this; omega), congrArg (Value.int .i64) (by have := s2.out; simp at this; omega), by go_num, by omega, rfl, hp1⟩
              | false =>
                clear g1
                go_wp2_with fail
                go_roundg (256 - (k + 1))
                case measure => omega
                case rel => exact ⟨k + 1, p1, q1, congrArg (Value.int .i64) (by have := s1.out; simp at this; omega), congrArg (Value.int .i64) (by have := s2.out; simp at this; omega), by go_num, by omega, rfl, hp1⟩
          · obtain rfl : k = 256 := by omega
            obtain rfl : p = n1 := by rw [e1.out, hpq.out.1]
            obtain rfl : q = n2 := by rw [e2.out, hpq.out.2]
            clear hpq e1 e2 r1 r2
            go_wp2_with fail
            go_ret
            exact ⟨by first | rfl | (simp; done), fin.out⟩
  · have hn' : (30 : Int) < n := by omega
    clear hz256
    go_enter Try.func5, Try.ntmps5
    go_wp2_with fail
    refine c1.out.mono ?_
    rintro e w1 ⟨rfl, hb⟩
    replace hb := Lib.hid hb
    clear c1
    go_wp2_with fail
    go_ret
    exact ⟨rfl, hb.out⟩
theorem ids12_row {a0 : Option Addr} {n cap : Nat} {t : Int} {w : World} (r0 : Read Try.prog w 38 [.slice a0 n cap]) (r1 : Read Try.prog w 5 [.int .u8 t]) :
    Calls Try.prog 5 #[.slice a0 n cap, .int .u8 t] w fun e w' => e = .returned (.bool true) ∧ Below w.heap.size w w' := by
  have u8 : Try.prog.underlying 5 = some (.int .u8) := by kernel_rfl
  obtain ⟨rd, hr⟩ := r0.slice (by kernel_rfl : Try.prog.underlying 38 = some (.slice 5)) (by decide +kernel)
  obtain ⟨zs, hz⟩ := IntsAt.rows u8 (by kernel_rfl) hr
  obtain ⟨y, hy, wf⟩ := r1.int u8
  simp only [List.cons.injEq, Value.int.injEq, true_and, and_true] at hy
  subst hy
  obtain ⟨h1, h2⟩ := bounds_u8 wf
  obtain ⟨t, rfl⟩ := Int.eq_ofNat_of_zero_le h1
  exact ids12_walk (t := t) hz (by omega)
end Go.Proofs.Ytbfelfejelkdpaa
