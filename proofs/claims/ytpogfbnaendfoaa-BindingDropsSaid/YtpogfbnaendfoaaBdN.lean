/- BindingDrops. -/
import Derived.Test.YtpogfbnaendfoaaBdK
import Derived.Test.YtpogfbnaendfoaaBdM
import Derived.Test.YtpogfbnaendfoaaInR
import Derived.Deep.LoopGhost
namespace Go.Proofs.Ytpogfbnaendfoaa
open Go.RowKit
set_option linter.unusedVariables false

theorem zero64 (w : World) : (zeroValue 51).run Try.prog w = .ok (.agg (tabB 64 fun _ => false).toArray) w := by kernel_rfl
theorem zero3 (w : World) : (zeroValue 52).run Try.prog w = .ok (.agg (tabB 3 fun _ => false).toArray) w := by kernel_rfl
abbrev inO (f : Nat → Bool) : Obj := .cells (tabB 64 f).toArray 51
abbrev wasO (f : Nat → Bool) : Obj := .cells (tabB 3 f).toArray 52
abbrev byO (z : Int) : Obj := .cells #[.int .u8 z] 5

section
variable {B : Nat} {w0 w w' : World} {S F A X : List (Nat × Obj)} {T : TypeId} {tb k : Nat} {L M : List Bnd} {f : Nat → Bool}
theorem TbIs.soft {c : Array Value} {U : TypeId} {k : Nat} (h : TbIs T B w0 w tb L A) (hm : (k, .cells c U) ∈ A) (i : Nat) : w.frozen? ⟨k, i, none⟩ = false := by
  obtain ⟨v, S, hs, hst⟩ := h
  exact St.soft (b := k) hst (List.mem_append_left _ hm) i
theorem TbIs.setA {c : Array Value} {U : TypeId} {P Q : List (Nat × Obj)} (h : TbIs T B w0 w tb L (P ++ (k, .cells c U) :: Q)) (i : Nat) (v : Value) : TbIs T B w0 (w.setCell ⟨k, i, none⟩ v) tb L (P ++ (k, .cells (c.setIfInBounds i v) U) :: Q) := by
  obtain ⟨X, hX, back⟩ := h.beside
  rw [← List.append_assoc] at hX
  have h2 := hX.set i v
  rw [List.append_assoc] at h2
  exact back _ _ h2

set_option maxHeartbeats 16000000 in
set_option maxRecDepth 100000 in
theorem drops_walk {a0 : Option Addr} {n cap t : Nat} {zs : List Int} {w : World} (hz : IntsAt .u8 w a0 n zs) (ht : t ≤ 255) : Calls Try.prog 5 #[.slice a0 n cap, .int .u8 t] w fun e w' => e = .returned (.bool true) ∧ Below w.heap.size w w' := by
  have c1 := Lib.hid (known11_true w)
  by_cases h30 : 30 < n
  · have h30' : (30 : Int) < n := by omega
    clear hz
    go_enter Try.func5, Try.ntmps5
    go_wp2_with fail
    refine c1.out.mono ?_
    rintro e w1 ⟨rfl, hb⟩
    replace hb := Lib.hid hb
    go_wp2_with fail
    go_ret
    exact ⟨rfl, hb.out⟩
  have h30' : (n : Int) ≤ 30 := by omega
  have hzl := hz.size
  have ht0 : (0 : Int) ≤ t := by omega
  have ht1 : (t : Int) ≤ 255 := by omega
  have hq : (t : Int) % 4 = ((t % 4 : Nat) : Int) := by omega
  have hq4 : t % 4 < 4 := by omega
  generalize t % 4 = q at *
  have hqI : (q : Int) < 4 := by omega
  have hqI0 : (0 : Int) ≤ q := by omega
  replace hz := Lib.hid hz
  replace hq := Lib.hid hq
  have hz64 := zero64
  have hz3 := zero3
  go_enter Try.func5, Try.ntmps5
  go_wp2_with fail
  refine c1.out.mono ?_
  rintro e w1 ⟨rfl, hb⟩
  have c2 := Lib.hid (new_any ((St.start w).grow hb))
  clear c1 hb
  go_wp2_with fail
  refine c2.out.mono ?_
  rintro e w2 ⟨rfl, h⟩
  generalize w1.heap.size = tb at *
  have h0 : Hid (TbIs 55 w.heap.size w (w2.alloc (inO fun _ => false)) tb [] [(w2.heap.size, inO fun _ => false)]) := Lib.hid (h.alloc _)
  clear c2 h
  go_wp2_with fail
  generalize w2.heap.size = ib at *
  go_loopg [7] n (fun g v7 wr => ∃ (i : Nat) (L : List Bnd) (f : Nat → Bool), v7 = .int .i64 i ∧ i + g = n ∧ Hid (Drs L f ∧ L.length ≤ i) ∧ Hid (TbIs 55 w.heap.size w wr tb L [(ib, inO f)]))
  case atStart => exact ⟨0, [], fun _ => false, rfl, by omega, Lib.hid ⟨Drs.start, Nat.le_refl _⟩, h0⟩
  case round =>
    clear h0
    obtain ⟨i, L, f, rfl, hi, hD, h⟩ := hrel
    have hi0 : (0 : Int) ≤ i := by omega
    by_cases hlt : i < n
    · have hi1 : (i : Int) < n := by omega
      have hx : zs[i]? = some zs[i] := List.getElem?_eq_getElem (by omega)
      generalize zs[i] = z at hx
      have hzw := (hz.out.below h.out.below)
      obtain ⟨ba, oa, rfl, cz⟩ := hzw.at_ i z hx
      obtain ⟨z0, z1⟩ := bounds_u8 (hz.out.wf z (List.mem_of_getElem? hx))
      obtain ⟨zn, rfl⟩ := Int.eq_ofNat_of_zero_le z0
      have hk : (zn : Int) % 64 = ((zn % 64 : Nat) : Int) := by omega
      have hk64 : zn % 64 < 64 := by omega
      generalize zn % 64 = k at *
      have hk0 : (0 : Int) ≤ k := by omega
      have hk1 : (k : Int) < 64 := by omega
      have ha : (k : Int) % 3 = ((k % 3 : Nat) : Int) := by omega
      have ha3 : (((k % 3 : Nat)) : Int) < 3 := by omega
      have ha0 : (0 : Int) ≤ ((k % 3 : Nat) : Int) := by omega
      have hb : (k : Int) / 3 % 4 = ((k / 3 % 4 : Nat) : Int) := by omega
      have hb4 : (((k / 3 % 4 : Nat)) : Int) < 4 := by omega
      have hb0 : (0 : Int) ≤ ((k / 3 % 4 : Nat) : Int) := by omega
      have hc : (k : Int) / 12 = ((k / 12 : Nat) : Int) := by omega
      have hc6 : (((k / 12 : Nat)) : Int) < 6 := by omega
      have hc0 : (0 : Int) ≤ ((k / 12 : Nat) : Int) := by omega
      have hbk : bK k = ([oct (120 + ((k % 3 : Nat) : Int))], [oct (97 + ((k / 3 % 4 : Nat) : Int))], [oct (48 + ((k / 12 : Nat) : Int))]) := rfl
      have hstep := Lib.hid (⟨fun hf => hD.out.1.add_no hk64 hf, fun hf hL => hD.out.1.add_new hk64 hf hL⟩ : _ ∧ _)
      have hfit := bK_fit k
      rw [hbk] at hstep hfit
      replace hfit := Lib.hid hfit
      generalize k % 3 = a at *
      generalize k / 3 % 4 = b at *
      generalize k / 12 = c at *
      clear hbk hx z0 z1 hzw
      have cv : ∀ (W : World) (z : Int), 0 ≤ z → z ≤ 255 → (convert 49 9 (.slice (some ⟨W.heap.size, 0, none⟩) 1 1)).run Try.prog (W.alloc (byO z)) = .ok (tx [oct z]) (W.alloc (byO z)) := fun W z h1 h2 => conv_byte10 (by simp) h1 h2
      have v1 := cv wr (120 + (a : Int)) (by omega) (by omega)
      have v2 := cv (wr.alloc (byO (120 + (a : Int)))) (97 + (b : Int)) (by omega) (by omega)
      have v3 := cv ((wr.alloc (byO (120 + (a : Int)))).alloc (byO (97 + (b : Int)))) (48 + (c : Int)) (by omega) (by omega)
      simp only [World.size_alloc] at v2 v3
      have hin : wr.cell? ⟨ib, k, none⟩ = some (.bool (f k)) := h.out.cell (k := ib) List.mem_cons_self (by rw [List.getElem?_toArray, tabB_at _ hk64])
      clear cv
      cases hf : f k with
      | true =>
        obtain ⟨eA, hD2⟩ := hstep.out.1 hf
        have h4 := (h.out.grow (bel (bel (new_below wr (byO (120 + (a : Int)))) (new_below _ (byO (97 + (b : Int))))) (new_below _ (byO (48 + (c : Int)))))).alloc (bO ([oct (120 + (a : Int))], [oct (97 + (b : Int))], [oct (48 + (c : Int))]))
        rw [World.size_alloc, World.size_alloc, World.size_alloc] at h4
        have ca := Lib.hid (add_is h4 (by have := hD.out.2; omega) hfit.out eA)
        have nx : Hid (∀ w5, TbIs 55 w.heap.size w w5 tb L [(wr.heap.size + 1 + 1 + 1, bO ([oct (120 + (a : Int))], [oct (97 + (b : Int))], [oct (48 + (c : Int))])), (ib, inO f)] →
            (w5.cell? ⟨ib, k, none⟩ = some (.bool true) ∧ w5.frozen? ⟨ib, k, none⟩ = false) ∧ TbIs 55 w.heap.size w (w5.setCell ⟨ib, k, none⟩ (.bool true)) tb L [(ib, inO (updB f k true))]) := Lib.hid fun w5 h5 => by
          refine ⟨⟨h5.cell (k := ib) (List.mem_cons_of_mem _ List.mem_cons_self) (by rw [List.getElem?_toArray, tabB_at _ hk64, hf]), h5.soft (k := ib) (List.mem_cons_of_mem _ List.mem_cons_self) k⟩, ?_⟩
          have h6 := TbIs.setA (P := [(wr.heap.size + 1 + 1 + 1, bO ([oct (120 + (a : Int))], [oct (97 + (b : Int))], [oct (48 + (c : Int))]))]) (Q := []) h5 k (.bool true)
          rw [List.setIfInBounds_toArray, tabB_set] at h6
          exact h6.sub (List.sublist_cons_self _ _)
        replace hD2 : Hid (Drs L (updB f k true) ∧ L.length ≤ i + 1) := Lib.hid ⟨hD2, by have := hD.out.2; omega⟩
        clear h4 hstep hD h hin hf eA
        generalize oct (120 + (a : Int)) = xa at *
        generalize oct (97 + (b : Int)) = xb at *
        generalize oct (48 + (c : Int)) = xc at *
        go_wp2_with fail
        refine ca.out.mono ?_
        rintro e w5 ⟨rfl, h5⟩
        obtain ⟨⟨k1, k2⟩, h6⟩ := nx.out _ h5
        replace h6 := Lib.hid h6
        clear h5 ca nx
        go_wp2_with fail
        go_roundg (n - (i + 1))
        case measure => omega
        case rel => exact ⟨i + 1, _, _, by go_num, by omega, hD2, h6⟩
      | false =>
        obtain ⟨eA, hD2⟩ := hstep.out.2 hf (by have := hD.out.2; omega)
        have h4 := (h.out.grow (bel (bel (new_below wr (byO (120 + (a : Int)))) (new_below _ (byO (97 + (b : Int))))) (new_below _ (byO (48 + (c : Int)))))).alloc (bO ([oct (120 + (a : Int))], [oct (97 + (b : Int))], [oct (48 + (c : Int))]))
        rw [World.size_alloc, World.size_alloc, World.size_alloc] at h4
        have ca := Lib.hid (add_is h4 (by have := hD.out.2; omega) hfit.out eA)
        have nx : Hid (∀ w5, TbIs 55 w.heap.size w w5 tb (L ++ [([oct (120 + (a : Int))], [oct (97 + (b : Int))], [oct (48 + (c : Int))])]) [(wr.heap.size + 1 + 1 + 1, bO ([oct (120 + (a : Int))], [oct (97 + (b : Int))], [oct (48 + (c : Int))])), (ib, inO f)] →
            (w5.cell? ⟨ib, k, none⟩ = some (.bool false) ∧ w5.frozen? ⟨ib, k, none⟩ = false) ∧ TbIs 55 w.heap.size w (w5.setCell ⟨ib, k, none⟩ (.bool true)) tb (L ++ [([oct (120 + (a : Int))], [oct (97 + (b : Int))], [oct (48 + (c : Int))])]) [(ib, inO (updB f k true))]) := Lib.hid fun w5 h5 => by
          refine ⟨⟨h5.cell (k := ib) (List.mem_cons_of_mem _ List.mem_cons_self) (by rw [List.getElem?_toArray, tabB_at _ hk64, hf]), h5.soft (k := ib) (List.mem_cons_of_mem _ List.mem_cons_self) k⟩, ?_⟩
          have h6 := TbIs.setA (P := [(wr.heap.size + 1 + 1 + 1, bO ([oct (120 + (a : Int))], [oct (97 + (b : Int))], [oct (48 + (c : Int))]))]) (Q := []) h5 k (.bool true)
          rw [List.setIfInBounds_toArray, tabB_set] at h6
          exact h6.sub (List.sublist_cons_self _ _)
        replace hD2 : Hid (Drs (L ++ [([oct (120 + (a : Int))], [oct (97 + (b : Int))], [oct (48 + (c : Int))])]) (updB f k true) ∧ (L ++ [([oct (120 + (a : Int))], [oct (97 + (b : Int))], [oct (48 + (c : Int))])]).length ≤ i + 1) := Lib.hid ⟨hD2, by have := hD.out.2; rw [List.length_append, List.length_singleton]; omega⟩
        clear h4 hstep hD h hin hf eA
        generalize oct (120 + (a : Int)) = xa at *
        generalize oct (97 + (b : Int)) = xb at *
        generalize oct (48 + (c : Int)) = xc at *
        go_wp2_with fail
        refine ca.out.mono ?_
        rintro e w5 ⟨rfl, h5⟩
        obtain ⟨⟨k1, k2⟩, h6⟩ := nx.out _ h5
        replace h6 := Lib.hid h6
        clear h5 ca nx
        go_wp2_with fail
        go_roundg (n - (i + 1))
        case measure => omega
        case rel => exact ⟨i + 1, _, _, by go_num, by omega, hD2, h6⟩
    · obtain rfl : i = n := by omega
      obtain ⟨hD, -⟩ := hD.out
      have hq' := hq.out
      have h1 := h.out.grow (new_below wr (byO (97 + (q : Int))))
      have v1 : (convert 49 9 (.slice (some ⟨wr.heap.size, 0, none⟩) 1 1)).run Try.prog (wr.alloc (byO (97 + (q : Int)))) = .ok (tx [oct (97 + (q : Int))]) (wr.alloc (byO (97 + (q : Int)))) := conv_byte10 (by simp) (by omega) (by omega)
      have v2 : ∀ W : World, (convert 49 9 (.slice (some ⟨W.heap.size, 0, none⟩) 1 1)).run Try.prog (W.alloc (byO (97 + (q : Int)))) = .ok (tx [oct (97 + (q : Int))]) (W.alloc (byO (97 + (q : Int)))) := fun W => conv_byte10 (by simp) (by omega) (by omega)
      replace v2 := Lib.hid v2
      have hL : L.length ≤ 10000 := by
        have := len_of_nodup L ((List.range 64).map bK) hD.once fun b hb => by
          obtain ⟨k, hk, -, rfl⟩ := hD.mem b hb
          exact List.mem_map.2 ⟨k, List.mem_range.2 hk, rfl⟩
        rw [List.length_map, List.length_range] at this
        omega
      have cd := Lib.hid (dropQ_is (l := goneG L q) (M := L.filter fun b => !(b.2.1 == qN q)) h1 hL hD.fit (qN q) rfl rfl)
      have hGn : (goneG L q).Nodup := goneG_nodup
      have hGl := goneG_len (q := q) hD
      have hGm : ∀ j, j < 3 → (xN j ∈ goneG L q ↔ wasF f q 64 j = true) := fun j hj => goneG_mem hD hq4 hj
      have hGf : ∀ y ∈ goneG L q, y = [120] ∨ y = [121] ∨ y = [122] := fun y hy => by
        obtain ⟨j, hj, rfl⟩ := goneG_form hD hy
        have : j = 0 ∨ j = 1 ∨ j = 2 := by omega
        rcases this with rfl | rfl | rfl
        · exact .inl (by decide)
        · exact .inr (.inl (by decide))
        · exact .inr (.inr (by decide))
      have hleft := left_len hD hq4
      have hagain := goneG_again (L := L) (q := q)
      have hfit2 : ∀ b ∈ L.filter (fun b => !(b.2.1 == qN q)), FitB b := fun b hb => hD.fit b (List.mem_filter.1 hb).1
      have hL2 : (L.filter fun b => !(b.2.1 == qN q)).length ≤ 10000 := Nat.le_trans (List.length_filter_le _ _) hL
      generalize L.filter (fun b => !(b.2.1 == qN q)) = M at *
      generalize goneG L q = G at *
      have hqx : Hid (qN q = [oct (97 + (q : Int))]) := Lib.hid rfl
      rw [hqx.out] at cd
      replace hGn := Lib.hid hGn
      replace hGm := Lib.hid hGm
      replace hGf := Lib.hid hGf
      replace hleft := Lib.hid hleft
      have hlast := Lib.hid (fun (w9 : World) (A9 : List (Nat × Obj)) (h9 : TbIs 55 w.heap.size w w9 tb M A9) => dropQ_is (l := goneG M q) (M := M.filter fun b => !(b.2.1 == qN q)) h9 hL2 hfit2 (qN q) rfl rfl)
      rw [hagain, hqx.out] at hlast
      clear h1 h hD hL hfit2 hagain hL2 hz hzl hq
      generalize oct (97 + (q : Int)) = xq at *
      go_wp2_with fail
      refine cd.out.mono ?_
      rintro e w5 ⟨u, S, rfl, hu, h5⟩
      obtain ⟨ag, cg, rfl⟩ := hu.form
      have h6 := h5.alloc (wasO fun _ => false)
      rw [← wasF_zero f q] at h6
      replace h6 := Lib.hid h6
      have z0 : (.int .i64 0 : Value) = .int .i64 ((leftN f q 0 : Nat) : Int) := by rw [leftN_zero]; rfl
      replace z0 := Lib.hid z0
      clear h5 cd v1
      go_wp2_with fail
      clear hq'
      generalize w5.heap.size = wb at *
      go_loopg [15, 17] 64 (fun g v15 v17 wt => ∃ k : Nat, v17 = .int .i64 k ∧ k + g = 64 ∧ v15 = .int .i64 ((leftN f q k : Nat) : Int) ∧ Hid (TbIs 55 w.heap.size w wt tb M ((wb, wasO (wasF f q k)) :: ([(ib, inO f)] ++ S))))
      case atStart =>
        refine ⟨0, rfl, by omega, z0.out, Lib.hid ?_⟩
        have := h6.out
        rw [wasF_zero] at this ⊢
        exact this
      case round =>
        clear h6 z0
        obtain ⟨k, rfl, hk, rfl, h⟩ := hrel
        have hk0 : (0 : Int) ≤ k := by omega
        by_cases hlt : k < 64
        · have hk1 : (k : Int) < 64 := by omega
          have hin : wr.cell? ⟨ib, k, none⟩ = some (.bool (f k)) := h.out.cell (k := ib) (List.mem_cons_of_mem _ (List.mem_append_left _ List.mem_cons_self)) (by rw [List.getElem?_toArray, tabB_at _ hlt])
          have ha : (k : Int) % 3 = ((k % 3 : Nat) : Int) := by omega
          have ha3 : k % 3 < 3 := by omega
          have hb : (k : Int) / 3 % 4 = ((k / 3 % 4 : Nat) : Int) := by omega
          have hll := leftN_le f q k
          cases hf : f k with
          | false =>
            rw [hf] at hin
            have e1 := wasF_no (f := f) (q := q) (n := k) (by rw [hf]; rfl)
            have e2 := leftN_no (f := f) (q := q) (n := k) (by rw [hf]; rfl)
            rw [← e1] at h
            rw [← e2]
            clear ha hb e1 e2 hf hll ha3
            go_wp2_with fail
            go_roundg (64 - (k + 1))
            case measure => omega
            case rel => exact ⟨k + 1, by go_num, by omega, rfl, h⟩
          | true =>
            rw [hf] at hin
            by_cases hkq : k / 3 % 4 = q
            · have e1 := wasF_yes hf hkq
              have e2 := leftN_no (f := f) (q := q) (n := k) (by rw [hf, hkq]; simp)
              have hw : ∀ u, (wasO (wasF f q k)) = .cells u 52 → u[k % 3]? = some (.bool (wasF f q k (k % 3))) := by
                rintro u hu
                cases hu
                rw [List.getElem?_toArray, tabB_at _ ha3]
              have c3 : wr.cell? ⟨wb, k % 3, none⟩ = some (.bool (wasF f q k (k % 3))) := h.out.cell (k := wb) List.mem_cons_self (hw _ rfl)
              have f3 : wr.frozen? ⟨wb, k % 3, none⟩ = false := h.out.soft (k := wb) List.mem_cons_self (k % 3)
              have h7 := TbIs.setA (P := []) h.out (k % 3) (.bool true)
              rw [List.setIfInBounds_toArray, tabB_set, ← e1] at h7
              replace h7 := Lib.hid h7
              rw [hkq] at hb
              rw [← e2]
              clear e1 e2 hw h hf hll hkq
              generalize k % 3 = a at *
              have ha0 : (0 : Int) ≤ a := by omega
              have ha4 : (a : Int) < 3 := by omega
              go_wp2_with fail
              go_roundg (64 - (k + 1))
              case measure => omega
              case rel => exact ⟨k + 1, by go_num, by omega, rfl, h7⟩
            · have hkqI : (((k / 3 % 4 : Nat) : Int) == (q : Int)) = false := by rw [beq_eq_false_iff_ne]; omega
              have hkb : (k / 3 % 4 == q) = false := by simpa using hkq
              have e1 := wasF_no (f := f) (q := q) (n := k) (by rw [hf, hkb]; rfl)
              have e2 := leftN_yes (f := f) (q := q) (n := k) (by rw [hf, hkb]; rfl)
              rw [← e1] at h
              have hlI : ((leftN f q k : Nat) : Int) ≤ 64 := by omega
              have hl0 : (0 : Int) ≤ ((leftN f q k : Nat) : Int) := by omega
              have e3 : Hid (∀ x : Nat, x = leftN f q k → (.int .i64 ((x : Int) + 1) : Value) = .int .i64 ((leftN f q (k + 1) : Nat) : Int)) := Lib.hid (by rintro x rfl; rw [e2]; rfl)
              generalize leftN f q k = x at *
              generalize k / 3 % 4 = b at *
              clear ha e1 e2 hf hkq hkb hll ha3
              go_wp2_with fail
              go_roundg (64 - (k + 1))
              case measure => omega
              case rel => exact ⟨k + 1, by go_num, by omega, e3.out x rfl, h⟩
        · obtain rfl : k = 64 := by omega
          have hle : (leftN f q 64 : Int) ≤ 64 := by have := leftN_le f q 64; omega
          have h7 : Hid (TbIs 55 w.heap.size w wr tb M ((wb, wasO (wasG G (wasF f q 64) 0)) :: ([(ib, inO f)] ++ S))) := Lib.hid (by rw [wasG_zero]; exact h.out)
          generalize wasF f q 64 = W at *
          generalize leftN f q 64 = m at *
          clear h
          go_wp2_with fail
          go_loopg [16, 18] G.length (fun g v16 v18 wt => ∃ i : Nat, v18 = .int .i64 i ∧ v16 = .int .i64 i ∧ i + g = G.length ∧ Hid (TbIs 55 w.heap.size w wt tb M ((wb, wasO (wasG G W i)) :: ([(ib, inO f)] ++ S))))
          case atStart => exact ⟨0, rfl, rfl, by omega, h7⟩
          case round =>
            clear h7
            obtain ⟨i, rfl, rfl, hi, h⟩ := hrel
            have hi0 : (0 : Int) ≤ i := by omega
            by_cases hlt : i < G.length
            · have hi1 : (i : Int) < G.length := by omega
              have hx : G[i]? = some G[i] := List.getElem?_eq_getElem hlt
              generalize G[i] = y at hx
              obtain ⟨gb, go, rfl, cg1⟩ := TssIs.at_ (P := [(wb, wasO (wasG G W i)), (ib, inO f)]) (Q := []) hu (by rw [List.append_nil]; exact h.out) hx
              have hG3 : (G.length : Int) ≤ 3 := by omega
              have step : Hid (∀ j, j < 3 → y = xN j → wr.cell? ⟨wb, j, none⟩ = some (.bool true) ∧ wr.frozen? ⟨wb, j, none⟩ = false ∧ TbIs 55 w.heap.size w (wr.setCell ⟨wb, j, none⟩ (.bool false)) tb M ((wb, wasO (wasG G W (i + 1))) :: ([(ib, inO f)] ++ S))) := Lib.hid fun j hj e => by
                subst e
                obtain ⟨e1, e2⟩ := wasG_at hGn.out hGm.out hj hx
                have hw : ∀ u, (wasO (wasG G W i)) = .cells u 52 → u[j]? = some (.bool true) := by
                  rintro u hu
                  cases hu
                  rw [List.getElem?_toArray, tabB_at _ hj, e1]
                refine ⟨h.out.cell (k := wb) List.mem_cons_self (hw _ rfl), h.out.soft (k := wb) List.mem_cons_self j, ?_⟩
                have h8 := TbIs.setA (P := []) h.out j (.bool false)
                rw [List.setIfInBounds_toArray, tabB_set, tabB_congr e2] at h8
                exact h8
              have hy := hGf.out y (List.mem_of_getElem? hx)
              clear h hx
              rcases hy with rfl | rfl | rfl
              · obtain ⟨s1, s2, s3⟩ := step.out 0 (by decide) (by decide)
                have hb0 : ((⟨#[120]⟩ : ByteArray)[0]'(by decide)).toNat = 120 := rfl
                replace s3 := Lib.hid s3
                clear step
                go_wp2_with fail
                go_roundg (G.length - (i + 1))
                case measure => omega
                case rel => exact ⟨i + 1, by go_num, by go_num, by omega, s3⟩
              · obtain ⟨s1, s2, s3⟩ := step.out 1 (by decide) (by decide)
                have hb0 : ((⟨#[121]⟩ : ByteArray)[0]'(by decide)).toNat = 121 := rfl
                replace s3 := Lib.hid s3
                clear step
                go_wp2_with fail
                go_roundg (G.length - (i + 1))
                case measure => omega
                case rel => exact ⟨i + 1, by go_num, by go_num, by omega, s3⟩
              · obtain ⟨s1, s2, s3⟩ := step.out 2 (by decide) (by decide)
                have hb0 : ((⟨#[122]⟩ : ByteArray)[0]'(by decide)).toNat = 122 := rfl
                replace s3 := Lib.hid s3
                clear step
                go_wp2_with fail
                go_roundg (G.length - (i + 1))
                case measure => omega
                case rel => exact ⟨i + 1, by go_num, by go_num, by omega, s3⟩
            · obtain rfl : i = G.length := by omega
              have hw : ∀ j, j < 3 → wr.cell? ⟨wb, j, none⟩ = some (.bool false) := fun j hj => by
                have hw : ∀ u, (wasO (wasG G W G.length)) = .cells u 52 → u[j]? = some (.bool false) := by
                  rintro u hu
                  cases hu
                  rw [List.getElem?_toArray, tabB_at _ hj, wasG_end hGm.out hj]
                exact h.out.cell (k := wb) List.mem_cons_self (hw _ rfl)
              have w0 := hw 0 (by decide)
              have w1c := hw 1 (by decide)
              have w2c := hw 2 (by decide)
              have cl := Lib.hid (len_is h.out)
              rw [hleft.out] at cl
              have v3 := v2.out wr
              have ce := Lib.hid (hlast.out _ _ (h.out.grow (new_below wr (byO (97 + (q : Int))))))
              have hG3 : (G.length : Int) ≤ 3 := by omega
              clear hw h hlast hleft hu hGn hGm hGf
              generalize G.length = gl at *
              go_wp2_with fail
              refine cl.out.mono ?_
              rintro e w8 ⟨rfl, rfl⟩
              clear cl
              go_wp2_with fail
              refine ce.out.mono ?_
              rintro e w9 ⟨u9, S9, rfl, hu9, h9⟩
              obtain ⟨a9, c9, rfl⟩ := hu9.form
              replace h9 := Lib.hid h9.below
              clear hu9 ce
              go_wp2_with fail
              go_ret
              exact ⟨rfl, h9.out⟩
end
theorem drops_row {a0 : Option Addr} {n cap : Nat} {t : Int} {w : World} (r0 : Read Try.prog w 49 [.slice a0 n cap]) (r1 : Read Try.prog w 5 [.int .u8 t]) :
    Calls Try.prog 5 #[.slice a0 n cap, .int .u8 t] w fun e w' => e = .returned (.bool true) ∧ Below w.heap.size w w' := by
  obtain ⟨rd, hr⟩ := r0.slice uBytes6 (by decide +kernel)
  obtain ⟨zs, hz⟩ := IntsAt.rows uU86 (by kernel_rfl) hr
  obtain ⟨y, hy, wf⟩ := r1.int uU86
  simp only [List.cons.injEq, Value.int.injEq, true_and, and_true] at hy
  subst hy
  obtain ⟨h1, h2⟩ := bounds_u8 wf
  obtain ⟨t, rfl⟩ := Int.eq_ofNat_of_zero_le h1
  exact drops_walk (t := t) hz (by omega)
end Go.Proofs.Ytpogfbnaendfoaa
