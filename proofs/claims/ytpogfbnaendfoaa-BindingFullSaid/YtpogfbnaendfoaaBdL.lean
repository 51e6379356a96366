/- BindingFull. -/
import Derived.Test.YtpogfbnaendfoaaBdK
namespace Go.Proofs.Ytpogfbnaendfoaa
open Go.RowKit
set_option linter.unusedVariables false

/-- The i-th of those that are bound, and the first of them. -/
def rowF (i : Nat) : Bnd := ([120], [oct (97 + (i : Int))], [])
def fullL (m : Nat) : List Bnd := (List.range m).map rowF
theorem fullL_len (m : Nat) : (fullL m).length = m := by simp [fullL]
theorem rowF_inj {i j : Nat} (hi : i ≤ 41) (hj : j ≤ 41) (h : rowF i = rowF j) : i = j := by
  have h1 : oct (97 + (i : Int)) = oct (97 + (j : Int)) := by
    have := congrArg (fun b : Bnd => b.2.1) h
    simpa [rowF] using this
  have h2 := oct_nat (97 + (i : Int))
  have h3 := oct_nat (97 + (j : Int))
  rw [h1] at h2
  omega
theorem fullL_mem {m i : Nat} (hm : m ≤ 41) (hi : i ≤ 41) : rowF i ∈ fullL m ↔ i < m := by
  unfold fullL
  rw [List.mem_map]
  constructor
  · rintro ⟨j, hj, e⟩
    rw [List.mem_range] at hj
    have := rowF_inj (by omega) hi e
    omega
  · exact fun h => ⟨i, List.mem_range.2 h, rfl⟩
theorem rowF_fit (i : Nat) : FitB (rowF i) := by
  refine ⟨?_, ?_, ?_⟩ <;> simp [rowF]
theorem fullL_fine {m : Nat} (hm : m ≤ 40) : FineL (fullL m) := by
  refine ⟨by rw [fullL_len]; exact hm, ?_, ?_⟩
  · unfold fullL
    rw [List.Nodup, List.pairwise_map]
    refine List.Pairwise.imp_of_mem ?_ (List.nodup_range (n := m))
    intro i j hi hj hne e
    rw [List.mem_range] at hi hj
    exact hne (rowF_inj (by omega) (by omega) e)
  · intro b hb
    obtain ⟨i, -, rfl⟩ := List.mem_map.1 hb
    exact rowF_fit i
theorem full_add {i : Nat} (hi : i < 40) : addL (fullL i) (rowF i) = (fullL (i + 1), true, 0) := by
  rw [addL, if_neg (by rw [fullL_mem (by omega) (by omega)]; omega), if_neg (by rw [fullL_len]; omega)]
  simp [fullL, List.range_succ]
theorem full_no {i : Nat} (hi : i = 40) : addL (fullL i) (rowF i) = (fullL i, false, 12) := by
  subst hi
  rw [addL, if_neg (by rw [fullL_mem (by omega) (by omega)]; omega), if_pos (by rw [fullL_len]; omega)]
theorem full_in {m r : Nat} (hm : m ≤ 40) (hr : r < m) : addL (fullL m) (rowF r) = (fullL m, false, 0) := by
  rw [addL, if_pos ((fullL_mem (by omega) (by omega)).2 hr)]
theorem full_drop {m r : Nat} (hm : m ≤ 40) (hr : r < m) : decide (0 < ((fullL m).filter fun b => b == rowF r).length) = true ∧ ((fullL m).filter fun b => !(b == rowF r)).length = m - 1 ∧
    (onceL [] ((((fullL m).filter fun b => !(b == rowF r)).filter fun b => b.1 == [120] && b.2.2 == []).map (·.2.1))).length = m - 1 := by
  have hin := (fullL_mem (m := m) (by omega) (by omega)).2 hr
  have hf := fullL_fine hm
  have h2 : ((fullL m).filter fun b => !(b == rowF r)).length = m - 1 := by
    have h := hf.once.erase_eq_filter (rowF r)
    have h3 := List.length_erase_of_mem hin
    rw [h, fullL_len] at h3
    exact h3
  refine ⟨decide_eq_true (List.length_pos_of_mem (List.mem_filter.2 ⟨hin, by simp⟩)), h2, ?_⟩
  rw [FineL.keyed (hf.filter _).once, List.length_map, List.filter_eq_self.2, h2]
  intro b hb
  obtain ⟨i, -, rfl⟩ := List.mem_map.1 (List.mem_filter.1 hb).1
  simp [rowF]

set_option maxHeartbeats 8000000 in
set_option maxRecDepth 100000 in
theorem full_nat {n t : Nat} (hn : n ≤ 255) (ht : t ≤ 255) (w : World) : Calls Try.prog 4 #[.int .u8 n, .int .u8 t] w fun e w' => e = .returned (.bool true) ∧ Below w.heap.size w w' := by
  have c1 := Lib.hid (known11_true w)
  have hq : (n : Int) % 3 = ((n % 3 : Nat) : Int) := by omega
  have hq3 : n % 3 < 3 := by omega
  generalize n % 3 = q at *
  obtain ⟨K, hK⟩ : ∃ K, K = 39 + q := ⟨_, rfl⟩
  have hs : (39 : Int) + (q : Int) = (K : Int) := by omega
  have hK39 : 39 ≤ K := by omega
  have hK41 : K ≤ 41 := by omega
  have hq0 : (0 : Int) ≤ q := by omega
  have hq1 : (q : Int) < 3 := by omega
  have hKI : (K : Int) ≤ 41 := by omega
  have hKI0 : (39 : Int) ≤ K := by omega
  clear hK hq3
  have ht0 : (0 : Int) ≤ t := by omega
  have ht1 : (t : Int) ≤ 255 := by omega
  have cv : ∀ (W : World) (i : Nat), (i : Int) ≤ 41 → (convert 49 9 (.slice (some ⟨W.heap.size, 0, none⟩) 1 1)).run Try.prog (W.alloc (.cells #[.int .u8 (97 + (i : Int))] 5)) = .ok (tx [oct (97 + (i : Int))]) (W.alloc (.cells #[.int .u8 (97 + (i : Int))] 5)) := fun W i h1 => conv_byte10 (by simp) (by omega) (by omega)
  replace cv := Lib.hid cv
  go_enter Try.func4, Try.ntmps4
  go_wp2_with fail
  refine c1.out.mono ?_
  rintro e w1 ⟨rfl, hb⟩
  have c2 := Lib.hid (new_any ((St.start w).grow hb))
  clear c1 hb
  go_wp2_with fail
  refine c2.out.mono ?_
  rintro e w2 ⟨rfl, h⟩
  generalize w1.heap.size = tb at *
  have h0 : Hid (TbIs 55 w.heap.size w w2 tb (fullL (min 0 40)) []) := Lib.hid h
  clear c2 h
  go_wp2_with fail
  simp only [hq]
  clear hq
  go_loopg [7] K (fun g v7 wr => ∃ i : Nat, v7 = .int .i64 i ∧ i + g = K ∧ Hid (TbIs 55 w.heap.size w wr tb (fullL (min i 40)) []))
  case atStart => exact ⟨0, rfl, by omega, h0⟩
  case round =>
    clear h0
    obtain ⟨i, rfl, hi, h⟩ := hrel
    have hi0 : (0 : Int) ≤ i := by omega
    by_cases hlt : i < K
    · have hi1 : (i : Int) < K := by omega
      have cv1 := fun W => cv.out W i (by omega)
      have h2 := h.out.grow (new_below wr (.cells #[.int .u8 (97 + (i : Int))] 5))
      by_cases h40 : i < 40
      · have h40I : (i : Int) < 40 := by omega
        rw [Nat.min_eq_left (by omega)] at h2
        have ca := Lib.hid (add_is h2 (by rw [fullL_len]; omega) (rowF_fit i) (full_add h40))
        clear h2 h cv
        go_wp2_with fail
        refine ca.out.mono ?_
        rintro e w3 ⟨rfl, h3⟩
        replace h3 : Hid (TbIs 55 w.heap.size w w3 tb (fullL (min (i + 1) 40)) []) := Lib.hid (by rw [Nat.min_eq_left (by omega)]; exact h3)
        clear ca
        go_wp2_with fail
        go_roundg (K - (i + 1))
        case measure => omega
        case rel => exact ⟨i + 1, by go_num, by omega, h3⟩
      · have e40 : i = 40 := by omega
        rw [Nat.min_eq_left (by omega)] at h2
        have h40I : (40 : Int) ≤ i := by omega
        have ca := Lib.hid (add_is h2 (by rw [fullL_len]; omega) (rowF_fit i) (full_no e40))
        replace e40 := Lib.hid e40
        clear h2 h cv
        go_wp2_with fail
        refine ca.out.mono ?_
        rintro e w3 ⟨rfl, h3⟩
        replace h3 : Hid (TbIs 55 w.heap.size w w3 tb (fullL (min (i + 1) 40)) []) := Lib.hid (by
          have e : min (i + 1) 40 = i := by have := e40.out; omega
          rw [e]
          exact h3)
        clear ca
        go_wp2_with fail
        go_roundg (K - (i + 1))
        case measure => omega
        case rel => exact ⟨i + 1, by go_num, by omega, h3⟩
    · obtain rfl : i = K := by omega
      by_cases h40 : i ≤ 40
      · rw [Nat.min_eq_left h40] at h
        have h40I : (i : Int) ≤ 40 := by omega
        have hr : (t : Int) % (i : Int) = ((t % i : Nat) : Int) := by simp
        have hr1 : t % i < i := Nat.mod_lt t (by omega)
        generalize t % i = r at *
        have hrI : (r : Int) < (i : Int) := by omega
        have hr0 : (0 : Int) ≤ r := by omega
        have cv1 := fun W => cv.out W r (by omega)
        have h2 := (h.out.grow (new_below wr (.cells #[.int .u8 (97 + (r : Int))] 5))).alloc (bO ([120], [oct (97 + (r : Int))], []))
        rw [World.size_alloc] at h2
        have ca := Lib.hid (add_is h2 (by rw [fullL_len]; omega) (rowF_fit r) (full_in (by omega) hr1))
        obtain ⟨f1, f2, f3⟩ := full_drop (by omega) hr1
        have fF := (fullL_fine (m := i) (by omega)).filter (fun b => !(b == rowF r))
        have fi := fF.few
        have fl := fF.fit
        clear fF
        generalize hM : (fullL i).filter (fun b => !(b == rowF r)) = M at *
        generalize hl : onceL [] ((M.filter fun b => b.1 == [120] && b.2.2 == []).map (·.2.1)) = l at *
        have hp : ((M.length : Int) == (i : Int) - 1) = true := by rw [beq_iff_eq]; omega
        have hp2 : ((l.length : Int) == (i : Int) - 1) = true := by rw [beq_iff_eq]; omega
        have kl := Lib.hid (fun (w9 : World) (A9 : List (Nat × Obj)) (h9 : TbIs 55 w.heap.size w w9 tb M A9) => keyed_is h9 (by omega) fl [120] [] hl)
        have kd := Lib.hid (fun (w9 : World) (A9 : List (Nat × Obj)) (h9 : TbIs 55 w.heap.size w w9 tb (fullL i) A9) => drop_is (b1 := [120]) (b2 := [oct (97 + (r : Int))]) (b3 := []) h9 (by rw [fullL_len]; omega) hM f1)
        generalize oct (97 + (r : Int)) = x at *
        have eM : ((fullL i).length : Int) = (i : Int) := by simp [fullL_len]
        clear h2 h cv f1 f2 f3 fi fl hM hl hi
        go_wp2_with fail
        refine ca.out.mono ?_
        rintro e w5 ⟨rfl, h5⟩
        have g0 := h5.cell (k := wr.heap.size + 1) (i := 0) List.mem_cons_self rfl
        have g1 := h5.cell (k := wr.heap.size + 1) (i := 1) List.mem_cons_self rfl
        have g2 := h5.cell (k := wr.heap.size + 1) (i := 2) List.mem_cons_self rfl
        have cl := Lib.hid (len_is h5)
        rw [eM] at cl
        have cd := Lib.hid (kd.out _ _ h5)
        clear h5 ca kd eM
        go_wp2_with fail
        refine cl.out.mono ?_
        rintro e w6 ⟨rfl, rfl⟩
        clear cl
        go_wp2_with fail
        refine cd.out.mono ?_
        rintro e w7 ⟨rfl, h7⟩
        have cl := Lib.hid (len_is h7)
        have ck := Lib.hid (kl.out _ _ h7)
        clear h7 cd kl
        generalize M.length = p at *
        go_wp2_with fail
        refine cl.out.mono ?_
        rintro e w8 ⟨rfl, rfl⟩
        clear cl
        go_wp2_with fail
        refine ck.out.mono ?_
        rintro e w9 ⟨u, S, rfl, hu, h9⟩
        obtain ⟨a9, c9, rfl⟩ := hu.form
        replace h9 := Lib.hid h9.below
        generalize l.length = p2 at *
        clear hu ck
        go_wp2_with fail
        go_ret
        exact ⟨rfl, h9.out⟩
      · obtain rfl : i = 41 := by omega
        rw [show min 41 40 = 40 from rfl] at h
        have hr : (t : Int) % (40 : Int) = ((t % 40 : Nat) : Int) := by simp
        have hr1 : t % 40 < 40 := Nat.mod_lt t (by omega)
        generalize t % 40 = r at *
        have hrI : (r : Int) < (40 : Int) := by omega
        have hr0 : (0 : Int) ≤ r := by omega
        have cv1 := fun W => cv.out W r (by omega)
        have h2 := (h.out.grow (new_below wr (.cells #[.int .u8 (97 + (r : Int))] 5))).alloc (bO ([120], [oct (97 + (r : Int))], []))
        rw [World.size_alloc] at h2
        have ca := Lib.hid (add_is h2 (by rw [fullL_len]; omega) (rowF_fit r) (full_in (by omega) hr1))
        obtain ⟨f1, f2, f3⟩ := full_drop (by omega) hr1
        have fF := (fullL_fine (m := 40) (by omega)).filter (fun b => !(b == rowF r))
        have fi := fF.few
        have fl := fF.fit
        clear fF
        generalize hM : (fullL 40).filter (fun b => !(b == rowF r)) = M at *
        generalize hl : onceL [] ((M.filter fun b => b.1 == [120] && b.2.2 == []).map (·.2.1)) = l at *
        have hp : ((M.length : Int) == (39 : Int)) = true := by rw [beq_iff_eq]; omega
        have hp2 : ((l.length : Int) == (39 : Int)) = true := by rw [beq_iff_eq]; omega
        have kl := Lib.hid (fun (w9 : World) (A9 : List (Nat × Obj)) (h9 : TbIs 55 w.heap.size w w9 tb M A9) => keyed_is h9 (by omega) fl [120] [] hl)
        have kd := Lib.hid (fun (w9 : World) (A9 : List (Nat × Obj)) (h9 : TbIs 55 w.heap.size w w9 tb (fullL 40) A9) => drop_is (b1 := [120]) (b2 := [oct (97 + (r : Int))]) (b3 := []) h9 (by rw [fullL_len]; omega) hM f1)
        generalize oct (97 + (r : Int)) = x at *
        have eM : ((fullL 40).length : Int) = (40 : Int) := by simp [fullL_len]
        clear h2 h cv f1 f2 f3 fi fl hM hl hi
        go_wp2_with fail
        refine ca.out.mono ?_
        rintro e w5 ⟨rfl, h5⟩
        have g0 := h5.cell (k := wr.heap.size + 1) (i := 0) List.mem_cons_self rfl
        have g1 := h5.cell (k := wr.heap.size + 1) (i := 1) List.mem_cons_self rfl
        have g2 := h5.cell (k := wr.heap.size + 1) (i := 2) List.mem_cons_self rfl
        have cl := Lib.hid (len_is h5)
        rw [eM] at cl
        have cd := Lib.hid (kd.out _ _ h5)
        clear h5 ca kd eM
        go_wp2_with fail
        refine cl.out.mono ?_
        rintro e w6 ⟨rfl, rfl⟩
        clear cl
        go_wp2_with fail
        refine cd.out.mono ?_
        rintro e w7 ⟨rfl, h7⟩
        have cl := Lib.hid (len_is h7)
        have ck := Lib.hid (kl.out _ _ h7)
        clear h7 cd kl
        generalize M.length = p at *
        go_wp2_with fail
        refine cl.out.mono ?_
        rintro e w8 ⟨rfl, rfl⟩
        clear cl
        go_wp2_with fail
        refine ck.out.mono ?_
        rintro e w9 ⟨u, S, rfl, hu, h9⟩
        obtain ⟨a9, c9, rfl⟩ := hu.form
        replace h9 := Lib.hid h9.below
        generalize l.length = p2 at *
        clear hu ck
        go_wp2_with fail
        go_ret
        exact ⟨rfl, h9.out⟩

theorem full_row {n t : Int} {w : World} (r0 : Read Try.prog w 5 [.int .u8 n]) (r1 : Read Try.prog w 5 [.int .u8 t]) : Calls Try.prog 4 #[.int .u8 n, .int .u8 t] w fun e w' => e = .returned (.bool true) ∧ Below w.heap.size w w' := by
  obtain ⟨x, hx, wf⟩ := r0.int (by kernel_rfl : Try.prog.underlying 5 = some (.int .u8))
  obtain ⟨y, hy, wf2⟩ := r1.int (by kernel_rfl : Try.prog.underlying 5 = some (.int .u8))
  simp only [List.cons.injEq, Value.int.injEq, true_and, and_true] at hx hy
  subst hx hy
  obtain ⟨h1, h2⟩ := bounds_u8 wf
  obtain ⟨h3, h4⟩ := bounds_u8 wf2
  obtain ⟨n, rfl⟩ := Int.eq_ofNat_of_zero_le h1
  obtain ⟨t, rfl⟩ := Int.eq_ofNat_of_zero_le h3
  exact full_nat (n := n) (t := t) (by omega) (by omega) w
end Go.Proofs.Ytpogfbnaendfoaa
