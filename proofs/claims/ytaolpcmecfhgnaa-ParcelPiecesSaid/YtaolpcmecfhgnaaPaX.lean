/- ParcelPieces: a body in pieces. -/
import Derived.Test.YtaolpcmecfhgnaaPaK
import Derived.Test.YtaolpcmecfhgnaaInR
import Derived.Deep.LoopGhost
namespace Go.Proofs.Ytaolpcmecfhgnaa
open Go.RowKit
open Go.ChangeMaps (setBlock)
set_option linter.unusedVariables false
set_option linter.unusedSectionVars false
set_option linter.unusedSimpArgs false
set_option maxRecDepth 100000

/-- So many bytes of L have come. -/
def ptP (L : List UInt8) (a : Nat) (pr tt : Int) : Pcl := ⟨if a = L.length then 3 else 2, [120], [107], L.length, pr, tt, L.take a, 0⟩
section
variable {L : List UInt8} {a m : Nat} {pr tt : Int}
theorem pt_head : headP ⟨1, [120], [107], 0, 0, 0, [], 0⟩ L.length pr tt = ((((L.length : Int) == 0), 0), ptP L 0 pr tt) := by
  unfold headP weighP ptP
  rw [if_pos rfl]
  by_cases h : L.length = 0
  · have : ((L.length : Int) == 0) = true := beq_iff_eq.2 (by omega)
    rw [if_pos (by simp [h]), if_pos h.symm, this]
    simp
  · have : ((L.length : Int) == 0) = false := beq_eq_false_iff_ne.2 (by omega)
    rw [if_neg (by simp; omega), if_neg (fun e => h e.symm), this]
    simp
theorem pt_body (ha : a < L.length) (hm : 1 ≤ m) (hl : a + m ≤ L.length) : bodyP (ptP L a pr tt) ((L.drop a).take m) = (((((a + m : Nat) : Int) == L.length), 0), ptP L (a + m) pr tt) := by
  have e1 : (L.take a).length = a := by rw [List.length_take]; omega
  have e2 : ((L.drop a).take m).length = m := by rw [List.length_take, List.length_drop]; omega
  have e3 : L.take a ++ (L.drop a).take m = L.take (a + m) := by rw [List.take_add]
  unfold bodyP weighP ptP
  simp only [e1, e2, e3]
  rw [if_pos ⟨by rw [if_neg (by omega)], by omega⟩]
  have e4 : (L.take (a + m)).length = a + m := by rw [List.length_take]; omega
  simp only [e4]
  by_cases h : a + m = L.length
  · have : (((a + m : Nat) : Int) == L.length) = true := beq_iff_eq.2 (by omega)
    rw [if_pos (by omega), if_pos h, this]
  · have : (((a + m : Nat) : Int) == L.length) = false := beq_eq_false_iff_ne.2 (by omega)
    rw [if_neg (by omega), if_neg h, this]
theorem pt_take : takeP (ptP L L.length pr tt) = ((⟨0, 0, L.length, [120], [107], pr, tt, 0, false, 0⟩, L, 0), z0P) := by
  unfold takeP ptP
  rw [if_pos rfl, if_pos (by simp)]
  simp
end

section
variable {w : World}
set_option maxHeartbeats 8000000 in
theorem pieces21_walk {L : List UInt8} {aa : Option Addr} {n cap pr tt : Nat} {zs : List Int} (hz : IntsAt .u8 w aa n zs) (hp : pr ≤ 255) (htt : tt ≤ 65535) : Calls Try.prog 4 #[tx L, .slice aa n cap, .int .u8 pr, .int .u16 tt] w fun e w' => e = .returned (.bool true) ∧ Below w.heap.size w w' := by
  have c1 := Lib.hid (known21_true w)
  by_cases hs : 200 < L.length ∨ 60 < n
  · have hs' : (200 : Int) < L.length ∨ (¬ (200 : Int) < L.length ∧ (60 : Int) < n) := by omega
    clear hz
    rcases hs' with h1 | ⟨h1, h2⟩
    · go_enter Try.func4, Try.ntmps4
      go_wp2_with fail
      refine c1.out.mono ?_
      rintro e w1 ⟨rfl, hb⟩
      replace hb := Lib.hid hb
      go_wp2_with fail
      go_ret
      exact ⟨rfl, hb.out⟩
    · go_enter Try.func4, Try.ntmps4
      go_wp2_with fail
      refine c1.out.mono ?_
      rintro e w1 ⟨rfl, hb⟩
      replace hb := Lib.hid hb
      go_wp2_with fail
      go_ret
      exact ⟨rfl, hb.out⟩
  have hl : ¬ (200 : Int) < L.length := by omega
  have hn : ¬ (60 : Int) < n := by omega
  have hl2 : L.length ≤ 200 := by omega
  have hp0 : (0 : Int) ≤ pr := by omega
  have hp1 : (pr : Int) ≤ 255 := by omega
  have ht0 : (0 : Int) ≤ tt := by omega
  have ht1 : (tt : Int) ≤ 65535 := by omega
  have hlen := hz.size
  replace hz := Lib.hid hz
  replace hl2 := Lib.hid hl2
  clear hs hp htt
  go_enter Try.func4, Try.ntmps4
  go_wp2_with fail
  refine c1.out.mono ?_
  rintro e w1 ⟨rfl, hb⟩
  have c2 : Hid (Calls Try.prog 7 #[] w1 fun r w' => ∃ pb, r = .returned (pptr pb) ∧ PaIs w.heap.size w w' pb z0P []) := Lib.hid ((pa_new ((St.start w).grow hb)).mono fun r w' h => ⟨_, h⟩)
  clear c1 hb
  go_wp2_with fail
  refine c2.out.mono ?_
  rintro e w2 ⟨pb, rfl, h⟩
  have c := pa_begin h [120] [107] 0 (by simp) (by simp)
  rw [show beginP z0P [120] [107] 0 = (0, ⟨1, [120], [107], 0, 0, 0, [], 0⟩) from rfl] at c
  replace c := Lib.hid c
  clear c2 h
  go_wp2_with fail
  refine c.out.mono ?_
  rintro e w3 ⟨rfl, h⟩
  clear c
  have c := pa_head h (by simp) L.length pr tt
  rw [pt_head] at c
  obtain ⟨o0, ho0⟩ : ∃ o0, ((L.length : Int) == 0) = o0 := ⟨_, rfl⟩
  rw [ho0] at c
  replace c := Lib.hid c
  clear h
  go_wp2_with fail
  refine c.out.mono ?_
  rintro e w4 ⟨rfl, h⟩
  replace h := Lib.hid h
  clear c
  go_wp2_with fail
  clear ho0
  go_loopg [10, 11, 12, 13, 14] L.length (fun g v10 v11 v12 v13 v14 wr => ∃ a i : Nat, v12 = .int .i64 a ∧ v13 = .int .i64 i ∧ a + g = L.length ∧ i ≤ a ∧ Hid (PaIs w.heap.size w wr pb (ptP L a pr tt) []))
  case atStart => exact ⟨0, 0, rfl, rfl, by omega, Nat.le_refl _, h⟩
  case round =>
    clear h
    obtain ⟨a, i, rfl, rfl, ha, hia, h⟩ := hrel
    have a0 : (0 : Int) ≤ a := by omega
    have i0 : (0 : Int) ≤ i := by omega
    have i2 : (i : Int) ≤ 200 := by have := hl2.out; omega
    by_cases hlt : a < L.length
    · have a1 : (a : Int) < L.length := by omega
      obtain ⟨r, hr⟩ : ∃ r, a + r = L.length := ⟨L.length - a, by omega⟩
      have hri : (L.length : Int) - a = r := by omega
      have r0 : (1 : Int) ≤ r := by omega
      have r1 : (r : Int) ≤ 200 := by omega
      replace hr := Lib.hid hr
      go_upto_if 66 with fail
      go_cut [14] (fun v14 wx => ∃ m : Nat, v14 = .int .i64 m ∧ 1 ≤ m ∧ m ≤ r ∧ wx = wr)
      case first =>
        by_cases hi : i < n
        · have hi1 : (i : Int) < n := by omega
          obtain ⟨z, hx⟩ : ∃ z, zs[i]? = some z := ⟨_, List.getElem?_eq_getElem (by omega)⟩
          obtain ⟨ba, oa, rfl, cz⟩ := (hz.out.below h.out.below).at_ i z hx
          obtain ⟨z0, z1⟩ := bounds_u8 (hz.out.wf z (List.mem_of_getElem? hx))
          obtain ⟨y, rfl⟩ := Int.eq_ofNat_of_zero_le z0
          obtain ⟨q, hq⟩ : ∃ q, q = y % 20 := ⟨_, rfl⟩
          have hqi : (y : Int) % 20 = q := by omega
          have q0 : (0 : Int) ≤ q := by omega
          have q1 : (q : Int) ≤ 19 := by omega
          obtain ⟨m, hm⟩ : ∃ m : Nat, (if (q : Int) + 1 < r then (q : Int) + 1 else r) = m ∧ 1 ≤ m ∧ m ≤ r := by
            by_cases h : (q : Int) + 1 < r
            · exact ⟨q + 1, by rw [if_pos h]; omega, by omega, by omega⟩
            · exact ⟨r, by rw [if_neg h], by omega, by omega⟩
          obtain ⟨hm1, hm2⟩ := hm
          replace hm2 := Lib.hid hm2
          clear hx hq
          go_wp2_with fail
          go_meet
          case rel => exact ⟨m, rfl, hm2.out.1, hm2.out.2, rfl⟩
        · have hi1 : ¬ (i : Int) < n := by omega
          go_wp2_with fail
          go_meet
          case rel => exact ⟨r, rfl, by omega, Nat.le_refl _, rfl⟩
      case rest =>
        obtain ⟨m, rfl, hm1, hm2, rfl⟩ := hcut
        obtain ⟨q, hq⟩ : ∃ q, q = a + m := ⟨_, rfl⟩
        have hqi : (a : Int) + m = q := by omega
        have hql : (q : Int) ≤ L.length := by have := hr.out; omega
        have haq : (a : Int) ≤ q := by omega
        have ex : (⟨L.toArray⟩ : ByteArray).extract a q = ⟨((L.drop a).take m).toArray⟩ := by
          rw [ByteArray.extract_mk, hq]
          simp
        have hx : ((L.drop a).take m).length = m := by
          have := hr.out
          rw [List.length_take, List.length_drop]
          omega
        have c := pa_body h.out ((L.drop a).take m) (by
          have h1 := hl2.out
          have h2 : (L.take a).length ≤ 200 := by rw [List.length_take]; omega
          rw [hx]
          show (L.take a).length + m ≤ _
          have := hr.out
          omega)
        rw [pt_body hlt hm1 (by have := hr.out; omega), ← hq] at c
        obtain ⟨o1, ho1⟩ : ∃ o1, ((q : Int) == L.length) = o1 := ⟨_, rfl⟩
        rw [ho1] at c
        have nums := Lib.hid (show L.length - q < gk ∧ q + (L.length - q) = L.length ∧ i + 1 ≤ q from ⟨by have := hr.out; omega, by have := hr.out; omega, by omega⟩)
        replace c := Lib.hid c
        generalize (L.drop a).take m = x at *
        replace hq := Lib.hid hq
        clear h hx hri hlt a1 r0 r1 hm1 hm2 ha hia
        go_wp2_with fail
        refine c.out.mono ?_
        rintro e w7 ⟨rfl, h⟩
        replace h := Lib.hid h
        clear c
        go_wp2_with fail
        go_roundg (L.length - q)
        case measure => exact nums.out.1
        case rel => exact ⟨q, i + 1, rfl, by go_num, nums.out.2.1, nums.out.2.2, h⟩
    · obtain rfl : a = L.length := by omega
      have c := pa_take h.out
      rw [pt_take] at c
      replace c := Lib.hid c
      clear h hz hia ha
      go_wp2_with fail
      refine c.out.mono ?_
      rintro e w7 ⟨rfl, h⟩
      have c2 : Hid (∀ o, Calls Try.prog 17 #[pptr pb] (w7.alloc o) fun r w' => r = .returned (.bool false) ∧ PaIs w.heap.size w w' pb z0P []) := Lib.hid fun o => pa_open (h.grow (new_below w7 o))
      clear c h
      go_wp2_with fail
      refine (c2.out _).mono ?_
      rintro e w8 ⟨rfl, h⟩
      have fin := Lib.hid h.below
      clear c2 h
      go_wp2_with fail
      go_ret
      exact ⟨rfl, fin.out⟩
end
theorem uU8_x : Try.prog.underlying 5 = some (.int .u8) := by kernel_rfl
theorem uU16_x : Try.prog.underlying 48 = some (.int .u16) := by kernel_rfl
theorem uStr_x : Try.prog.underlying 9 = some .string := by kernel_rfl
theorem uBytes_x : Try.prog.underlying 47 = some (.slice 5) := by kernel_rfl
theorem pieces21_row {s : ByteArray} {aa : Option Addr} {n cap : Nat} {p t : Int} {w : World} (r1 : Read Try.prog w 47 [.slice aa n cap]) (r2 : Read Try.prog w 5 [.int .u8 p]) (r3 : Read Try.prog w 48 [.int .u16 t]) :
    Calls Try.prog 4 #[.string s, .slice aa n cap, .int .u8 p, .int .u16 t] w fun e w' => e = .returned (.bool true) ∧ Below w.heap.size w w' := by
  obtain ⟨rd, hr⟩ := r1.slice uBytes_x (by decide +kernel)
  obtain ⟨zs, hz⟩ := IntsAt.rows uU8_x (by kernel_rfl) hr
  obtain ⟨y, hy, wf⟩ := r2.int uU8_x
  obtain ⟨z, hzz, wz⟩ := r3.int uU16_x
  simp only [List.cons.injEq, Value.int.injEq, true_and, and_true] at hy hzz
  subst hy hzz
  obtain ⟨h1, h2⟩ := bounds_u8 wf
  obtain ⟨h3, h4⟩ := bounds_u16 wz
  obtain ⟨m, rfl⟩ := Int.eq_ofNat_of_zero_le h1
  obtain ⟨k, rfl⟩ := Int.eq_ofNat_of_zero_le h3
  exact pieces21_walk (L := s.data.toList) hz (by omega) (by omega)
end Go.Proofs.Ytaolpcmecfhgnaa
