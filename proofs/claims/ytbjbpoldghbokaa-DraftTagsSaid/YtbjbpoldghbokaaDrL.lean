/- DraftTags: tags noted one by one. -/
import Derived.Test.YtbjbpoldghbokaaDrK
import Derived.Test.YtbjbpoldghbokaaArgs
import Derived.Test.YtbjbpoldghbokaaInR
namespace Go.Proofs.Ytbjbpoldghbokaa
open Go.RowKit
open Go.ChangeMaps (setBlock)
set_option linter.unusedVariables false
set_option linter.unusedSectionVars false
set_option linter.unusedSimpArgs false
set_option maxRecDepth 100000

theorem uU820 : Try.prog.underlying 5 = some (.int .u8) := by kernel_rfl
theorem uBytes20 : Try.prog.underlying 43 = some (.slice 5) := by kernel_rfl
/-- So many noted of each sort, the acks by these tags. -/
structure Tagd (zs : List Int) (i : Nat) (P : List (Ent × Int)) (A : List (Int × Int)) : Prop where
  pubs : P.length = i
  acks : A.length = i
  tags : A.map (·.1) = zs.take i
theorem Tagd.zero (zs : List Int) : Tagd zs 0 [] [] := ⟨rfl, rfl, rfl⟩
theorem Tagd.next {zs : List Int} {i : Nat} {P : List (Ent × Int)} {A : List (Int × Int)} {z : Int} (h : Tagd zs i P A) (hz : zs[i]? = some z) (e : Ent) (b c : Int) : Tagd zs (i + 1) (P ++ [(e, b)]) (A ++ [(z, c)]) :=
  ⟨by rw [List.length_append, h.pubs]; rfl, by rw [List.length_append, h.acks]; rfl, by rw [List.map_append, h.tags, List.take_add_one, hz]; rfl⟩
theorem Tagd.has {zs : List Int} {i : Nat} {t z : Int} (hz : zs[i]? = some z) : decide (t ∈ zs.take (i + 1)) = (decide (t ∈ zs.take i) || (z == t)) := by
  rw [List.take_add_one, hz]
  by_cases h1 : t ∈ zs.take i
  · simp [h1]
  · by_cases h2 : z = t
    · simp [h2]
    · have h3 : ¬ t = z := fun e => h2 e.symm
      simp [h1, h2, h3]

section
variable {w : World}
set_option maxHeartbeats 8000000 in
theorem tags20_walk {a : Option Addr} {n cap : Nat} {t : Int} {zs : List Int} (hz : IntsAt .u8 w a n zs) (ht0 : 0 ≤ t) (ht1 : t ≤ 255) :
    Calls Try.prog 4 #[.slice a n cap, .int .u8 t] w fun e w' => e = .returned (.bool true) ∧ Below w.heap.size w w' := by
  have c1 := Lib.hid (known20_true w)
  by_cases h60 : 60 < n
  · have h60' : (60 : Int) < n := by omega
    clear hz
    go_enter Try.func4, Try.ntmps4
    go_wp2_with fail
    refine c1.out.mono ?_
    rintro e w1 ⟨rfl, hb⟩
    replace hb := Lib.hid hb
    go_wp2_with fail
    go_ret
    exact ⟨rfl, hb.out⟩
  have h60' : (n : Int) ≤ 60 := by omega
  have hlen := hz.size
  replace hz := Lib.hid hz
  go_enter Try.func4, Try.ntmps4
  go_wp2_with fail
  refine c1.out.mono ?_
  rintro e w1 ⟨rfl, hb⟩
  have c2 : Hid (Calls Try.prog 6 #[] w1 fun r w' => ∃ db, r = .returned (dptr db) ∧ DrIs w.heap.size w w' db [] [] []) := Lib.hid ((dr_new ((St.start w).grow hb)).mono fun r w' h => ⟨_, h⟩)
  clear c1 hb h60
  go_wp2_with fail
  refine c2.out.mono ?_
  rintro e w2 ⟨db, rfl, h⟩
  replace h := Lib.hid h
  clear c2
  go_wp2_with fail
  go_loopg [6, 7] n (fun g v6 v7 wr => ∃ (i : Nat) (b : Bool) (P : List (Ent × Int)) (A : List (Int × Int)), v7 = .int .i64 i ∧ v6 = .bool b ∧ i + g = n ∧ Hid (Tagd zs i P A ∧ b = decide (t ∈ zs.take i)) ∧ Hid (DrIs w.heap.size w wr db P A []))
  case atStart => exact ⟨0, false, [], [], rfl, rfl, by omega, Lib.hid ⟨Tagd.zero zs, by simp⟩, h⟩
  case round =>
    clear h
    obtain ⟨i, b, P, A, rfl, rfl, hi, hT, h⟩ := hrel
    have i0 : (0 : Int) ≤ i := by omega
    by_cases hlt : i < n
    · have i1 : (i : Int) < n := by omega
      have hx : zs[i]? = some zs[i] := List.getElem?_eq_getElem (by omega)
      generalize zs[i]'(by omega) = z at hx
      obtain ⟨ba, oa, rfl, cz⟩ := (hz.out.below h.out.below).at_ i z hx
      obtain ⟨z0, z1⟩ := bounds_u8 (hz.out.wf z (List.mem_of_getElem? hx))
      have hA := hT.out.1.acks
      have hP := hT.out.1.pubs
      have ca : Hid (Calls Try.prog 8 #[dptr db, .int .i64 z, .int .i64 i] wr fun r w' => r = .returned (.tuple #[]) ∧ DrIs w.heap.size w w' db P (A ++ [(z, (i : Int))]) []) := Lib.hid (dr_ack h.out (by omega) z i)
      have hT2 := Lib.hid (hT.out.1.next hx ⟨i, 0, 0, [], [], 0, 0, 0, false, 0⟩ i i)
      have hb2 : Hid ((b || (z == t)) = decide (t ∈ zs.take (i + 1))) := Lib.hid (by rw [Tagd.has hx, hT.out.2])
      have hcz : Hid (∀ w', Below w.heap.size w w' → w'.cell? ⟨ba, oa + i, none⟩ = some (.int .u8 z)) := Lib.hid fun w' hb => by
        obtain ⟨b', o', e1, h1⟩ := (hz.out.below hb).at_ i z hx
        cases e1
        exact h1
      clear hx hT h hA
      go_wp2_with fail
      refine ca.out.mono ?_
      rintro r w3 ⟨rfl, h⟩
      have cp := Lib.hid (dr_publish h (by omega) ⟨i, 0, 0, [], [], 0, 0, 0, false, 0⟩ (by simp) (by simp) i)
      clear ca h cz hP
      go_wp2_with fail
      refine cp.out.mono ?_
      rintro r w4 ⟨rfl, h⟩
      have cz := hcz.out _ h.below
      replace h := Lib.hid h
      clear cp hcz
      cases b with
      | true =>
        rw [Bool.true_or] at hb2
        go_wp2_with fail
        go_roundg (n - (i + 1))
        case measure => omega
        case rel => exact ⟨i + 1, true, _, _, by go_num, rfl, by omega, Lib.hid ⟨hT2.out, hb2.out⟩, h⟩
      | false =>
        rw [Bool.false_or] at hb2
        generalize hq : (z == t) = q at *
        go_wp2_with fail
        go_roundg (n - (i + 1))
        case measure => omega
        case rel => exact ⟨i + 1, q, _, _, by go_num, rfl, by omega, Lib.hid ⟨hT2.out, hb2.out⟩, h⟩
    · have hk : i = n := by omega
      have hA := hT.out.1.acks
      have hP := hT.out.1.pubs
      have hb : b = decide (t ∈ A.map (·.1)) := by rw [hT.out.1.tags, hT.out.2]
      have ch := dr_has h.out t
      rw [← hb] at ch
      replace ch := Lib.hid ch
      clear hT h hb hz hlen
      go_wp2_with fail
      refine ch.out.mono ?_
      rintro r w3 ⟨rfl, h⟩
      have cl := dr_len h (by omega) (by omega)
      rw [hP, hA, hk, show ((n + n : Nat) : Int) = 2 * (n : Int) by omega] at cl
      replace cl := Lib.hid cl
      clear ch h hk hA hP hi hlt i0
      go_wp2_with fail
      refine cl.out.mono ?_
      rintro r w4 ⟨rfl, h⟩
      have cc := Lib.hid (dr_clear h)
      clear cl h
      go_wp2_with fail
      refine cc.out.mono ?_
      rintro r w5 ⟨rfl, h⟩
      have cp := Lib.hid (dr_publishes h (by simp))
      clear cc h
      go_wp2_with fail
      refine cp.out.mono ?_
      rintro r w6 ⟨t5, u5, rfl, h⟩
      have ch := Lib.hid (dr_has h t)
      clear cp h
      simp only [List.length_nil]
      go_wp2_with fail
      refine ch.out.mono ?_
      rintro r w7 ⟨rfl, h⟩
      have ca := Lib.hid (dr_acks h (by simp))
      clear ch h
      simp only [List.map_nil, List.not_mem_nil, decide_false, List.length_nil]
      go_wp2_with fail
      refine ca.out.mono ?_
      rintro r w8 ⟨s5, rfl, h⟩
      have fin := Lib.hid h.below
      clear ca h
      simp only [List.length_nil]
      go_wp2_with fail
      go_ret
      exact ⟨rfl, fin.out⟩
end
theorem tags20_row {a0 : Option Addr} {n cap : Nat} {t : Int} {w : World} (r0 : Read Try.prog w 43 [.slice a0 n cap]) (r1 : Read Try.prog w 5 [.int .u8 t]) :
    Calls Try.prog 4 #[.slice a0 n cap, .int .u8 t] w fun e w' => e = .returned (.bool true) ∧ Below w.heap.size w w' := by
  obtain ⟨rd, hr⟩ := r0.slice uBytes20 (by decide +kernel)
  obtain ⟨zs, hz⟩ := IntsAt.rows uU820 (by kernel_rfl) hr
  obtain ⟨y, hy, wf⟩ := r1.int uU820
  simp only [List.cons.injEq, Value.int.injEq, true_and, and_true] at hy
  subst hy
  obtain ⟨h1, h2⟩ := bounds_u8 wf
  exact tags20_walk hz h1 h2
end Go.Proofs.Ytbjbpoldghbokaa
