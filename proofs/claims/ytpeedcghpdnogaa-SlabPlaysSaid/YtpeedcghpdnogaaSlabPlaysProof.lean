/- SlabPlays holds for every input: the call answers true, and each argument reads behind it as it did. No condition. -/
import Derived.Test.YtpeedcghpdnogaaRows
import Derived.Test.YtpeedcghpdnogaaRefF
import Derived.WalkKit
import Derived.ProofKit
import Derived.OpenShut
import Derived.ShutString
import Derived.ChangeOld
import Derived.Below
import Derived.Deep.Slices
import Derived.Deep.Fields
import Derived.ChangeSame
namespace Go.Proofs.Ytpeedcghpdnogaa.slabPlays
open Go.ChangeShapes Go.WideShapes Go.ChangeAt Go.RowKit Go.Deep
set_option linter.unusedVariables false

theorem own : ownKnob Try.prog.godebug = none := by kernel_rfl
theorem laidOut : laidOutB Try.prog = true := by kernel_rfl

theorem step_opened {H : Type} {enc : TypeId × Value → H} {w : World} {base : Nat} {spare : Nat → Bool} {held : Bool} {fuel : Nat} {a0 : Option Addr} {len0 cap0 : Nat} {x : DataW H × List MemPlace}
    (h : DataW.trod enc Try.prog w base spare held fuel 22 [.slice a0 len0 cap0] = some x) : ∃ rd, StepAt w a0 len0 rd ∧ len0 ≤ maxLen := by
  have three : Try.prog.cellsOf 30 = 3 := by kernel_rfl
  rcases open_slice Try.underlying22 h with ⟨hcs, _⟩ | ⟨a, len, cap, m, fuel', D, Pl, hcs, _, hl, hm, hmm, _, hi⟩
  · simp at hcs
    obtain ⟨rfl, rfl, rfl⟩ := hcs
    exact ⟨fun _ => ⟨0, 0, ⟨#[]⟩⟩, fun j hj => by omega, Nat.zero_le _⟩
  · simp at hcs
    obtain ⟨rfl, rfl, rfl⟩ := hcs
    have key : ∀ j, j < len0 → ∃ s : StepG, ∃ b off, a = ⟨b, off, none⟩ ∧ w.cell? ⟨b, off + j * 3, none⟩ = some (.int .i64 s.what) ∧ w.cell? ⟨b, off + j * 3 + 1, none⟩ = some (.int .i64 s.at_) ∧ w.cell? ⟨b, off + j * 3 + 2, none⟩ = some (.string s.text) ∧
        -9223372036854775808 ≤ s.what ∧ s.what ≤ 9223372036854775807 ∧ -9223372036854775808 ≤ s.at_ ∧ s.at_ ≤ 9223372036854775807 ∧ s.text.size ≤ maxLen := by
      intro j hj
      obtain ⟨cs, hc, ht⟩ := hi j (by rw [hmm]; split <;> omega)
      obtain ⟨_, hlc, hat⟩ := World.cells?_some hc
      obtain ⟨ys, n, _, _, _, hly, hg⟩ := DataW.trod_struct Try.underlying30 ht
      rw [three] at hlc hat
      obtain ⟨v0, v1, v2, rfl⟩ : ∃ v0 v1 v2, cs = [v0, v1, v2] := by
        match cs, hlc with
        | [v0, v1, v2], _ => exact ⟨v0, v1, v2, rfl⟩
      obtain ⟨y0, y1, y2, rfl⟩ : ∃ y0 y1 y2, ys = [y0, y1, y2] := by
        match ys, hly with
        | [y0, y1, y2], _ => exact ⟨y0, y1, y2, rfl⟩
      have c0 := hat 0 (by decide)
      have c1 := hat 1 (by decide)
      have c2 := hat 2 (by decide)
      have t0 : DataW.trod enc Try.prog w base spare held n 3 (([v0, v1, v2].drop 0).take (Try.prog.cellsOf 3)) = some y0 := hg 0 _ rfl
      have t1 : DataW.trod enc Try.prog w base spare held n 3 (([v0, v1, v2].drop 1).take (Try.prog.cellsOf 3)) = some y1 := hg 1 _ rfl
      have t2 : DataW.trod enc Try.prog w base spare held n 9 (([v0, v1, v2].drop 2).take (Try.prog.cellsOf 9)) = some y2 := hg 2 _ rfl
      rw [show Try.prog.cellsOf 3 = 1 by kernel_rfl] at t0 t1
      rw [show Try.prog.cellsOf 9 = 1 by kernel_rfl] at t2
      obtain ⟨n0, e0, _, b0⟩ := DataW.trod_int Try.underlying3 t0
      obtain ⟨n1, e1, _, b1⟩ := DataW.trod_int Try.underlying3 t1
      obtain ⟨s2, e2, _, b2⟩ := DataW.trod_string Try.underlying9 t2
      simp [List.cons.injEq] at e0 e1 e2
      subst e0 e1 e2
      obtain ⟨b, off, spot⟩ := a
      have hspot : spot = none := by
        obtain ⟨_, hc', _⟩ := hi 0 (by rw [hmm]; split <;> omega)
        obtain ⟨_, hl', hat'⟩ := World.cells?_some hc'
        rw [three] at hl' hat'
        have cz := (hat' 0 (by decide)).trans (List.getElem?_eq_getElem (by omega))
        simpa [Addr.add] using World.cell?_spot cz
      subst hspot
      have d0 := bounds_i64 b0
      have d1 := bounds_i64 b1
      rw [Go.WideShapes.add_plain, Go.WideShapes.add_plain] at c0 c1 c2
      exact ⟨⟨n0, n1, s2⟩, b, off, rfl, by simpa using c0, by simpa [Nat.add_assoc] using c1, by simpa [Nat.add_assoc] using c2, d0.1, d0.2, d1.1, d1.2, b2⟩
    refine ⟨fun j => if h : j < len0 then (key j h).choose else ⟨0, 0, ⟨#[]⟩⟩, fun j hj => ?_, by omega⟩
    have := (key j hj).choose_spec
    simp only [dif_pos hj]
    obtain ⟨b, off, e, rest⟩ := this
    exact ⟨b, off, congrArg some e, rest⟩

/-! ### THE ROW's STEP -/
set_option maxRecDepth 100000 in
theorem lifted (os : Os) (started : os.Started) (H : Type) (enc : TypeId × Value → H) :
    ReturnsInHanded {} Try.checked os 3 .any (Rows.slabPlaysSpec.pre6 enc Try.prog Try.f3 Rows.slabPlaysRow.domain false) (Rows.slabPlaysSpec.post enc Try.prog Try.f3 false true false false) := by
  refine returnsInHanded_of_change (C := Try.checked) own started (by kernel_rfl) Try.func3
    (ChangeSpec.witness6 (enc := enc) (C := Try.checked) false ⟨#[], #[.int .i64 0, .slice none 0 0], []⟩ 8 (by kernel_rfl) (by kernel_rfl) (by kernel_rfl) (by kernel_rfl)) ?_
  intro W base args ds gs before hval0 hW hcnd _
  have hval : ∀ (j : Nat) t v, Try.f3.params[j]? = some t → args[j]? = some v → Value.okWide Try.prog W .any base t v := hval0
  have hW' := hW
  obtain ⟨p, q, hA0, hV, rfl, hfz, hnd⟩ := hW
  have hA : DataW.TrodAll enc Try.prog W 0 (fun _ => true) true Try.f3.params.toList args.toList ds p := hA0
  rw [Try.params3] at hA hval
  obtain ⟨v0, vs0, d0, ds0, p0, q0, hargs, rfl, rfl, h0, r0⟩ := trodAll_cons hA
  obtain ⟨v1, vs1, d1, ds1, p1, q1, rfl, rfl, rfl, h1, r1⟩ := trodAll_cons r0
  obtain ⟨rfl, rfl, rfl⟩ := trodAll_nil r1
  obtain rfl : args = #[v0, v1] := by cases args; simp_all
  obtain ⟨rfl, rfl⟩ := trodVars_none hV
  obtain ⟨n0, rfl, -⟩ := okWide_int Try.underlying3 (hval 0 3 v0 rfl rfl)
  have k0 := h0
  have lt0 : ∀ x ∈ p0, x.block < W.heap.size := by obtain ⟨m, hm⟩ := k0; exact DataW.trod_lt m _ _ _ hm
  obtain ⟨a1, len1, cap1, rfl⟩ := okWide_slice Try.underlying22 (hval 1 22 v1 rfl rfl)
  have k1 := h1
  have lt1 : ∀ x ∈ p1, x.block < W.heap.size := by obtain ⟨m, hm⟩ := k1; exact DataW.trod_lt m _ _ _ hm
  obtain ⟨rd, w1, hl1⟩ : ∃ rd, StepAt W a1 len1 rd ∧ len1 ≤ maxLen := by
    obtain ⟨fuel, hf⟩ := h1
    exact step_opened hf
  clear hA0 hval0
  refine (plays_walk n0 a1 len1 cap1 rd W w1 hl1).mono fun e W' ⟨he, bel⟩ => ?_
  subst he
  exact ⟨_, rfl, _, _, _, [], _, [], hW', trodAll_mk1 (shut_bool Try.underlying4 _), (trodAll_cons_mk (Below.trod laidOut (by kernel_rfl) (of_decide_eq_true (by kernel_rfl)) k0 bel lt0) (trodAll_cons_mk (Below.trod laidOut (by kernel_rfl) (of_decide_eq_true (by kernel_rfl)) k1 bel lt1) trodAll_mk0)), rfl, bel.frame _, fun h => by cases h⟩

theorem over : Rows.slabPlaysRow.holds Try.pinned (OpenSpec.ofChange Rows.slabPlaysSpec) :=
  OpenClaim.holds_of_wide 3 Try.f3 rfl rfl rfl rfl rfl rfl rfl ⟨rfl, rfl, rfl, rfl, rfl⟩ rfl rfl rfl rfl rfl (by kernel_rfl) Try.func3 (by kernel_rfl)
    (of_decide_eq_true (by kernel_rfl)) (by unfold Func.isWrapper; first | (rw [if_pos (by decide +kernel)]; kernel_rfl) | (rw [if_neg (by decide +kernel)]; exact ⟨rfl, rfl⟩))
    (fun os started H enc _ => lifted os started H enc)

/-- ████ THE STATEMENT ████ -/
theorem proved : Rows.SlabPlaysSaid := over
#print axioms proved
end Go.Proofs.Ytpeedcghpdnogaa.slabPlays
