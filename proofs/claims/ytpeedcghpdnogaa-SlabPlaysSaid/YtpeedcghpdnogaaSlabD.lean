/- The slab's giveBack (a chain laid ahead of the spare cells) and text (the bytes of a body). -/
import Derived.Test.YtpeedcghpdnogaaSlabC
namespace Go.Proofs.Ytpeedcghpdnogaa
open Go.RowKit

theorem perm_of_count {α : Type} {l m : List α} (h : ∀ (d : DecidableEq α) (a : α), @List.count α (@instBEqOfDecidableEq α d) a l = @List.count α (@instBEqOfDecidableEq α d) a m) : l.Perm m := by
  classical
  exact List.perm_iff_count.2 (fun a => h _ a)

section
variable {B : Nat} {w0 w : World} {g : SlabG} {F : List (Nat × Obj)}

/-- The slab's own block, its spare cells, whatever else. -/
def SlabG.raw (g : SlabG) (R : List (Nat × Obj)) : List (Nat × Obj) := (g.sb, g.obj) :: (cellsH g.spare ++ R)

theorem giveBack_final {R : List (Nat × Obj)} {l1 : Chain} {b : Nat} {cs : List UInt8} (h : St B w0 w (g.raw (cellsH (l1 ++ [(b, cs)]) ++ R))) (hc : cs.length = 32) :
    St B w0 ((w.setCell ⟨b, 32, none⟩ (headP g.spare)).setCell ⟨g.sb, 2, none⟩ (headP (l1 ++ [(b, cs)]))) ({ g with spare := (l1 ++ [(b, cs)]) ++ g.spare }.raw R) := by
  rw [cellsH_append] at h
  have h1 : St B w0 w (((g.sb, g.obj) :: (cellsH g.spare ++ cellsT l1 (headP [(b, cs)]))) ++ (b, cellObj cs (Value.pointer none)) :: R) := by
    simpa [cellsH, headP, SlabG.raw] using h
  have h2 := St.set (c := (cs.map u8v ++ [Value.pointer none]).toArray) (T := 73) (fr := (0, 0)) h1 32 (headP g.spare)
  rw [cellObj_set cs _ _ hc] at h2
  have h3 : St B w0 (w.setCell ⟨b, 32, none⟩ (headP g.spare)) ((g.sb, g.obj) :: ((cellsH g.spare ++ cellsT l1 (headP [(b, cs)])) ++ (b, cellObj cs (headP g.spare)) :: R)) := h2
  have h4 := h3.set0 2 (headP (l1 ++ [(b, cs)]))
  refine h4.perm ?_
  have e : ({ g with spare := (l1 ++ [(b, cs)]) ++ g.spare } : SlabG).raw R = (g.sb, { g with spare := (l1 ++ [(b, cs)]) ++ g.spare }.obj) :: (cellsT l1 (headP [(b, cs)]) ++ (b, cellObj cs (headP g.spare)) :: (cellsH g.spare ++ R)) := by
    show (_ :: (cellsH ((l1 ++ [(b, cs)]) ++ g.spare) ++ R)) = _
    rw [List.append_assoc l1, cellsH_append]
    simp [cellsH, headP, SlabG.obj]
  rw [e]
  have e2 : (.cells ((#[.int .i64 g.free, .int .i64 g.last, headP g.spare, .map g.mb] : Array Value).setIfInBounds 2 (headP (l1 ++ [(b, cs)]))) 59 : Obj) = ({ g with spare := (l1 ++ [(b, cs)]) ++ g.spare } : SlabG).obj := by
    simp only [SlabG.obj, headP_append (l1 ++ [(b, cs)])]
    cases l1 <;> rfl
  rw [e2]
  refine .cons _ ?_
  refine perm_of_count fun d a => ?_
  simp only [List.count_append, List.count_cons]
  omega

theorem St.r2 {R : List (Nat × Obj)} (h : St B w0 w (g.raw R)) : w.cell? ⟨g.sb, 2, none⟩ = some (headP g.spare) := h.cell List.mem_cons_self rfl
theorem St.rf {R : List (Nat × Obj)} (h : St B w0 w (g.raw R)) (i : Nat) : w.frozen? ⟨g.sb, i, none⟩ = false := h.soft List.mem_cons_self i

set_option maxHeartbeats 1000000 in
theorem giveBack_any {R : List (Nat × Obj)} (ch : Chain) (h : St B w0 w (g.raw (cellsH ch ++ R))) (hf : Full ch) :
    Calls Try.prog 28 #[ptr g.sb, headP ch] w fun e w' => e = .returned (.tuple #[]) ∧ St B w0 w' ({ g with spare := ch ++ g.spare }.raw R) := by
  cases hch : ch with
  | nil =>
    subst hch
    have hfin : St B w0 w ({ g with spare := [] ++ g.spare }.raw R) := h
    have hfin := Lib.hid hfin
    clear h
    simp only [headP]
    go_enter Try.func28, Try.ntmps28
    go_wp2_with fail
    go_step3
    go_wp2_with fail
    try rw [Exit.noGoto_ret]
    exact bodyPost_ret (results_none rfl _ _ _) rfl ⟨rfl, hfin.out⟩
  | cons x r =>
    obtain ⟨b0, cs0⟩ := x
    rw [hch] at h hf
    clear hch
    have hs2 := h.r2
    have hsf := h.rf 2
    obtain ⟨p, hp⟩ := headP_ptr g.spare
    rw [hp] at hs2
    have hp := Lib.hid hp
    have hcell : ∀ (l1 l2 : Chain) (b : Nat) (cs : List UInt8), (b0, cs0) :: r = l1 ++ (b, cs) :: l2 → w.cell? ⟨b, 32, none⟩ = some (headP l2) ∧ w.frozen? ⟨b, 32, none⟩ = false ∧ g.sb ≠ b ∧ cs.length = 32 := by
      intro l1 l2 b cs e
      rw [e] at h hf
      have hm : (b, cellObj cs (headP l2)) ∈ g.raw (cellsH (l1 ++ (b, cs) :: l2) ++ R) := by simp [SlabG.raw, mem_cellsH]
      have hc := hf (b, cs) (by simp)
      refine ⟨h.cell hm (by simp [hc]), h.soft hm 32, ?_, hc⟩
      have h' : St B w0 w ((g.sb, g.obj) :: (cellsH g.spare ++ (cellsH (l1 ++ (b, cs) :: l2) ++ R))) := h
      exact h'.ne (o' := cellObj cs (headP l2)) (by simp [mem_cellsH])
    have hcell := Lib.hid hcell
    have h := Lib.hid h
    show Calls Try.prog 28 #[ptr g.sb, ptr b0] w _
    go_enter Try.func28, Try.ntmps28
    go_wp2_with fail
    refine wp_scope_ghost 0 (fun n a' w' => w = w' ∧ ∃ (l1 l2 : Chain) (b : Nat) (cs : List UInt8), n = l2.length ∧ Hid ((b0, cs0) :: r = l1 ++ (b, cs) :: l2) ∧ Fr 28 [(0, ptr g.sb), (1, ptr b0), (4, ptr b)] a') rfl ?_ ?_
    · rintro n a' w' ⟨rfl, l1, l2, b, cs, rfl, he, hfr⟩
      obtain ⟨f, rfl, hl⟩ := hfr.lit
      clear hfr
      simp only [List.mem_cons, List.not_mem_nil, or_false, forall_eq_or_imp, forall_eq] at hl
      obtain ⟨f0, f1, f4⟩ := hl
      simp only [List.range, List.range.loop, List.map, f0, f1, f4]
      clear f0 f1 f4
      obtain ⟨c32, cf, cne, clen⟩ := hcell.out l1 l2 b cs he.out
      have clen := Lib.hid clen
      cases l2 with
      | nil =>
        simp only [headP] at c32
        go_wp2_with fail
        simp only [Exit.jump]
        refine bodyPost_end (results_none rfl _ _ _) rfl ⟨rfl, ?_⟩
        have h1 := h.out
        have he := he.out
        show St B w0 _ ({ g with spare := ((b0, cs0) :: r) ++ g.spare }.raw R)
        rw [he] at h1 ⊢
        have h2 := giveBack_final h1 clen.out
        rw [hp.out] at h2
        have e : headP (l1 ++ [(b, cs)]) = ptr b0 := by rw [← he]; rfl
        rw [e] at h2
        exact h2
      | cons y l2 =>
        obtain ⟨b2, cs2⟩ := y
        simp only [headP] at c32
        go_wp2_with fail
        refine wp_goto ?_
        refine ⟨rfl, l2.length, Nat.lt_succ_self _, rfl, l1 ++ [(b, cs)], l2, b2, cs2, rfl, ?_, ⟨rfl, rfl, by simp⟩⟩
        rw [he.out]
        simp [Hid]
    · intro H
      go_wp2_with fail
      refine wp_label ?_
      go_step
      go_step
      exact H r.length _ _ ⟨rfl, [], r, b0, cs0, rfl, Lib.hid rfl, ⟨rfl, rfl, by simp⟩⟩
end
end Go.Proofs.Ytpeedcghpdnogaa
