/- The document's parcel: heads, bytes. -/
import Derived.Test.YtaolpcmecfhgnaaPaR
namespace Go.Proofs.Ytaolpcmecfhgnaa
open Go.RowKit
open Go.ChangeMaps (setBlock)
set_option linter.unusedVariables false
set_option linter.unusedSectionVars false
set_option linter.unusedSimpArgs false
set_option maxRecDepth 100000

section
variable {B : Nat} {w0 w w' W : World} {b rb : Nat} {p : Pcl} {g hd : Bool} {F F' S C H : List (Nat × Obj)}
abbrev cntO (s r t : Int) : Obj := .cells #[.int .i64 s, .int .i64 r, .int .i64 t] 32
abbrev cntV (s r t : Int) : Value := .agg #[.int .i64 s, .int .i64 r, .int .i64 t]
/-- Behind a piece. -/
def RComeR (B : Nat) (w0 : World) (rb : Nat) (r : (Bool × Int) × Pcl) (F : List (Nat × Obj)) (e : Ending) (w' : World) : Prop :=
  e = .returned (.tuple #[.bool r.1.1, .int .i64 r.1.2]) ∧ RPaIs B w0 w' rb r.2 F
/-- What Whole says of one that has a head is what the scales say. -/
theorem weigh_ref (p : Pcl) (h : St B w0 w ((rb, rpO true true p) :: F)) : (weighP p).1 = (decide ((p.bytes.length : Int) = p.size), 0) ∧ RPaIs B w0 w rb (weighP p).2 F := by
  unfold weighP RPaIs
  split
  · rename_i h1
    exact ⟨by simp [h1], h⟩
  · rename_i h1
    exact ⟨by simp [h1], h⟩

set_option maxHeartbeats 4000000 in
theorem rf_head (h : RPaIs B w0 w rb p F) (hb : p.bytes.length ≤ 1000000) (s r t : Int) : Calls Try.prog 11 #[pptr rb, cntV s r t] w (RComeR B w0 rb (headP p s r t) F) := by
  unfold RPaIs at h
  have h1 := (h.alloc (cntO s r t)).perm (List.Perm.swap _ _ _)
  have c := RpC.of h1 List.mem_cons_self
  unfold headP
  by_cases hn : p.next = 1
  · rw [if_pos hn]
    obtain ⟨nx, pe, pk, psz, pp, pt, pby, pbi⟩ := p
    simp only at hn hb
    subst hn
    have k0 : (w.alloc (cntO s r t)).cell? ⟨rb, 0, none⟩ = some (.bool true) := c.c0
    have k1 : (w.alloc (cntO s r t)).cell? ⟨rb, 1, none⟩ = some (.bool false) := c.c1
    have g1 := c.soft 1
    obtain ⟨V, hV⟩ : ∃ V, V = (w.alloc (cntO s r t)).setCell ⟨rb, 1, none⟩ (.bool true) := ⟨_, rfl⟩
    have hP : St B w0 V ((rb, rpO true true ⟨1, pe, pk, psz, pp, pt, pby, pbi⟩) :: (w.heap.size, cntO s r t) :: F) := by
      rw [hV]
      exact h1.set0 1 (.bool true)
    clear h h1 c
    obtain ⟨p0, p1, p2, p3, p4, p5, p6, p7, p8, p9, p10, p11, p12, p13, soft⟩ := RpC.of hP.drew List.mem_cons_self
    have t4 := soft 4
    have t7 := soft 7
    have t8 := soft 8
    clear p0 p1 p2 p3 p5 p6 p9 p10 p11 p12 p13 soft
    simp only at p4 p7 p8
    have cl : ∀ (W : World) (C : Array Value), St B w0 W ((rb, .cells C 30) :: (w.heap.size, cntO s r t) :: F) → W.cell? ⟨w.heap.size, 0, none⟩ = some (.int .i64 s) ∧ W.cell? ⟨w.heap.size, 1, none⟩ = some (.int .i64 r) ∧ W.cell? ⟨w.heap.size, 2, none⟩ = some (.int .i64 t) := fun W C h =>
      ⟨h.cell (b := w.heap.size) (List.mem_cons_of_mem _ List.mem_cons_self) rfl, h.cell (b := w.heap.size) (List.mem_cons_of_mem _ List.mem_cons_self) rfl, h.cell (b := w.heap.size) (List.mem_cons_of_mem _ List.mem_cons_self) rfl⟩
    have hS0 := Lib.hid (cl _ _ hP.drew)
    have e1 := Lib.hid (cl _ _ (hP.set0 4 (.int .i64 s)).drew)
    have e2 := Lib.hid (cl _ _ ((hP.set0 4 (.int .i64 s)).set0 7 (.int .i64 r)).drew)
    have e3 := Lib.hid (cl _ _ (((hP.set0 4 (.int .i64 s)).set0 7 (.int .i64 r)).set0 8 (.int .i64 t)).drew)
    have g7 := ((hP.set0 4 (.int .i64 s)).drew).cell (b := rb) List.mem_cons_self (i := 7) rfl
    have u7 := St.soft ((hP.set0 4 (.int .i64 s)).drew) (b := rb) List.mem_cons_self 7
    have g8 := (((hP.set0 4 (.int .i64 s)).set0 7 (.int .i64 r)).drew).cell (b := rb) List.mem_cons_self (i := 8) rfl
    have u8 := St.soft (((hP.set0 4 (.int .i64 s)).set0 7 (.int .i64 r)).drew) (b := rb) List.mem_cons_self 8
    have h3 : St B w0 (((V.setCell ⟨rb, 4, none⟩ (.int .i64 s)).setCell ⟨rb, 7, none⟩ (.int .i64 r)).setCell ⟨rb, 8, none⟩ (.int .i64 t)).drew ((rb, rpO true true ⟨1, pe, pk, s, r, t, pby, pbi⟩) :: F) := by
      have := ((((hP.set0 4 (.int .i64 s)).set0 7 (.int .i64 r)).set0 8 (.int .i64 t)).drew)
      exact this.sub ((List.sublist_cons_self _ _).cons_cons _)
    have cw := Lib.hid (rf_whole h3 hb)
    clear cl hP h3 hb
    go_enter Try.func11, Try.ntmps11
    go_upto_region 4 with fail
    rw [← hV]
    replace hV := Lib.hid hV
    clear k0 k1 g1
    generalize w.heap.size = xb at *
    go_region_held3 (fun wr => wr.cell? ⟨xb, 0, none⟩ = some (.int .i64 s) ∧ wr.cell? ⟨xb, 1, none⟩ = some (.int .i64 r) ∧ wr.cell? ⟨xb, 2, none⟩ = some (.int .i64 t)) (first | with_reducible exact hS0.out | with_reducible exact e1.out | with_reducible exact e2.out | with_reducible exact e3.out) (fail)
    clear g7 u7 g8 u8 e1 e2 e3 hS0 p4 p7 p8 t4 t7 t8
    obtain ⟨V2, hV2⟩ : ∃ V2, V2 = (((V.setCell ⟨rb, 4, none⟩ (.int .i64 s)).setCell ⟨rb, 7, none⟩ (.int .i64 r)).setCell ⟨rb, 8, none⟩ (.int .i64 t)).drew := ⟨_, rfl⟩
    rw [← hV2] at cw ⊢
    clear hV2
    go_wp2_with fail
    refine cw.out.mono ?_
    rintro e w5 ⟨rfl, h5⟩
    obtain ⟨a1, a2⟩ := weigh_ref _ h5
    have fin : Hid (RComeR B w0 rb (weighP ⟨1, pe, pk, s, r, t, pby, pbi⟩) F (.returned (.tuple #[.bool (true && decide ((pby.length : Int) = s)), .int .i64 0])) w5) := Lib.hid ⟨by rw [a1]; rfl, a2⟩
    clear h5 cw a1 a2
    go_wp2_with fail
    go_ret2
    exact fin.out
  · rw [if_neg hn]
    have fin : Hid (∀ n, RPaIs B w0 ((w.alloc (cntO s r t)).drewN n) rb p F) := Lib.hid fun n => (h1.drewN n).sub ((List.sublist_cons_self _ _).cons_cons _)
    have k0 := c.c0
    have k1 := c.c1
    by_cases h0 : p.next = 0
    · rw [h0] at k0
      simp only [decide_true, Bool.not_true] at k0
      clear h h1 c hn hb k1 h0
      go_enter Try.func11, Try.ntmps11
      go_wp2_with fail
      go_ret2
      exact ⟨rfl, fin.out 0⟩
    · have e0 : (!decide (p.next = 0)) = true := by simp [h0]
      have e1 : decide (2 ≤ p.next) = true := by simp; omega
      rw [e0] at k0
      rw [e1] at k1
      clear h h1 c hn hb h0 e0 e1
      go_enter Try.func11, Try.ntmps11
      go_wp2_with fail
      go_ret2
      exact ⟨rfl, fin.out 0⟩
end
end Go.Proofs.Ytaolpcmecfhgnaa
