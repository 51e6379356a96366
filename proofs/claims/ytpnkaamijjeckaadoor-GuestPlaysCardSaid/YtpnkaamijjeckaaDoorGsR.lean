/- The document's own guests: one comes, one goes. -/
import Derived.Test.YtpnkaamijjeckaaDoorGsQ
namespace Go.Proofs.YtpnkaamijjeckaaDoor
open Go.RowKit
set_option linter.unusedVariables false
set_option linter.unusedSectionVars false
set_option linter.unusedSimpArgs false
set_option maxRecDepth 100000

section
variable {B : Nat} {w0 w w' : World} {fb b p T i n : Nat} {M N L : List Gst} {a a2 : Option Addr} {c c2 : Nat} {F F' S So X : List (Nat × Obj)} {x y : Gst}
/-- 'append' of a guest that lies in a block beside. -/
theorem gss_put (hs : GssIs (.slice a L.length c) L S) (hst : St B w0 w (X ++ S)) (hm : (p, gsO x) ∈ X) (hl : L.length ≤ 2000000) :
    ∃ a' c' W S', (Builtin.append_ #[27, 27] 0 #[.slice a L.length c, .slice (some ⟨p, 0, none⟩) 1 1]).run Tryd.prog w = .ok (.slice a' (L ++ [x]).length c') W ∧ GssIs (.slice a' (L ++ [x]).length c') (L ++ [x]) S' ∧ St B w0 W (X ++ S') := by
  have hb := hst.get (b := p) (o := gsO x) (List.mem_append_left _ hm)
  obtain ⟨a', c', W, S', q1, q2, q3⟩ := apG.append (A := X) hs hst (Reads.block (cs := gcells x) (n := 1) (size := 6) hb rfl 1) (gcells_one _) (by unfold maxLen; omega) (by omega)
  have e1 : L.length + 1 = (L ++ [x]).length := by rw [List.length_append]; rfl
  rw [e1] at q1 q2
  rw [show gssV L ++ gcells x = gssV (L ++ [x]) by simp [gssV]] at q2
  exact ⟨a', c', W, S', q1, q2, q3⟩
theorem gss_copy (hs : GssIs (.slice a L.length c) L S) (hst : St B w0 w (X ++ S)) (hl : L.length ≤ 2000000) :
    ∃ a' c' W S', (Builtin.append_ #[27, 27] 0 #[.slice none 0 0, .slice a L.length c]).run Tryd.prog w = .ok (.slice a' L.length c') W ∧ GssIs (.slice a' L.length c') L S' ∧ St B w0 W ((X ++ S) ++ S') := by
  obtain ⟨a', c', W, S', q1, q2, q3⟩ := apG.copy hst (hs.reads hst) (gssV_one _) (by unfold maxLen; omega) (by omega)
  exact ⟨a', c', W, S', q1, q2, q3⟩

/-- What is behind the last append: the cell, and what is there with it stored. -/
def RLast (B : Nat) (w0 : World) (fb : Nat) (old : Value) (N : List Gst) (T : Nat) (F : List (Nat × Obj)) (a : Option Addr) (n c : Nat) (W : World) : Prop :=
  W.cell? ⟨fb, 0, none⟩ = some old ∧ W.frozen? ⟨fb, 0, none⟩ = false ∧ RGuAt B w0 (W.setCell ⟨fb, 0, none⟩ (.slice a n c)) fb N T F
theorem rlast {old : Value} {R : List (Nat × Obj)} (hs : GssIs (.slice a N.length c) N S) (hst : St B w0 w (((fb, rgO old T) :: (R ++ F)) ++ S)) : RLast B w0 fb old N T F a N.length c w := by
  refine ⟨hst.cell (b := fb) (i := 0) List.mem_cons_self rfl, St.soft (b := fb) hst List.mem_cons_self 0, a, c, S, hs, ?_⟩
  have h1 : St B w0 w ((fb, rgO old T) :: (S ++ F)) := (hst.sub (H' := ((fb, rgO old T) :: F) ++ S) (((List.sublist_append_right R F).cons_cons _).append (List.Sublist.refl _))).perm (by
    classical
    exact List.perm_iff_count.2 fun a => by simp only [List.count_append, List.count_cons]; omega)
  exact h1.set0 0 _
theorem RGuAt.push (h : RGuAt B w0 w fb M T F) (hm : (p, gsO x) ∈ F) (hl : M.length ≤ 100000) : ∃ a c, w.cell? ⟨fb, 0, none⟩ = some (.slice a M.length c) ∧
    (∃ a1 c1 W1, AppRun Tryd.prog 27 (.slice none 0 0) (.slice a M.length c) w (.slice a1 M.length c1) W1 ∧ GsAt W1 p x ∧ W1.cell? ⟨fb, 0, none⟩ = some (.slice a M.length c) ∧
      ∃ a2 c2 W2, AppRun Tryd.prog 27 (.slice a1 M.length c1) (.slice (some ⟨W1.heap.size, 0, none⟩) 1 1) (W1.alloc (gsO x)) (.slice a2 (M ++ [x]).length c2) W2 ∧ RLast B w0 fb (.slice a M.length c) (M ++ [x]) T F a2 (M ++ [x]).length c2 W2) ∧
    (w.alloc (gsO x)).cell? ⟨fb, 0, none⟩ = some (.slice a M.length c) ∧
    (∃ a1 c1 W1, AppRun Tryd.prog 27 (.slice none 0 0) (.slice a M.length c) (w.alloc (gsO x)) (.slice a1 M.length c1) W1 ∧ W1.cell? ⟨fb, 0, none⟩ = some (.slice a M.length c) ∧
      ∃ a2 c2 W2, AppRun Tryd.prog 27 (.slice a1 M.length c1) (.slice (some ⟨w.heap.size, 0, none⟩) 1 1) W1 (.slice a2 (M ++ [x]).length c2) W2 ∧ RLast B w0 fb (.slice a M.length c) (M ++ [x]) T F a2 (M ++ [x]).length c2 W2) := by
  obtain ⟨a, c, S, h1, h2⟩ := h
  have hp : ∀ (S : List (Nat × Obj)), ((fb, rgO (.slice a M.length c) T) :: (S ++ F)).Perm (((fb, rgO (.slice a M.length c) T) :: F) ++ S) := fun S => by
    classical
    exact List.perm_iff_count.2 fun a => by simp only [List.count_append, List.count_cons]; omega
  have hst := h2.perm (hp S)
  have last : ∀ W a3 c3 S2 S3 R, GssIs (.slice a3 (M ++ [x]).length c3) (M ++ [x]) S3 → St B w0 W ((R ++ ((((fb, rgO (.slice a M.length c) T) :: F) ++ S) ++ S2)) ++ S3) → RLast B w0 fb (.slice a M.length c) (M ++ [x]) T F a3 (M ++ [x]).length c3 W := fun W a3 c3 S2 S3 R k1 k2 => by
    refine rlast (R := R ++ (S ++ S2)) k1 (k2.perm ?_)
    classical
    exact List.perm_iff_count.2 fun a => by simp only [List.count_append, List.count_cons]; omega
  refine ⟨a, c, h2.cell List.mem_cons_self rfl, ?_, (h2.alloc (gsO x)).cell (b := fb) (List.mem_cons_of_mem _ List.mem_cons_self) rfl, ?_⟩
  · obtain ⟨a1, c1, W1, S1, r1, s1, t1⟩ := gss_copy h1 hst (by omega)
    have hm1 : (p, gsO x) ∈ (((fb, rgO (.slice a M.length c) T) :: F) ++ S) ++ S1 := List.mem_append_left _ (List.mem_append_left _ (List.mem_cons_of_mem _ hm))
    obtain ⟨a2, c2, W2, S2, r2, s2, t2⟩ := gss_push s1 t1 x (by omega)
    exact ⟨a1, c1, W1, ⟨r1⟩, t1.gsAt hm1, t1.cell (b := fb) (i := 0) (List.mem_append_left _ (List.mem_append_left _ List.mem_cons_self)) rfl, a2, c2, W2, ⟨r2⟩, last W2 a2 c2 [] S2 [] s2 (by simpa using t2)⟩
  · have hst1 := hst.alloc (gsO x)
    obtain ⟨a1, c1, W1, S1, r1, s1, t1⟩ := gss_copy (X := (w.heap.size, gsO x) :: ((fb, rgO (.slice a M.length c) T) :: F)) h1 hst1 (by omega)
    obtain ⟨a2, c2, W2, S2, r2, s2, t2⟩ := gss_put (x := x) (p := w.heap.size) s1 t1 (by simp) (by omega)
    refine ⟨a1, c1, W1, ⟨r1⟩, t1.cell (b := fb) (i := 0) (List.mem_append_left _ (List.mem_append_left _ (List.mem_cons_of_mem _ List.mem_cons_self))) rfl, a2, c2, W2, ⟨r2⟩, last W2 a2 c2 [] S2 [(w.heap.size, gsO x)] s2 ?_⟩
    simpa using t2

set_option maxHeartbeats 4000000 in
theorem rg_add (h : RGuAt B w0 w fb M T F) (hl : M.length ≤ 1000) (x : Gst) {ok : Bool} (hok : addOkG M x = ok) {N : List Gst} (hN : addG M x = N) :
    Calls Tryd.prog 10 #[gup fb, gsV x] w fun e w' => e = .returned (.bool ok) ∧ RGuAt B w0 w' fb N T F := by
  subst hN
  have h1 := h.alloc (gsO x)
  obtain ⟨a, c, hr, -⟩ := h1.rdg
  have cf := Lib.hid (rat_g hr (by omega) x.conn x.chan x.tag)
  obtain ⟨k0, k1, k2, k3, k4, k5⟩ := (h1.guest (b := w.heap.size) (x := x) List.mem_cons_self).1
  generalize hW : w.alloc (gsO x) = W1 at *
  replace hW := Lib.hid hW
  have he : (idxG M x.conn x.chan x.tag).isNone = ok := hok
  cases hi : idxG M x.conn x.chan x.tag with
  | some i =>
    rw [hi] at cf he
    obtain rfl : ok = false := by rw [← he]; rfl
    have fin : Hid (RGuAt B w0 W1 fb (addG M x) T F) := Lib.hid (by
      unfold addG
      rw [hok]
      exact h1.sub (List.sublist_cons_self _ _))
    have i0 : (0 : Int) ≤ i := by omega
    clear h h1 hr hok he hi
    simp only [idxI] at cf
    go_enter Tryd.func10, Tryd.ntmps10
    go_upto_region 1 with fail
    rw [hW.out]
    clear hW
    generalize w.heap.size = xb at *
    go_wp2_with fail
    refine cf.out.mono ?_
    rintro e w2 ⟨rfl, rfl⟩
    go_wp2_with fail
    go_ret
    exact ⟨rfl, fin.out⟩
  | none =>
    rw [hi] at cf he
    obtain rfl : ok = true := by rw [← he]; rfl
    have stp := Lib.hid (RGuAt.push (x := x) (h1.grow (drew_b _)) List.mem_cons_self (by omega))
    have fin : Hid (∀ old a2 n2 c2 W2, RLast B w0 fb old (M ++ [x]) T ((w.heap.size, gsO x) :: F) a2 n2 c2 W2 → RLast B w0 fb old (addG M x) T F a2 n2 c2 W2) := Lib.hid fun old a2 n2 c2 W2 ⟨k1, k2, k3⟩ => by
      refine ⟨k1, k2, ?_⟩
      unfold addG
      rw [hok]
      exact k3.sub (List.sublist_cons_self _ _)
    clear h h1 hr hok he hi hl
    simp only [idxI] at cf
    go_enter Tryd.func10, Tryd.ntmps10
    go_upto_region 1 with fail
    rw [hW.out]
    clear hW
    generalize w.heap.size = xb at *
    go_wp2_with fail
    refine cf.out.mono ?_
    rintro e w2 ⟨rfl, rfl⟩
    obtain ⟨a, c, d0, ⟨a1, c1, W1, run1, ⟨j0, j1, j2, j3, j4, j5⟩, d1, a2, c2, W2, run2, L1⟩, d2, ⟨a3, c3, W3, run3, d3, a4, c4, W4, run4, L2⟩⟩ := stp.out
    obtain ⟨g0, g1, g2⟩ := fin.out _ _ _ _ _ L1
    obtain ⟨g3, g4, g5⟩ := fin.out _ _ _ _ _ L2
    have d2' : ((w2.alloc (gsO x)).drew).cell? ⟨fb, 0, none⟩ = some (.slice a M.length c) := d2
    have run3' : AppRun Tryd.prog 27 (.slice none 0 0) (.slice a M.length c) ((w2.alloc (gsO x)).drew) (.slice a3 M.length c3) W3 := run3
    have run4' : AppRun Tryd.prog 27 (.slice a3 M.length c3) (.slice (some ⟨w2.heap.size, 0, none⟩) 1 1) W3 (.slice a4 (M ++ [x]).length c4) W4 := run4
    replace g2 := Lib.hid g2
    replace g5 := Lib.hid g5
    clear stp fin L1 L2 d2 run3 run4 cf
    generalize (M ++ [x]).length = n1 at *
    go_upto_region 3 with fail
    go_region_law (first
      | (refine step_app (.const (.slice none 0 0)) (.tmp 18) 27 run1 rfl rfl (by simp [Act.eval]) (by simp [Act.eval]) ?_)
      | (refine step_app (.const (.slice none 0 0)) (.tmp 18) 27 run3' rfl rfl (by simp [Act.eval]) (by simp [Act.eval]) ?_)
      | (refine step_app (.tmp 19) (.tmp 21) 27 run2 rfl rfl (by simp [Act.eval]) (by simp [Act.eval]) ?_)
      | (refine step_app (.tmp 19) (.tmp 21) 27 run4' rfl rfl (by simp [Act.eval]) (by simp [Act.eval]) ?_))
    all_goals
      clear run1 run2 run3' run4'
      go_wp2_with fail
      go_ret
      first | exact ⟨rfl, g2.out⟩ | exact ⟨rfl, g5.out⟩
end
end Go.Proofs.YtpnkaamijjeckaaDoor
