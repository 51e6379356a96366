/- Guests: new ones, one comes, one goes, all of them: the callers' view. -/
import Derived.Test.YtpnkaamijjeckaaDoorGsE
import Derived.BigQuiet
import Derived.Deep.RegionWith
import Derived.Deep.RegionLaw
import Derived.Deep.RegionHeld3
import Derived.Deep.DeepCutAuto
import Derived.Deep.CutBlock
namespace Go.Proofs.YtpnkaamijjeckaaDoor
open Go.RowKit
set_option linter.unusedVariables false
set_option linter.unusedSectionVars false
set_option maxRecDepth 100000

theorem fl_zero : floatOfInt .f64 0 = 0 := by decide +kernel
section
variable {B : Nat} {w0 w w' : World} {gb b c T k g off n cap i j : Nat} {M L : List Gst} {a : Option Addr} {v : Value} {S R F F' X : List (Nat × Obj)} {x y : Gst}

theorem GuIs.rdg (h : GuIs B w0 w gb M T F) : ∃ a c, RdG w gb M a c := by
  obtain ⟨-, -, -, v, S, h⟩ := h
  obtain ⟨a, c, rfl⟩ := h.form
  exact ⟨a, c, h.rdg⟩
theorem GuIs.few (h : GuIs B w0 w gb M T F) : M.length ≤ 60000 := h.2.2.1

set_option maxHeartbeats 400000 in
theorem gu_new (hT : Tab B w0) (hst : St B w0 w F) : Calls Tryd.prog 8 #[] w fun e w' => ∃ gb, e = .returned (gup gb) ∧ GuIs B w0 w' gb [] 0 F := by
  have h1 := hst.alloc (.cells #[.slice none 0 0, .complex .f64 0 0] 54)
  have h2 : GuIs B w0 (w.alloc (.cells #[.slice none 0 0, .complex .f64 0 0] 54)) w.heap.size [] 0 F :=
    ⟨hT, .inr rfl, by simp, .slice none 0 0, [], SlIs.nil, by
      have e : seatV (0 % 64) (0 / 64) = .complex .f64 0 0 := by
        show Value.complex .f64 (floatOfInt .f64 0) (floatOfInt .f64 0) = _
        rw [fl_zero]
      rw [e, List.append_nil]
      exact h1⟩
  replace h2 := Lib.hid h2
  clear hst h1
  go_enter Tryd.func8, Tryd.ntmps8
  go_wp2_with fail
  go_ret
  exact ⟨_, rfl, h2.out⟩
theorem gu_len (h : GuIs B w0 w gb M T F) : Calls Tryd.prog 17 #[gup gb] w fun e w' => e = .returned (.int .i64 M.length) ∧ GuIs B w0 w' gb M T F := by
  obtain ⟨a, c, hr⟩ := h.rdg
  exact (len_any hr).mono fun e w' ⟨h1, h2⟩ => ⟨h1, h2 ▸ h⟩
theorem gu_sole (h : GuIs B w0 w gb M T F) {s : Bool} (hs : soleG M = s) : Calls Tryd.prog 18 #[gup gb] w fun e w' => e = .returned (.bool s) ∧ GuIs B w0 w' gb M T F := by
  obtain ⟨a, c, hr⟩ := h.rdg
  exact (sole_any hr (by have := h.few; omega)).mono fun e w' ⟨h1, h2⟩ => ⟨hs ▸ h1, h2 ▸ h⟩
set_option maxHeartbeats 400000 in
theorem gu_all (h : GuIs B w0 w gb M T F) : Calls Tryd.prog 16 #[gup gb] w fun e w' => ∃ a c S', e = .returned (.slice a M.length c) ∧ GssIs (.slice a M.length c) M S' ∧ GuIs B w0 w' gb M T (S' ++ F) := by
  obtain ⟨hT, hok, hl, v, S, h⟩ := h
  have hp : ∀ S : List (Nat × Obj), (gb, gusO v (seatV (T % 64) (T / 64))) :: (F ++ S) = ((gb, gusO v (seatV (T % 64) (T / 64))) :: F) ++ S := fun S => rfl
  have cc := Lib.hid (gclone_any h.sl (hp S ▸ h.st) (by omega))
  have fin : Hid (∀ a c S' W, GssIs (.slice a M.length c) M S' → St B w0 W ((((gb, gusO v (seatV (T % 64) (T / 64))) :: F) ++ S) ++ S') → GuIs B w0 W gb M T (S' ++ F)) := Lib.hid fun a c S' W h1 h2 => ⟨hT, hok, hl, v, S, h.sl, h2.perm (by
    classical
    exact List.perm_iff_count.2 fun a => by simp only [List.count_append, List.count_cons]; omega)⟩
  have c0 := h.c0
  obtain ⟨a, c, rfl⟩ := h.form
  clear h hp hok hl hT
  go_enter Tryd.func16, Tryd.ntmps16
  go_wp2_with fail
  refine cc.out.mono ?_
  rintro e w1 ⟨a2, c2, S2, rfl, h1, h2⟩
  have h3 := Lib.hid (fin.out _ _ _ _ h1 h2)
  replace h1 := Lib.hid h1
  clear h2 fin cc c0
  go_wp2_with fail
  go_ret
  exact ⟨_, _, _, rfl, h1.out, h3.out⟩

/-! ### one comes -/
theorem GuIs.setTag (h : GuIs B w0 w gb M T ((b, gsO x) :: F)) : GuIs B w0 (w.setCell ⟨b, 2, none⟩ (tx x.tag)) gb M T ((b, gsO x) :: F) := by
  obtain ⟨S, h1, h2⟩ := h.beside
  have h3 := (h1.perm List.perm_middle).set0 2 (tx x.tag)
  exact h2 _ _ (h3.perm List.perm_middle.symm)
/-- A guest put behind the row, at the region's own worlds. -/
theorem GuIs.push (h : GuIs B w0 w gb M T F) (hl : M.length < 60000) (x : Gst) : ∃ a c a' c' W,
    (w.cell? ⟨gb, 0, none⟩ = some (.slice a M.length c) ∧ (w.alloc (gsO x)).cell? ⟨gb, 0, none⟩ = some (.slice a M.length c) ∧ W.cell? ⟨gb, 0, none⟩ = some (.slice a M.length c) ∧ W.frozen? ⟨gb, 0, none⟩ = false) ∧
    AppRun Tryd.prog 27 (.slice a M.length c) (.slice (some ⟨w.heap.size, 0, none⟩) 1 1) (w.alloc (gsO x)) (.slice a' (M ++ [x]).length c') W ∧
    GuIs B w0 (W.setCell ⟨gb, 0, none⟩ (.slice a' (M ++ [x]).length c')) gb (M ++ [x]) T F := by
  obtain ⟨hT, hok, hlen, v, S, h⟩ := h
  obtain ⟨a, c, rfl⟩ := h.form
  have hp : ∀ S : List (Nat × Obj), (gb, gusO (.slice a M.length c) (seatV (T % 64) (T / 64))) :: (F ++ S) = ((gb, gusO (.slice a M.length c) (seatV (T % 64) (T / 64))) :: F) ++ S := fun S => rfl
  obtain ⟨a', c', W, S', q1, q2, q3⟩ := gss_push h.sl (hp S ▸ h.st) x (by omega)
  refine ⟨a, c, a', c', W, ⟨h.c0, (h.st.alloc (gsO x)).cell (b := gb) (List.mem_cons_of_mem _ List.mem_cons_self) rfl, q3.cell (b := gb) (i := 0) List.mem_cons_self rfl, St.soft (b := gb) q3 List.mem_cons_self 0⟩, ⟨q1⟩, hT, ?_, by simp; omega, _, S', q2, St.set0 q3 0 _⟩
  rcases hok with h | h
  · exact .inl (by simp; omega)
  · exact .inr h

set_option maxHeartbeats 4000000 in
theorem gu_add (h : GuIs B w0 w gb M T F) (hf : x.tag.length ≤ 140737488351232) (hl : M.length < 60000) {ok : Bool} (hok : addOkG M x = ok) {N : List Gst} (hN : addG M x = N) :
    Calls Tryd.prog 9 #[gup gb, gsV x] w fun e w' => e = .returned (.bool ok) ∧ GuIs B w0 w' gb N T F := by
  subst hN
  have h1 := h.alloc (gsO x)
  obtain ⟨a, c, hr⟩ := h1.rdg
  have cf := Lib.hid (find_any hr (by omega) x.conn x.chan x.tag rfl)
  obtain ⟨k0, k1, k2, -⟩ := (h1.guest (b := w.heap.size) (x := x) List.mem_cons_self).1
  generalize hW : w.alloc (gsO x) = W1 at *
  replace hW := Lib.hid hW
  have he : (idxG M x.conn x.chan x.tag).isNone = ok := hok
  cases hi : idxG M x.conn x.chan x.tag with
  | some i =>
    rw [hi] at cf he
    obtain rfl : ok = false := by rw [← he]; rfl
    have fin : Hid (GuIs B w0 W1 gb (addG M x) T F) := Lib.hid (by
      unfold addG
      rw [hok]
      exact h1.sub (List.sublist_cons_self _ _))
    clear h h1 hr hok he hi
    simp only [idxV, Option.isSome_some, Option.getD_some] at cf
    go_enter Tryd.func9, Tryd.ntmps9
    go_upto_region 1 with fail
    rw [hW.out]
    clear hW
    generalize w.heap.size = xb at *
    go_wp2_with fail
    refine cf.out.mono ?_
    rintro e w2 ⟨rfl, rfl⟩
    go_wp2_with fail
    go_ret
    exact ⟨rfl, fin.out⟩
  | none =>
    rw [hi] at cf he
    obtain rfl : ok = true := by rw [← he]; rfl
    have co := Lib.hid (clone_any x.tag W1 hf)
    have stp : Hid (∀ w2, Below W1.heap.size W1 w2 → w2.frozen? ⟨w.heap.size, 2, none⟩ = false ∧ w2.cell? ⟨w.heap.size, 2, none⟩ = some (tx x.tag) ∧ ∃ w3, w3 = w2.setCell ⟨w.heap.size, 2, none⟩ (tx x.tag) ∧ GsAt w3.drew w.heap.size x ∧ ∃ a c a' c' W,
        (w3.drew.cell? ⟨gb, 0, none⟩ = some (.slice a M.length c) ∧ (w3.drew.alloc (gsO x)).cell? ⟨gb, 0, none⟩ = some (.slice a M.length c) ∧ W.cell? ⟨gb, 0, none⟩ = some (.slice a M.length c) ∧ W.frozen? ⟨gb, 0, none⟩ = false) ∧
        AppRun Tryd.prog 27 (.slice a M.length c) (.slice (some ⟨w3.drew.heap.size, 0, none⟩) 1 1) (w3.drew.alloc (gsO x)) (.slice a' (M ++ [x]).length c') W ∧
        GuIs B w0 (W.setCell ⟨gb, 0, none⟩ (.slice a' (M ++ [x]).length c')) gb (addG M x) T F) := Lib.hid fun w2 hb => by
      have h2 := h1.grow hb
      have h3 := h2.setTag.grow (drew_b _)
      obtain ⟨g0, gs⟩ := h2.guest (b := w.heap.size) (x := x) List.mem_cons_self
      obtain ⟨a, c, a', c', W, p1, p2, p3⟩ := h3.push hl x
      refine ⟨gs 2, g0.2.2.1, _, rfl, (h3.guest (b := w.heap.size) (x := x) List.mem_cons_self).1, a, c, a', c', W, p1, p2, ?_⟩
      unfold addG
      rw [hok]
      exact p3.sub (List.sublist_cons_self _ _)
    clear h h1 hr hok he hi hl
    simp only [idxV, Option.isSome_none, Option.getD_none] at cf
    go_enter Tryd.func9, Tryd.ntmps9
    go_upto_region 1 with fail
    rw [hW.out]
    clear hW
    generalize w.heap.size = xb at *
    go_wp2_with fail
    refine cf.out.mono ?_
    rintro e w2 ⟨rfl, rfl⟩
    go_wp2_with fail
    refine co.out.mono ?_
    rintro e w2 ⟨rfl, hb⟩
    obtain ⟨f2, e2, w3, hw3, ⟨j0, j1, j2, j3, j4, j5⟩, a, c, a', c', W4, ⟨d0, d1, d2, d3⟩, run1, fin⟩ := stp.out _ hb
    replace fin := Lib.hid fin
    clear stp co cf k0 k1 k2 hb
    go_upto_region 5 with fail
    rw [← hw3]
    clear hw3 f2 e2
    have d1' : ((w3.alloc (gsO x)).drew).cell? ⟨gb, 0, none⟩ = some (.slice a M.length c) := d1
    have run2 : AppRun Tryd.prog 27 (.slice a M.length c) (.slice (some ⟨w3.heap.size, 0, none⟩) 1 1) ((w3.alloc (gsO x)).drew) (.slice a' (M ++ [x]).length c') W4 := run1
    clear d1 run1
    generalize (M ++ [x]).length = n1 at *
    go_region_law (refine step_app (.tmp 27) (.tmp 29) 27 run2 rfl rfl (by simp [Act.eval]) (by simp [Act.eval]) ?_)
    all_goals
      clear run2 d0 d1' d2 d3 j0 j1 j2 j3 j4 j5
      go_wp2_with fail
      go_ret
      exact ⟨rfl, fin.out⟩
end
end Go.Proofs.YtpnkaamijjeckaaDoor
