/- The slips and the document's own, side by side. -/
import Derived.Test.YtdkchcbmhmlhnaaSpR
import Derived.Test.YtdkchcbmhmlhnaaSpS
namespace Go.Proofs.Ytdkchcbmhmlhnaa
open Go.RowKit
set_option linter.unusedVariables false
set_option linter.unusedSectionVars false
set_option linter.unusedSimpArgs false
set_option maxRecDepth 100000

/-- The slips hold M, the document's own N; Y beside. -/
def TwoS (B : Nat) (w0 W : World) (sb fb : Nat) (M N : List Slp) (Y : List (Nat × Obj)) : Prop :=
  ∃ a c S, SlsIs (.slice a N.length c) N S ∧ SlipsIs B w0 W sb M ((fb, refO (.slice a N.length c)) :: (S ++ Y))
section
variable {B : Nat} {w0 w w' W : World} {sb fb k b : Nat} {M N L : List Slp} {Y Y' S : List (Nat × Obj)} {x : Slp} {t : Int}
theorem TwoS.start (h : SlipsIs B w0 w sb [] ((fb, refO (.slice none 0 0)) :: Y)) : TwoS B w0 w sb fb [] [] Y := ⟨none, 0, [], SlsIs.nil, h⟩
theorem TwoS.ok (h : TwoS B w0 w sb fb M N Y) : OkS M := by obtain ⟨a, c, S, -, h⟩ := h; exact h.ok
theorem TwoS.beside (h : TwoS B w0 w sb fb M N Y) : ∃ S, St B w0 w (S ++ Y) ∧ ∀ w' Y', St B w0 w' (S ++ Y') → TwoS B w0 w' sb fb M N Y' := by
  obtain ⟨a, c, S, h1, h⟩ := h
  obtain ⟨Z, z1, z2⟩ := h.beside
  have p : ∀ Y : List (Nat × Obj), (Z ++ ((fb, refO (.slice a N.length c)) :: (S ++ Y))).Perm ((Z ++ ((fb, refO (.slice a N.length c)) :: S)) ++ Y) := fun Y => by
    classical
    exact List.perm_iff_count.2 fun a => by simp only [List.count_append, List.count_cons]; omega
  exact ⟨_, z1.perm (p Y), fun w' Y' h' => ⟨a, c, S, h1, z2 _ _ (h'.perm (p Y').symm)⟩⟩
theorem TwoS.below (h : TwoS B w0 w sb fb M N Y) : Below B w0 w := by obtain ⟨S, h1, -⟩ := h.beside; exact h1.below
theorem TwoS.grow (h : TwoS B w0 w sb fb M N Y) (hb : Below w.heap.size w w') : TwoS B w0 w' sb fb M N Y := by
  obtain ⟨S, h1, h2⟩ := h.beside
  exact h2 _ _ (h1.grow hb)
theorem TwoS.sub (h : TwoS B w0 w sb fb M N Y) (hs : Y'.Sublist Y) : TwoS B w0 w sb fb M N Y' := by
  obtain ⟨S, h1, h2⟩ := h.beside
  exact h2 _ _ (h1.sub ((List.Sublist.refl S).append hs))
theorem TwoS.alloc (h : TwoS B w0 w sb fb M N Y) (o : Obj) : TwoS B w0 (w.alloc o) sb fb M N ((w.heap.size, o) :: Y) := by
  obtain ⟨S, h1, h2⟩ := h.beside
  exact h2 _ _ ((h1.alloc o).perm List.perm_middle.symm)
theorem TwoS.cell {cs : Array Value} {T : TypeId} (h : TwoS B w0 w sb fb M N Y) (hm : (k, .cells cs T) ∈ Y) {i : Nat} {v : Value} (hi : cs[i]? = some v) : w.cell? ⟨k, i, none⟩ = some v := by
  obtain ⟨S, h1, -⟩ := h.beside
  exact h1.cell (b := k) (List.mem_append_right _ hm) hi
theorem TwoS.slip (h : TwoS B w0 w sb fb M N Y) (hm : (b, slO x) ∈ Y) : SlAt w b x := by
  obtain ⟨S, h1, -⟩ := h.beside
  exact h1.slAt (List.mem_append_right _ hm)
theorem TwoS.reads {a2 : Option Addr} {c2 : Nat} {X : List (Nat × Obj)} (h : TwoS B w0 w sb fb M N Y) (hs : SlsIs (.slice a2 L.length c2) L S) (hp : Y.Perm (X ++ S)) : ReadSs w a2 L := by
  obtain ⟨Z, z1, -⟩ := h.beside
  refine hs.read (X := Z ++ X) (z1.perm ?_)
  rw [List.append_assoc]
  exact hp.append_left Z
/-- The program's side, and the way back. -/
theorem TwoS.px (h : TwoS B w0 w sb fb M N Y) : ∃ Z, SlipsIs B w0 w sb M (Z ++ Y) ∧ ∀ w' M' Y', SlipsIs B w0 w' sb M' (Z ++ Y') → TwoS B w0 w' sb fb M' N Y' := by
  obtain ⟨a, c, S, h1, h⟩ := h
  exact ⟨(fb, refO (.slice a N.length c)) :: S, h, fun w' M' Y' h' => ⟨a, c, S, h1, h'⟩⟩
/-- The document's side, and the way back. -/
theorem TwoS.rx (h : TwoS B w0 w sb fb M N Y) : ∃ Z a c, RSlAt B w0 w fb a c N (Z ++ Y) ∧ ∀ w' a' c' N' Y', RSlAt B w0 w' fb a' c' N' (Z ++ Y') → TwoS B w0 w' sb fb M N' Y' := by
  obtain ⟨a, c, S, h1, h⟩ := h
  obtain ⟨Z, z1, z2⟩ := h.beside
  have p : ∀ (o : Nat × Obj) (S Y : List (Nat × Obj)), (Z ++ (o :: (S ++ Y))).Perm (o :: (S ++ (Z ++ Y))) := fun o S Y => by
    classical
    exact List.perm_iff_count.2 fun a => by simp only [List.count_append, List.count_cons]; omega
  refine ⟨Z, a, c, ⟨S, h1, z1.perm (p _ _ _)⟩, ?_⟩
  rintro w' a' c' N' Y' ⟨S', h2, h3⟩
  exact ⟨a', c', S', h2, z2 _ _ (h3.perm (p _ _ _).symm)⟩

theorem two_add (h : TwoS B w0 w sb fb M N Y) (hf : FitL x) : Calls Try.prog 8 #[gptr sb, slV x] w fun r w' => r = .returned (.bool (addOkS M x)) ∧ TwoS B w0 w' sb fb (addS M x) N Y := by
  obtain ⟨Z, h1, h2⟩ := h.px
  refine (sl_add h1 hf).mono ?_
  rintro r w' ⟨rfl, h3⟩
  exact ⟨rfl, h2 _ _ _ h3⟩
theorem two_radd (h : TwoS B w0 w sb fb M N Y) (hl : N.length ≤ 1000) (x : Slp) : Calls Try.prog 9 #[gptr fb, slV x] w fun r w' => r = .returned (.bool (addOkS N x)) ∧ TwoS B w0 w' sb fb M (addS N x) Y := by
  obtain ⟨Z, a, c, h1, h2⟩ := h.rx
  refine (rs_add h1 hl x).mono ?_
  rintro r w' ⟨rfl, a', c', h3⟩
  exact ⟨rfl, h2 _ _ _ _ _ h3⟩
theorem two_take_yes (h : TwoS B w0 w sb fb M N Y) (hx : x ∈ M) : Calls Try.prog 10 #[gptr sb, .int .i64 x.tag] w fun r w' => r = .returned (.tuple #[slV x, .bool true]) ∧ TwoS B w0 w' sb fb (dropS M x.tag) N Y := by
  obtain ⟨Z, h1, h2⟩ := h.px
  refine (sl_take_yes h1 hx).mono ?_
  rintro r w' ⟨rfl, h3⟩
  exact ⟨rfl, h2 _ _ _ h3⟩
theorem two_take_no (h : TwoS B w0 w sb fb M N Y) (ht : t ∉ tagsL M) : Calls Try.prog 10 #[gptr sb, .int .i64 t] w fun r w' => r = .returned (.tuple #[slV z0L, .bool false]) ∧ TwoS B w0 w' sb fb M N Y := by
  obtain ⟨Z, h1, h2⟩ := h.px
  refine (sl_take_no h1 ht).mono ?_
  rintro r w' ⟨rfl, h3⟩
  exact ⟨rfl, h2 _ _ _ h3⟩
theorem two_rtake_yes (h : TwoS B w0 w sb fb M N Y) (hl : N.length ≤ 1000) (hN : OkS N) (hx : x ∈ N) : Calls Try.prog 11 #[gptr fb, .int .i64 x.tag] w fun r w' => r = .returned (.tuple #[slV x, .bool true]) ∧ TwoS B w0 w' sb fb M (dropS N x.tag) Y := by
  obtain ⟨Z, a, c, h1, h2⟩ := h.rx
  refine (rs_take_yes h1 hl hN hx).mono ?_
  rintro r w' ⟨rfl, a', c', h3⟩
  exact ⟨rfl, h2 _ _ _ _ _ h3⟩
theorem two_rtake_no (h : TwoS B w0 w sb fb M N Y) (hl : N.length ≤ 1000) (ht : t ∉ tagsL N) : Calls Try.prog 11 #[gptr fb, .int .i64 t] w fun r w' => r = .returned (.tuple #[slV z0L, .bool false]) ∧ TwoS B w0 w' sb fb M N Y := by
  obtain ⟨Z, a, c, h1, h2⟩ := h.rx
  refine (rs_take_no h1 hl ht).mono ?_
  rintro r w' ⟨rfl, h3⟩
  exact ⟨rfl, h2 _ _ _ _ _ h3⟩
theorem two_upto (h : TwoS B w0 w sb fb M N Y) (t : Int) : Calls Try.prog 13 #[gptr sb, .int .i64 t] w fun r w' => ∃ a c S, r = .returned (.slice a (uptoS M (maxT t)).length c) ∧ SlsIs (.slice a (uptoS M (maxT t)).length c) (uptoS M (maxT t)) S ∧ TwoS B w0 w' sb fb (overS M (maxT t)) N (S ++ Y) := by
  obtain ⟨Z, h1, h2⟩ := h.px
  refine (sl_upto h1 t rfl rfl rfl).mono ?_
  rintro r w' ⟨a, c, S, rfl, h3, h4⟩
  refine ⟨a, c, S, rfl, h3, h2 _ _ _ (h4.permF ?_)⟩
  exact swap3 _ _ _
theorem two_rupto (h : TwoS B w0 w sb fb M N Y) (hl : N.length ≤ 1000) (hN : OkS N) (t : Int) : Calls Try.prog 14 #[gptr fb, .int .i64 t] w fun r w' => ∃ a c S, r = .returned (.slice a (uptoS N (maxT t)).length c) ∧ SlsIs (.slice a (uptoS N (maxT t)).length c) (uptoS N (maxT t)) S ∧ TwoS B w0 w' sb fb M (overS N (maxT t)) (S ++ Y) := by
  obtain ⟨Z, a, c, h1, h2⟩ := h.rx
  refine (rs_upto h1 hl t).mono ?_
  rintro r w' ⟨a1, c1, S1, a2, c2, rfl, h3, h4⟩
  rw [goes_upto hN] at h3 ⊢
  rw [goes_over hN] at h4
  exact ⟨a1, c1, S1, rfl, h3, h2 _ _ _ _ _ (h4.permF (swap3 _ _ _))⟩
theorem two_all (h : TwoS B w0 w sb fb M N Y) : Calls Try.prog 15 #[gptr sb] w fun r w' => ∃ a c S, r = .returned (.slice a M.length c) ∧ SlsIs (.slice a M.length c) M S ∧ TwoS B w0 w' sb fb M N (S ++ Y) := by
  obtain ⟨Z, h1, h2⟩ := h.px
  refine (sl_all h1).mono ?_
  rintro r w' ⟨a, c, S, rfl, h3, h4⟩
  exact ⟨a, c, S, rfl, h3, h2 _ _ _ (h4.permF (swap3 _ _ _))⟩
theorem two_len (h : TwoS B w0 w sb fb M N Y) : Calls Try.prog 16 #[gptr sb] w fun r w' => r = .returned (.int .i64 M.length) ∧ w' = w := by
  obtain ⟨Z, h1, h2⟩ := h.px
  exact sl_len h1
theorem two_of (h : TwoS B w0 w sb fb M N Y) (q : List UInt8) : Calls Try.prog 17 #[gptr sb, tx q] w fun r w' => r = .returned (.int .i64 (ofS M q)) ∧ w' = w := by
  obtain ⟨Z, h1, h2⟩ := h.px
  exact sl_of h1 q
theorem two_rof (h : TwoS B w0 w sb fb M N Y) (hl : N.length ≤ 1000) (q : List UInt8) : Calls Try.prog 18 #[gptr fb, tx q] w fun r w' => r = .returned (.int .i64 (ofS N q)) ∧ w' = w := by
  obtain ⟨Z, a, c, h1, h2⟩ := h.rx
  exact rs_of h1.rds (by omega) q
theorem two_has (h : TwoS B w0 w sb fb M N Y) (t : Int) : Calls Try.prog 19 #[gptr sb, .int .i64 t] w fun r w' => r = .returned (.bool (hasS M t)) ∧ TwoS B w0 w' sb fb M N Y := by
  obtain ⟨Z, h1, h2⟩ := h.px
  refine (sl_has h1 t).mono ?_
  rintro r w' ⟨rfl, h3⟩
  exact ⟨rfl, h2 _ _ _ h3⟩
theorem two_rhas (h : TwoS B w0 w sb fb M N Y) (hl : N.length ≤ 1000) (t : Int) : Calls Try.prog 20 #[gptr fb, .int .i64 t] w fun r w' => r = .returned (.bool (hasS N t)) ∧ w' = w := by
  obtain ⟨Z, a, c, h1, h2⟩ := h.rx
  exact rs_has h1.rds (by omega) t
/-- The document's row, as it lies in its cell. -/
theorem TwoS.row (h : TwoS B w0 w sb fb M N Y) : ∃ a c, w.cell? ⟨fb, 0, none⟩ = some (.slice a N.length c) ∧ ReadSs w a N := by
  obtain ⟨Z, a, c, h1, -⟩ := h.rx
  exact ⟨a, c, h1.rds.c0, h1.rds.rd⟩
end
end Go.Proofs.Ytdkchcbmhmlhnaa
