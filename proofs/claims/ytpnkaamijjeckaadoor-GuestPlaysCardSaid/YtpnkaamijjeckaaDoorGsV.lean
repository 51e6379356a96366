/- The guests and the document's own, side by side. -/
import Derived.Test.YtpnkaamijjeckaaDoorGsT
import Derived.Test.YtpnkaamijjeckaaDoorGsU
namespace Go.Proofs.YtpnkaamijjeckaaDoor
open Go.RowKit
set_option linter.unusedVariables false
set_option linter.unusedSectionVars false
set_option linter.unusedSimpArgs false
set_option maxRecDepth 100000

/-- The guests are M, the turn T; the document's own N, T2; Y beside. -/
def TwoG (B : Nat) (w0 W : World) (gb fb : Nat) (M : List Gst) (T : Nat) (N : List Gst) (T2 : Nat) (Y : List (Nat × Obj)) : Prop :=
  ∃ a c S, GssIs (.slice a N.length c) N S ∧ GuIs B w0 W gb M T ((fb, rgO (.slice a N.length c) T2) :: (S ++ Y))
section
variable {B : Nat} {w0 w w' W : World} {gb fb k b T T2 sl sc : Nat} {M N L : List Gst} {Y Y' F S : List (Nat × Obj)} {x : Gst} {sa : Option Addr} {sp : Nat → Bool}
theorem TwoG.start (h : GuIs B w0 w gb [] 0 ((fb, rgO (.slice none 0 0) 0) :: Y)) : TwoG B w0 w gb fb [] 0 [] 0 Y := ⟨none, 0, [], GssIs.nil, h⟩
theorem TwoG.beside (h : TwoG B w0 w gb fb M T N T2 Y) : ∃ S, St B w0 w (S ++ Y) ∧ ∀ w' Y', St B w0 w' (S ++ Y') → TwoG B w0 w' gb fb M T N T2 Y' := by
  obtain ⟨a, c, S, h1, h⟩ := h
  obtain ⟨Z, z1, z2⟩ := h.beside
  have p : ∀ Y : List (Nat × Obj), (Z ++ ((fb, rgO (.slice a N.length c) T2) :: (S ++ Y))).Perm ((Z ++ ((fb, rgO (.slice a N.length c) T2) :: S)) ++ Y) := fun Y => by
    classical
    exact List.perm_iff_count.2 fun a => by simp only [List.count_append, List.count_cons]; omega
  exact ⟨_, z1.perm (p Y), fun w' Y' h' => ⟨a, c, S, h1, z2 _ _ (h'.perm (p Y').symm)⟩⟩
theorem TwoG.below (h : TwoG B w0 w gb fb M T N T2 Y) : Below B w0 w := by obtain ⟨S, h1, -⟩ := h.beside; exact h1.below
theorem TwoG.grow (h : TwoG B w0 w gb fb M T N T2 Y) (hb : Below w.heap.size w w') : TwoG B w0 w' gb fb M T N T2 Y := by
  obtain ⟨S, h1, h2⟩ := h.beside
  exact h2 _ _ (h1.grow hb)
theorem TwoG.sub (h : TwoG B w0 w gb fb M T N T2 Y) (hs : Y'.Sublist Y) : TwoG B w0 w gb fb M T N T2 Y' := by
  obtain ⟨S, h1, h2⟩ := h.beside
  exact h2 _ _ (h1.sub ((List.Sublist.refl S).append hs))
theorem TwoG.alloc (h : TwoG B w0 w gb fb M T N T2 Y) (o : Obj) : TwoG B w0 (w.alloc o) gb fb M T N T2 ((w.heap.size, o) :: Y) := by
  obtain ⟨S, h1, h2⟩ := h.beside
  exact h2 _ _ ((h1.alloc o).perm List.perm_middle.symm)
theorem TwoG.cell {cs : Array Value} {Ty : TypeId} (h : TwoG B w0 w gb fb M T N T2 Y) (hm : (k, .cells cs Ty) ∈ Y) {i : Nat} {v : Value} (hi : cs[i]? = some v) : w.cell? ⟨k, i, none⟩ = some v := by
  obtain ⟨S, h1, -⟩ := h.beside
  exact h1.cell (b := k) (List.mem_append_right _ hm) hi
theorem TwoG.guest (h : TwoG B w0 w gb fb M T N T2 Y) (hm : (b, gsO x) ∈ Y) : GsAt w b x := by
  obtain ⟨S, h1, -⟩ := h.beside
  exact h1.gsAt (List.mem_append_right _ hm)
theorem TwoG.ok (h : TwoG B w0 w gb fb M T N T2 Y) : OkT M.length T := by obtain ⟨a, c, S, h1, h⟩ := h; exact h.2.1
/-- The program's side, and the way back. -/
theorem TwoG.px (h : TwoG B w0 w gb fb M T N T2 Y) : ∃ Z, GuIs B w0 w gb M T (Z ++ Y) ∧ ∀ w' M' T' Y', GuIs B w0 w' gb M' T' (Z ++ Y') → TwoG B w0 w' gb fb M' T' N T2 Y' := by
  obtain ⟨a, c, S, h1, h⟩ := h
  exact ⟨(fb, rgO (.slice a N.length c) T2) :: S, h, fun w' M' T' Y' h' => ⟨a, c, S, h1, h'⟩⟩
/-- The document's side, and the way back. -/
theorem TwoG.rx (h : TwoG B w0 w gb fb M T N T2 Y) : ∃ Z, RGuAt B w0 w fb N T2 (Z ++ Y) ∧ ∀ w' N' T2' Y', RGuAt B w0 w' fb N' T2' (Z ++ Y') → TwoG B w0 w' gb fb M T N' T2' Y' := by
  obtain ⟨a, c, S, h1, h⟩ := h
  obtain ⟨Z, z1, z2⟩ := h.beside
  have p : ∀ (o : Nat × Obj) (S Y : List (Nat × Obj)), (Z ++ (o :: (S ++ Y))).Perm (o :: (S ++ (Z ++ Y))) := fun o S Y => by
    classical
    exact List.perm_iff_count.2 fun a => by simp only [List.count_append, List.count_cons]; omega
  refine ⟨Z, ⟨a, c, S, h1, z1.perm (p _ _ _)⟩, ?_⟩
  rintro w' N' T2' Y' ⟨a', c', S', h2, h3⟩
  exact ⟨a', c', S', h2, z2 _ _ (h3.perm (p _ _ _).symm)⟩

theorem two_add (h : TwoG B w0 w gb fb M T N T2 Y) (hf : x.tag.length ≤ 140737488351232) (hl : M.length < 60000) : Calls Tryd.prog 9 #[gup gb, gsV x] w fun r w' => r = .returned (.bool (addOkG M x)) ∧ TwoG B w0 w' gb fb (addG M x) T N T2 Y := by
  obtain ⟨Z, h1, h2⟩ := h.px
  refine (gu_add h1 hf hl rfl rfl).mono ?_
  rintro r w' ⟨rfl, h3⟩
  exact ⟨rfl, h2 _ _ _ _ h3⟩
theorem two_radd (h : TwoG B w0 w gb fb M T N T2 Y) (hl : N.length ≤ 1000) (x : Gst) : Calls Tryd.prog 10 #[gup fb, gsV x] w fun r w' => r = .returned (.bool (addOkG N x)) ∧ TwoG B w0 w' gb fb M T (addG N x) T2 Y := by
  obtain ⟨Z, h1, h2⟩ := h.rx
  refine (rg_add h1 hl x rfl rfl).mono ?_
  rintro r w' ⟨rfl, h3⟩
  exact ⟨rfl, h2 _ _ _ _ h3⟩
theorem two_drop (h : TwoG B w0 w gb fb M T N T2 Y) (p q : Int) (t : List UInt8) : Calls Tryd.prog 11 #[gup gb, .int .i64 p, .int .i64 q, tx t] w fun r w' => r = .returned (.bool (idxG M p q t).isSome) ∧ TwoG B w0 w' gb fb (dropM M p q t) (dropT M T p q t) N T2 Y := by
  obtain ⟨Z, h1, h2⟩ := h.px
  refine (gu_drop h1 p q t rfl rfl rfl).mono ?_
  rintro r w' ⟨rfl, h3⟩
  exact ⟨rfl, h2 _ _ _ _ h3⟩
theorem two_rdrop (h : TwoG B w0 w gb fb M T N T2 Y) (hl : N.length ≤ 1000) (hT : T2 ≤ 1000) (p q : Int) (t : List UInt8) : Calls Tryd.prog 12 #[gup fb, .int .i64 p, .int .i64 q, tx t] w fun r w' => r = .returned (.bool (idxG N p q t).isSome) ∧ TwoG B w0 w' gb fb M T (dropM N p q t) (dropT N T2 p q t) Y := by
  obtain ⟨Z, h1, h2⟩ := h.rx
  refine (rg_drop h1 hl hT p q t rfl rfl rfl).mono ?_
  rintro r w' ⟨rfl, h3⟩
  exact ⟨rfl, h2 _ _ _ _ h3⟩
theorem gu_pick_v (h : GuIs B w0 w gb M T F) (hs : SpAt w sa sl sp) : Calls Tryd.prog 13 #[gup gb, .slice sa sl sc] w fun e w' => e = .returned (pickV M (pickG M.length T (sparG M.length sl sp))) ∧ GuIs B w0 w' gb M (pickT M.length T (sparG M.length sl sp)) F := by
  cases hr : pickG M.length T (sparG M.length sl sp) with
  | none =>
    have := gu_pick_no (sc := sc) h hs hr
    unfold pickT
    rw [hr]
    exact this
  | some k =>
    have hk := (pick_lt hr).1
    have := gu_pick_yes (sc := sc) h hs hr (List.getElem?_eq_getElem hk) rfl
    unfold pickT pickV
    rw [hr]
    simp only [List.getD_eq_getElem?_getD, List.getElem?_eq_getElem hk, Option.getD_some]
    exact this
theorem two_pick (h : TwoG B w0 w gb fb M T N T2 Y) (hs : SpAt w sa sl sp) : Calls Tryd.prog 13 #[gup gb, .slice sa sl sc] w fun r w' => r = .returned (pickV M (pickG M.length T (sparG M.length sl sp))) ∧ TwoG B w0 w' gb fb M (pickT M.length T (sparG M.length sl sp)) N T2 Y := by
  obtain ⟨Z, h1, h2⟩ := h.px
  refine (gu_pick_v h1 hs).mono ?_
  rintro r w' ⟨rfl, h3⟩
  exact ⟨rfl, h2 _ _ _ _ h3⟩
theorem two_rpick (h : TwoG B w0 w gb fb M T N T2 Y) (hl : N.length ≤ 1000) (hok : OkT N.length T2) (hs : SpAt w sa sl sp) : Calls Tryd.prog 14 #[gup fb, .slice sa sl sc] w fun r w' => r = .returned (pickV N (pickG N.length T2 (sparG N.length sl sp))) ∧ TwoG B w0 w' gb fb M T N (pickT N.length T2 (sparG N.length sl sp)) Y := by
  obtain ⟨Z, h1, h2⟩ := h.rx
  refine (rg_pick h1 hl hok hs).mono ?_
  rintro r w' ⟨rfl, h3⟩
  exact ⟨rfl, h2 _ _ _ _ h3⟩
theorem GuIs.cellF {cs : Array Value} {Ty : TypeId} (h : GuIs B w0 w gb M T F) (hm : (k, .cells cs Ty) ∈ F) {i : Nat} {v : Value} (hi : cs[i]? = some v) : w.cell? ⟨k, i, none⟩ = some v := by
  obtain ⟨S, h1, -⟩ := h.beside
  exact h1.cell (b := k) (List.mem_append_right _ hm) hi
theorem GuIs.reads {a : Option Addr} {c : Nat} {X : List (Nat × Obj)} (h : GuIs B w0 w gb M T F) (hs : GssIs (.slice a L.length c) L S) (hp : F.Perm (X ++ S)) : ReadGs w a L := by
  obtain ⟨Z, z1, -⟩ := h.beside
  refine GssIs.read (X := Z ++ X) hs (z1.perm ?_)
  rw [List.append_assoc]
  exact hp.append_left Z
theorem addG_len (M : List Gst) (x : Gst) : (addG M x).length ≤ M.length + 1 := by
  unfold addG
  split
  · simp
  · omega
theorem dropM_len (M : List Gst) (p q : Int) (t : List UInt8) : (dropM M p q t).length ≤ M.length := by
  unfold dropM
  split
  · exact Nat.le_refl _
  · rw [List.length_eraseIdx]; split <;> omega
theorem addG_ok {M : List Gst} {T : Nat} (x : Gst) (h : OkT M.length T) : OkT (addG M x).length T := by
  unfold addG
  split
  · rcases h with h | h
    · exact .inl (by simp; omega)
    · exact .inr h
  · exact h
end
end Go.Proofs.YtpnkaamijjeckaaDoor
