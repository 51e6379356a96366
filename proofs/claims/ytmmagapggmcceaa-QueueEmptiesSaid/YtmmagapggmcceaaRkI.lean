/- The first row that has any, from one end on: the first entry of it. -/
import Derived.Test.YtmmagapggmcceaaRkH
namespace Go.Proofs.Ytmmagapggmcceaa
open Go.RowKit
open Go.ChangeMaps (setBlock)
set_option linter.unusedVariables false
set_option linter.unusedSectionVars false
set_option linter.unusedSimpArgs false
set_option maxRecDepth 100000

theorem ret_entry2 {P : Program} {fn : Func} {a c d : Nat} {b : Bool} {tmps : Array Value} {w : World} {e : Ent} (hr : fn.results = #[.cell a 32, .tmp c]) (h2 : tmps[a]? = some (.pointer (some ⟨d, 0, none⟩))) (h3 : tmps[c]? = some (.bool b)) (q : EnAt w d e) (hP : P = Try.prog) :
    (results fn tmps).run P w = .ok (.tuple #[enV e, .bool b]) w := by
  subst hP
  obtain ⟨q0, q1, q2, q3, q4, q5, q6, q7, q8, q9⟩ := q
  simp [results, hr, go_sem, h2, h3, q0, q1, q2, q3, q4, q5, q6, q7, q8, q9]

theorem Below.enPut {B b : Nat} {a w : World} {e : Ent} (h : Below B a w) (hb : B ≤ b) : Below B a (enPut w b e) :=
  (Below.setCell (Below.setCell (Below.setCell (Below.setCell (Below.setCell (Below.setCell (Below.setCell (Below.setCell (Below.setCell (Below.setCell h (p := ⟨b, 0, none⟩) hb (.int .i64 e.id)) (p := ⟨b, 1, none⟩) hb (.int .i64 e.body)) (p := ⟨b, 2, none⟩) hb (.int .i64 e.size)) (p := ⟨b, 3, none⟩) hb (tx e.exch)) (p := ⟨b, 4, none⟩) hb (tx e.key)) (p := ⟨b, 5, none⟩) hb (.int .i64 e.prio)) (p := ⟨b, 6, none⟩) hb (.int .i64 e.ttl)) (p := ⟨b, 7, none⟩) hb (.int .i64 e.til)) (p := ⟨b, 8, none⟩) hb (.bool e.again)) (p := ⟨b, 9, none⟩) hb (.int .i64 e.hops))

/-- What lies ahead of a look into the rows. -/
structure Ahd (R : List (List Int)) (at_ step : Int) (X : List (List Int)) : Prop where
  way : step = 1 ∧ at_ + X.length = 4 ∧ 0 ≤ at_ ∧ X = R.drop at_.toNat ∨ step = -1 ∧ at_ + 1 = X.length ∧ X = (R.take X.length).reverse
  len : R.length = 4
theorem Ahd.none {R : List (List Int)} {a s : Int} (h : Ahd R a s []) : (s = 1 ∧ a = 4) ∨ (s = -1 ∧ a = -1) := by
  rcases h.way with ⟨h1, h2, -⟩ | ⟨h1, h2, -⟩ <;> simp at h2 <;> omega
theorem Ahd.some {R : List (List Int)} {a s : Int} {l : List Int} {X : List (List Int)} (h : Ahd R a s (l :: X)) : (s = 1 ∨ s = -1) ∧ ∃ i : Nat, a = i ∧ i < 4 ∧ R[i]? = some l ∧ Ahd R (a + s) s X := by
  have hlen := h.len
  rcases h.way with ⟨h1, h2, h3, h4⟩ | ⟨h1, h2, h4⟩
  · refine ⟨.inl h1, a.toNat, by omega, ?_, ?_, .inl ⟨h1, ?_, by omega, ?_⟩, hlen⟩
    · rw [List.length_cons] at h2; omega
    · have := congrArg List.head? h4
      rw [List.head?_cons, List.head?_drop] at this
      exact this.symm
    · rw [List.length_cons] at h2; omega
    · have := congrArg List.tail h4
      rw [List.tail_cons, List.tail_drop] at this
      rw [this]
      congr 1
      omega
  · rw [List.length_cons] at h2 h4
    have hX : X.length < 4 := by
      have := congrArg List.length h4
      rw [List.length_reverse, List.length_take, List.length_cons] at this
      omega
    have e := congrArg List.reverse h4
    rw [List.reverse_reverse, List.reverse_cons] at e
    have hx : R[X.length]? = Option.some l := by
      have e2 := congrArg (fun z => z[X.length]?) e
      rw [List.getElem?_append_right (by rw [List.length_reverse]; omega), List.length_reverse, Nat.sub_self, List.getElem?_take] at e2
      rw [if_pos (by omega)] at e2
      exact e2.symm
    refine ⟨.inr h1, X.length, by omega, hX, hx, .inr ⟨h1, by omega, ?_⟩, hlen⟩
    rw [List.take_add_one, hx] at e
    have := (List.append_inj' e rfl).1
    rw [← this, List.reverse_reverse]

section
variable {B : Nat} {w0 w : World} {rk q rb i : Nat} {rbs : List Nat} {R : List (List Int)} {H : List Ent} {F : List (Nat × Obj)} {l : List Int} {e : Ent}
def HeadR (H : List Ent) (k : Option Int) (w : World) (r : Ending) (w' : World) : Prop := (∃ (x : Ent) (b : Bool), r = .returned (.tuple #[enV x, .bool b]) ∧ match k with
  | none => x = z0E ∧ b = false
  | some k => x ∈ H ∧ x.id = k ∧ b = true) ∧ Below w.heap.size w w'
def HeadJ (B : Nat) (w0 w : World) (rk q : Nat) (rbs : List Nat) (R : List (List Int)) (H : List Ent) (F : List (Nat × Obj)) (s : Int) (k : Option Int) (g : Nat) (a' : Act) (w' : World) : Prop :=
  ∃ (at_ : Int) (X : List (List Int)), X.length = g ∧ Ahd R at_ s X ∧ lookR X = k ∧ Fr 43 [(0, rptr rk), (1, .int .i64 at_), (2, .int .i64 s), (6, .pointer (some ⟨w.heap.size, 0, none⟩))] a' ∧ RkAt B w0 w' rk q rbs R H ((w.heap.size, enO z0E) :: F) ∧ Below w.heap.size w w'

set_option maxHeartbeats 2000000 in
theorem head_any (h : RkAt B w0 w rk q rbs R H F) (hm : ∀ l ∈ R, ∀ k ∈ l, ∃ x ∈ H, x.id = k) {at_ s : Int} {X : List (List Int)} (ha : Ahd R at_ s X) :
    Calls Try.prog 54 #[rptr rk, .int .i64 at_, .int .i64 s] w (HeadR H (lookR X) w) := by
  have h1 : RkAt B w0 (w.alloc (enO z0E)) rk q rbs R H ((w.heap.size, enO z0E) :: F) := by
    obtain ⟨S, s1, s2⟩ := h.beside
    exact s2 _ _ ((s1.alloc (enO z0E)).perm List.perm_middle.symm)
  have hn0 := Lib.hid (new_below w (enO z0E))
  have ca : Hid (∀ w' (i rb : Nat) l, RkAt B w0 w' rk q rbs R H ((w.heap.size, enO z0E) :: F) → rbs[i]? = some rb → R[i]? = some l → Calls Try.prog 51 #[rptr rb, .int .i64 0] w' fun e w'' => e = .returned (atR l 0) ∧ ∃ n, w'' = w'.drewN n) := Lib.hid fun w' i rb l h hb hl => by
    obtain ⟨Z, r1, -⟩ := h.ring hb hl
    exact ring_at r1 0
  obtain ⟨k, hk⟩ : ∃ k, k = lookR X := ⟨_, rfl⟩
  rw [← hk]
  replace hm := Lib.hid hm
  replace h1 := Lib.hid h1
  replace hk := Lib.hid hk
  have h4 := Lib.hid h.len
  clear h
  go_enter Try.func54, Try.ntmps54
  go_wp2_with fail
  refine wp_scope_ghost 0 (HeadJ B w0 w rk q rbs R H F s k) rfl ?_ ?_
  · clear ha h1 hn0 hk
    rintro g a' wr ⟨a, X, hX, ha, hk, hfr, hR, hbl⟩
    obtain ⟨fr, rfl, hl'⟩ := hfr.lit
    clear hfr
    simp only [List.mem_cons, List.not_mem_nil, or_false, forall_eq_or_imp, forall_eq] at hl'
    obtain ⟨f0, f1, f2, f6⟩ := hl'
    simp only [List.range, List.range.loop, List.map, f0, f1, f2, f6]
    clear f0 f1 f2 f6
    have c0 := hR.c0
    have hst : ∃ S, St B w0 wr (S ++ (w.heap.size, enO z0E) :: F) := by
      obtain ⟨S, s1, -⟩ := hR.beside
      exact ⟨S, s1⟩
    obtain ⟨S, hst⟩ := hst
    have hst1 := hst.perm (List.perm_middle (a := (w.heap.size, enO z0E)))
    match X, hX, ha, hk with
    | [], hX, ha, hk =>
      simp only [lookR] at hk
      subst hk
      obtain ⟨z0, z1, z2, z3, z4, z5, z6, z7, z8, z9⟩ := hst1.enAt List.mem_cons_self
      have zs := fun i => hst1.soft (b := w.heap.size) List.mem_cons_self i
      have fin := hst1.enPut (e := z0E)
      have finE := Lib.hid (fin.enAt List.mem_cons_self)
      have finB : Hid (Below w.heap.size w (enPut wr w.heap.size z0E)) := Lib.hid (Below.enPut hbl (Nat.le_refl _))
      clear hst hst1 fin hR hbl ca hX
      rcases ha.none with ⟨rfl, rfl⟩ | ⟨rfl, rfl⟩
      · clear ha
        go_wp2_with fail
        simp only [Exit.jump]
        exact bodyPost_ret (ret_entry2 rfl rfl rfl finE.out rfl) rfl ⟨⟨_, _, rfl, rfl, rfl⟩, finB.out⟩
      · clear ha
        go_wp2_with fail
        simp only [Exit.jump]
        exact bodyPost_ret (ret_entry2 rfl rfl rfl finE.out rfl) rfl ⟨⟨_, _, rfl, rfl, rfl⟩, finB.out⟩
    | l :: X, hX, ha, hk =>
      obtain ⟨hs, i, rfl, hi, hl, hnx⟩ := ha.some
      obtain ⟨rb, hb⟩ : ∃ rb, rbs[i]? = some rb := ⟨rbs[i]'(by have := h4.out; omega), List.getElem?_eq_getElem _⟩
      have c1 := hR.at_ hb
      have cat := ca.out wr i rb l hR hb hl
      have i0 : (0 : Int) ≤ i := by omega
      have i1 : (i : Int) < 4 := by omega
      cases l with
      | nil =>
        have e0 : atR [] 0 = .tuple #[.int .i64 0, .bool false] := rfl
        rw [e0] at cat
        replace cat := Lib.hid cat
        have s0 : -(1 : Int) ≤ s := by omega
        have s1 : s ≤ (1 : Int) := by omega
        have fin : Hid (∀ n a', Fr 43 [(0, rptr rk), (1, .int .i64 ((i : Int) + s)), (2, .int .i64 s), (6, .pointer (some ⟨w.heap.size, 0, none⟩))] a' → ∃ m, m < g ∧ HeadJ B w0 w rk q rbs R H F s k m a' (wr.drewN n)) := Lib.hid fun n a' hf =>
          ⟨X.length, by rw [List.length_cons] at hX; omega, _, X, rfl, hnx, hk, hf, hR.grow (drewN_below _ n), bel hbl (drewN_below _ n)⟩
        clear hst hst1 hR hbl ca hnx hX hk ha hl hb hm
        go_wp2_with fail
        refine cat.out.mono ?_
        rintro e w2 ⟨rfl, n, rfl⟩
        go_wp2_with fail
        refine wp_goto ?_
        exact ⟨rfl, fin.out n _ ⟨rfl, rfl, by simp⟩⟩
      | cons k0 l =>
        simp only [lookR] at hk
        subst hk
        have e0 : atR (k0 :: l) 0 = .tuple #[.int .i64 k0, .bool true] := rfl
        rw [e0] at cat
        replace cat := Lib.hid cat
        obtain ⟨x, hx, rfl⟩ := hm.out _ (List.mem_of_getElem? hl) k0 List.mem_cons_self
        obtain ⟨mb, -, hlook⟩ := hR.look
        have fin : Hid (∀ n, (wr.drewN n).cell? ⟨rk, 1, none⟩ = some (.map (some mb)) ∧ (Instr.lookup 55 (.map (some mb)) (.int .i64 x.id) false).run Try.prog (wr.drewN n) = .ok (enV x) (wr.drewN n) ∧
            EnAt (wr.drewN n) w.heap.size z0E ∧ (∀ i, (wr.drewN n).frozen? ⟨w.heap.size, i, none⟩ = false) ∧ EnAt (enPut (wr.drewN n) w.heap.size x) w.heap.size x ∧ Below w.heap.size w (enPut (wr.drewN n) w.heap.size x)) := Lib.hid fun n => by
          have hl := hlook _ (drewN_below wr n)
          have hbn := bel hbl (drewN_below wr n)
          have h9 := hst1.drewN n
          refine ⟨hl.c1, hl.hit x hx false, h9.enAt List.mem_cons_self, fun i => h9.soft (b := w.heap.size) List.mem_cons_self i, (h9.enPut (e := x)).enAt List.mem_cons_self, Below.enPut hbn (Nat.le_refl _)⟩
        replace hx := Lib.hid hx
        clear hst hst1 hR hbl ca hnx hX ha hl hb hm hlook hs
        go_wp2_with fail
        refine cat.out.mono ?_
        rintro e w2 ⟨rfl, n, rfl⟩
        obtain ⟨q1, q2, ⟨z0, z1, z2, z3, z4, z5, z6, z7, z8, z9⟩, zs, finE, finB⟩ := fin.out n
        replace finE := Lib.hid finE
        replace finB := Lib.hid finB
        clear fin cat c0 c1
        generalize wr.drewN n = V at *
        go_wp2_with fail
        simp only [Exit.jump]
        exact bodyPost_ret (ret_entry2 rfl rfl rfl finE.out rfl) rfl ⟨⟨_, _, rfl, hx.out, rfl, rfl⟩, finB.out⟩
  · intro HJ
    go_wp2_with fail
    refine wp_label ?_
    go_step
    go_step
    exact HJ X.length _ _ ⟨at_, X, rfl, ha, hk.out.symm, ⟨rfl, rfl, by simp⟩, h1.out, hn0.out⟩
end
end Go.Proofs.Ytmmagapggmcceaa
