/- The document's own slips: one comes, all up to one go. -/
import Derived.Test.YtdkchcbmhmlhnaaSpP
namespace Go.Proofs.Ytdkchcbmhmlhnaa
open Go.RowKit
set_option linter.unusedVariables false
set_option linter.unusedSectionVars false
set_option linter.unusedSimpArgs false
set_option maxRecDepth 100000

abbrev refO (v : Value) : Obj := .cells #[v] 29
def RSlAt (B : Nat) (w0 w : World) (fb : Nat) (a : Option Addr) (c : Nat) (N : List Slp) (F : List (Nat × Obj)) : Prop :=
  ∃ S, SlsIs (.slice a N.length c) N S ∧ St B w0 w ((fb, refO (.slice a N.length c)) :: (S ++ F))
section
variable {B : Nat} {w0 w w' : World} {fb b k : Nat} {N L : List Slp} {a : Option Addr} {c : Nat} {F F' S So : List (Nat × Obj)} {x y : Slp}
theorem RSlAt.beside (h : RSlAt B w0 w fb a c N F) : ∃ S, St B w0 w (S ++ F) ∧ ∀ w' F', St B w0 w' (S ++ F') → RSlAt B w0 w' fb a c N F' := by
  obtain ⟨S, h1, h2⟩ := h
  exact ⟨(fb, refO (.slice a N.length c)) :: S, h2, fun w' F' h' => ⟨S, h1, h'⟩⟩
theorem RSlAt.grow (h : RSlAt B w0 w fb a c N F) (hb : Below w.heap.size w w') : RSlAt B w0 w' fb a c N F := by
  obtain ⟨S, h1, h2⟩ := h.beside
  exact h2 _ _ (h1.grow hb)
theorem RSlAt.sub (h : RSlAt B w0 w fb a c N F) (hs : F'.Sublist F) : RSlAt B w0 w fb a c N F' := by
  obtain ⟨S, h1, h2⟩ := h.beside
  exact h2 _ _ (h1.sub ((List.Sublist.refl S).append hs))
theorem RSlAt.permF (h : RSlAt B w0 w fb a c N F) (hp : F.Perm F') : RSlAt B w0 w fb a c N F' := by
  obtain ⟨S, h1, h2⟩ := h.beside
  exact h2 _ _ (h1.perm (hp.append_left S))
theorem RSlAt.alloc (h : RSlAt B w0 w fb a c N F) (o : Obj) : RSlAt B w0 (w.alloc o) fb a c N ((w.heap.size, o) :: F) := by
  obtain ⟨S, h1, h2⟩ := h.beside
  exact h2 _ _ ((h1.alloc o).perm List.perm_middle.symm)
theorem RSlAt.slip (h : RSlAt B w0 w fb a c N F) (hm : (b, slO x) ∈ F) : SlAt w b x ∧ ∀ i, w.frozen? ⟨b, i, none⟩ = false := by
  obtain ⟨S, h1, -⟩ := h.beside
  exact ⟨h1.slAt (List.mem_append_right _ hm), fun i => h1.soft (List.mem_append_right _ hm) i⟩
theorem RSlAt.rds (h : RSlAt B w0 w fb a c N F) : RdS w fb N a c := by
  obtain ⟨S, h1, h2⟩ := h
  exact ⟨h2.cell List.mem_cons_self rfl, h1.read (X := (fb, refO (.slice a N.length c)) :: F) (h2.perm (by
    classical
    exact List.perm_iff_count.2 fun a => by simp only [List.count_append, List.count_cons]; omega))⟩
theorem RSlAt.push {ao : Option Addr} {co : Nat} (h : RSlAt B w0 w fb a c N (So ++ F)) (hs : SlsIs (.slice ao L.length co) L So) (e : Slp) (hl : L.length ≤ 2000000) :
    ∃ a' c' W S', (Builtin.append_ #[27, 27] 0 #[.slice ao L.length co, .slice (some ⟨w.heap.size, 0, none⟩) 1 1]).run Try.prog (w.alloc (slO e)) = .ok (.slice a' (L ++ [e]).length c') W ∧ SlsIs (.slice a' (L ++ [e]).length c') (L ++ [e]) S' ∧ RSlAt B w0 W fb a c N (S' ++ F) := by
  obtain ⟨Z, z1, z2⟩ := h.beside
  have p1 : ∀ S : List (Nat × Obj), (Z ++ (S ++ F)).Perm ((Z ++ F) ++ S) := fun S => by
    classical
    exact List.perm_iff_count.2 fun a => by simp only [List.count_append]; omega
  obtain ⟨a', c', W, S', q1, q2, q3⟩ := sls_push hs (z1.perm (p1 _)) e hl
  exact ⟨a', c', W, S', q1, q2, z2 _ _ (q3.perm (p1 _).symm)⟩
/-- The row turned for another one that is owned. -/
theorem RSlAt.turn {ao : Option Addr} {co : Nat} (h : RSlAt B w0 w fb a c N (So ++ F)) (hs : SlsIs (.slice ao L.length co) L So) : w.frozen? ⟨fb, 0, none⟩ = false ∧ RSlAt B w0 (w.setCell ⟨fb, 0, none⟩ (.slice ao L.length co)) fb ao co L F := by
  obtain ⟨S, h1, h2⟩ := h
  refine ⟨h2.soft List.mem_cons_self 0, So, hs, (St.set0 h2 0 (.slice ao L.length co)).sub ?_⟩
  exact (List.sublist_append_right S _).cons_cons _

/-! ### one comes -/
structure InsTo (e : Slp) (L : List Slp) (i : Nat) (d : Bool) (out : List Slp) : Prop where
  no : d = false → out = L.take i ∧ insS e L = L.take i ++ insS e (L.drop i)
  yes : d = true → out ++ L.drop i = insS e L
  len : out.length ≤ i + 1
theorem InsTo.start (e : Slp) (L : List Slp) : InsTo e L 0 false [] := ⟨fun _ => ⟨by simp, by simp⟩, fun h => (by cases h), by simp⟩
theorem dropS_at {L : List Slp} {i : Nat} {x : Slp} (hx : L[i]? = some x) : L.drop i = x :: L.drop (i + 1) := by
  obtain ⟨h1, h2⟩ := List.getElem?_eq_some_iff.1 hx
  rw [List.drop_eq_getElem_cons h1, h2]
theorem InsTo.done {e : Slp} {L : List Slp} {i : Nat} {out : List Slp} (h : InsTo e L i true out) {x : Slp} (hx : L[i]? = some x) : InsTo e L (i + 1) true (out ++ [x]) :=
  ⟨fun h => (by cases h), fun _ => by
    have := h.yes rfl
    rw [dropS_at hx] at this
    rw [List.append_assoc]
    exact this, by have := h.len; rw [List.length_append, List.length_singleton]; omega⟩
theorem InsTo.less {e : Slp} {L : List Slp} {i : Nat} {out : List Slp} (h : InsTo e L i false out) {x : Slp} (hx : L[i]? = some x) (hl : e.tag < x.tag) : InsTo e L (i + 1) true (out ++ [e] ++ [x]) :=
  ⟨fun h => (by cases h), fun _ => by
    obtain ⟨h1, h2⟩ := h.no rfl
    have h3 : insS e (L.drop i) = e :: x :: L.drop (i + 1) := by
      rw [dropS_at hx]
      unfold insS
      rw [if_pos hl]
    rw [h3] at h2
    rw [h2, h1]
    simp, by
    obtain ⟨h1, -⟩ := h.no rfl
    rw [List.length_append, List.length_append, List.length_singleton, List.length_singleton, h1, List.length_take]
    omega⟩
theorem InsTo.more {e : Slp} {L : List Slp} {i : Nat} {out : List Slp} (h : InsTo e L i false out) {x : Slp} (hx : L[i]? = some x) (hl : ¬ e.tag < x.tag) : InsTo e L (i + 1) false (out ++ [x]) :=
  ⟨fun _ => by
    obtain ⟨h1, h2⟩ := h.no rfl
    have h3 : L.take (i + 1) = L.take i ++ [x] := by rw [List.take_add_one, hx]; rfl
    have h4 : insS e (L.drop i) = x :: insS e (L.drop (i + 1)) := by
      rw [dropS_at hx]
      rw [insS, if_neg hl]
    refine ⟨by rw [h1, h3], ?_⟩
    rw [h2, h4, h3, List.append_assoc]
    rfl, fun h => (by cases h), by have := h.len; rw [List.length_append, List.length_singleton]; omega⟩
theorem InsTo.last {e : Slp} {L : List Slp} {out : List Slp} (h : InsTo e L L.length false out) : out ++ [e] = insS e L := by
  obtain ⟨h1, h2⟩ := h.no rfl
  rw [h2, h1, List.take_length, List.drop_length]
  rfl
theorem InsTo.all {e : Slp} {L : List Slp} {out : List Slp} (h : InsTo e L L.length true out) : out = insS e L := by
  have := h.yes rfl
  rw [List.drop_length, List.append_nil] at this
  exact this

def RAddJ (B : Nat) (w0 : World) (fb : Nat) (a : Option Addr) (c : Nat) (N : List Slp) (F : List (Nat × Obj)) (xb : Nat) (x : Slp) (i : Nat) (d : Bool) (v : Value) (wr : World) : Prop :=
  ∃ ao co So out, v = .slice ao out.length co ∧ InsTo x N i d out ∧ SlsIs (.slice ao out.length co) out So ∧ RSlAt B w0 wr fb a c N (So ++ ((xb, slO x) :: F))
def RAddR (B : Nat) (w0 : World) (fb : Nat) (N : List Slp) (F : List (Nat × Obj)) (r : Ending) (ok : Bool) (w' : World) : Prop := r = .returned (.bool ok) ∧ ∃ a' c', RSlAt B w0 w' fb a' c' N F
theorem row_same {b o b' o' : Nat} (e : (some (⟨b, o, none⟩ : Addr)) = some ⟨b', o', none⟩) : b = b' ∧ o = o' := by
  cases e
  exact ⟨rfl, rfl⟩

set_option maxHeartbeats 4000000 in
theorem rs_add (h : RSlAt B w0 w fb a c N F) (hl : N.length ≤ 1000) (x : Slp) : Calls Try.prog 9 #[gptr fb, slV x] w fun r w' => RAddR B w0 fb (addS N x) F r (addOkS N x) w' := by
  have h1 := h.alloc (slO x)
  have cz := Lib.hid (rs_has h1.rds (by omega) x.tag)
  have k0 := (h1.slip (b := w.heap.size) (x := x) List.mem_cons_self).1.1
  have hl0 : (N.length : Int) ≤ 1000 := by omega
  by_cases hok : addOkS N x = true
  rotate_left
  · have hok2 : addOkS N x = false := by simpa using hok
    have fin : Hid (RAddR B w0 fb (addS N x) F (.returned (.bool false)) (addOkS N x) (w.alloc (slO x))) := Lib.hid ⟨by rw [hok2], a, c, by
      unfold addS
      rw [hok2]
      exact h1.sub (List.sublist_cons_self _ _)⟩
    have hok3 := hok2
    simp only [addOkS, decide_eq_false_iff_not] at hok3
    by_cases hin : x.tag ∈ tagsL N
    · rw [hasS_yes hin] at cz
      clear h h1 hok hok2 hok3 hin
      go_enter Try.func9, Try.ntmps9
      go_wp2_with fail
      refine cz.out.mono ?_
      rintro r w1 ⟨rfl, rfl⟩
      clear cz
      go_wp2_with fail
      go_ret
      exact fin.out
    · rw [hasS_no hin] at cz
      have hr : x.tag < 1 ∨ 1000000 < x.tag := by
        rcases Classical.em (1 ≤ x.tag ∧ x.tag ≤ 1000000) with h | h
        · exact absurd ⟨hin, h⟩ hok3
        · omega
      clear h h1 hok hok2 hok3 hin
      rcases hr with hr | hr
      · go_enter Try.func9, Try.ntmps9
        go_wp2_with fail
        refine cz.out.mono ?_
        rintro r w1 ⟨rfl, rfl⟩
        clear cz
        go_wp2_with fail
        go_ret
        exact fin.out
      · have hr1 : ¬ x.tag < 1 := by omega
        go_enter Try.func9, Try.ntmps9
        go_wp2_with fail
        refine cz.out.mono ?_
        rintro r w1 ⟨rfl, rfl⟩
        clear cz
        go_wp2_with fail
        go_ret
        exact fin.out
  · have hok3 := hok
    simp only [addOkS, decide_eq_true_eq] at hok3
    obtain ⟨hin, hr1, hr2⟩ := hok3
    rw [hasS_no hin] at cz
    have d1 : ¬ x.tag < 1 := by omega
    have d2 : ¬ 1000000 < x.tag := by omega
    have fin : Hid (∀ v wr, RAddJ B w0 fb a c N F w.heap.size x N.length true v wr → ∃ ao n co, v = .slice ao n co ∧ wr.frozen? ⟨fb, 0, none⟩ = false ∧ wr.cell? ⟨fb, 0, none⟩ = some (.slice a N.length c) ∧ RAddR B w0 fb (addS N x) F (.returned (.bool true)) (addOkS N x) (wr.setCell ⟨fb, 0, none⟩ (.slice ao n co))) := Lib.hid fun v wr h => by
      obtain ⟨ao, co, So, out, rfl, h1, h2, h3⟩ := h
      have := h1.all
      subst this
      obtain ⟨f1, f2⟩ := h3.turn h2
      refine ⟨ao, _, co, rfl, f1, h3.rds.c0, by rw [hok], ao, co, ?_⟩
      unfold addS
      rw [if_pos hok]
      exact f2.sub (List.sublist_cons_self _ _)
    have fin0 : Hid (∀ v wr, RAddJ B w0 fb a c N F w.heap.size x N.length false v wr → ∃ ao n co, v = .slice ao n co ∧ SlAt wr w.heap.size x ∧ ∃ a2 n2 c2 W2, (Builtin.append_ #[27, 27] 0 #[.slice ao n co, .slice (some ⟨wr.heap.size, 0, none⟩) 1 1]).run Try.prog (wr.alloc (slO x)) = .ok (.slice a2 n2 c2) W2 ∧
        W2.frozen? ⟨fb, 0, none⟩ = false ∧ W2.cell? ⟨fb, 0, none⟩ = some (.slice a N.length c) ∧ RAddR B w0 fb (addS N x) F (.returned (.bool true)) (addOkS N x) (W2.setCell ⟨fb, 0, none⟩ (.slice a2 n2 c2))) := Lib.hid fun v wr h => by
      obtain ⟨ao, co, So, out, rfl, h1, h2, h3⟩ := h
      obtain ⟨a2, c2, W2, S2, q1, q2, q3⟩ := h3.push h2 x (by have := h1.len; omega)
      rw [h1.last] at q1 q2
      obtain ⟨f1, f2⟩ := q3.turn q2
      refine ⟨ao, _, co, rfl, (h3.slip (by simp)).1, a2, _, c2, W2, q1, f1, q3.rds.c0, by rw [hok], a2, c2, ?_⟩
      unfold addS
      rw [if_pos hok]
      exact f2.sub (List.sublist_cons_self _ _)
    have row : Hid (∀ i y d v wr, N[i]? = some y → RAddJ B w0 fb a c N F w.heap.size x i d v wr → ∃ ao n co, v = .slice ao n co ∧ wr.cell? ⟨fb, 0, none⟩ = some (.slice a N.length c) ∧ (∃ b o, a = some ⟨b, o, none⟩ ∧ SlRow wr b (o + i * 13) y) ∧ SlAt wr w.heap.size x) := Lib.hid fun i y d v wr hy h => by
      obtain ⟨ao, co, So, out, rfl, h1, h2, h3⟩ := h
      exact ⟨ao, _, co, rfl, h3.rds.c0, h3.rds.rd i y hy, (h3.slip (by simp)).1⟩
    have done : Hid (∀ i y wr ao n co, N[i]? = some y → RAddJ B w0 fb a c N F w.heap.size x i true (.slice ao n co) wr → ∀ m, ∃ a2 n2 c2 W2, (Builtin.append_ #[27, 27] 0 #[.slice ao n co, .slice (some ⟨(wr.drewN m).heap.size, 0, none⟩) 1 1]).run Try.prog ((wr.drewN m).alloc (slO y)) = .ok (.slice a2 n2 c2) W2 ∧
        RAddJ B w0 fb a c N F w.heap.size x (i + 1) true (.slice a2 n2 c2) W2) := Lib.hid fun i y wr ao n co hy h m => by
      obtain ⟨ao, co, So, out, e, h1, h2, h3⟩ := h
      cases e
      obtain ⟨a2, c2, W2, S2, q1, q2, q3⟩ := (h3.grow (drewN_below _ m)).push h2 y (by have := h1.len; have := (List.getElem?_eq_some_iff.1 hy).1; omega)
      exact ⟨a2, _, c2, W2, q1, a2, c2, S2, _, rfl, h1.done hy, q2, q3⟩
    have more : Hid (∀ i y wr ao n co, N[i]? = some y → ¬ x.tag < y.tag → RAddJ B w0 fb a c N F w.heap.size x i false (.slice ao n co) wr → ∀ m, ∃ a2 n2 c2 W2, (Builtin.append_ #[27, 27] 0 #[.slice ao n co, .slice (some ⟨(wr.drewN m).heap.size, 0, none⟩) 1 1]).run Try.prog ((wr.drewN m).alloc (slO y)) = .ok (.slice a2 n2 c2) W2 ∧
        RAddJ B w0 fb a c N F w.heap.size x (i + 1) false (.slice a2 n2 c2) W2) := Lib.hid fun i y wr ao n co hy hlt h m => by
      obtain ⟨ao, co, So, out, e, h1, h2, h3⟩ := h
      cases e
      obtain ⟨a2, c2, W2, S2, q1, q2, q3⟩ := (h3.grow (drewN_below _ m)).push h2 y (by have := h1.len; have := (List.getElem?_eq_some_iff.1 hy).1; omega)
      exact ⟨a2, _, c2, W2, q1, a2, c2, S2, _, rfl, h1.more hy hlt, q2, q3⟩
    have less : Hid (∀ i y wr ao n co, N[i]? = some y → x.tag < y.tag → RAddJ B w0 fb a c N F w.heap.size x i false (.slice ao n co) wr → ∀ m, ∃ a2 n2 c2 W2, (Builtin.append_ #[27, 27] 0 #[.slice ao n co, .slice (some ⟨(wr.drewN m).heap.size, 0, none⟩) 1 1]).run Try.prog ((wr.drewN m).alloc (slO x)) = .ok (.slice a2 n2 c2) W2 ∧
        W2.cell? ⟨fb, 0, none⟩ = some (.slice a N.length c) ∧ (∃ b o, a = some ⟨b, o, none⟩ ∧ SlRow W2 b (o + i * 13) y) ∧ ∃ a3 n3 c3 W3, (Builtin.append_ #[27, 27] 0 #[.slice a2 n2 c2, .slice (some ⟨W2.heap.size, 0, none⟩) 1 1]).run Try.prog (W2.alloc (slO y)) = .ok (.slice a3 n3 c3) W3 ∧ RAddJ B w0 fb a c N F w.heap.size x (i + 1) true (.slice a3 n3 c3) W3) := Lib.hid fun i y wr ao n co hy hlt h m => by
      obtain ⟨ao, co, So, out, e, h1, h2, h3⟩ := h
      cases e
      have hil := (List.getElem?_eq_some_iff.1 hy).1
      obtain ⟨a2, c2, W2, S2, q1, q2, q3⟩ := (h3.grow (drewN_below _ m)).push h2 x (by have := h1.len; omega)
      obtain ⟨a3, c3, W3, S3, p1, p2, p3⟩ := q3.push q2 y (by have := h1.len; rw [List.length_append, List.length_singleton]; omega)
      exact ⟨a2, _, c2, W2, q1, q3.rds.c0, q3.rds.rd i y hy, a3, _, c3, W3, p1, a3, c3, S3, _, rfl, h1.less hy hlt, p2, p3⟩
    have hJ0 : Hid (RAddJ B w0 fb a c N F w.heap.size x 0 false (.slice none 0 0) (w.alloc (slO x))) := Lib.hid ⟨none, 0, [], [], rfl, InsTo.start x N, SlsIs.nil, h1⟩
    have hcN : Hid (∀ i d v wr, RAddJ B w0 fb a c N F w.heap.size x i d v wr → wr.cell? ⟨fb, 0, none⟩ = some (.slice a N.length c)) := Lib.hid fun i d v wr h => by
      obtain ⟨ao, co, So, out, e, h1, h2, h3⟩ := h
      exact h3.rds.c0
    clear h h1 hin hok hr1 hr2
    go_enter Try.func9, Try.ntmps9
    go_wp2_with fail
    refine cz.out.mono ?_
    rintro r w1 ⟨rfl, rfl⟩
    clear cz
    go_wp2_with fail
    go_loopg [5, 6, 7] N.length (fun g v5 v6 v7 wr => ∃ (i : Nat) (d : Bool), v7 = .int .i64 i ∧ v6 = .bool d ∧ i + g = N.length ∧ Hid (RAddJ B w0 fb a c N F w.heap.size x i d v5 wr))
    case atStart => exact ⟨0, false, rfl, rfl, by omega, hJ0⟩
    case round =>
      clear hJ0 k0
      obtain ⟨i, d, rfl, rfl, hi, hJ⟩ := hrel
      have i0 : (0 : Int) ≤ i := by omega
      by_cases hlt : i < N.length
      · have i1 : (i : Int) < N.length := by omega
        obtain ⟨y, hy⟩ : ∃ y, N[i]? = some y := ⟨_, List.getElem?_eq_getElem hlt⟩
        obtain ⟨ao, n, co, rfl, c0, ⟨b, o, ha, y0, y1, y2, y3, y4, y5, y6, y7, y8, y9, y10, y11, y12⟩, x0, x1, x2, x3, x4, x5, x6, x7, x8, x9, x10, x11, x12⟩ := row.out i y d _ wr hy hJ.out
        cases d with
        | true =>
          have hd := Lib.hid (done.out i y wr ao n co hy hJ.out)
          subst ha
          clear hy hJ done more less fin fin0 row hcN
          go_wp2_with fail
          go_quiet (fail)
          obtain ⟨a2, n2, c2, W2, run1, hJ2⟩ := hd.out nq
          replace hJ2 := Lib.hid hJ2
          have c0' : (wr.drewN nq).cell? ⟨fb, 0, none⟩ = some (.slice (some ⟨b, o, none⟩) N.length c) := c0
          have hy' : SlRow (wr.drewN nq) b (o + i * 13) y := ⟨y0, y1, y2, y3, y4, y5, y6, y7, y8, y9, y10, y11, y12⟩
          have hx' : SlAt (wr.drewN nq) w.heap.size x := ⟨x0, x1, x2, x3, x4, x5, x6, x7, x8, x9, x10, x11, x12⟩
          clear c0 y0 y1 y2 y3 y4 y5 y6 y7 y8 y9 y10 y11 y12 x0 x1 x2 x3 x4 x5 x6 x7 x8 x9 x10 x11 x12
          obtain ⟨y0, y1, y2, y3, y4, y5, y6, y7, y8, y9, y10, y11, y12⟩ := hy'
          obtain ⟨x0, x1, x2, x3, x4, x5, x6, x7, x8, x9, x10, x11, x12⟩ := hx'
          generalize wr.drewN nq = V at *
          go_wp2_with (at_builtin; refine wpList_append_go rfl (.tmp 50) (.tmp 58) 27 27 rfl _ _ rfl rfl run1 ?_)
          go_roundg (N.length - (i + 1))
          case measure => omega
          case rel => exact ⟨i + 1, true, by go_num, rfl, by omega, hJ2⟩
        | false =>
          by_cases hxy : x.tag < y.tag
          · have hd := Lib.hid (less.out i y wr ao n co hy hxy hJ.out)
            have dxy : decide (x.tag < y.tag) = true := decide_eq_true hxy
            subst ha
            clear hy hJ done more less fin fin0 row hcN hxy
            go_wp2_with fail
            go_quiet (fail)
            obtain ⟨a2, n2, c2, W2, run1, c02, ⟨b2, o2, e2, z0, z1, z2, z3, z4, z5, z6, z7, z8, z9, z10, z11, z12⟩, a3, n3, c3, W3, run2, hJ2⟩ := hd.out nq
            replace hJ2 := Lib.hid hJ2
            obtain ⟨rfl, rfl⟩ := row_same e2
            have c0' : (wr.drewN nq).cell? ⟨fb, 0, none⟩ = some (.slice (some ⟨b, o, none⟩) N.length c) := c0
            have hy' : SlRow (wr.drewN nq) b (o + i * 13) y := ⟨y0, y1, y2, y3, y4, y5, y6, y7, y8, y9, y10, y11, y12⟩
            have hx' : SlAt (wr.drewN nq) w.heap.size x := ⟨x0, x1, x2, x3, x4, x5, x6, x7, x8, x9, x10, x11, x12⟩
            clear c0 y0 y1 y2 y3 y4 y5 y6 y7 y8 y9 y10 y11 y12 x0 x1 x2 x3 x4 x5 x6 x7 x8 x9 x10 x11 x12
            obtain ⟨y0, y1, y2, y3, y4, y5, y6, y7, y8, y9, y10, y11, y12⟩ := hy'
            obtain ⟨x0, x1, x2, x3, x4, x5, x6, x7, x8, x9, x10, x11, x12⟩ := hx'
            generalize wr.drewN nq = V at *
            clear hd
            go_wp2_with (at_builtin; first | refine wpList_append_go rfl (.tmp 46) (.tmp 48) 27 27 rfl _ _ rfl rfl run1 ?_ | refine wpList_append_go rfl (.tmp 50) (.tmp 58) 27 27 rfl _ _ rfl rfl run2 ?_)
            go_roundg (N.length - (i + 1))
            case measure => omega
            case rel => exact ⟨i + 1, true, by go_num, rfl, by omega, hJ2⟩
          · have hd := Lib.hid (more.out i y wr ao n co hy (by omega) hJ.out)
            have dxy : decide (x.tag < y.tag) = false := decide_eq_false hxy
            subst ha
            clear hy hJ done more less fin fin0 row hcN hxy
            go_wp2_with fail
            go_quiet (fail)
            obtain ⟨a2, n2, c2, W2, run1, hJ2⟩ := hd.out nq
            replace hJ2 := Lib.hid hJ2
            have c0' : (wr.drewN nq).cell? ⟨fb, 0, none⟩ = some (.slice (some ⟨b, o, none⟩) N.length c) := c0
            have hy' : SlRow (wr.drewN nq) b (o + i * 13) y := ⟨y0, y1, y2, y3, y4, y5, y6, y7, y8, y9, y10, y11, y12⟩
            have hx' : SlAt (wr.drewN nq) w.heap.size x := ⟨x0, x1, x2, x3, x4, x5, x6, x7, x8, x9, x10, x11, x12⟩
            clear c0 y0 y1 y2 y3 y4 y5 y6 y7 y8 y9 y10 y11 y12 x0 x1 x2 x3 x4 x5 x6 x7 x8 x9 x10 x11 x12
            obtain ⟨y0, y1, y2, y3, y4, y5, y6, y7, y8, y9, y10, y11, y12⟩ := hy'
            obtain ⟨x0, x1, x2, x3, x4, x5, x6, x7, x8, x9, x10, x11, x12⟩ := hx'
            generalize wr.drewN nq = V at *
            clear hd
            go_wp2_with (at_builtin; refine wpList_append_go rfl (.tmp 50) (.tmp 58) 27 27 rfl _ _ rfl rfl run1 ?_)
            go_roundg (N.length - (i + 1))
            case measure => omega
            case rel => exact ⟨i + 1, false, by go_num, rfl, by omega, hJ2⟩
      · have hie : i = N.length := by omega
        subst hie
        have c0 := hcN.out _ _ _ _ hJ.out
        cases d with
        | true =>
          obtain ⟨ao, n, co, rfl, f0, c1, f1⟩ := fin.out _ _ hJ.out
          replace f1 := Lib.hid f1
          clear hJ done more less fin fin0 row hcN hi
          go_wp2_with fail
          go_ret
          exact f1.out
        | false =>
          obtain ⟨ao, n, co, rfl, ⟨x0, x1, x2, x3, x4, x5, x6, x7, x8, x9, x10, x11, x12⟩, a2, n2, c2, W2, run1, f0, c1, f1⟩ := fin0.out _ _ hJ.out
          replace f1 := Lib.hid f1
          clear hJ done more less fin fin0 row hcN hi
          go_wp2_with (at_builtin; refine wpList_append_go rfl (.tmp 62) (.tmp 64) 27 27 rfl _ _ rfl rfl run1 ?_)
          go_ret
          exact f1.out
end
end Go.Proofs.Ytdkchcbmhmlhnaa
