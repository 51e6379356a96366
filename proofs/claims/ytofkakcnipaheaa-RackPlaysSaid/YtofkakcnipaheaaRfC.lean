/- The document's racks: one put, those whose time is over. -/
import Derived.Test.YtofkakcnipaheaaRfB
namespace Go.Proofs.Ytofkakcnipaheaa
open Go.RowKit
open Go.ChangeMaps (setBlock)
set_option linter.unusedVariables false
set_option linter.unusedSectionVars false
set_option linter.unusedSimpArgs false
set_option maxRecDepth 100000

section
variable {B : Nat} {w0 w : World} {S X Y : List (Nat × Obj)} {L : List Ent} {a : Option Addr} {c : Nat}
/-- One put behind a slice, whatever else is owned. -/
theorem St.ensPush (h : St B w0 w (S ++ Y)) (hs : EnsIs (.slice a L.length c) L S) (e : Ent) (hl : L.length ≤ 100000) :
    ∃ a' c' W S', (Builtin.append_ #[26, 26] 0 #[.slice a L.length c, .slice (some ⟨w.heap.size, 0, none⟩) 1 1]).run Try.prog (w.alloc (enO e)) = .ok (.slice a' (L ++ [e]).length c') W ∧ EnsIs (.slice a' (L ++ [e]).length c') (L ++ [e]) S' ∧ St B w0 W (S' ++ Y) := by
  have p1 : ∀ S : List (Nat × Obj), (S ++ Y).Perm (Y ++ S) := fun S => List.perm_append_comm
  obtain ⟨a', c', W, S', q1, q2, q3⟩ := ens_push hs (h.perm (p1 _)) e hl
  exact ⟨a', c', W, S', q1, q2, q3.perm (p1 _).symm⟩
end

/-! ### put -/
/-- So far laid out: i of L, and e if d. -/
structure PutTo (e : Ent) (L : List Ent) (i : Nat) (d : Bool) (out : List Ent) : Prop where
  no : d = false → out = L.take i ∧ insM e L = L.take i ++ insM e (L.drop i)
  yes : d = true → out ++ L.drop i = insM e L
  len : out.length ≤ i + 1
theorem PutTo.start (e : Ent) (L : List Ent) : PutTo e L 0 false [] := ⟨fun _ => ⟨by simp, by simp⟩, fun h => (by cases h), by simp⟩
theorem drop_at {L : List Ent} {i : Nat} {x : Ent} (hx : L[i]? = some x) : L.drop i = x :: L.drop (i + 1) := by
  obtain ⟨h1, h2⟩ := List.getElem?_eq_some_iff.1 hx
  rw [List.drop_eq_getElem_cons h1, h2]
theorem PutTo.done {e : Ent} {L : List Ent} {i : Nat} {out : List Ent} (h : PutTo e L i true out) {x : Ent} (hx : L[i]? = some x) : PutTo e L (i + 1) true (out ++ [x]) :=
  ⟨fun h => (by cases h), fun _ => by
    have := h.yes rfl
    rw [drop_at hx] at this
    rw [List.append_assoc]
    exact this, by have := h.len; rw [List.length_append, List.length_singleton]; omega⟩
theorem PutTo.less {e : Ent} {L : List Ent} {i : Nat} {out : List Ent} (h : PutTo e L i false out) {x : Ent} (hx : L[i]? = some x) (hl : lessE e x = true) : PutTo e L (i + 1) true (out ++ [e] ++ [x]) :=
  ⟨fun h => (by cases h), fun _ => by
    obtain ⟨h1, h2⟩ := h.no rfl
    have h3 : insM e (L.drop i) = e :: x :: L.drop (i + 1) := by
      rw [drop_at hx]
      unfold insM
      rw [if_pos hl]
    rw [h3] at h2
    rw [h2, h1]
    simp, by
    obtain ⟨h1, -⟩ := h.no rfl
    rw [List.length_append, List.length_append, List.length_singleton, List.length_singleton, h1, List.length_take]
    omega⟩
theorem PutTo.more {e : Ent} {L : List Ent} {i : Nat} {out : List Ent} (h : PutTo e L i false out) {x : Ent} (hx : L[i]? = some x) (hl : lessE e x = false) : PutTo e L (i + 1) false (out ++ [x]) :=
  ⟨fun _ => by
    obtain ⟨h1, h2⟩ := h.no rfl
    have h3 : L.take (i + 1) = L.take i ++ [x] := by rw [List.take_add_one, hx]; rfl
    have h4 : insM e (L.drop i) = x :: insM e (L.drop (i + 1)) := by
      rw [drop_at hx]
      rw [insM, if_neg (by rw [hl]; exact Bool.false_ne_true)]
    refine ⟨by rw [h1, h3], ?_⟩
    rw [h2, h4, h3, List.append_assoc]
    rfl, fun h => (by cases h), by have := h.len; rw [List.length_append, List.length_singleton]; omega⟩
theorem PutTo.last {e : Ent} {L : List Ent} {out : List Ent} (h : PutTo e L L.length false out) : out ++ [e] = insM e L := by
  obtain ⟨h1, h2⟩ := h.no rfl
  rw [h2, h1, List.take_length, List.drop_length]
  rfl
theorem PutTo.all {e : Ent} {L : List Ent} {out : List Ent} (h : PutTo e L L.length true out) : out = insM e L := by
  have := h.yes rfl
  rw [List.drop_length, List.append_nil] at this
  exact this

section
variable {B : Nat} {w0 w : World} {S X Y : List (Nat × Obj)} {L : List Ent} {a : Option Addr} {c : Nat} {e : Ent}
def RPutR (w : World) (L : List Ent) (e : Ent) (v : Value) (r : Ending) (w' : World) : Prop :=
  (putOk L e = false ∧ r = .returned (.tuple #[v, .bool false]) ∧ Below w.heap.size w w') ∨ (putOk L e = true ∧ ∃ a' c' S', r = .returned (.tuple #[.slice a' (insM e L).length c', .bool true]) ∧ EnsIs (.slice a' (insM e L).length c') (insM e L) S' ∧ St w.heap.size w w' S')
def RPutJ (w : World) (L : List Ent) (e : Ent) (i : Nat) (d : Bool) (v : Value) (wr : World) : Prop := ∃ a' c' S' out, v = .slice a' out.length c' ∧ PutTo e L i d out ∧ EnsIs (.slice a' out.length c') out S' ∧ St w.heap.size w wr (S' ++ [(w.heap.size, enO e)])

set_option maxHeartbeats 4000000 in
theorem rput_any (hr : ReadEs w a L) (hl : L.length ≤ 10000) (hids : (L.map (·.id)).Nodup) (e : Ent) : Calls Try.prog 9 #[.slice a L.length c, enV e] w (RPutR w L e (.slice a L.length c)) := by
  have hn0 := new_below w (enO e)
  have hS0 : St w.heap.size w (w.alloc (enO e)) ([] ++ [(w.heap.size, enO e)]) := (St.start w).alloc (enO e)
  have cat := Lib.hid (rat_any (c := c) (hr.below hn0) (by omega) e.id)
  obtain ⟨q, hq⟩ : ∃ q, q = atM L e.id := ⟨_, rfl⟩
  rw [← hq] at cat
  have hrW : Hid (∀ wr, Below w.heap.size w wr → ReadEs wr a L) := Lib.hid fun wr hb => hr.below hb
  have hl0 : (L.length : Int) ≤ 10000 := by omega
  have hcell : Hid (∀ n, EnAt ((w.alloc (enO e)).drewN n) w.heap.size e ∧ Below w.heap.size w ((w.alloc (enO e)).drewN n) ∧ St w.heap.size w ((w.alloc (enO e)).drewN n) ([] ++ [(w.heap.size, enO e)])) := Lib.hid fun n => by
    have h1 := hS0.drewN n
    exact ⟨h1.enAt (by simp), h1.below, h1⟩
  obtain ⟨x0, x1, x2, x3, x4, x5, x6, x7, x8, x9⟩ := hS0.enAt (b := w.heap.size) (e := e) (by simp)
  by_cases hok : putOk L e = true
  rotate_left
  · have hok2 : putOk L e = false := by simpa using hok
    have fin : Hid (∀ n, RPutR w L e (.slice a L.length c) (.returned (.tuple #[.slice a L.length c, .bool false])) ((w.alloc (enO e)).drewN n)) := Lib.hid fun n => .inl ⟨hok2, rfl, (hcell.out n).2.1⟩
    by_cases hin : e.id ∈ L.map (·.id)
    · have hq0 : Hid (∃ i : Nat, q = i) := Lib.hid (by
        obtain ⟨x, hx, e1⟩ := List.mem_map.1 hin
        obtain ⟨i, hi⟩ := List.getElem?_of_mem hx
        exact ⟨i, by rw [hq, atM_yes hids hi e1]⟩)
      obtain ⟨i, rfl⟩ := hq0.out
      have i0 : (0 : Int) ≤ i := by omega
      clear hq hok hok2 hin hr hn0 hS0 hrW hids hq0
      go_enter Try.func9, Try.ntmps9
      go_wp2_with fail
      refine cat.out.mono ?_
      rintro r w1 ⟨rfl, n, rfl⟩
      obtain ⟨⟨y0, y1, y2, y3, y4, y5, y6, y7, y8, y9⟩, -, -⟩ := hcell.out n
      replace fin := Lib.hid (fin.out n)
      clear cat hcell x0 x1 x2 x3 x4 x5 x6 x7 x8 x9
      generalize (w.alloc (enO e)).drewN n = V at *
      go_wp2_with fail
      go_ret2
      exact fin.out
    · have hq1 : q = -1 := by rw [hq, atM_no hin]
      have hp : ¬ (0 ≤ e.prio ∧ e.prio ≤ 3) := fun hp => by
        have : putOk L e = true := by
          simp only [putOk, decide_eq_true_eq]
          exact ⟨hin, hp⟩
        rw [hok2] at this
        cases this
      subst hq1
      clear hq hok hok2 hin hr hn0 hS0 hrW hids
      by_cases hp0 : e.prio < 0
      · have d1 : decide (e.prio < 0) = true := decide_eq_true hp0
        clear hp
        go_enter Try.func9, Try.ntmps9
        go_wp2_with fail
        refine cat.out.mono ?_
        rintro r w1 ⟨rfl, n, rfl⟩
        obtain ⟨⟨y0, y1, y2, y3, y4, y5, y6, y7, y8, y9⟩, -, -⟩ := hcell.out n
        replace fin := Lib.hid (fin.out n)
        clear cat hcell x0 x1 x2 x3 x4 x5 x6 x7 x8 x9
        generalize (w.alloc (enO e)).drewN n = V at *
        go_wp2_with fail
        go_ret2
        exact fin.out
      · have d1 : decide (e.prio < 0) = false := decide_eq_false hp0
        have hp3 : 3 < e.prio := by omega
        have d2 : decide (3 < e.prio) = true := decide_eq_true hp3
        clear hp
        go_enter Try.func9, Try.ntmps9
        go_wp2_with fail
        refine cat.out.mono ?_
        rintro r w1 ⟨rfl, n, rfl⟩
        obtain ⟨⟨y0, y1, y2, y3, y4, y5, y6, y7, y8, y9⟩, -, -⟩ := hcell.out n
        replace fin := Lib.hid (fin.out n)
        clear cat hcell x0 x1 x2 x3 x4 x5 x6 x7 x8 x9
        generalize (w.alloc (enO e)).drewN n = V at *
        go_wp2_with fail
        go_ret2
        exact fin.out
  · have hok2 := hok
    simp only [putOk, decide_eq_true_eq] at hok2
    obtain ⟨hin, hp0, hp1⟩ := hok2
    have hq1 : q = -1 := by rw [hq, atM_no hin]
    subst hq1
    have d1 : decide (e.prio < 0) = false := decide_eq_false (by omega)
    have d2 : decide (3 < e.prio) = false := decide_eq_false (by omega)
    have fin : Hid (∀ v wr, RPutJ w L e L.length true v wr → RPutR w L e (.slice a L.length c) (.returned (.tuple #[v, .bool true])) wr) := Lib.hid fun v wr h => by
      obtain ⟨a', c', S', out, rfl, h1, h2, h3⟩ := h
      have := h1.all
      subst this
      exact .inr ⟨hok, a', c', S', rfl, h2, h3.sub (List.sublist_append_left _ _)⟩
    have fin0 : Hid (∀ v wr, RPutJ w L e L.length false v wr → ∃ a' c' n, v = .slice a' n c' ∧ EnAt wr w.heap.size e ∧ ∃ a2 c2 n2 W2, (Builtin.append_ #[26, 26] 0 #[.slice a' n c', .slice (some ⟨wr.heap.size, 0, none⟩) 1 1]).run Try.prog (wr.alloc (enO e)) = .ok (.slice a2 n2 c2) W2 ∧
        RPutR w L e (.slice a L.length c) (.returned (.tuple #[.slice a2 n2 c2, .bool true])) W2) := Lib.hid fun v wr h => by
      obtain ⟨a', c', S', out, rfl, h1, h2, h3⟩ := h
      obtain ⟨a2, c2, W2, S2, q1, q2, q3⟩ := h3.ensPush h2 e (by have := h1.len; omega)
      rw [h1.last] at q1 q2
      exact ⟨a', c', _, rfl, h3.enAt (by simp), a2, c2, _, W2, q1, .inr ⟨hok, a2, c2, S2, rfl, q2, q3.sub (List.sublist_append_left _ _)⟩⟩
    have stp : Hid (∀ i x v wr, L[i]? = some x → RPutJ w L e i true v wr → ∃ a' c' n, v = .slice a' n c' ∧ ∃ b o, a = some ⟨b, o, none⟩ ∧ (∀ m, EnRow (wr.drewN m) b (o + i * 10) x) ∧ ∀ m, ∃ a2 c2 n2 W2, (Builtin.append_ #[26, 26] 0 #[.slice a' n c', .slice (some ⟨(wr.drewN m).heap.size, 0, none⟩) 1 1]).run Try.prog ((wr.drewN m).alloc (enO x)) = .ok (.slice a2 n2 c2) W2 ∧
        RPutJ w L e (i + 1) true (.slice a2 n2 c2) W2) := Lib.hid fun i x v wr hx h => by
      obtain ⟨a', c', S', out, rfl, h1, h2, h3⟩ := h
      obtain ⟨b, o, ha, -⟩ := hrW.out wr h3.below i x hx
      refine ⟨a', c', _, rfl, b, o, ha, fun m => ?_, fun m => ?_⟩
      · obtain ⟨b', o', ha', hr'⟩ := hrW.out (wr.drewN m) (h3.drewN m).below i x hx
        rw [ha] at ha'
        cases ha'
        exact hr'
      · obtain ⟨a2, c2, W2, S2, q1, q2, q3⟩ := (h3.drewN m).ensPush h2 x (by have := h1.len; have := (List.getElem?_eq_some_iff.1 hx).1; omega)
        exact ⟨a2, c2, _, W2, q1, a2, c2, S2, _, rfl, h1.done hx, q2, q3⟩
    have more : Hid (∀ i x v wr, L[i]? = some x → lessE e x = false → RPutJ w L e i false v wr → ∃ a' c' n, v = .slice a' n c' ∧ ∃ b o, a = some ⟨b, o, none⟩ ∧ EnRow wr b (o + i * 10) x ∧ EnAt wr w.heap.size e ∧ ∀ W, Below wr.heap.size wr W → EnRow W b (o + i * 10) x ∧ ∃ a2 c2 n2 W2, (Builtin.append_ #[26, 26] 0 #[.slice a' n c', .slice (some ⟨W.heap.size, 0, none⟩) 1 1]).run Try.prog (W.alloc (enO x)) = .ok (.slice a2 n2 c2) W2 ∧
        RPutJ w L e (i + 1) false (.slice a2 n2 c2) W2) := Lib.hid fun i x v wr hx hlx h => by
      obtain ⟨a', c', S', out, rfl, h1, h2, h3⟩ := h
      obtain ⟨b, o, ha, hr0⟩ := hrW.out wr h3.below i x hx
      refine ⟨a', c', _, rfl, b, o, ha, hr0, h3.enAt (by simp), fun W hb => ⟨hr0.below hb, ?_⟩⟩
      obtain ⟨a2, c2, W2, S2, q1, q2, q3⟩ := (h3.grow hb).ensPush h2 x (by have := h1.len; have := (List.getElem?_eq_some_iff.1 hx).1; omega)
      exact ⟨a2, c2, _, W2, q1, a2, c2, S2, _, rfl, h1.more hx hlx, q2, q3⟩
    have less : Hid (∀ i x v wr, L[i]? = some x → lessE e x = true → RPutJ w L e i false v wr → ∃ a' c' n, v = .slice a' n c' ∧ ∃ b o, a = some ⟨b, o, none⟩ ∧ EnRow wr b (o + i * 10) x ∧ EnAt wr w.heap.size e ∧ ∀ W, Below wr.heap.size wr W → EnAt W w.heap.size e ∧ ∃ a2 c2 n2 W2, (Builtin.append_ #[26, 26] 0 #[.slice a' n c', .slice (some ⟨W.heap.size, 0, none⟩) 1 1]).run Try.prog (W.alloc (enO e)) = .ok (.slice a2 n2 c2) W2 ∧
        EnRow W2 b (o + i * 10) x ∧ ∃ a3 c3 n3 W3, (Builtin.append_ #[26, 26] 0 #[.slice a2 n2 c2, .slice (some ⟨W2.heap.size, 0, none⟩) 1 1]).run Try.prog (W2.alloc (enO x)) = .ok (.slice a3 n3 c3) W3 ∧ RPutJ w L e (i + 1) true (.slice a3 n3 c3) W3) := Lib.hid fun i x v wr hx hlx h => by
      obtain ⟨a', c', S', out, rfl, h1, h2, h3⟩ := h
      obtain ⟨b, o, ha, hr0⟩ := hrW.out wr h3.below i x hx
      have hil := (List.getElem?_eq_some_iff.1 hx).1
      refine ⟨a', c', _, rfl, b, o, ha, hr0, h3.enAt (by simp), fun W hb => ⟨(h3.grow hb).enAt (by simp), ?_⟩⟩
      obtain ⟨a2, c2, W2, S2, q1, q2, q3⟩ := (h3.grow hb).ensPush h2 e (by have := h1.len; omega)
      obtain ⟨b', o', ha', hr'⟩ := hrW.out W2 q3.below i x hx
      rw [ha] at ha'
      cases ha'
      obtain ⟨a3, c3, W3, S3, p1, p2, p3⟩ := q3.ensPush q2 x (by have := h1.len; rw [List.length_append, List.length_singleton]; omega)
      exact ⟨a2, c2, _, W2, q1, hr', a3, c3, _, W3, p1, a3, c3, S3, _, rfl, h1.less hx hlx, p2, p3⟩
    have hJ0 : Hid (∀ n, RPutJ w L e 0 false (.slice none 0 0) ((w.alloc (enO e)).drewN n)) := Lib.hid fun n => ⟨none, 0, [], [], rfl, PutTo.start e L, EnsIs.nil, (hcell.out n).2.2⟩
    have cl := Lib.hid (fun x W => rless_any e x W)
    clear hr hn0 hS0 hq hrW hids hin hok
    go_enter Try.func9, Try.ntmps9
    go_wp2_with fail
    refine cat.out.mono ?_
    rintro r w1 ⟨rfl, n, rfl⟩
    obtain ⟨⟨y0, y1, y2, y3, y4, y5, y6, y7, y8, y9⟩, -, -⟩ := hcell.out n
    replace hJ0 := Lib.hid (hJ0.out n)
    clear cat hcell x0 x1 x2 x3 x4 x5 x6 x7 x8 x9
    generalize (w.alloc (enO e)).drewN n = V at *
    go_wp2_with fail
    go_loopg [6, 7, 8] L.length (fun g v6 v7 v8 wr => ∃ (i : Nat) (d : Bool), v8 = .int .i64 i ∧ v7 = .bool d ∧ i + g = L.length ∧ Hid (RPutJ w L e i d v6 wr))
    case atStart => exact ⟨0, false, rfl, rfl, by omega, hJ0⟩
    case round =>
      clear hJ0 y0 y1 y2 y3 y4 y5 y6 y7 y8 y9
      obtain ⟨i, d, rfl, rfl, hi, hJ⟩ := hrel
      have i0 : (0 : Int) ≤ i := by omega
      by_cases hlt : i < L.length
      · have i1 : (i : Int) < L.length := by omega
        obtain ⟨x, hx⟩ : ∃ x, L[i]? = some x := ⟨_, List.getElem?_eq_getElem hlt⟩
        cases d with
        | true =>
          obtain ⟨a', c', n', rfl, b, o, rfl, hrow, hpush⟩ := stp.out i x u6 wr hx hJ.out
          replace hrow := Lib.hid hrow
          replace hpush := Lib.hid hpush
          clear hx hJ stp more less fin fin0 cl
          go_wp2_with fail
          go_quiet (fail)
          obtain ⟨z0, z1, z2, z3, z4, z5, z6, z7, z8, z9⟩ := hrow.out nq
          obtain ⟨a2, c2, n2, W2, hrun, hJ2⟩ := hpush.out nq
          replace hJ2 := Lib.hid hJ2
          clear hrow hpush
          generalize wr.drewN nq = V2 at *
          go_wp2_with (at_builtin; refine wpList_append_go rfl (.tmp 45) (.tmp 50) 26 26 rfl _ _ rfl rfl hrun ?_)
          go_roundg (L.length - (i + 1))
          case measure => omega
          case rel => exact ⟨i + 1, true, by go_num, rfl, by omega, hJ2⟩
        | false =>
          cases hlx : lessE e x with
          | true =>
            obtain ⟨a', c', n', rfl, b, o, rfl, hrow, hat, hpush⟩ := less.out i x u6 wr hx hlx hJ.out
            have clx : Hid (Calls Try.prog 23 #[enV e, enV x] wr.drew fun r w' => r = .returned (.bool true) ∧ Below wr.heap.size wr w' ∧ EnAt w' w.heap.size e ∧ EnRow w' b (o + i * 10) x) := Lib.hid (by
              refine (cl.out x wr.drew).mono ?_
              rintro r w' ⟨rfl, hb⟩
              have hb2 := bel (drew_b wr) hb
              exact ⟨by rw [hlx], hb2, hat.step hb2, hrow.below hb2⟩)
            have hS9 := Lib.hid (And.intro (EnAt.step hat (drew_b wr)) (EnRow.below hrow (drew_b wr)))
            obtain ⟨y0, y1, y2, y3, y4, y5, y6, y7, y8, y9⟩ := hS9.out.1
            obtain ⟨z0, z1, z2, z3, z4, z5, z6, z7, z8, z9⟩ := hS9.out.2
            replace hpush := Lib.hid hpush
            clear hx hJ stp more less fin fin0 cl hrow hat hlx
            go_wp2_with fail
            go_region_held3 (fun W => (W.cell? ⟨w.heap.size, 0, none⟩ = some (.int .i64 e.id) ∧ W.cell? ⟨w.heap.size, 1, none⟩ = some (.int .i64 e.body) ∧ W.cell? ⟨w.heap.size, 2, none⟩ = some (.int .i64 e.size) ∧ W.cell? ⟨w.heap.size, 3, none⟩ = some (tx e.exch) ∧ W.cell? ⟨w.heap.size, 4, none⟩ = some (tx e.key) ∧ W.cell? ⟨w.heap.size, 5, none⟩ = some (.int .i64 e.prio) ∧ W.cell? ⟨w.heap.size, 6, none⟩ = some (.int .i64 e.ttl) ∧ W.cell? ⟨w.heap.size, 7, none⟩ = some (.int .i64 e.til) ∧ W.cell? ⟨w.heap.size, 8, none⟩ = some (.bool e.again) ∧ W.cell? ⟨w.heap.size, 9, none⟩ = some (.int .i64 e.hops)) ∧ W.cell? ⟨b, o + i * 10, none⟩ = some (.int .i64 x.id) ∧ W.cell? ⟨b, o + i * 10 + 1, none⟩ = some (.int .i64 x.body) ∧ W.cell? ⟨b, o + i * 10 + 2, none⟩ = some (.int .i64 x.size) ∧ W.cell? ⟨b, o + i * 10 + 3, none⟩ = some (tx x.exch) ∧ W.cell? ⟨b, o + i * 10 + 4, none⟩ = some (tx x.key) ∧ W.cell? ⟨b, o + i * 10 + 5, none⟩ = some (.int .i64 x.prio) ∧ W.cell? ⟨b, o + i * 10 + 6, none⟩ = some (.int .i64 x.ttl) ∧ W.cell? ⟨b, o + i * 10 + 7, none⟩ = some (.int .i64 x.til) ∧ W.cell? ⟨b, o + i * 10 + 8, none⟩ = some (.bool x.again) ∧ W.cell? ⟨b, o + i * 10 + 9, none⟩ = some (.int .i64 x.hops)) (first | exact kS | exact hS9.out) ((go_at_call 23; refine clx.out.mono ?_; rintro r w'' ⟨rfl, hbw, kS⟩))
            clear clx hS9 y0 y1 y2 y3 y4 y5 y6 y7 y8 y9 z0 z1 z2 z3 z4 z5 z6 z7 z8 z9
            obtain ⟨⟨y0, y1, y2, y3, y4, y5, y6, y7, y8, y9⟩, a2, c2, n2, W2, run1, ⟨z0, z1, z2, z3, z4, z5, z6, z7, z8, z9⟩, a3, c3, n3, W3, run2, hJ2⟩ := hpush.out _ hbw
            replace hJ2 := Lib.hid hJ2
            clear hpush hbw kS
            go_wp2_with (at_builtin; first | refine wpList_append_go rfl (.tmp 41) (.tmp 43) 26 26 rfl _ _ rfl rfl run1 ?_ | refine wpList_append_go rfl (.tmp 45) (.tmp 50) 26 26 rfl _ _ rfl rfl run2 ?_)
            go_roundg (L.length - (i + 1))
            case measure => omega
            case rel => exact ⟨i + 1, true, by go_num, rfl, by omega, hJ2⟩
          | false =>
            obtain ⟨a', c', n', rfl, b, o, rfl, hrow, hat, hpush⟩ := more.out i x u6 wr hx hlx hJ.out
            have clx : Hid (Calls Try.prog 23 #[enV e, enV x] wr.drew fun r w' => r = .returned (.bool false) ∧ Below wr.heap.size wr w' ∧ EnAt w' w.heap.size e ∧ EnRow w' b (o + i * 10) x) := Lib.hid (by
              refine (cl.out x wr.drew).mono ?_
              rintro r w' ⟨rfl, hb⟩
              have hb2 := bel (drew_b wr) hb
              exact ⟨by rw [hlx], hb2, hat.step hb2, hrow.below hb2⟩)
            have hS9 := Lib.hid (And.intro (EnAt.step hat (drew_b wr)) (EnRow.below hrow (drew_b wr)))
            obtain ⟨y0, y1, y2, y3, y4, y5, y6, y7, y8, y9⟩ := hS9.out.1
            obtain ⟨z0, z1, z2, z3, z4, z5, z6, z7, z8, z9⟩ := hS9.out.2
            replace hpush := Lib.hid hpush
            clear hx hJ stp more less fin fin0 cl hrow hat hlx
            go_wp2_with fail
            go_region_held3 (fun W => (W.cell? ⟨w.heap.size, 0, none⟩ = some (.int .i64 e.id) ∧ W.cell? ⟨w.heap.size, 1, none⟩ = some (.int .i64 e.body) ∧ W.cell? ⟨w.heap.size, 2, none⟩ = some (.int .i64 e.size) ∧ W.cell? ⟨w.heap.size, 3, none⟩ = some (tx e.exch) ∧ W.cell? ⟨w.heap.size, 4, none⟩ = some (tx e.key) ∧ W.cell? ⟨w.heap.size, 5, none⟩ = some (.int .i64 e.prio) ∧ W.cell? ⟨w.heap.size, 6, none⟩ = some (.int .i64 e.ttl) ∧ W.cell? ⟨w.heap.size, 7, none⟩ = some (.int .i64 e.til) ∧ W.cell? ⟨w.heap.size, 8, none⟩ = some (.bool e.again) ∧ W.cell? ⟨w.heap.size, 9, none⟩ = some (.int .i64 e.hops)) ∧ W.cell? ⟨b, o + i * 10, none⟩ = some (.int .i64 x.id) ∧ W.cell? ⟨b, o + i * 10 + 1, none⟩ = some (.int .i64 x.body) ∧ W.cell? ⟨b, o + i * 10 + 2, none⟩ = some (.int .i64 x.size) ∧ W.cell? ⟨b, o + i * 10 + 3, none⟩ = some (tx x.exch) ∧ W.cell? ⟨b, o + i * 10 + 4, none⟩ = some (tx x.key) ∧ W.cell? ⟨b, o + i * 10 + 5, none⟩ = some (.int .i64 x.prio) ∧ W.cell? ⟨b, o + i * 10 + 6, none⟩ = some (.int .i64 x.ttl) ∧ W.cell? ⟨b, o + i * 10 + 7, none⟩ = some (.int .i64 x.til) ∧ W.cell? ⟨b, o + i * 10 + 8, none⟩ = some (.bool x.again) ∧ W.cell? ⟨b, o + i * 10 + 9, none⟩ = some (.int .i64 x.hops)) (first | exact kS | exact hS9.out) ((go_at_call 23; refine clx.out.mono ?_; rintro r w'' ⟨rfl, hbw, kS⟩))
            clear clx hS9 y0 y1 y2 y3 y4 y5 y6 y7 y8 y9 z0 z1 z2 z3 z4 z5 z6 z7 z8 z9
            obtain ⟨⟨z0, z1, z2, z3, z4, z5, z6, z7, z8, z9⟩, a2, c2, n2, W2, run1, hJ2⟩ := hpush.out _ hbw
            replace hJ2 := Lib.hid hJ2
            clear hpush hbw kS
            go_wp2_with (at_builtin; refine wpList_append_go rfl (.tmp 45) (.tmp 50) 26 26 rfl _ _ rfl rfl run1 ?_)
            go_roundg (L.length - (i + 1))
            case measure => omega
            case rel => exact ⟨i + 1, false, by go_num, rfl, by omega, hJ2⟩
      · have hie : i = L.length := by omega
        subst hie
        cases d with
        | true =>
          have f1 := Lib.hid (fin.out _ _ hJ.out)
          clear hJ stp more less fin fin0 cl hi
          go_wp2_with fail
          go_ret2
          exact f1.out
        | false =>
          obtain ⟨a', c', n', rfl, ⟨y0, y1, y2, y3, y4, y5, y6, y7, y8, y9⟩, a2, c2, n2, W2, run1, f1⟩ := fin0.out _ _ hJ.out
          replace f1 := Lib.hid f1
          clear hJ stp more less fin fin0 cl hi
          go_wp2_with (at_builtin; refine wpList_append_go rfl (.tmp 54) (.tmp 56) 26 26 rfl _ _ rfl rfl run1 ?_)
          go_ret2
          exact f1.out

/-! ### those whose time is over -/
def RLateJ (w : World) (L : List Ent) (now : Int) (i : Nat) (v1 v2 : Value) (wr : World) : Prop := ∃ a1 c1 S1 a2 c2 S2, v1 = .slice a1 ((L.take i).filter fun x => goneE x now).length c1 ∧ v2 = .slice a2 ((L.take i).filter fun x => !goneE x now).length c2 ∧
  EnsIs (.slice a1 ((L.take i).filter fun x => goneE x now).length c1) ((L.take i).filter fun x => goneE x now) S1 ∧ EnsIs (.slice a2 ((L.take i).filter fun x => !goneE x now).length c2) ((L.take i).filter fun x => !goneE x now) S2 ∧ St w.heap.size w wr (S1 ++ S2)
def RLateR (w : World) (L : List Ent) (now : Int) (r : Ending) (w' : World) : Prop := ∃ v1 v2, r = .returned (.tuple #[v1, v2]) ∧ RLateJ w L now L.length v1 v2 w'
theorem late_len (L : List Ent) (f : Ent → Bool) (i : Nat) : ((L.take i).filter f).length ≤ L.length := by
  refine Nat.le_trans (List.length_filter_le _ _) ?_
  rw [List.length_take]
  omega
set_option maxHeartbeats 2000000 in
theorem rlate_any (hr : ReadEs w a L) (hl : L.length ≤ 10000) (now : Int) : Calls Try.prog 15 #[.slice a L.length c, .int .i64 now] w (RLateR w L now) := by
  have hl0 : (L.length : Int) ≤ 10000 := by omega
  have stp : Hid (∀ i x v1 v2 wr, L[i]? = some x → RLateJ w L now i v1 v2 wr → ∃ a1 n1 c1 a2 n2 c2, v1 = .slice a1 n1 c1 ∧ v2 = .slice a2 n2 c2 ∧ ∃ b o, a = some ⟨b, o, none⟩ ∧ EnRow wr b (o + i * 10) x ∧ ∀ W, Below wr.heap.size wr W → EnRow W b (o + i * 10) x ∧
      (goneE x now = true → ∃ a3 n3 c3 W2, (Builtin.append_ #[26, 26] 0 #[.slice a1 n1 c1, .slice (some ⟨W.heap.size, 0, none⟩) 1 1]).run Try.prog (W.alloc (enO x)) = .ok (.slice a3 n3 c3) W2 ∧ RLateJ w L now (i + 1) (.slice a3 n3 c3) (.slice a2 n2 c2) W2) ∧
      (goneE x now = false → ∃ a3 n3 c3 W2, (Builtin.append_ #[26, 26] 0 #[.slice a2 n2 c2, .slice (some ⟨W.heap.size, 0, none⟩) 1 1]).run Try.prog (W.alloc (enO x)) = .ok (.slice a3 n3 c3) W2 ∧ RLateJ w L now (i + 1) (.slice a1 n1 c1) (.slice a3 n3 c3) W2)) := Lib.hid fun i x v1 v2 wr hx h => by
    obtain ⟨a1, c1, S1, a2, c2, S2, rfl, rfl, h1, h2, h3⟩ := h
    obtain ⟨b, o, ha, hr0⟩ := hr.below h3.below i x hx
    have e1 : L.take (i + 1) = L.take i ++ [x] := by rw [List.take_add_one, hx]; rfl
    have l1 := late_len L (fun x => goneE x now) i
    have l2 := late_len L (fun x => !goneE x now) i
    refine ⟨a1, _, c1, a2, _, c2, rfl, rfl, b, o, ha, hr0, fun W hb => ⟨hr0.below hb, fun hg => ?_, fun hg => ?_⟩⟩
    · have eg : (L.take (i + 1)).filter (fun x => goneE x now) = (L.take i).filter (fun x => goneE x now) ++ [x] := by rw [e1, List.filter_append]; simp [hg]
      have el : (L.take (i + 1)).filter (fun x => !goneE x now) = (L.take i).filter (fun x => !goneE x now) := by rw [e1, List.filter_append]; simp [hg]
      obtain ⟨a3, c3, W2, S3, q1, q2, q3⟩ := (h3.grow hb).ensPush h1 x (by omega)
      rw [← eg] at q1 q2
      exact ⟨a3, _, c3, W2, q1, a3, c3, S3, a2, c2, S2, rfl, by rw [el], q2, by rw [el]; exact h2, q3⟩
    · have eg : (L.take (i + 1)).filter (fun x => goneE x now) = (L.take i).filter (fun x => goneE x now) := by rw [e1, List.filter_append]; simp [hg]
      have el : (L.take (i + 1)).filter (fun x => !goneE x now) = (L.take i).filter (fun x => !goneE x now) ++ [x] := by rw [e1, List.filter_append]; simp [hg]
      obtain ⟨a3, c3, W2, S3, q1, q2, q3⟩ := ((h3.grow hb).perm List.perm_append_comm).ensPush h2 x (by omega)
      rw [← el] at q1 q2
      exact ⟨a3, _, c3, W2, q1, a1, c1, S1, a3, c3, S3, by rw [eg], rfl, by rw [eg]; exact h1, q2, q3.perm List.perm_append_comm⟩
  have hJ0 : Hid (RLateJ w L now 0 (.slice none 0 0) (.slice none 0 0) w) := Lib.hid ⟨none, 0, [], none, 0, [], by simp, by simp, by simpa using EnsIs.nil, by simpa using EnsIs.nil, St.start w⟩
  have cg := Lib.hid (fun x W => rgone_any x now W)
  have fin : Hid (∀ v1 v2 wr, RLateJ w L now L.length v1 v2 wr → RLateR w L now (.returned (.tuple #[v1, v2])) wr) := Lib.hid fun v1 v2 wr h => ⟨v1, v2, rfl, h⟩
  clear hr
  go_enter Try.func15, Try.ntmps15
  go_wp2_with fail
  go_loopg [6, 7, 8] L.length (fun g v6 v7 v8 wr => ∃ i : Nat, v8 = .int .i64 i ∧ i + g = L.length ∧ Hid (RLateJ w L now i v6 v7 wr))
  case atStart => exact ⟨0, rfl, by omega, hJ0⟩
  case round =>
    clear hJ0
    obtain ⟨i, rfl, hi, hJ⟩ := hrel
    have i0 : (0 : Int) ≤ i := by omega
    by_cases hlt : i < L.length
    · have i1 : (i : Int) < L.length := by omega
      obtain ⟨x, hx⟩ : ∃ x, L[i]? = some x := ⟨_, List.getElem?_eq_getElem hlt⟩
      obtain ⟨a1, n1, c1, a2, n2, c2, rfl, rfl, b, o, rfl, ⟨z0, z1, z2, z3, z4, z5, z6, z7, z8, z9⟩, hnext⟩ := stp.out i x u6 u7 wr hx hJ.out
      have cgx := Lib.hid (cg.out x wr)
      replace hnext := Lib.hid hnext
      clear hx hJ stp fin cg
      cases hg : goneE x now with
      | true =>
        rw [hg] at cgx
        go_wp2_with fail
        refine cgx.out.mono ?_
        rintro r w2 ⟨rfl, hb⟩
        obtain ⟨⟨y0, y1, y2, y3, y4, y5, y6, y7, y8, y9⟩, hyes, -⟩ := hnext.out _ hb
        obtain ⟨a3, n3, c3, W2, run1, hJ2⟩ := hyes hg
        replace hJ2 := Lib.hid hJ2
        clear hnext hyes cgx hb hg z0 z1 z2 z3 z4 z5 z6 z7 z8 z9
        go_wp2_with (at_builtin; refine wpList_append_go rfl (.tmp 21) (.tmp 26) 26 26 rfl _ _ rfl rfl run1 ?_)
        go_roundg (L.length - (i + 1))
        case measure => omega
        case rel => exact ⟨i + 1, by go_num, by omega, hJ2⟩
      | false =>
        rw [hg] at cgx
        go_wp2_with fail
        refine cgx.out.mono ?_
        rintro r w2 ⟨rfl, hb⟩
        obtain ⟨⟨y0, y1, y2, y3, y4, y5, y6, y7, y8, y9⟩, -, hno⟩ := hnext.out _ hb
        obtain ⟨a3, n3, c3, W2, run1, hJ2⟩ := hno hg
        replace hJ2 := Lib.hid hJ2
        clear hnext hno cgx hb hg z0 z1 z2 z3 z4 z5 z6 z7 z8 z9
        go_wp2_with (at_builtin; refine wpList_append_go rfl (.tmp 28) (.tmp 33) 26 26 rfl _ _ rfl rfl run1 ?_)
        go_roundg (L.length - (i + 1))
        case measure => omega
        case rel => exact ⟨i + 1, by go_num, by omega, hJ2⟩
    · have hie : i = L.length := by omega
      subst hie
      have f1 := Lib.hid (fin.out _ _ _ hJ.out)
      clear hJ stp fin cg hi
      go_wp2_with fail
      go_ret2
      exact f1.out
end
end Go.Proofs.Ytofkakcnipaheaa
