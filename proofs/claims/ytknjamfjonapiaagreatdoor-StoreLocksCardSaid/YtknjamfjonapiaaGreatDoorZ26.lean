import Derived.Test.YtknjamfjonapiaaGreatDoorZ24
import Derived.Test.YtknjamfjonapiaaGreatDoorZ25
namespace Go.Proofs.YtknjamfjonapiaaGreatDoor
open Go.RowKit
set_option linter.unusedVariables false
set_option linter.unusedSectionVars false
set_option linter.unusedSimpArgs false
set_option maxRecDepth 100000
abbrev mailO (e : Ent) (tv : Value) (rf : Bool) : Obj := .cells #[.int .i64 e.id, .int .i64 e.body, .int .i64 e.size, tx e.exch, tx e.key, .int .i64 e.prio, .int .i64 e.ttl, .int .i64 e.til, .bool e.again, .int .i64 e.hops, tv, .bool rf] 156
def ptrsOf (bs : List Nat) (way : List Nat) : List Value := way.map fun i => bpt (bs.getD i 0)
def WayIs (bs : List Nat) (tv : Value) (way : List Nat) (Z : List (Nat × Obj)) : Prop := SlIs 131 1 tv way.length (ptrsOf bs way) Z
def wayTo (S : Sto) (l : List (List UInt8)) : List Nat := l.filterMap S.idx
def NewMailJ (qT : Bool) (B : Nat) (w0 : World) (sb mb : Nat) (bs : List Nat) (S : Sto) (F : List (Nat × Obj)) (c : Nat) (e : Ent) (l : List (List UInt8)) (g : Nat) (a' : Act) (w' : World) : Prop :=
 ∃ (i cp : Nat) (a : Option Addr) (tv : Value) (Y Z : List (Nat × Obj)), i + g = l.length ∧ Fr 60 [(0, bpt sb), (5, bpt mb), (6, .slice a l.length cp), (8, .int .i64 i)] a' ∧ TssIs (.slice a l.length cp) l Y ∧ WayIs bs tv (wayTo S (l.take i)) Z ∧
  StoIs qT B w0 w' sb bs S ((mb, mailO e tv false) :: (Z ++ (Y ++ F))) c
section
variable {qT : Bool} {B : Nat} {w0 w w' : World} {sb slb xb pb qb gb c c' i k b : Nat} {bs : List Nat} {S S' : Sto} {L : List Pq} {xv v : Value} {d d' : Plq} {R SX SS F F' Z Y : List (Nat × Obj)} {o : Opt} {M : List Ent} {G : List Gst} {T : Nat} {n : List UInt8} {q z bt : Int} {e e0 : Ent} {g : Gst} {tv : Value} {rf : Bool}
theorem StoIs.rowAt {T : TypeId} {a : Option Addr} {cp m : Nat} {xs : List Value} (h : StoIs qT B w0 w sb bs S F c) (hs : SlIs T 1 (.slice a m cp) m xs Y) (hp : F.Perm (F' ++ Y)) {j : Nat} {u : Value} (hj : xs[j]? = some u) : ∃ g off, a = some ⟨g, off, none⟩ ∧ w.cell? ⟨g, off + j, none⟩ = some u := by
 obtain ⟨O, o1, -⟩ := h.beside
 have o2 : St B w0 w ((O ++ F') ++ Y) := by
  rw [List.append_assoc]
  exact o1.perm (hp.append_left O)
 obtain ⟨a', cap', e, -, -, ha⟩ := hs.form
 cases e
 have hl := (List.getElem?_eq_some_iff.1 hj).1
 rw [hs.len, Nat.mul_one] at hl
 obtain ⟨g, off, rfl⟩ := ha j hl
 exact ⟨g, off, rfl, hs.cellAt o2 hj⟩
theorem way_push {mb : Nat} {way : List Nat} (h : StoIs qT B w0 w sb bs S ((mb, mailO e tv rf) :: (Z ++ F)) c) (hw : WayIs bs tv way Z) (hb : bs[i]? = some pb) (hl : way.length ≤ 100000) :
  ∃ a cap a2 cap2 W Z', tv = .slice a way.length cap ∧ (w.cell? ⟨mb, 10, none⟩ = some tv ∧ (w.alloc (.cells #[bpt pb] 131)).cell? ⟨mb, 10, none⟩ = some tv ∧ W.cell? ⟨mb, 10, none⟩ = some tv ∧ W.frozen? ⟨mb, 10, none⟩ = false) ∧
  AppRun Tryz.prog 90 tv (.slice (some ⟨w.heap.size, 0, none⟩) 1 1) (w.alloc (.cells #[bpt pb] 131)) (.slice a2 (way.length + 1) cap2) W ∧ WayIs bs (.slice a2 (way.length + 1) cap2) (way ++ [i]) Z' ∧
  StoIs qT B w0 (W.setCell ⟨mb, 10, none⟩ (.slice a2 (way.length + 1) cap2)) sb bs S ((mb, mailO e (.slice a2 (way.length + 1) cap2) rf) :: (Z' ++ F)) c := by
 have h1 := h.alloc (.cells #[bpt pb] 131)
 have k1 : w.cell? ⟨mb, 10, none⟩ = some tv := h.cell List.mem_cons_self rfl
 have k2 : (w.alloc (.cells #[bpt pb] 131)).cell? ⟨mb, 10, none⟩ = some tv := h1.cell (b := mb) (List.mem_cons_of_mem _ List.mem_cons_self) rfl
 obtain ⟨a, cap, etv, -⟩ := SlIs.form hw
 obtain ⟨O, o1, -, o2⟩ := h1.beside
 have hp : ∀ Z, (O ++ ((w.heap.size, Obj.cells #[bpt pb] 131 (0, 0)) :: (mb, mailO e tv rf) :: (Z ++ F))).Perm ((O ++ ((w.heap.size, .cells #[bpt pb] 131) :: (mb, mailO e tv rf) :: F)) ++ Z) := fun Z => perm_by fun a => by
  simp only [List.count_append, List.count_cons]; omega
 obtain ⟨a2, cap2, W, Z', hrun, hsl, hst⟩ := apQ.append hw (o1.perm (hp Z)) (Reads.one w (bpt pb) 131) (fun u hu => by rw [List.mem_singleton] at hu; subst hu; rfl) (by unfold maxLen; omega) (by omega)
 have h2 := o2 _ _ (hst.perm (hp Z').symm)
 have h3 := h2.sub (List.sublist_cons_self _ _)
 have hfz := h3.soft (b := mb) List.mem_cons_self 10
 have k3 : W.cell? ⟨mb, 10, none⟩ = some tv := h3.cell List.mem_cons_self rfl
 have h4 := h3.setF 10 (.slice a2 (way.length + 1) cap2)
 refine ⟨a, cap, a2, cap2, W, Z', etv, ⟨k1, k2, k3, hfz⟩, ⟨hrun⟩, ?_, h4⟩
 unfold WayIs
 have e1 : ptrsOf bs (way ++ [i]) = ptrsOf bs way ++ [bpt pb] := by
  unfold ptrsOf
  rw [List.map_append, List.map_cons, List.map_nil, List.getD_eq_getElem?_getD, hb]
  rfl
 rw [List.length_append, e1]
 exact hsl
theorem wayTo_none {l : List (List UInt8)} (hx : l[i]? = some n) (hn : S.idx n = none) : wayTo S (l.take (i + 1)) = wayTo S (l.take i) := by
 unfold wayTo
 rw [List.take_add_one, hx, List.filterMap_append]
 simp [hn]
theorem wayTo_some {l : List (List UInt8)} (hx : l[i]? = some n) (hn : S.idx n = some k) : wayTo S (l.take (i + 1)) = wayTo S (l.take i) ++ [k] := by
 unfold wayTo
 rw [List.take_add_one, hx, List.filterMap_append]
 simp [hn]
theorem wayTo_len (S : Sto) (l : List (List UInt8)) : (wayTo S l).length ≤ l.length := List.length_filterMap_le _ _
def RouC (B : Nat) (w0 : World) (P : List Plc) (A : List Bnd) (c : Nat) : Prop := ∀ (w : World) (xb : Nat) (F : List (Nat × Obj)) (n key : List UInt8) (l : List (List UInt8)) (ok : Bool), ExIs B w0 w xb P A F c → key.length ≤ 1000 → routeX P A n key = (l, ok) →
 Calls Tryz.prog 148 #[bpt xb, tx n, tx key] w fun e w' => ∃ a cap S, e = .returned (.tuple #[.slice a l.length cap, .bool ok]) ∧ TssIs (.slice a l.length cap) l S ∧ ExIs B w0 w' xb P A (S ++ F) c
def NewMailR (qT : Bool) (B : Nat) (w0 : World) (sb : Nat) (bs : List Nat) (S : Sto) (F : List (Nat × Obj)) (c : Nat) (e : Ent) (r : Ending) (w' : World) : Prop :=
 ∃ mb tv Z, r = .returned (bpt mb) ∧ WayIs bs tv (S.tos e.exch e.key) Z ∧ StoIs qT B w0 w' sb bs S.born ((mb, mailO { e with id := S.last + 1 } tv false) :: (Z ++ F)) c
theorem StoIs.bornS (h : StoIs qT B w0 w sb bs S F c) : StoIs qT B w0 (w.setCell ⟨sb, 4, none⟩ (.int .i64 (S.last + 1))) sb bs S.born F c := by
 obtain ⟨L, slb, xv, v, R, SX, SS, h1, h2⟩ := h
 exact ⟨L, slb, xv, v, R, SX, SS, { h1 with fine := ⟨h1.fine.few, h1.fine.once, h1.fine.nums, h1.fine.top, h1.fine.num0, h1.fine.each, h1.fine.fine⟩ }, St.set0 h2 4 _⟩
set_option maxHeartbeats 4000000 in
theorem newmail_any (h : StoIs qT B w0 w sb bs S F c) (e : Ent) (hl0 : -1 ≤ S.last) (hl1 : S.last < 4611686018427387904) (hk : e.key.length ≤ 1000) (hR : RouC B w0 S.P S.A c) : Calls Tryz.prog 79 #[bpt sb, enV e] w (NewMailR qT B w0 sb bs S F c e) := by
 have h0 := h.alloc (enO e)
 obtain ⟨slb, xv, v, hsee⟩ := h0.see
 have k4 := hsee.c4
 have f4 := hsee.soft 4
 have hb := h0.bornS
 have k4' : ((w.alloc (enO e)).setCell ⟨sb, 4, none⟩ (.int .i64 (S.last + 1))).cell? ⟨sb, 4, none⟩ = some (.int .i64 (S.last + 1)) := by
  obtain ⟨_, _, _, hs⟩ := hb.see
  exact hs.c4
 obtain ⟨⟨z0, z1, z2, z3, z4, z5, z6, z7, z8, z9⟩, zs⟩ := hb.enAt (k := w.heap.size) (e := e) List.mem_cons_self
 have he := hb.setF 0 (.int .i64 (S.last + 1))
 obtain ⟨W2, hW2⟩ : ∃ W2, W2 = ((w.alloc (enO e)).setCell ⟨sb, 4, none⟩ (.int .i64 (S.last + 1))).setCell ⟨w.heap.size, 0, none⟩ (.int .i64 (S.last + 1)) := ⟨_, rfl⟩
 rw [← hW2] at he
 have he2 : StoIs qT B w0 W2 sb bs S.born ((w.heap.size, enO { e with id := S.last + 1 }) :: F) c := he
 have zE := (he2.enAt (e := { e with id := S.last + 1 }) List.mem_cons_self).1
 obtain ⟨e', he'⟩ : ∃ e' : Ent, e' = { e with id := S.last + 1 } := ⟨_, rfl⟩
 rw [← he'] at he2 zE
 have hex : e'.exch = e.exch ∧ e'.key = e.key := by rw [he']; exact ⟨rfl, rfl⟩
 obtain ⟨l, ok, hroute⟩ : ∃ l ok, routeX S.P S.A e.exch e.key = (l, ok) := ⟨_, _, rfl⟩
 have hlen : l.length ≤ 40 := by
  have := route_len (P := S.P) (A := S.A) h.fine.fine.rows.few e.exch e.key
  rw [hroute] at this
  exact this
 have htos : S.tos e.exch e.key = wayTo S.born l := by unfold Sto.tos wayTo; rw [hroute]; rfl
 have h3 := (he2.alloc (mailO e' (.slice none 0 0) false)).grow (drew_b _)
 have fin : Hid (∀ w' mb tv Z Y cp a, TssIs (.slice a l.length cp) l Y → WayIs bs tv (wayTo S.born (l.take l.length)) Z → StoIs qT B w0 w' sb bs S.born ((mb, mailO e' tv false) :: (Z ++ (Y ++ ((w.heap.size, enO e') :: F)))) c → NewMailR qT B w0 sb bs S F c e (.returned (bpt mb)) w') := Lib.hid fun w' mb tv Z Y cp a _ hw h' => by
  rw [List.take_of_length_le (Nat.le_refl _), ← htos] at hw
  rw [he'] at h'
  refine ⟨mb, tv, Z, rfl, hw, h'.sub (List.Sublist.cons_cons _ (List.Sublist.append (List.Sublist.refl Z) ?_))⟩
  exact (List.sublist_cons_self _ F).trans (List.sublist_append_right Y _)
 have cw : Hid (∀ W, StoIs qT B w0 W sb bs S.born ((W2.heap.size, mailO e' (.slice none 0 0) false) :: (w.heap.size, enO e') :: F) c → Calls Tryz.prog 63 #[bpt sb] W fun r w' => ∃ xb, r = .returned (bpt xb) ∧ StoX qT B w0 w' sb bs S.born ((W2.heap.size, mailO e' (.slice none 0 0) false) :: (w.heap.size, enO e') :: F) c xb ∧ (w'.cell? ⟨w.heap.size, 3, none⟩ = some (tx e'.exch) ∧ w'.cell? ⟨w.heap.size, 4, none⟩ = some (tx e'.key))) := Lib.hid fun W h' => (st_ways h').mono (by
  rintro r w' ⟨xb, rfl, hx⟩
  have h4 := hx.same h.c1
  exact ⟨xb, rfl, hx, h4.cell (b := w.heap.size) (List.mem_cons_of_mem _ List.mem_cons_self) rfl, h4.cell (b := w.heap.size) (List.mem_cons_of_mem _ List.mem_cons_self) rfl⟩)
 have cr : Hid (∀ W xb, StoX qT B w0 W sb bs S.born ((W2.heap.size, mailO e' (.slice none 0 0) false) :: (w.heap.size, enO e') :: F) c xb → Calls Tryz.prog 148 #[bpt xb, tx e'.exch, tx e'.key] W fun r w' => ∃ a cp Y, r = .returned (.tuple #[.slice a l.length cp, .bool ok]) ∧ (TssIs (.slice a l.length cp) l Y ∧ StoIs qT B w0 w' sb bs S.born ((W2.heap.size, mailO e' (.slice none 0 0) false) :: ([] ++ (Y ++ ((w.heap.size, enO e') :: F)))) c) ∧ (w'.cell? ⟨w.heap.size, 3, none⟩ = some (tx e'.exch) ∧ w'.cell? ⟨w.heap.size, 4, none⟩ = some (tx e'.key))) := Lib.hid fun W xb hx => by
  obtain ⟨Z, x1, x2⟩ := hx
  rw [hex.1, hex.2]
  refine (hR _ _ _ _ _ _ _ x1 hk hroute).mono ?_
  rintro r w' ⟨a, cp, Y, rfl, hy, h'⟩
  have h4 := x2 _ _ _ (Y ++ ((W2.heap.size, mailO e' (.slice none 0 0) false) :: (w.heap.size, enO e') :: F)) _ h.c1 (h'.permF (perm_by fun a => by simp only [List.count_append]; omega))
  have h5 : StoIs qT B w0 w' sb bs S.born ((W2.heap.size, mailO e' (.slice none 0 0) false) :: ([] ++ (Y ++ ((w.heap.size, enO e') :: F)))) c := h4.permF List.perm_middle
  refine ⟨a, cp, Y, rfl, ⟨hy, h5⟩, ?_⟩
  have k3 := h4.cell (b := w.heap.size) (i := 3) (List.mem_append_right _ (List.mem_cons_of_mem _ List.mem_cons_self)) rfl
  have k4 := h4.cell (b := w.heap.size) (i := 4) (List.mem_append_right _ (List.mem_cons_of_mem _ List.mem_cons_self)) rfl
  rw [hex.1] at k3
  rw [hex.2] at k4
  exact ⟨k3, k4⟩
 have hs0 : Hid ((W2.alloc (mailO e' (.slice none 0 0) false)).drew.cell? ⟨w.heap.size, 3, none⟩ = some (tx e'.exch) ∧ (W2.alloc (mailO e' (.slice none 0 0) false)).drew.cell? ⟨w.heap.size, 4, none⟩ = some (tx e'.key)) := Lib.hid ⟨h3.cell (b := w.heap.size) (List.mem_cons_of_mem _ List.mem_cons_self) rfl, h3.cell (b := w.heap.size) (List.mem_cons_of_mem _ List.mem_cons_self) rfl⟩
 have hw1 : IntKind.i64.wrap (S.last + 1) = S.last + 1 := by rw [IntKind.wrap_i64]; omega
 have hw2 : wrap64 (S.last + 1) = S.last + 1 := by unfold wrap64; omega
 obtain ⟨W3, hW3⟩ : ∃ W3, W3 = W2.alloc (mailO e' (.slice none 0 0) false) := ⟨_, rfl⟩
 rw [← hW3] at h3 hs0
 replace hW2 := Lib.hid hW2
 replace hW3 := Lib.hid hW3
 have hlen2 := Lib.hid hlen
 have hbl := Lib.hid h.len
 generalize hS1 : S.born = S1 at *
 clear h h0 hsee hb he he2 he' hex hroute htos hlen hS1 hk hR
 go_enter Tryz.func79, Tryz.ntmps79
 go_wp2_with fail
 refine wp_scope_ghost 0 (NewMailJ qT B w0 sb W2.heap.size bs S1 ((w.heap.size, enO e') :: F) c e' l) rfl ?_ ?_
 ·clear hs0 cr cw h3 zE z0 z1 z2 z3 z4 z5 z6 z7 z8 z9 zs k4 k4' f4 hW2 hW3 hw1 hw2 hl0 hl1
  generalize W2.heap.size = mb at *
  rintro m a' w' ⟨i, cp, a, tv, Y, Z, hi, hfr, hy, hw, hI⟩
  obtain ⟨q, rfl, hl'⟩ := hfr.lit
  clear hfr
  simp only [List.mem_cons, List.not_mem_nil, or_false, forall_eq_or_imp, forall_eq] at hl'
  obtain ⟨f0, f5, f6, f8⟩ := hl'
  simp only [List.range, List.range.loop, List.map, f0, f5, f6, f8]
  clear f0 f5 f6 f8
  have hi0 : (0 : Int) ≤ i := by omega
  by_cases hlt : i < l.length
  ·have hx : l[i]? = some l[i] := List.getElem?_eq_getElem hlt
   generalize l[i] = n at hx
   have hi1 : (i : Int) < l.length := by omega
   have hl40 : (l.length : Int) ≤ 40 := by have := hlen2.out; omega
   have hne : ((i : Int) == l.length) = false := by rw [beq_eq_false_iff_ne]; omega
   have hpm : ((mb, mailO e' tv false) :: (Z ++ (Y ++ ((w.heap.size, enO e') :: F)))).Perm (((mb, mailO e' tv false) :: (Z ++ ((w.heap.size, enO e') :: F))) ++ Y) := perm_by fun a => by simp only [List.count_append, List.count_cons]; omega
   obtain ⟨g1, o1, rfl, k1⟩ := hI.rowAt hy hpm (j := i) (u := tx n) (by rw [List.getElem?_map, hx]; rfl)
   have cn := Lib.hid (named_any hI n)
   cases hn : S1.idx n with
   | none =>
    rw [hn, ptrQ_none] at cn
    have nxt : Hid (∀ w2, Below w'.heap.size w' w2 → ∀ a', Fr 60 [(0, bpt sb), (5, bpt mb), (6, .slice (some ⟨g1, o1, none⟩) l.length cp), (8, .int .i64 ((i + 1 : Nat) : Int))] a' → ∃ k, k < m ∧ NewMailJ qT B w0 sb mb bs S1 ((w.heap.size, enO e') :: F) c e' l k a' w2) :=
     Lib.hid fun w2 hb a' hf => ⟨m - 1, by omega, i + 1, cp, _, tv, Y, Z, by omega, hf, hy, by rw [wayTo_none hx hn]; exact hw, hI.grow hb⟩
    clear hx hI hw hy hn hpm fin hbl hlen2
    go_wp2_with fail
    refine cn.out.mono ?_
    rintro r w2 ⟨rfl, hb⟩
    replace nxt := Lib.hid (nxt.out w2 hb)
    clear cn hb k1
    go_wp2_with fail
    refine wp_goto ?_
    exact ⟨rfl, nxt.out _ ⟨rfl, rfl, by simp⟩⟩
   | some k =>
    have hkl := (List.findIdx?_eq_some_iff_getElem.1 hn).1
    obtain ⟨pb, hpk⟩ := hI.blk (List.getElem?_eq_getElem hkl)
    rw [hn, ptrQ_some hpk] at cn
    have stp : Hid (∀ w2, Below w'.heap.size w' w2 → ∃ a cap a2 cap2 W, tv = .slice a (wayTo S1 (l.take i)).length cap ∧ (w2.cell? ⟨mb, 10, none⟩ = some tv ∧ (w2.alloc (.cells #[bpt pb] 131)).cell? ⟨mb, 10, none⟩ = some tv ∧ W.cell? ⟨mb, 10, none⟩ = some tv ∧ W.frozen? ⟨mb, 10, none⟩ = false) ∧
      AppRun Tryz.prog 90 tv (.slice (some ⟨w2.heap.size, 0, none⟩) 1 1) (w2.alloc (.cells #[bpt pb] 131)) (.slice a2 ((wayTo S1 (l.take i)).length + 1) cap2) W ∧
      ∀ a', Fr 60 [(0, bpt sb), (5, bpt mb), (6, .slice (some ⟨g1, o1, none⟩) l.length cp), (8, .int .i64 ((i + 1 : Nat) : Int))] a' → ∃ k, k < m ∧ NewMailJ qT B w0 sb mb bs S1 ((w.heap.size, enO e') :: F) c e' l k a' (W.setCell ⟨mb, 10, none⟩ (.slice a2 ((wayTo S1 (l.take i)).length + 1) cap2))) := Lib.hid fun w2 hb => by
     have hwl := wayTo_len S1 (l.take i)
     have hl2 := hlen2.out
     rw [List.length_take] at hwl
     obtain ⟨a, cap, a2, cap2, W, Z', p1, p2, p3, p4, p5⟩ := way_push (hI.grow hb) hw hpk (by omega)
     exact ⟨a, cap, a2, cap2, W, p1, p2, p3, fun a' hf => ⟨m - 1, by omega, i + 1, cp, _, _, Y, Z', by omega, hf, hy, by rw [wayTo_some hx hn]; exact p4, p5⟩⟩
    have npb : ∀ w, (binOp .neq 131 (bpt pb) (.pointer none)).run Tryz.prog w = .ok (.bool true) w := fun w => by kernel_rfl
    clear hx hI hw hy hn hpm fin hbl hlen2 hpk hkl
    generalize (wayTo S1 (l.take i)).length = wl at *
    go_wp2_with fail
    refine cn.out.mono ?_
    rintro r w2 ⟨rfl, hb⟩
    obtain ⟨a3, cap3, a2, cap2, W, rfl, ⟨k5, k6, k7, k8⟩, hrun, nxt⟩ := stp.out w2 hb
    replace nxt := Lib.hid nxt
    generalize wl + 1 = wl1 at *
    clear cn hb k1 stp
    go_wp2_with (at_builtin; refine wpList_append_go rfl (.tmp 52) (.tmp 54) 90 90 rfl _ _ rfl rfl hrun.run ?_)
    refine wp_goto ?_
    exact ⟨rfl, nxt.out _ ⟨rfl, rfl, by simp⟩⟩
  ·obtain rfl : i = l.length := by omega
   have f := Lib.hid (fin.out _ _ _ _ _ _ _ hy hw hI)
   clear fin hy hw hI hbl hlen2
   go_wp2_with fail
   simp only [Exit.jump]
   go_ret
   exact f.out
 ·intro H
  clear fin
  go_upto_region 3 with fail
  rw [← hW2.out]
  clear hW2 z0 z1 z2 z3 z4 z5 z6 z7 z8 z9 zs k4 k4' f4
  obtain ⟨z0, z1, z2, z3, z4, z5, z6, z7, z8, z9⟩ := zE
  go_upto_region 4 with fail
  rw [← hW3.out]
  clear hW3 z0 z1 z2 z3 z4 z5 z6 z7 z8 z9
  clear hw1 hw2 hl0 hl1 hbl hlen2
  go_wp2_with fail
  go_region_held3 (fun x => x.cell? ⟨w.heap.size, 3, none⟩ = some (tx e'.exch) ∧ x.cell? ⟨w.heap.size, 4, none⟩ = some (tx e'.key)) (first | with_reducible exact kS | with_reducible exact hs0.out) (first
   | (go_at_call 63; refine (cw.out _ (by assumption)).mono ?_; rintro r w4 ⟨xb, rfl, hX, kS⟩)
   | (go_at_call 148; refine (cr.out _ _ (by assumption)).mono ?_; rintro r w4 ⟨a, cp, Y, rfl, hY, kS⟩))
  replace hY := Lib.hid hY
  clear hX h3 hs0 kS cw cr
  go_wp2_with fail
  refine wp_label ?_
  go_step
  go_step
  exact H l.length _ _ ⟨0, cp, a, _, Y, [], by omega, ⟨rfl, rfl, by simp⟩, hY.out.1, SlIs.nil, hY.out.2⟩
end
def letV (r : Option Ent) : Value := match r with | none => .tuple #[enV z0E, .bool false] | some y => .tuple #[enV y, .bool true]
section
variable {qT : Bool} {B : Nat} {w0 w w' : World} {sb slb xb pb qb gb c c' i k b : Nat} {bs : List Nat} {S S' : Sto} {L : List Pq} {xv v : Value} {d d' : Plq} {R SX SS F F' Z Y : List (Nat × Obj)} {o : Opt} {M : List Ent} {G : List Gst} {T : Nat} {n : List UInt8} {q z bt : Int} {e e0 x : Ent} {g : Gst} {tv : Value} {rf : Bool}
theorem pl_opts (h : StoIs qT B w0 w sb bs S F c) (hi : S.L[i]? = some d) (hb : bs[i]? = some pb) : ∃ qb, w.cell? ⟨pb, 3, none⟩ = some (rptr qb) ∧ Calls Tryz.prog 138 #[rptr qb] w fun r w' => r = .returned (opV d.o) ∧ StoIs qT B w0 w' sb bs S F c := by
 obtain ⟨pb', qb, gb, h1, h2, ⟨Z, h3, h4⟩, -⟩ := h.place hi
 rw [hb] at h1
 obtain rfl := Option.some.inj h1
 refine ⟨qb, h2.c3, (qu_opts h3).mono ?_⟩
 rintro r w' ⟨rfl, h5⟩
 have h7 := (h4 _ _ _ h5).2
 rw [setM_same hi] at h7
 exact ⟨rfl, h7⟩
set_option maxHeartbeats 4000000 in
theorem letter_any (h : StoIs qT B w0 w sb bs S F c) (hi : S.L[i]? = some d) (hb : bs[i]? = some pb) (hx : -9223372036854775808 ≤ x.hops) :
  Calls Tryz.prog 367 #[bpt sb, bpt pb, enV x] w fun r w' => r = .returned (letV (S.letter d.o x)) ∧ StoIs qT B w0 w' sb bs S F c := by
 have h0 : StoIs qT B w0 ((w.alloc (enO x)).alloc (enO z0E)) sb bs S (((w.alloc (enO x)).heap.size, enO z0E) :: (w.heap.size, enO x) :: F) c := (h.alloc (enO x)).alloc (enO z0E)
 rw [World.size_alloc] at h0
 obtain ⟨qb, k3, cop⟩ := pl_opts h0 hi hb
 have k3' := k3
 have co := Lib.hid cop
 have hch : Hid (∀ w1 (bad : Bool), hasX S.P d.o.dead = bad → StoIs qT B w0 w1 sb bs S ((w.heap.size + 1, enO z0E) :: (w.heap.size, enO x) :: F) c → OpC (w1.alloc (opO d.o)) w1.heap.size d.o ∧ EnAt (w1.alloc (opO d.o)) w.heap.size x ∧ EnAt (w1.alloc (opO d.o)) (w.heap.size + 1) z0E ∧ (∀ i, (w1.alloc (opO d.o)).frozen? ⟨w.heap.size + 1, i, none⟩ = false) ∧
   (EnAt (enPut (w1.alloc (opO d.o)) (w.heap.size + 1) z0E) (w.heap.size + 1) z0E ∧ StoIs qT B w0 (enPut (w1.alloc (opO d.o)) (w.heap.size + 1) z0E) sb bs S F c) ∧
   Calls Tryz.prog 17 #[bpt sb, tx d.o.dead] (w1.alloc (opO d.o)) fun e w' => e = .returned (.bool bad) ∧ OpC w' w1.heap.size d.o ∧ EnAt w' w.heap.size x ∧ (∀ i, w'.frozen? ⟨w.heap.size, i, none⟩ = false) ∧ EnAt w' (w.heap.size + 1) z0E ∧ (∀ i, w'.frozen? ⟨w.heap.size + 1, i, none⟩ = false) ∧
    StoIs qT B w0 w' sb bs S ((w1.heap.size, opO d.o) :: (w.heap.size + 1, enO z0E) :: (w.heap.size, enO x) :: F) c) := Lib.hid fun w1 bad hbad h' => by
  have h2 := h'.alloc (opO d.o)
  have ret : ∀ w', StoIs qT B w0 w' sb bs S ((w1.heap.size, opO d.o) :: (w.heap.size + 1, enO z0E) :: (w.heap.size, enO x) :: F) c → EnAt (enPut w' (w.heap.size + 1) z0E) (w.heap.size + 1) z0E ∧ StoIs qT B w0 (enPut w' (w.heap.size + 1) z0E) sb bs S F c := fun w' h3 => by
   have h4 := (h3.permF (List.Perm.swap _ _ _)).ret_e z0E
   exact ⟨h4.2.2.1, h4.2.2.2.sub ((List.sublist_cons_self _ _).trans (List.sublist_cons_self _ _))⟩
  have c0 := h2.opC (b := w1.heap.size) (x := d.o) List.mem_cons_self
  have c1 := h2.enAt (k := w.heap.size) (e := x) (List.mem_cons_of_mem _ (List.mem_cons_of_mem _ List.mem_cons_self))
  have c2 := h2.enAt (k := w.heap.size + 1) (e := z0E) (List.mem_cons_of_mem _ List.mem_cons_self)
  refine ⟨c0, c1.1, c2.1, c2.2, ret _ h2, (st_has h2 d.o.dead).mono ?_⟩
  rintro e w' ⟨rfl, h3⟩
  have c1 := h3.enAt (k := w.heap.size) (e := x) (List.mem_cons_of_mem _ (List.mem_cons_of_mem _ List.mem_cons_self))
  have c2 := h3.enAt (k := w.heap.size + 1) (e := z0E) (List.mem_cons_of_mem _ List.mem_cons_self)
  exact ⟨by rw [hbad], h3.opC List.mem_cons_self, c1.1, c1.2, c2.1, c2.2, h3⟩
 have hret := Lib.hid (fun ob w' (h' : StoIs qT B w0 w' sb bs S ((ob, opO d.o) :: (w.heap.size + 1, enO z0E) :: (w.heap.size, enO x) :: F) c) => (h'.permF (List.Perm.swap _ _ _)).ret_e z0E)
 have hsub : Hid (∀ ob w', StoIs qT B w0 w' sb bs S ((ob, opO d.o) :: (w.heap.size, enO x) :: F) c → StoIs qT B w0 w' sb bs S F c) := Lib.hid fun ob w' h' => h'.sub ((List.sublist_cons_self _ _).trans (List.sublist_cons_self _ _))
 have hst : Hid (∀ ob w' (ky : List UInt8) (W : World), W = (((w'.setCell ⟨w.heap.size, 6, none⟩ (.int .i64 0)).setCell ⟨w.heap.size, 8, none⟩ (.bool false)).setCell ⟨w.heap.size, 9, none⟩ (.int .i64 (x.hops + 1))) → StoIs qT B w0 w' sb bs S ((ob, opO d.o) :: (w.heap.size + 1, enO z0E) :: (w.heap.size, enO { x with exch := d.o.dead, key := ky }) :: F) c →
   EnAt W w.heap.size { x with exch := d.o.dead, key := ky, ttl := 0, again := false, hops := x.hops + 1 } ∧ EnAt W (w.heap.size + 1) z0E ∧ (∀ i, W.frozen? ⟨w.heap.size + 1, i, none⟩ = false) ∧
   EnAt (enPut W (w.heap.size + 1) { x with exch := d.o.dead, key := ky, ttl := 0, again := false, hops := x.hops + 1 }) (w.heap.size + 1) { x with exch := d.o.dead, key := ky, ttl := 0, again := false, hops := x.hops + 1 } ∧
   StoIs qT B w0 (enPut W (w.heap.size + 1) { x with exch := d.o.dead, key := ky, ttl := 0, again := false, hops := x.hops + 1 }) sb bs S F c) := Lib.hid fun ob w' ky W hW h' => by
  have p1 : ((ob, opO d.o) :: (w.heap.size + 1, enO z0E) :: (w.heap.size, enO { x with exch := d.o.dead, key := ky }) :: F).Perm ((w.heap.size, enO { x with exch := d.o.dead, key := ky }) :: (w.heap.size + 1, enO z0E) :: (ob, opO d.o) :: F) := perm_by fun a => by simp only [List.count_cons]; omega
  have h2 := (((h'.permF p1).setF 6 (.int .i64 0)).setF 8 (.bool false)).setF 9 (.int .i64 (x.hops + 1))
  rw [← hW] at h2
  have h3 : StoIs qT B w0 W sb bs S ((w.heap.size, enO { x with exch := d.o.dead, key := ky, ttl := 0, again := false, hops := x.hops + 1 }) :: (w.heap.size + 1, enO z0E) :: (ob, opO d.o) :: F) c := h2
  have h4 := (h3.permF (List.Perm.swap _ _ _)).ret_e { x with exch := d.o.dead, key := ky, ttl := 0, again := false, hops := x.hops + 1 }
  exact ⟨(h3.enAt List.mem_cons_self).1, h4.1, h4.2.1, h4.2.2.1, h4.2.2.2.sub ((List.sublist_cons_self _ _).trans (List.sublist_cons_self _ _))⟩
 have hk3 : Hid (∀ ob w', StoIs qT B w0 w' sb bs S ((ob, opO d.o) :: (w.heap.size + 1, enO z0E) :: (w.heap.size, enO x) :: F) c → StoIs qT B w0 (w'.setCell ⟨w.heap.size, 3, none⟩ (tx d.o.dead)) sb bs S ((ob, opO d.o) :: (w.heap.size + 1, enO z0E) :: (w.heap.size, enO { x with exch := d.o.dead, key := x.key }) :: F) c) := Lib.hid fun ob w' h' => h'.setB (X := [(ob, opO d.o), (w.heap.size + 1, enO z0E)]) 3 (tx d.o.dead)
 have hk4 : Hid (∀ ob w', StoIs qT B w0 w' sb bs S ((ob, opO d.o) :: (w.heap.size + 1, enO z0E) :: (w.heap.size, enO { x with exch := d.o.dead, key := x.key }) :: F) c → StoIs qT B w0 (w'.setCell ⟨w.heap.size, 4, none⟩ (tx d.o.deadKey)) sb bs S ((ob, opO d.o) :: (w.heap.size + 1, enO z0E) :: (w.heap.size, enO { x with exch := d.o.dead, key := d.o.deadKey }) :: F) c) := Lib.hid fun ob w' h' => h'.setB (X := [(ob, opO d.o), (w.heap.size + 1, enO z0E)]) 4 (tx d.o.deadKey)
 unfold Sto.letter
 have hwr : x.hops < 3 → IntKind.i64.wrap (x.hops + 1) = x.hops + 1 ∧ wrap64 (x.hops + 1) = x.hops + 1 := fun h3 => ⟨by rw [IntKind.wrap_i64]; omega, by unfold wrap64; omega⟩
 clear cop k3 h0
 have k3 : ((w.alloc (enO x)).alloc (enO z0E)).cell? ⟨pb, 3, none⟩ = some (rptr qb) := k3'
 clear k3'
 generalize d.o = ob at *
 obtain ⟨dd, dk, o1, o2, o3, o4⟩ := ob
 simp only at *
 unfold letV
 by_cases hA : dd = [] ∧ dk = []
 ·obtain ⟨rfl, rfl⟩ := hA
  rw [if_pos (.inl ⟨rfl, rfl⟩)]
  clear hst hk3 hk4 hret hsub hwr h hi hb hx
  go_enter Tryz.func367, Tryz.ntmps367
  go_wp2_with fail
  refine co.out.mono ?_
  rintro r w1 ⟨rfl, h1⟩
  obtain ⟨⟨j0, j1, j2, j3, j4, j5⟩, ⟨y0, y1, y2, y3, y4, y5, y6, y7, y8, y9⟩, ⟨z0, z1, z2, z3, z4, z5, z6, z7, z8, z9⟩, zs, ⟨finE, fin⟩, -⟩ := hch.out w1 _ rfl h1
  replace finE := Lib.hid finE
  replace fin := Lib.hid fin
  clear co hch h1 k3
  go_wp2_with fail
  exact bodyPost_ret (ret_entry2 (e := z0E) rfl rfl rfl finE.out rfl) rfl ⟨rfl, fin.out⟩
 have hdk : dd = [] → (dk == []) = false ∧ dk.isEmpty = false := fun e => by
  have : dk ≠ [] := fun e2 => hA ⟨e, e2⟩
  exact ⟨by simpa using this, by simpa using this⟩
 by_cases hB : 3 ≤ x.hops
 ·rw [if_pos (.inr (.inl hB))]
  by_cases hd : dd = []
  ·subst hd
   obtain ⟨g1, g2⟩ := hdk rfl
   clear hst hk3 hk4 hret hsub hwr h hi hb hx hA hdk
   go_enter Tryz.func367, Tryz.ntmps367
   go_wp2_with fail
   refine co.out.mono ?_
   rintro r w1 ⟨rfl, h1⟩
   obtain ⟨⟨j0, j1, j2, j3, j4, j5⟩, ⟨y0, y1, y2, y3, y4, y5, y6, y7, y8, y9⟩, ⟨z0, z1, z2, z3, z4, z5, z6, z7, z8, z9⟩, zs, ⟨finE, fin⟩, -⟩ := hch.out w1 _ rfl h1
   replace finE := Lib.hid finE
   replace fin := Lib.hid fin
   clear co hch h1 k3
   go_wp2_with fail
   exact bodyPost_ret (ret_entry2 (e := z0E) rfl rfl rfl finE.out rfl) rfl ⟨rfl, fin.out⟩
  ·have g1 : (dd == []) = false := by simpa using hd
   have g2 : dd.isEmpty = false := by simpa using hd
   clear hst hk3 hk4 hret hsub hwr h hi hb hx hA hdk hd
   go_enter Tryz.func367, Tryz.ntmps367
   go_wp2_with fail
   refine co.out.mono ?_
   rintro r w1 ⟨rfl, h1⟩
   obtain ⟨⟨j0, j1, j2, j3, j4, j5⟩, ⟨y0, y1, y2, y3, y4, y5, y6, y7, y8, y9⟩, ⟨z0, z1, z2, z3, z4, z5, z6, z7, z8, z9⟩, zs, ⟨finE, fin⟩, -⟩ := hch.out w1 _ rfl h1
   replace finE := Lib.hid finE
   replace fin := Lib.hid fin
   clear co hch h1 k3
   go_wp2_with fail
   exact bodyPost_ret (ret_entry2 (e := z0E) rfl rfl rfl finE.out rfl) rfl ⟨rfl, fin.out⟩
 obtain ⟨hw1, hw2⟩ := hwr (by omega)
 have hB2 : x.hops < 3 := by omega
 have hB3 : ¬ (3 : Int) ≤ x.hops := hB
 cases hH : hasX S.P dd with
 | false =>
  rw [if_pos (.inr (.inr rfl))]
  have hd : dd ≠ [] := fun e => by rw [e] at hH; simp [hasX] at hH
  have g1 : (dd == []) = false := by simpa using hd
  have g2 : dd.isEmpty = false := by simpa using hd
  clear hst hk3 hk4 hwr h hi hb hx hA hdk hd hB hB2 hw1 hw2
  go_enter Tryz.func367, Tryz.ntmps367
  go_wp2_with fail
  refine co.out.mono ?_
  rintro r w1 ⟨rfl, h1⟩
  obtain ⟨⟨j0, j1, j2, j3, j4, j5⟩, ⟨y0, y1, y2, y3, y4, y5, y6, y7, y8, y9⟩, ⟨z0, z1, z2, z3, z4, z5, z6, z7, z8, z9⟩, zs, -, ch⟩ := hch.out w1 false hH h1
  replace ch := Lib.hid ch
  clear co hch h1 k3
  go_wp2_with fail
  refine ch.out.mono ?_
  rintro r w2 ⟨rfl, ⟨l0, l1, l2, l3, l4, l5⟩, ⟨m0, m1, m2, m3, m4, m5, m6, m7, m8, m9⟩, ms, ⟨n0, n1, n2, n3, n4, n5, n6, n7, n8, n9⟩, ns, h2⟩
  clear j0 j1 j2 j3 j4 j5 y0 y1 y2 y3 y4 y5 y6 y7 y8 y9 z0 z1 z2 z3 z4 z5 z6 z7 z8 z9 zs ch
  obtain ⟨-, -, finE, fin⟩ := hret.out _ _ h2
  replace finE := Lib.hid finE
  replace fin := Lib.hid (hsub.out _ _ fin)
  clear h2 hret hsub
  go_wp2_with fail
  exact bodyPost_ret (ret_entry2 (e := z0E) rfl rfl rfl finE.out rfl) rfl ⟨rfl, fin.out⟩
 | true =>
  rw [if_neg (by rintro (h | h | h); exact hA h; exact hB h; cases h)]
  by_cases hd : dd = []
  ·subst hd
   obtain ⟨g1, g2⟩ := hdk rfl
   have gk : dk ≠ [] := by simpa using g1
   rw [if_neg gk]
   have g3 : (dk != []) = true := by simpa using gk
   clear hwr h hi hb hx hA hdk hB hB2 gk
   go_enter Tryz.func367, Tryz.ntmps367
   go_wp2_with fail
   refine co.out.mono ?_
   rintro r w1 ⟨rfl, h1⟩
   obtain ⟨⟨j0, j1, j2, j3, j4, j5⟩, ⟨y0, y1, y2, y3, y4, y5, y6, y7, y8, y9⟩, ⟨z0, z1, z2, z3, z4, z5, z6, z7, z8, z9⟩, zs, -, ch⟩ := hch.out w1 true hH h1
   replace ch := Lib.hid ch
   clear co hch h1 k3
   go_wp2_with fail
   refine ch.out.mono ?_
   rintro r w2 ⟨rfl, ⟨l0, l1, l2, l3, l4, l5⟩, ⟨m0, m1, m2, m3, m4, m5, m6, m7, m8, m9⟩, ms, ⟨n0, n1, n2, n3, n4, n5, n6, n7, n8, n9⟩, ns, h2⟩
   clear j0 j1 j2 j3 j4 j5 y0 y1 y2 y3 y4 y5 y6 y7 y8 y9 z0 z1 z2 z3 z4 z5 z6 z7 z8 z9 zs ch
   have h3 := hk3.out _ _ h2
   have h4 := hk4.out _ _ h3
   obtain ⟨W, hW⟩ : ∃ W, W = ((((w2.setCell ⟨w.heap.size, 3, none⟩ (tx [])).setCell ⟨w.heap.size, 4, none⟩ (tx dk)).setCell ⟨w.heap.size, 6, none⟩ (.int .i64 0)).setCell ⟨w.heap.size, 8, none⟩ (.bool false)).setCell ⟨w.heap.size, 9, none⟩ (.int .i64 (x.hops + 1)) := ⟨_, rfl⟩
   obtain ⟨⟨q0, q1, q2, q3, q4, q5, q6, q7, q8, q9⟩, ⟨r0, r1, r2, r3, r4, r5, r6, r7, r8, r9⟩, rs, finE, fin⟩ := hst.out _ _ dk W hW h4
   clear h4
   replace finE := Lib.hid finE
   replace fin := Lib.hid fin
   replace hW := Lib.hid hW
   clear h2 h3 hk3 hk4 hst hret hsub
   go_upto_region 10 with fail
   rw [← hW.out]
   clear hW m0 m1 m2 m3 m4 m5 m6 m7 m8 m9 ms n0 n1 n2 n3 n4 n5 n6 n7 n8 n9 ns l0 l1 l2 l3 l4 l5
   go_wp2_with fail
   exact bodyPost_ret (ret_entry2 (e := { x with exch := [], key := dk, ttl := 0, again := false, hops := x.hops + 1 }) rfl rfl rfl finE.out rfl) rfl ⟨rfl, fin.out⟩
  ·have g1 : (dd == []) = false := by simpa using hd
   have g2 : dd.isEmpty = false := by simpa using hd
   by_cases hk : dk = []
   ·subst hk
    rw [if_pos rfl]
    clear hwr h hi hb hx hA hdk hB hB2 hd
    go_enter Tryz.func367, Tryz.ntmps367
    go_wp2_with fail
    refine co.out.mono ?_
    rintro r w1 ⟨rfl, h1⟩
    obtain ⟨⟨j0, j1, j2, j3, j4, j5⟩, ⟨y0, y1, y2, y3, y4, y5, y6, y7, y8, y9⟩, ⟨z0, z1, z2, z3, z4, z5, z6, z7, z8, z9⟩, zs, -, ch⟩ := hch.out w1 true hH h1
    replace ch := Lib.hid ch
    clear co hch h1 k3
    go_wp2_with fail
    refine ch.out.mono ?_
    rintro r w2 ⟨rfl, ⟨l0, l1, l2, l3, l4, l5⟩, ⟨m0, m1, m2, m3, m4, m5, m6, m7, m8, m9⟩, ms, ⟨n0, n1, n2, n3, n4, n5, n6, n7, n8, n9⟩, ns, h2⟩
    clear j0 j1 j2 j3 j4 j5 y0 y1 y2 y3 y4 y5 y6 y7 y8 y9 z0 z1 z2 z3 z4 z5 z6 z7 z8 z9 zs ch
    have h3 := hk3.out _ _ h2
    obtain ⟨W, hW⟩ : ∃ W, W = (((w2.setCell ⟨w.heap.size, 3, none⟩ (tx dd)).setCell ⟨w.heap.size, 6, none⟩ (.int .i64 0)).setCell ⟨w.heap.size, 8, none⟩ (.bool false)).setCell ⟨w.heap.size, 9, none⟩ (.int .i64 (x.hops + 1)) := ⟨_, rfl⟩
    obtain ⟨⟨q0, q1, q2, q3, q4, q5, q6, q7, q8, q9⟩, ⟨r0, r1, r2, r3, r4, r5, r6, r7, r8, r9⟩, rs, finE, fin⟩ := hst.out _ _ x.key W hW h3
    replace finE := Lib.hid finE
    replace fin := Lib.hid fin
    replace hW := Lib.hid hW
    clear h2 h3 hk3 hk4 hst hret hsub
    go_upto_region 10 with fail
    rw [← hW.out]
    clear hW m0 m1 m2 m3 m4 m5 m6 m7 m8 m9 ms n0 n1 n2 n3 n4 n5 n6 n7 n8 n9 ns l0 l1 l2 l3 l4 l5
    go_wp2_with fail
    exact bodyPost_ret (ret_entry2 (e := { x with exch := dd, key := x.key, ttl := 0, again := false, hops := x.hops + 1 }) rfl rfl rfl finE.out rfl) rfl ⟨rfl, fin.out⟩
   ·have g4 : (dk == []) = false := by simpa using hk
    have g5 : dk.isEmpty = false := by simpa using hk
    have g6 : (dk != []) = true := by simpa using hk
    rw [if_neg hk]
    clear hwr h hi hb hx hA hdk hB hB2 hd hk
    go_enter Tryz.func367, Tryz.ntmps367
    go_wp2_with fail
    refine co.out.mono ?_
    rintro r w1 ⟨rfl, h1⟩
    obtain ⟨⟨j0, j1, j2, j3, j4, j5⟩, ⟨y0, y1, y2, y3, y4, y5, y6, y7, y8, y9⟩, ⟨z0, z1, z2, z3, z4, z5, z6, z7, z8, z9⟩, zs, -, ch⟩ := hch.out w1 true hH h1
    replace ch := Lib.hid ch
    clear co hch h1 k3
    go_wp2_with fail
    refine ch.out.mono ?_
    rintro r w2 ⟨rfl, ⟨l0, l1, l2, l3, l4, l5⟩, ⟨m0, m1, m2, m3, m4, m5, m6, m7, m8, m9⟩, ms, ⟨n0, n1, n2, n3, n4, n5, n6, n7, n8, n9⟩, ns, h2⟩
    clear j0 j1 j2 j3 j4 j5 y0 y1 y2 y3 y4 y5 y6 y7 y8 y9 z0 z1 z2 z3 z4 z5 z6 z7 z8 z9 zs ch
    have h3 := hk3.out _ _ h2
    have h4 := hk4.out _ _ h3
    obtain ⟨W, hW⟩ : ∃ W, W = ((((w2.setCell ⟨w.heap.size, 3, none⟩ (tx dd)).setCell ⟨w.heap.size, 4, none⟩ (tx dk)).setCell ⟨w.heap.size, 6, none⟩ (.int .i64 0)).setCell ⟨w.heap.size, 8, none⟩ (.bool false)).setCell ⟨w.heap.size, 9, none⟩ (.int .i64 (x.hops + 1)) := ⟨_, rfl⟩
    obtain ⟨⟨q0, q1, q2, q3, q4, q5, q6, q7, q8, q9⟩, ⟨r0, r1, r2, r3, r4, r5, r6, r7, r8, r9⟩, rs, finE, fin⟩ := hst.out _ _ dk W hW h4
    clear h4
    replace finE := Lib.hid finE
    replace fin := Lib.hid fin
    replace hW := Lib.hid hW
    clear h2 h3 hk3 hk4 hst hret hsub
    go_upto_region 10 with fail
    rw [← hW.out]
    clear hW m0 m1 m2 m3 m4 m5 m6 m7 m8 m9 ms n0 n1 n2 n3 n4 n5 n6 n7 n8 n9 ns l0 l1 l2 l3 l4 l5
    go_wp2_with fail
    exact bodyPost_ret (ret_entry2 (e := { x with exch := dd, key := dk, ttl := 0, again := false, hops := x.hops + 1 }) rfl rfl rfl finE.out rfl) rfl ⟨rfl, fin.out⟩
end
structure Tm where
 t : Tsk
 v : Value
 O : List (Nat × Obj)
abbrev deadO (pb : Nat) (wv : Value) : Obj := .cells #[bpt pb, wv] 161
abbrev mailI (mb : Nat) : Value := .iface 153 (bpt mb)
abbrev deadI (db : Nat) : Value := .iface 158 (bpt db)
abbrev owedI (b : Int) : Value := .iface 412 (.int .i64 b)
def TmOk (bs : List Nat) (top : Option Nat) (r : Bool) (m : Tm) : Prop := match m.t with
 | .mail tp e way => ∃ mb tv Z rf, m.v = mailI mb ∧ (tp = true → top = some mb ∧ rf = r) ∧ m.O = (mb, mailO e tv rf) :: Z ∧ WayIs bs tv way Z
 | .dead i W => ∃ db wv Z pb, bs[i]? = some pb ∧ m.v = deadI db ∧ m.O = (db, deadO pb wv) :: Z ∧ EnsIs wv W Z
 | .owed b => m.v = owedI b ∧ m.O = []
def isTop : Tsk → Bool
 | .mail tp _ _ => tp
 | _ => false
def TopOk (top : Option Nat) (R : List Tsk) (r : Bool) (OT : List (Nat × Obj)) : Prop := match top with
 | none => OT = [] ∧ R.any isTop = false
 | some mb => (R.any isTop = true ∧ OT = []) ∨ (R.any isTop = false ∧ ∃ e tv, OT = [(mb, mailO e tv r)])
def OneTop (R : List Tsk) : Prop := (R.filter isTop).length ≤ 1
def objsT (ts : List Tm) : List (Nat × Obj) := ts.flatMap Tm.O
def RowIs (v : Value) (vs : List Value) (Z : List (Nat × Obj)) : Prop := SlIs 221 1 v vs.length vs.reverse Z
def CfIs (qT : Bool) (B : Nat) (w0 w : World) (sb : Nat) (bs : List Nat) (top : Option Nat) (C : Cf) (v : Value) (F : List (Nat × Obj)) (c : Nat) : Prop :=
 ∃ ts Z OT, ts.map Tm.t = C.R ∧ RowIs v (ts.map Tm.v) Z ∧ (∀ m ∈ ts, TmOk bs top C.r m) ∧ TopOk top C.R C.r OT ∧ OneTop C.R ∧ StoIs qT B w0 w sb bs C.S (Z ++ (objsT ts ++ (OT ++ F))) c
theorem uTasks : Tryz.prog.underlying 222 = some (.slice 221) := by kernel_rfl
theorem infTask : (Tryz.prog.info? 221).map (fun i => (i.zero, i.size, i.bytes)) = some (some .nilIface, 1, 16) := by kernel_rfl
theorem apT : Ap Tryz.prog 222 221 1 16 := ⟨uTasks, by
 obtain ⟨i0, hi0, hz0, hz1, hz2⟩ := info_parts infTask
 exact ⟨i0, _, hi0, hz0, hz1, hz2, rfl⟩⟩
section
variable {qT : Bool} {B : Nat} {w0 w w' : World} {sb slb xb pb qb gb c c' i k b mb db : Nat} {bs : List Nat} {S S' : Sto} {L : List Pq} {xv v : Value} {d d' : Plq} {R SX SS F F' Z Y : List (Nat × Obj)} {o : Opt} {M W : List Ent} {G : List Gst} {T : Nat} {n : List UInt8} {q z bt : Int} {e e0 x : Ent} {g : Gst} {tv : Value} {rf r : Bool} {vs : List Value} {way : List Nat} {top : Option Nat} {ts : List Tm} {TR : List Tsk}
theorem RowIs.form (h : RowIs v vs Z) : ∃ a cap, v = .slice a vs.length cap := by
 obtain ⟨a, cap, e, -⟩ := SlIs.form h
 exact ⟨a, cap, e⟩
theorem row_push (h : StoIs qT B w0 w sb bs S (Z ++ F) c) (hr : RowIs v vs Z) {u : Value} (hu : u.oneCell' = true) (hl : vs.length ≤ 1000000000000) :
  ∃ a2 cap2 W Z', (Builtin.append_ #[222, 222] 0 #[v, .slice (some ⟨w.heap.size, 0, none⟩) 1 1]).run Tryz.prog (w.alloc (.cells #[u] 221)) = .ok (.slice a2 (vs.length + 1) cap2) W ∧ RowIs (.slice a2 (vs.length + 1) cap2) (u :: vs) Z' ∧
   StoIs qT B w0 W sb bs S (Z' ++ F) c := by
 have h1 := h.alloc (.cells #[u] 221)
 obtain ⟨O, o1, -, o2⟩ := h1.beside
 have hp : ∀ Z, (O ++ ((w.heap.size, Obj.cells #[u] 221 (0, 0)) :: (Z ++ F))).Perm ((O ++ ((w.heap.size, .cells #[u] 221) :: F)) ++ Z) := fun Z => perm_by fun a => by
  simp only [List.count_append, List.count_cons]; omega
 obtain ⟨a2, cap2, W, Z', hrun, hsl, hst⟩ := apT.append hr (o1.perm (hp Z)) (Reads.one w u 221) (fun y hy => by rw [List.mem_singleton] at hy; subst hy; exact hu) (by unfold maxLen; omega) (by omega)
 have h2 := o2 _ _ (hst.perm (hp Z').symm)
 refine ⟨a2, cap2, W, Z', hrun, ?_, h2.sub (List.sublist_cons_self _ _)⟩
 unfold RowIs
 rw [List.reverse_cons]
 exact hsl
theorem row_pop {u : Value} (hr : RowIs v (u :: vs) Z) (h : StoIs qT B w0 w sb bs S (Z ++ F) c) : ∃ a cap a1 c1, v = .slice a (vs.length + 1) cap ∧ (∃ g off, a = some ⟨g, off, none⟩ ∧ w.cell? ⟨g, off + vs.length, none⟩ = some u) ∧
  RowIs (.slice a1 vs.length c1) vs Z ∧ ∀ w, (Instr.slice 222 v none (some (.int .i64 vs.length)) none).run Tryz.prog w = .ok (.slice a1 vs.length c1) w := by
 obtain ⟨a, cap, rfl⟩ := hr.form
 obtain ⟨a1, c1, a2, c2, h1, -, h3, -⟩ := apT.piece hr vs.length (by rw [List.length_cons]; omega)
 have hx : (u :: vs).reverse[vs.length]? = some u := by
  rw [List.reverse_cons, List.getElem?_append_right (by rw [List.length_reverse]; exact Nat.le_refl _), List.length_reverse, Nat.sub_self]; rfl
 refine ⟨a, cap, a1, c1, rfl, h.rowAt hr List.perm_append_comm hx, ?_, h3⟩
 unfold RowIs
 rw [Nat.mul_one, List.reverse_cons] at h1
 rw [List.take_left' (List.length_reverse)] at h1
 exact h1
theorem way_pop (hw : WayIs bs tv (i :: way) Z) (hb : bs[i]? = some pb) {F : List (Nat × Obj)} (h : StoIs qT B w0 w sb bs S ((mb, mailO e tv rf) :: (Z ++ F)) c) :
  ∃ a cap a2 c2, tv = .slice a (way.length + 1) cap ∧ (∃ g off, a = some ⟨g, off, none⟩ ∧ w.cell? ⟨g, off, none⟩ = some (bpt pb)) ∧ WayIs bs (.slice a2 way.length c2) way Z ∧
   (∀ w, (Instr.slice 90 tv (some (.int .i64 1)) none none).run Tryz.prog w = .ok (.slice a2 way.length c2) w) ∧
   StoIs qT B w0 (w.setCell ⟨mb, 10, none⟩ (.slice a2 way.length c2)) sb bs S ((mb, mailO e (.slice a2 way.length c2) rf) :: (Z ++ F)) c := by
 obtain ⟨a, cap, etv, -⟩ := SlIs.form hw
 rw [List.length_cons] at etv
 have hw0 : WayIs bs tv (i :: way) Z := hw
 subst etv
 obtain ⟨a1, c1, a2, c2, -, h2, -, h4⟩ := apQ.piece hw 1 (by rw [List.length_cons]; omega)
 have e1 : (i :: way).length - 1 = way.length := by rw [List.length_cons]; omega
 rw [e1] at h2 h4
 have hx : (ptrsOf bs (i :: way))[0]? = some (bpt pb) := by
  simp [ptrsOf, List.getD_eq_getElem?_getD, hb]
 obtain ⟨g, off, e2, k1⟩ := h.rowAt (a := a) (cp := cap) (F' := (mb, mailO e (.slice a (way.length + 1) cap) rf) :: F) hw0 (perm_by fun a => by simp only [List.count_append, List.count_cons]; omega) hx
 exact ⟨a, cap, a2, c2, rfl, ⟨g, off, e2, by simpa using k1⟩, h2, h4, h.setF 10 _⟩
theorem dead_pop {wv : Value} (hw : EnsIs wv (x :: W) Z) {F : List (Nat × Obj)} (h : StoIs qT B w0 w sb bs S ((db, deadO pb wv) :: (Z ++ F)) c) :
  ∃ a cap a2 c2, wv = .slice a (W.length + 1) cap ∧ (∃ g off, a = some ⟨g, off, none⟩ ∧ EnRow w g off x) ∧ EnsIs (.slice a2 W.length c2) W Z ∧
   (∀ w, (Instr.slice 46 wv (some (.int .i64 1)) none none).run Tryz.prog w = .ok (.slice a2 W.length c2) w) ∧
   StoIs qT B w0 (w.setCell ⟨db, 1, none⟩ (.slice a2 W.length c2)) sb bs S ((db, deadO pb (.slice a2 W.length c2)) :: (Z ++ F)) c := by
 obtain ⟨a, cap, etv, -⟩ := SlIs.form hw
 rw [List.length_cons] at etv
 subst etv
 obtain ⟨a1, c1, a2, c2, -, h2, -, h4⟩ := apE.piece hw 1 (by rw [List.length_cons]; omega)
 have e1 : (x :: W).length - 1 = W.length := by rw [List.length_cons]; omega
 have e2 : (entsV (x :: W)).drop (1 * 10) = entsV W := (entsV_drop (x :: W) 1 (by rw [List.length_cons]; omega)).symm
 rw [e1] at h2 h4
 rw [e2] at h2
 have hrd := h.reads (F' := (db, deadO pb (.slice a (W.length + 1) cap)) :: F) (M := x :: W) hw (perm_by fun a => by simp only [List.count_append, List.count_cons]; omega) 0 x rfl
 obtain ⟨g, off, e3, k1⟩ := hrd
 rw [Nat.zero_mul, Nat.add_zero] at k1
 exact ⟨a, cap, a2, c2, rfl, ⟨g, off, e3, k1⟩, h2, h4, h.setF 1 _⟩
theorem objsT_cons (m : Tm) (ts : List Tm) : objsT (m :: ts) = m.O ++ objsT ts := rfl
def StepR (qT : Bool) (B : Nat) (w0 : World) (sb : Nat) (bs : List Nat) (top : Option Nat) (C : Cf) (F : List (Nat × Obj)) (c : Nat) (e : Ending) (w' : World) : Prop := ∃ a n cp, e = .returned (.slice a n cp) ∧ CfIs qT B w0 w' sb bs top C (.slice a n cp) F c
set_option maxHeartbeats 1000000 in
theorem owed_step {OT : List (Nat × Obj)} (h : StoIs qT B w0 w sb bs S (Z ++ (objsT ts ++ (OT ++ F))) c) (hr : RowIs v (ts.map Tm.v) Z) (hts : ts.map Tm.t = TR) (hok : ∀ m ∈ ts, TmOk bs top r m) (htop : TopOk top TR r OT) (hone : OneTop TR) (hh : HeldOk S) (b : Int) :
  Calls Tryz.prog 372 #[.int .i64 b, bpt sb, v] w (StepR qT B w0 sb bs top (stepF ⟨S, .owed b :: TR, r⟩) F c) := by
 have cl := Lib.hid (st_letgo h hh (b := b) rfl)
 obtain ⟨a, cap, rfl⟩ := hr.form
 have fin : Hid (∀ w', StoIs qT B w0 w' sb bs (S.letGo b) (Z ++ (objsT ts ++ (OT ++ F))) c → StepR qT B w0 sb bs top (stepF ⟨S, .owed b :: TR, r⟩) F c (.returned (.slice a (ts.map Tm.v).length cap)) w') :=
  Lib.hid fun w' h' => ⟨_, _, _, rfl, ts, Z, OT, hts, hr, hok, htop, hone, h'⟩
 generalize (ts.map Tm.v).length = m at *
 generalize stepF _ = C2 at *
 generalize S.letGo b = S2 at *
 clear h hh hr hts hok htop hone
 go_enter Tryz.func372, Tryz.ntmps372
 go_wp2_with fail
 refine cl.out.mono ?_
 rintro e w1 ⟨rfl, h1⟩
 replace fin := Lib.hid (fin.out _ h1)
 clear cl h1
 go_wp2_with fail
 go_ret
 exact fin.out
end
section
variable {qT : Bool} {B : Nat} {w0 w w' : World} {sb slb xb pb qb gb c c' i k b mb db : Nat} {bs : List Nat} {S S' : Sto} {L : List Pq} {xv v wv : Value} {d d' : Plq} {R SX SS F F' Z Y Zw OT : List (Nat × Obj)} {o : Opt} {M W : List Ent} {G : List Gst} {T : Nat} {n : List UInt8} {q z bt : Int} {e e0 x : Ent} {g : Gst} {tv : Value} {rf r ok tp r' : Bool} {vs : List Value} {way : List Nat} {top : Option Nat} {ts : List Tm} {TR : List Tsk}
theorem one_tail {t : Tsk} (h : OneTop (t :: TR)) : OneTop TR := by
 unfold OneTop at *
 rw [List.filter_cons] at h
 split at h
 ·rw [List.length_cons] at h; omega
 ·exact h
theorem one_only {t : Tsk} (h : OneTop (t :: TR)) (ht : isTop t = true) : ∀ u ∈ TR, isTop u = false := by
 unfold OneTop at h
 rw [List.filter_cons, if_pos ht, List.length_cons] at h
 intro u hu
 cases hc : isTop u with
 | false => rfl
 | true =>
  have : 0 < (TR.filter isTop).length := List.length_pos_of_mem (List.mem_filter.2 ⟨hu, hc⟩)
  omega
theorem one_dead (h : OneTop TR) : OneTop (.dead i W :: TR) := h
theorem one_mail {way' : List Nat} (h : OneTop (.mail tp e way :: TR)) : OneTop (.mail tp e way' :: TR) := by cases tp <;> exact h
theorem any_none (h : ∀ u ∈ TR, isTop u = false) : TR.any isTop = false := by
 rw [List.any_eq_false]
 intro u hu
 simp [h u hu]
theorem tm_other {m : Tm} (h : TmOk bs top r m) (hm : isTop m.t = false) : TmOk bs top r' m := by
 obtain ⟨t, v, O⟩ := m
 cases t with
 | owed b => exact h
 | dead i W => exact h
 | mail tp e way =>
  have hm' : tp = false := hm
  subst hm'
  obtain ⟨mb, tv, Z, rf, h1, h2, h3, h4⟩ := h
  exact ⟨mb, tv, Z, rf, h1, by simp, h3, h4⟩
theorem mail_fin {way : List Nat} {tv2 v3 : Value} {rf' : Bool} {Z3 : List (Nat × Obj)} (h : StoIs qT B w0 w sb bs S ((db, deadO pb wv) :: (Y ++ ((mb, mailO e tv2 rf') :: (Zw ++ (Z3 ++ (objsT ts ++ (OT ++ F))))))) c)
  (hr3 : RowIs v3 (deadI db :: (if way = [] then ts.map Tm.v else mailI mb :: ts.map Tm.v)) Z3) (hy : EnsIs wv W Y) (hw : WayIs bs tv2 way Zw) (hb : bs[i]? = some pb) (hts : ts.map Tm.t = TR) (hok : ∀ m ∈ ts, TmOk bs top r m)
  (htop : TopOk top (.mail tp e (i :: way) :: TR) r OT) (hone : OneTop (.mail tp e (i :: way) :: TR)) (hrf : tp = true → top = some mb ∧ rf = r) (hr' : r' = if tp = true then r || !ok else r) (hrf' : rf' = if ok = true then rf else true) :
  CfIs qT B w0 w sb bs top ⟨S, .dead i W :: moreM tp e way TR, r'⟩ v3 F c := by
 have hdead : ∀ r, TmOk bs top r ⟨.dead i W, deadI db, (db, deadO pb wv) :: Y⟩ := fun r => ⟨db, wv, Y, pb, hb, rfl, rfl, hy⟩
 have hts2 : ∀ m ∈ ts, TmOk bs top r' m := fun m hm => by
  cases tp with
  | false => rw [hr', if_neg (by decide)]; exact hok m hm
  | true => exact tm_other (hok m hm) (one_only hone rfl _ (by rw [← hts]; exact List.mem_map_of_mem hm))
 have hrr : tp = true → rf' = r' := fun ht => by
  have := (hrf ht).2
  rw [hrf', hr', if_pos ht, this]
  cases ok <;> simp
 by_cases hway : way = []
 ·subst hway
  rw [if_pos rfl] at hr3
  have hm0 : moreM tp e [] TR = TR := rfl
  rw [hm0]
  cases tp with
  | false =>
   refine ⟨⟨.dead i W, deadI db, (db, deadO pb wv) :: Y⟩ :: ts, Z3, OT, by rw [List.map_cons, hts], hr3, ?_, ?_, ?_, ?_⟩
   ·intro m hm
    rcases List.mem_cons.1 hm with rfl | hm
    ·exact hdead _
    ·exact hts2 m hm
   ·rw [hr', if_neg (by decide)]
    cases top with
    | none => exact htop
    | some t => exact htop
   ·exact one_dead (one_tail hone)
   ·refine (h.permF ?_).sub (List.sublist_append_right ((mb, mailO e tv2 rf') :: Zw) _)
    exact perm_by fun a => by simp only [objsT_cons, List.count_append, List.count_cons]; omega
  | true =>
   have hno := any_none (one_only hone rfl)
   obtain ⟨ht1, -⟩ := hrf rfl
   subst ht1
   have hOT : OT = [] := by
    rcases htop with ⟨-, h⟩ | ⟨h, -⟩
    ·exact h
    ·simp [isTop] at h
   subst hOT
   refine ⟨⟨.dead i W, deadI db, (db, deadO pb wv) :: Y⟩ :: ts, Z3, [(mb, mailO e tv2 rf')], by rw [List.map_cons, hts], hr3, ?_, ?_, ?_, ?_⟩
   ·intro m hm
    rcases List.mem_cons.1 hm with rfl | hm
    ·exact hdead _
    ·exact hts2 m hm
   ·rw [hrr rfl]
    exact .inr ⟨by rw [List.any_cons, hno]; rfl, e, tv2, rfl⟩
   ·exact one_dead (one_tail hone)
   ·refine (h.permF ?_).sub (List.sublist_append_right Zw _)
    exact perm_by fun a => by simp only [objsT_cons, List.count_append, List.count_cons, List.count_nil]; omega
 ·rw [if_neg hway] at hr3
  have hm0 : moreM tp e way TR = .mail tp e way :: TR := if_neg hway
  rw [hm0]
  refine ⟨⟨.dead i W, deadI db, (db, deadO pb wv) :: Y⟩ :: ⟨.mail tp e way, mailI mb, (mb, mailO e tv2 rf') :: Zw⟩ :: ts, Z3, OT, by rw [List.map_cons, List.map_cons, hts], hr3, ?_, ?_, ?_, ?_⟩
  ·intro m hm
   rcases List.mem_cons.1 hm with rfl | hm
   ·exact hdead _
   ·rcases List.mem_cons.1 hm with rfl | hm
    ·exact ⟨mb, tv2, Zw, rf', rfl, fun ht => ⟨(hrf ht).1, hrr ht⟩, rfl, hw⟩
    ·exact hts2 m hm
  ·cases top with
   | none => exact htop
   | some t =>
    rcases htop with ⟨h1, h2⟩ | ⟨h1, h2⟩
    ·exact .inl ⟨h1, h2⟩
    ·have : tp = false := by cases tp; rfl; simp [isTop] at h1
     subst this
     rw [hr', if_neg (by decide)]
     exact .inr ⟨h1, h2⟩
  ·exact one_dead (one_mail hone)
  ·exact h.permF (perm_by fun a => by simp only [objsT_cons, List.count_append, List.count_cons]; omega)
theorem mail_end (h : StoIs qT B w0 w sb bs S (Z ++ ((mb, mailO e tv rf) :: (Zw ++ (objsT ts ++ (OT ++ F))))) c) (hr3 : RowIs v (ts.map Tm.v) Z) (hts : ts.map Tm.t = TR) (hok : ∀ m ∈ ts, TmOk bs top r m)
  (htop : TopOk top (.mail tp e [] :: TR) r OT) (hone : OneTop (.mail tp e [] :: TR)) (hrf : tp = true → top = some mb ∧ rf = r) : CfIs qT B w0 w sb bs top ⟨S, TR, r⟩ v F c := by
 cases tp with
 | false =>
  refine ⟨ts, Z, OT, hts, hr3, hok, ?_, one_tail hone, ?_⟩
  ·cases top with
   | none => exact htop
   | some t => exact htop
  ·refine (h.permF ?_).sub (List.sublist_append_right ((mb, mailO e tv rf) :: Zw) _)
   exact perm_by fun a => by simp only [List.count_append, List.count_cons]; omega
 | true =>
  have hno := any_none (one_only hone rfl)
  obtain ⟨ht1, hrr⟩ := hrf rfl
  subst ht1
  have hOT : OT = [] := by
   rcases htop with ⟨-, h⟩ | ⟨h, -⟩
   ·exact h
   ·simp [isTop] at h
  subst hOT
  refine ⟨ts, Z, [(mb, mailO e tv rf)], hts, hr3, hok, ?_, one_tail hone, ?_⟩
  ·rw [hrr]
   exact .inr ⟨hno, e, tv, rfl⟩
  ·refine (h.permF ?_).sub (List.sublist_append_right Zw _)
   exact perm_by fun a => by simp only [List.count_append, List.count_cons, List.count_nil]; omega
end
end Go.Proofs.YtknjamfjonapiaaGreatDoor
