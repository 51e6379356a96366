/- A tree of nodes: words laid. -/
import Derived.Test.YtbfelfejelkdpaaTrF
import Derived.Test.YtbfelfejelkdpaaStrC
import Derived.Test.YtbfelfejelkdpaaPtC
import Derived.StillTailTactics
namespace Go.Proofs.Ytbfelfejelkdpaa
open Go.RowKit
open Go.ChangeMaps (setBlock)
set_option linter.unusedVariables false
set_option linter.unusedSectionVars false
set_option linter.unusedSimpArgs false
set_option maxRecDepth 100000

def RootX (L : List Nd) (X : List Value) : Prop := ∃ r ∈ L, r.p = [] ∧ r.x = X
/-- Of a tree as another: the same ids, the same beside the root. -/
structure Same (L L' : List Nd) : Prop where
  ids : ∀ p k, HasId L' p k ↔ HasId L p k
  root : ∀ X, RootX L X → RootX L' X
theorem Same.refl (L : List Nd) : Same L L := ⟨fun _ _ => Iff.rfl, fun _ h => h⟩
theorem Same.trans {L L' L2 : List Nd} (h : Same L L') (g : Same L' L2) : Same L L2 := ⟨fun p k => (g.ids p k).trans (h.ids p k), fun X hX => g.root X (h.root X hX)⟩
theorem Same.perm {L L' : List Nd} (h : L.Perm L') : Same L L' :=
  ⟨fun p k => ⟨fun ⟨n, hn, e⟩ => ⟨n, h.mem_iff.2 hn, e⟩, fun ⟨n, hn, e⟩ => ⟨n, h.mem_iff.1 hn, e⟩⟩, fun X ⟨n, hn, e⟩ => ⟨n, h.mem_iff.1 hn, e⟩⟩
theorem Same.grow {n : Nd} {R : List Nd} {w : List UInt8} {nb : Nat} {y : TypeId} {s' : Tb (List UInt8)} : Same (n :: R) (newNd n w nb y :: { n with s := s' } :: R) := by
  refine ⟨fun p k => ⟨?_, ?_⟩, ?_⟩
  · rintro ⟨m, hm, e1, e2⟩
    rcases List.mem_cons.1 hm with rfl | hm
    · exact absurd e2 (by simp [Tb.new])
    rcases List.mem_cons.1 hm with rfl | hm
    · exact ⟨n, List.mem_cons_self, e1, e2⟩
    · exact ⟨m, List.mem_cons_of_mem _ hm, e1, e2⟩
  · rintro ⟨m, hm, e1, e2⟩
    rcases List.mem_cons.1 hm with rfl | hm
    · exact ⟨{ m with s := s' }, by simp, e1, e2⟩
    · exact ⟨m, by simp [hm], e1, e2⟩
  · rintro X ⟨m, hm, e1, e2⟩
    rcases List.mem_cons.1 hm with rfl | hm
    · exact ⟨{ m with s := s' }, by simp, e1, e2⟩
    · exact ⟨m, by simp [hm], e1, e2⟩

/-- The node that these words lead to is handed back. -/
def LaidR (B : Nat) (w0 : World) (tb : Nat) (L : List Nd) (F : List (Nat × Obj)) (c : Nat) (p : Wds) (e : Ending) (w' : World) : Prop :=
  ∃ L' m, e = .returned (np m.b) ∧ m ∈ L' ∧ m.p = p ∧ St B w0 w' (objsL L' ++ F) ∧ TreeOk L' tb c ∧ Same L L'

section
variable {B : Nat} {w0 w : World} {F : List (Nat × Obj)} {L : List Nd} {tb c : Nat} {n m : Nd}
theorem cells_s (n : Nd) (s' : Tb (List UInt8)) : tabC n.cells 2 s'.mv s'.most = ({ n with s := s' } : Nd).cells := by
  simp [tabC, Nd.cells]
theorem cells_i (n : Nd) (i' : Tb Int) : tabC n.cells 4 i'.mv i'.most = ({ n with i := i' } : Nd).cells := by
  simp [tabC, Nd.cells]
theorem new_objs (n : Nd) (w : List UInt8) (nb : Nat) (y : TypeId) : (newNd n w nb y).objs = [(nb, .cells #[np n.b, tx w, .map none, .int .i64 0, .map none, .int .i64 0] y)] := by
  show (nb, (Obj.cells (newNd n w nb y).cells y)) :: [] = _
  unfold Nd.cells
  rw [lastW_snoc]
  rfl

set_option maxHeartbeats 1000000 in
theorem to_any (hst : St B w0 w (objsL L ++ F)) (ht : TreeOk L tb c) (hn : n ∈ L) (v : List UInt8) (hv : v.length ≤ 1000000) (hc : c ≤ 900000) :
    Calls Try.prog 30 #[np n.b, tx v] w (LaidR B w0 tb L F (c + 1) (n.p ++ [v])) := by
  have hk := run_kid hst ht hn v
  have c2 := hst.node hn (j := 2) (v := .map n.s.mv) rfl
  cases hm : nd L (n.p ++ [v]) with
  | some m =>
    obtain ⟨h1, h2⟩ := nd_mem hm
    have fin : Hid (LaidR B w0 tb L F (c + 1) (n.p ++ [v]) (.returned (np m.b)) w) := Lib.hid ⟨L, m, rfl, h1, h2, hst, ht.mono (Nat.le_succ _), Same.refl _⟩
    unfold ptrP at hk
    rw [hm] at hk
    clear hst ht hn h1 h2 hm
    go_enter Try.func30, Try.ntmps30
    go_wp2_with fail
    go_ret
    exact fin.out
  | none =>
    unfold ptrP at hk
    rw [hm] at hk
    have cl := Lib.hid (clone_any v w (by omega))
    have hne := nd_none.1 hm
    -- what put needs, whatever the world
    have put : Hid (∀ w1, Below w.heap.size w w1 → (w1.alloc (.cells #[np n.b, tx v, .map none, .int .i64 0, .map none, .int .i64 0] 49)).cell? ⟨w1.heap.size, 1, none⟩ = some (tx v) ∧
        Calls Try.prog 37 #[.pointer (some ⟨n.b, 2, none⟩), tx v, np w1.heap.size] (w1.alloc (.cells #[np n.b, tx v, .map none, .int .i64 0, .map none, .int .i64 0] 49)).drew fun e w' => e = .returned (.tuple #[]) ∧ LaidR B w0 tb L F (c + 1) (n.p ++ [v]) (.returned (np w1.heap.size)) w') := Lib.hid fun w1 hb => by
      obtain ⟨R, hp⟩ : ∃ R, L.Perm (n :: R) := by
        obtain ⟨a, b, rfl⟩ := List.append_of_mem hn
        exact ⟨a ++ b, List.perm_middle⟩
      have ht' := ht.perm hp
      have hs1 : St B w0 w1 (objsL (n :: R) ++ F) := (hst.grow hb).perm ((objs_perm hp).append_right F)
      have hs2 := (hs1.alloc (.cells #[np n.b, tx v, .map none, .int .i64 0, .map none, .int .i64 0] 49)).drew
      refine ⟨hs2.cell (b := w1.heap.size) List.mem_cons_self rfl, ?_⟩
      have hs3 : St B w0 (w1.alloc (.cells #[np n.b, tx v, .map none, .int .i64 0, .map none, .int .i64 0] 49)).drew ((n.b, .cells n.cells n.y) :: (tabH encS n.s ++ (tabH encI n.i ++ (objsL R ++ ((w1.heap.size, .cells #[np n.b, tx v, .map none, .int .i64 0, .map none, .int .i64 0] 49) :: F))))) := by
        refine hs2.perm ?_
        rw [objs_cons]
        unfold Nd.objs
        classical
        exact List.perm_iff_count.2 fun a => by simp only [List.count_append, List.count_cons, List.append_assoc, List.cons_append]; omega
      have hnk : v ∉ n.s.es.map (·.1) := by
        intro hmem
        rw [← keys_rows] at hmem
        obtain ⟨r, hr, rfl⟩ := List.mem_map.1 hmem
        obtain ⟨q, hq, e1, -⟩ := ht.downs n hn r hr
        exact hne q hq e1
      refine (putS_is hs3 rfl rfl (ht.oks n hn).1 (by omega) hnk).mono ?_
      rintro e w' ⟨rfl, s', ⟨g1, g2⟩, g3⟩
      have hnb : ∀ q ∈ n :: R, q.b ≠ w1.heap.size := fun q hq e => by
        have := hs1.lt (b := q.b) (o := .cells q.cells q.y) (List.mem_append_left _ (List.mem_flatMap.2 ⟨q, hq, List.mem_cons_self⟩))
        omega
      refine ⟨rfl, newNd n v w1.heap.size 49 :: { n with s := s' } :: R, newNd n v w1.heap.size 49, rfl, List.mem_cons_self, rfl, ?_, ht'.grow (fun q hq => hne q (hp.mem_iff.2 hq)) hnb g1 g2, (Same.perm hp).trans Same.grow⟩
      rw [cells_s] at g3
      refine g3.perm ?_
      rw [objs_cons, objs_cons, new_objs]
      unfold Nd.objs
      classical
      exact List.perm_iff_count.2 fun a => by simp only [List.count_append, List.count_cons, List.count_nil, List.append_assoc, List.cons_append]; omega
    clear hst ht hn hm hne
    go_enter Try.func30, Try.ntmps30
    go_wp2_with fail
    refine cl.out.mono ?_
    rintro e w1 ⟨rfl, hb⟩
    obtain ⟨g1, g2⟩ := put.out w1 hb
    replace g2 := Lib.hid g2
    clear hb put cl hk c2
    go_upto_region 5 with fail
    generalize w1.alloc (.cells #[np n.b, tx v, .map none, .int .i64 0, .map none, .int .i64 0] 49) = W2 at *
    generalize w1.heap.size = nb at *
    go_still_tail 8, (by kernel_rfl)
    change wpList _ _ _ _ _ W2.drew
    go_wp2_with fail
    refine g2.out.mono ?_
    rintro e w3 ⟨rfl, fin⟩
    replace fin := Lib.hid fin
    go_wp2_with fail
    go_ret
    exact fin.out

/-- What lay knows at its label. -/
def LayAt (B : Nat) (w0 : World) (tb : Nat) (L0 : List Nd) (F : List (Nat × Obj)) (c : Nat) (P : Wds) (g : Nat) (a' : Act) (w' : World) : Prop :=
  ∃ (L : List Nd) (m : Nd) (at_ : Nat) (a : Option Addr) (cap : Nat) (S : List (Nat × Obj)), at_ + g = P.length ∧ m ∈ L ∧ m.p = P.take at_ ∧ Fr 22 [(0, np m.b), (5, .slice a P.length cap), (6, .int .i64 at_)] a' ∧
    St B w0 w' (objsL L ++ (S ++ F)) ∧ TreeOk L tb (c + at_) ∧ Same L0 L ∧ TssIs (.slice a P.length cap) P S

theorem take_snoc {P : Wds} {k : Nat} {x : List UInt8} (h : P[k]? = some x) : P.take k ++ [x] = P.take (k + 1) := by
  rw [List.take_add_one, h]; rfl

set_option maxHeartbeats 1000000 in
theorem lay_any (hst : St B w0 w (objsL L ++ F)) (ht : TreeOk L tb c) (hn : n ∈ L) (h0 : n.p = []) (l : List UInt8) (hl : l.length ≤ 1000) (hc : c ≤ 800000) :
    Calls Try.prog 18 #[np n.b, tx l] w (LaidR B w0 tb L F (c + (wordsL l).length) (wordsL l)) := by
  have hwl := words_len l
  have hws := words_short l
  have cw := Lib.hid (words_st (l := l) (by omega) w)
  have start : Hid (∀ w1 S, St w.heap.size w w1 S → St B w0 w1 (objsL L ++ (S ++ F)) ∧ TreeOk L tb (c + 0) ∧ Same L L ∧ n ∈ L ∧ n.p = (wordsL l).take 0) := Lib.hid fun w1 S hs => by
    refine ⟨(hst.join hs).perm ?_, ht, Same.refl _, hn, h0⟩
    rw [List.append_assoc]
    exact List.Perm.append_left _ List.perm_append_comm
  clear hst ht hn h0
  generalize wordsL l = P at *
  have hPl : P.length ≤ 1001 := by omega
  have hws : ∀ x ∈ P, x.length ≤ 1000 := fun x hx => by have := hws x hx; omega
  clear hwl
  generalize hnb : np n.b = nv at *
  go_enter Try.func18, Try.ntmps18
  go_wp2_with fail
  refine wp_scope_ghost 0 (LayAt B w0 tb L F c P) rfl ?_ ?_
  · clear start cw hnb
    rintro g a' w' ⟨L1, m, at_, a, cap, S, hg, hm, hmp, hfr, hst, ht, hsame, hv⟩
    obtain ⟨f, rfl, hl'⟩ := hfr.lit
    clear hfr
    simp only [List.mem_cons, List.not_mem_nil, or_false, forall_eq_or_imp, forall_eq] at hl'
    obtain ⟨f0, f5, f6⟩ := hl'
    simp only [List.range, List.range.loop, List.map, f0, f5, f6]
    clear f0 f5 f6
    have hP0 : (P.length : Int) ≤ 1001 := by omega
    by_cases hlt : at_ < P.length
    · have hx : P[at_]? = some P[at_] := List.getElem?_eq_getElem hlt
      have hxl := hws _ (List.mem_of_getElem? hx)
      have hrd : ReadTs w' (.slice a P.length cap) P := hv.read (X := objsL L1 ++ F) (hst.perm (by rw [List.append_assoc]; exact List.Perm.append_left _ List.perm_append_comm)) (fun x hx => by have := hws x hx; unfold maxLen; omega)
      obtain ⟨a2, cap2, e2, hta⟩ := hrd
      simp only [Value.slice.injEq, true_and] at e2
      obtain ⟨rfl, rfl⟩ := e2
      obtain ⟨-, b, off, rfl, hcell⟩ := hta.at_ _ _ hx
      have c1 := Lib.hid (to_any (v := P[at_]) hst ht hm (by omega) (by omega))
      rw [hmp, take_snoc hx] at c1
      have hlt' : (at_ : Int) < P.length := by omega
      have hat0 : (0 : Int) ≤ at_ := by omega
      have hne : ¬ (at_ : Int) = P.length := by omega
      have hneB : ((at_ : Int) == (P.length : Int)) = false := by simpa using hne
      generalize P[at_] = x at *
      replace hsame := Lib.hid hsame
      replace hv := Lib.hid hv
      clear hst ht hm hmp hta hx hws
      go_wp2_with fail
      refine c1.out.mono ?_
      rintro e w2 ⟨L2, m2, rfl, g1, g2, g3, g4, g5⟩
      replace g3 := Lib.hid g3
      replace g4 := Lib.hid g4
      replace g2 := Lib.hid g2
      clear c1
      go_wp2_with fail
      refine wp_goto ?_
      exact ⟨rfl, P.length - (at_ + 1), by omega, L2, m2, at_ + 1, _, _, S, by omega, g1, g2.out, ⟨rfl, rfl, by simp⟩, g3.out, by rw [← Nat.add_assoc]; exact g4.out, hsame.out.trans g5, hv.out⟩
    · obtain rfl : at_ = P.length := by omega
      have fin : Hid (LaidR B w0 tb L F (c + P.length) P (.returned (np m.b)) w') := Lib.hid ⟨L1, m, rfl, hm, by rw [hmp, List.take_length], hst.sub ((List.Sublist.refl _).append (List.sublist_append_right _ _)), ht, hsame⟩
      clear hst ht hm hmp hsame hws hv
      go_wp2_with fail
      simp only [Exit.jump]
      go_ret
      exact fin.out
  · intro H
    clear hws
    go_wp2_with fail
    refine cw.out.mono ?_
    rintro e w1 ⟨v, S, rfl, hv, hS⟩
    obtain ⟨a, cap, rfl⟩ := hv.form
    obtain ⟨k1, k2, k3, k4, k5⟩ := start.out _ _ hS
    clear hS start cw
    replace k1 := Lib.hid k1
    replace hv := Lib.hid hv
    go_wp2_with fail
    refine wp_label ?_
    go_step
    go_step
    exact H P.length _ _ ⟨L, n, 0, a, cap, S, by omega, k4, k5, ⟨rfl, rfl, by simp [hnb]⟩, k1.out, k2, k3, hv.out⟩
end
end Go.Proofs.Ytbfelfejelkdpaa
