import Derived.Test.YtknjamfjonapiaaGreatDoorZ02
import Derived.Test.YtknjamfjonapiaaGreatDoorZ03
import Derived.Lib.Strings
import Derived.Lib.Slices
import Derived.Lib.Walk
import Derived.Test.YtknjamfjonapiaaGreatDoorZ01
import Derived.Test.YtknjamfjonapiaaGreatDoorZ05
import Derived.Test.YtknjamfjonapiaaGreatDoorZ12
import Derived.Test.YtknjamfjonapiaaGreatDoorZ07
import Derived.StillTailTactics
import Derived.LaidEqlPtr
import Derived.Deep.DeepCutAuto
import Derived.Deep.CutBlock
namespace Go.Proofs.YtknjamfjonapiaaGreatDoor
open Go.RowKit
set_option linter.unusedVariables false
set_option linter.unusedSectionVars false
set_option linter.unusedSimpArgs false
set_option maxRecDepth 100000
theorem point_ext (l : List UInt8) (W : World) : (callFunc 337 #[tx l, .int .u8 46]).run Tryz.prog W = .ok (.value (.int .i64 (Lib.indexByte l 46))) W := by
 have h := run_callFunc_extern (P := Tryz.prog) Tryz.func337 (by kernel_rfl) (by kernel_rfl) (by kernel_rfl) (e := Extern.BytealgIndexByte.indexByte) (by kernel_rfl) #[tx l, .int .u8 46] W
 have k := Lib.run_indexByteString (P := Tryz.prog) ⟨l.toArray⟩ 46 W
 rw [show (Extern.BytealgIndexByte.indexByte #[tx l, .int .u8 46]).run Tryz.prog W = .ok (.int .i64 (Lib.indexByte l 46)) W from k] at h
 exact h
theorem point_byte (l : List UInt8) (w : World) : Calls Tryz.prog 332 #[tx l, .int .u8 46] w fun e w' => e = .returned (.int .i64 (Lib.indexByte l 46)) ∧ w' = w := by
 have h := point_ext l w
 generalize Lib.indexByte l 46 = z at *
 go_enter Tryz.func332, Tryz.ntmps332
 go_wp2_with fail
 go_ret
 exact ⟨rfl, rfl⟩
set_option maxRecDepth 100000 in
set_option maxHeartbeats 1000000 in
theorem point_at (l : List UInt8) (w : World) : Calls Tryz.prog 325 #[tx l, tx [46]] w fun e w' => e = .returned (.int .i64 (Lib.indexByte l 46)) ∧ w' = w := by
 by_cases h : l = [46]
 ·subst h
  go_enter Tryz.func325, Tryz.ntmps325
  go_wp2_with fail
  go_ret
  exact ⟨rfl, rfl⟩
 ·have hn : ([46] == l) = false := by
   rw [beq_eq_false_iff_ne]
   exact fun e => h e.symm
  have c := Lib.hid (point_byte l w)
  clear h
  generalize Lib.indexByte l 46 = z at *
  go_enter Tryz.func325, Tryz.ntmps325
  go_wp2_with fail
  refine c.out.mono ?_
  rintro e w1 ⟨rfl, rfl⟩
  go_wp2_with fail
  go_ret
  exact ⟨rfl, rfl⟩
set_option maxHeartbeats 1000000 in
theorem slicut_none {l : List UInt8} (h : 46 ∉ l) (w : World) : Calls Tryz.prog 312 #[tx l, tx [46]] w fun e w' => e = .returned (.tuple #[tx l, tx [], .bool false]) ∧ w' = w := by
 have c1 := point_at l w
 rw [index_none h] at c1
 replace c1 := Lib.hid c1
 clear h
 go_enter Tryz.func312, Tryz.ntmps312
 go_wp2_with fail
 refine c1.out.mono ?_
 rintro e w1 ⟨rfl, rfl⟩
 go_wp2_with fail
 go_ret3
 exact ⟨rfl, rfl⟩
set_option maxHeartbeats 1000000 in
theorem slicut_some {x r : List UInt8} (h : 46 ∉ x) (hl : (x ++ 46 :: r).length ≤ maxLen) (w : World) : Calls Tryz.prog 312 #[tx (x ++ 46 :: r), tx [46]] w fun e w' => e = .returned (.tuple #[tx x, tx r, .bool true]) ∧ Below w.heap.size w w' := by
 have c1 := point_at (x ++ 46 :: r) w
 rw [index_some h] at c1
 replace c1 := Lib.hid c1
 have hlen : (x ++ 46 :: r).length = x.length + 1 + r.length := by simp; omega
 have e1 : (⟨(x ++ 46 :: r).toArray⟩ : ByteArray).extract 0 x.length = ⟨x.toArray⟩ := by
  rw [ByteArray.extract_mk]
  simp
 have e2 : (⟨(x ++ 46 :: r).toArray⟩ : ByteArray).extract (x.length + 1) (x.length + 1 + r.length) = ⟨r.toArray⟩ := by
  rw [ByteArray.extract_mk]
  simp
 have h0 : (0 : Int) ≤ x.length := by omega
 unfold maxLen at hl
 have h1 : (x.length : Int) ≤ (x ++ 46 :: r).length := by omega
 have h2 : (x.length : Int) + 1 ≤ (x ++ 46 :: r).length := by omega
 generalize hL : x ++ 46 :: r = L at *
 generalize hn : x.length = n at *
 clear h hL
 go_enter Tryz.func312, Tryz.ntmps312
 go_wp2_with fail
 refine c1.out.mono ?_
 rintro e w1 ⟨rfl, rfl⟩
 go_wp2_with fail
 go_quiet (fail)
 go_wp2_with fail
 go_ret3
 exact ⟨rfl, drewN_below _ _⟩
theorem cut_none {l : List UInt8} (h : 46 ∉ l) (w : World) : Calls Tryz.prog 293 #[tx l, tx [46]] w fun e w' => e = .returned (.tuple #[tx l, tx [], .bool false]) ∧ Below w.heap.size w w' := by
 have c1 := Lib.hid (slicut_none h w)
 clear h
 go_enter Tryz.func293, Tryz.ntmps293
 go_wp2_with fail
 refine c1.out.mono ?_
 rintro e w1 ⟨rfl, rfl⟩
 go_wp2_with fail
 go_ret3
 exact ⟨rfl, Below.refl _ _⟩
theorem cut_some {x r : List UInt8} (h : 46 ∉ x) (hl : (x ++ 46 :: r).length ≤ maxLen) (w : World) : Calls Tryz.prog 293 #[tx (x ++ 46 :: r), tx [46]] w fun e w' => e = .returned (.tuple #[tx x, tx r, .bool true]) ∧ Below w.heap.size w w' := by
 have c1 := Lib.hid (slicut_some h hl w)
 clear h hl
 generalize x ++ 46 :: r = L at *
 go_enter Tryz.func293, Tryz.ntmps293
 go_wp2_with fail
 refine c1.out.mono ?_
 rintro e w1 ⟨rfl, hb⟩
 replace hb := Lib.hid hb
 go_wp2_with fail
 go_ret3
 exact ⟨rfl, hb.out⟩
structure TextsAt (w : World) (a : Option Addr) (len : Nat) (L : List (List UInt8)) : Prop where
 size : L.length = len
 at_ : ∀ (i : Nat) x, L[i]? = some x → x.length ≤ maxLen ∧ ∃ b off, a = some ⟨b, off, none⟩ ∧ w.cell? ⟨b, off + i, none⟩ = some (tx x)
theorem TextsAt.below {w w' : World} {a : Option Addr} {len : Nat} {L : List (List UInt8)} (h : TextsAt w a len L) (hb : Below w.heap.size w w') : TextsAt w' a len L :=
 ⟨h.size, fun i x hx => by
  obtain ⟨h1, b, off, e, hc⟩ := h.at_ i x hx
  exact ⟨h1, b, off, e, (hb.cell (p := ⟨b, off + i, none⟩) (World.block_lt_of_cell? w _ hc)).trans hc⟩⟩
theorem TextsAt.of {w : World} {a : Option Addr} {len : Nat} {rd : Nat → List Value} (h : RowsAt Tryz.prog w 9 a len rd) : ∃ L, TextsAt w a len L := by
 have hco : Tryz.prog.cellsOf 9 = 1 := by kernel_rfl
 have key : ∀ i, ∃ x : List UInt8, i < len → rd i = [tx x] ∧ x.length ≤ maxLen := by
  intro i
  by_cases hi : i < len
  ·obtain ⟨s, h1, h2⟩ := (h.at_ i hi).1.string uStr6
   exact ⟨s.data.toList, fun _ => ⟨h1, h2⟩⟩
  ·exact ⟨[], fun h => absurd h hi⟩
 refine ⟨(List.range len).map fun i => (key i).choose, by simp, fun i x hx => ?_⟩
 have hi : i < len := by
  have := (List.getElem?_eq_some_iff.1 hx).1
  simpa using this
 rw [List.getElem?_map, List.getElem?_range hi, Option.map_some, Option.some.injEq] at hx
 obtain ⟨h1, h2⟩ := (key i).choose_spec hi
 rw [hx] at h1 h2
 obtain ⟨_, _, b, off, ha, hc⟩ := h.at_ i hi
 refine ⟨h2, b, off, ha, ?_⟩
 have := hc 0 (tx x) (by rw [h1]; rfl)
 rwa [hco, Nat.mul_one] at this
theorem uStrs0 : Tryz.prog.underlying 47 = some (.slice 9) := by kernel_rfl
theorem infStr0 : (Tryz.prog.info? 9).map (fun i => (i.zero, i.size, i.bytes)) = some (some (tx []), 1, 16) := by kernel_rfl
def TssIs (v : Value) (l : List (List UInt8)) (S : List (Nat × Obj)) : Prop := SlIs 9 1 v l.length (l.map tx) S
theorem TssIs.nil : TssIs (.slice none 0 0) [] [] := SlIs.nil
theorem TssIs.form {v : Value} {l : List (List UInt8)} {S : List (Nat × Obj)} (h : TssIs v l S) : ∃ a cap, v = .slice a l.length cap := by
 obtain ⟨a, cap, e, _⟩ := SlIs.form h
 exact ⟨a, cap, e⟩
section
variable {B : Nat} {w0 w : World} {S X : List (Nat × Obj)} {v : Value} {l : List (List UInt8)}
def ReadTs (w : World) (v : Value) (l : List (List UInt8)) : Prop := ∃ a cap, v = .slice a l.length cap ∧ TextsAt w a l.length l
theorem ReadTs.below {w w' : World} (h : ReadTs w v l) (hb : Below w.heap.size w w') : ReadTs w' v l := by
 obtain ⟨a, cap, e, h⟩ := h
 exact ⟨a, cap, e, h.below hb⟩
theorem TssIs.read (h : TssIs v l S) (hst : St B w0 w (X ++ S)) (hl : ∀ x ∈ l, x.length ≤ maxLen) : ReadTs w v l := by
 have h' : SlIs _ _ _ _ _ _ := h
 obtain ⟨a, cap, rfl, _, _, ha⟩ := h'.form
 refine ⟨a, cap, rfl, rfl, fun i x hx => ⟨hl x (List.mem_of_getElem? hx), ?_⟩⟩
 obtain ⟨g, off, rfl⟩ := ha i (List.getElem?_eq_some_iff.1 hx).1
 exact ⟨g, off, rfl, h'.cellAt hst (by rw [List.getElem?_map, hx]; rfl)⟩
theorem TssIs.append (hs : TssIs v l S) (hst : St B w0 w (X ++ S)) (t : List UInt8) (hl : l.length ≤ 1000000) :
  ∃ a cap W2 F2, (Builtin.append_ #[47, 47] 0 #[v, .slice (some ⟨w.heap.size, 0, none⟩) 1 1]).run Tryz.prog (w.alloc (.cells #[tx t] 9)) = .ok (.slice a (l.length + 1) cap) W2 ∧
   TssIs (.slice a (l.length + 1) cap) (l ++ [t]) F2 ∧ St B w0 W2 (X ++ F2) := by
 obtain ⟨i0, hi0, hz0, hz1, hz2⟩ := info_parts infStr0
 have hrd := Reads.one w (tx t) 9
 obtain ⟨v2, W2, F2, hr, hs2, hst2⟩ := run_append_sl (P := Tryz.prog) 47 0 9 i0 _ 1 16 uStrs0 hi0 hz0 hz1 hz2 rfl hs (A := (w.heap.size, .cells #[tx t] 9) :: X) (hst.alloc _) hrd
  (by intro u hu; rw [List.mem_singleton] at hu; subst hu; rfl) (by unfold maxLen; omega) (by omega)
 obtain ⟨a, cap, rfl, -⟩ := hs2.form
 refine ⟨a, cap, W2, F2, hr, ?_, hst2.sub (List.sublist_cons_self _ _)⟩
 unfold TssIs
 rw [List.length_append, List.length_singleton, List.map_append]
 exact hs2
end
theorem words_short (l : List UInt8) : ∀ x ∈ wordsL l, x.length ≤ l.length := by
 induction l with
 | nil => simp [wordsL]
 | cons c l ih =>
  unfold wordsL
  intro x hx
  rw [List.length_cons]
  split at hx
  ·rcases List.mem_cons.1 hx with rfl | hx
   ·simp
   ·have := ih x hx
    omega
  ·split at hx
   ·rw [List.mem_singleton] at hx
    subst hx
    simp
   ·rename_i w r h
    rw [h] at ih
    rcases List.mem_cons.1 hx with rfl | hx
    ·have := ih w (by simp)
     rw [List.length_cons]
     omega
    ·have := ih x (by simp [hx])
     omega
def WordsAt (w : World) (l : List UInt8) (g : Nat) (a' : Act) (w' : World) : Prop :=
 ∃ (done : Wds) (r : List UInt8) (v : Value) (S : List (Nat × Obj)), r.length = g ∧ done ++ wordsL r = wordsL l ∧ r.length ≤ l.length ∧ Fr 21 [(0, tx r), (3, v)] a' ∧ TssIs v done S ∧ St w.heap.size w w' S
set_option maxHeartbeats 1000000 in
theorem words_st {l : List UInt8} (hl : l.length ≤ 1000000) (w : World) :
  Calls Tryz.prog 271 #[tx l] w fun e w' => ∃ v S, e = .returned v ∧ TssIs v (wordsL l) S ∧ St w.heap.size w w' S := by
 have hwl := words_len l
 have hws := words_short l
 go_enter Tryz.func271, Tryz.ntmps271
 go_wp2_with fail
 refine wp_scope_ghost 0 (WordsAt w l) rfl ?_ ?_
 ·rintro g a' w' ⟨done, r, v, S, hg, hd, hr, hfr, hs, hst⟩
  obtain ⟨f, rfl, hl'⟩ := hfr.lit
  clear hfr
  simp only [List.mem_cons, List.not_mem_nil, or_false, forall_eq_or_imp, forall_eq] at hl'
  obtain ⟨f0, f3⟩ := hl'
  simp only [List.range, List.range.loop, List.map, f0, f3]
  clear f0 f3
  have hdl : done.length ≤ 1000000 := by
   have h1 := congrArg List.length hd
   have h2 := words_pos r
   rw [List.length_append] at h1
   omega
  obtain ⟨av, cv, rfl⟩ := hs.form
  rcases cut_cases r with hn | ⟨x, r', rfl, hx⟩
  ·have c1 := Lib.hid (cut_none hn w')
   rw [words_none hn] at hd
   have ap : Hid (∀ w1, Below w'.heap.size w' w1 → ∃ a cap W2 S2, (Builtin.append_ #[47, 47] 0 #[.slice av done.length cv, .slice (some ⟨w1.heap.size, 0, none⟩) 1 1]).run Tryz.prog (w1.alloc (.cells #[tx r] 9)) = .ok (.slice a (done.length + 1) cap) W2 ∧
     TssIs (.slice a (done.length + 1) cap) (wordsL l) S2 ∧ St w.heap.size w W2 S2) := Lib.hid fun w1 hb => by
    have hst1 : St w.heap.size w w1 ([] ++ S) := hst.grow hb
    obtain ⟨a, cap, W2, F2, h1, h2, h3⟩ := hs.append hst1 r hdl
    exact ⟨a, cap, W2, F2, h1, by rw [← hd]; exact h2, h3⟩
   clear hs hst hd hws hwl hn
   generalize done.length = n at *
   go_wp2_with fail
   refine c1.out.mono ?_
   rintro e w1 ⟨rfl, hb⟩
   obtain ⟨a2, cap2, W2, S2, hrun, fin⟩ := ap.out _ hb
   replace fin := Lib.hid fin
   clear hb c1 ap
   go_wp2_with (at_builtin; refine wpList_append_go rfl (.tmp 13) (.tmp 15) 47 47 rfl _ _ rfl rfl hrun ?_)
   simp only [Exit.jump]
   go_ret
   exact ⟨_, _, rfl, fin.out.1, fin.out.2⟩
  ·have c1 := Lib.hid (cut_some (r := r') hx (by unfold maxLen; omega) w')
   rw [words_cut hx] at hd
   have ap : Hid (∀ w1, Below w'.heap.size w' w1 → ∃ a cap W2 S2, (Builtin.append_ #[47, 47] 0 #[.slice av done.length cv, .slice (some ⟨w1.heap.size, 0, none⟩) 1 1]).run Tryz.prog (w1.alloc (.cells #[tx x] 9)) = .ok (.slice a (done.length + 1) cap) W2 ∧
     TssIs (.slice a (done.length + 1) cap) (done ++ [x]) S2 ∧ St w.heap.size w W2 S2) := Lib.hid fun w1 hb => by
    have hst1 : St w.heap.size w w1 ([] ++ S) := hst.grow hb
    obtain ⟨a, cap, W2, F2, h1, h2, h3⟩ := hs.append hst1 x hdl
    exact ⟨a, cap, W2, F2, h1, h2, h3⟩
   have hlen : (x ++ 46 :: r').length = x.length + 1 + r'.length := by simp; omega
   have hd2 : (done ++ [x]) ++ wordsL r' = wordsL l := by rw [← hd]; simp
   replace hlen := Lib.hid hlen
   replace hd2 := Lib.hid hd2
   clear hs hst hd hws hwl
   generalize x ++ 46 :: r' = L at *
   go_wp2_with fail
   refine c1.out.mono ?_
   rintro e w1 ⟨rfl, hb⟩
   obtain ⟨a2, cap2, W2, S2, hrun, fin1, fin2⟩ := ap.out _ hb
   replace fin1 := Lib.hid fin1
   replace fin2 := Lib.hid fin2
   clear hb c1 ap
   go_wp2_with (at_builtin; refine wpList_append_go rfl (.tmp 13) (.tmp 15) 47 47 rfl _ _ rfl rfl hrun ?_)
   refine wp_goto ?_
   have := hlen.out
   exact ⟨rfl, r'.length, by omega, done ++ [x], r', _, S2, rfl, hd2.out, by omega, ⟨rfl, rfl, by simp⟩, fin1.out, fin2.out⟩
 ·intro H
  clear hws hwl
  have hst := Lib.hid (St.start w)
  go_wp2_with fail
  refine wp_label ?_
  go_step
  go_step
  exact H l.length _ _ ⟨[], l, _, [], rfl, rfl, Nat.le_refl _, ⟨rfl, rfl, by simp⟩, TssIs.nil, hst.out⟩
theorem words_to {l : List UInt8} (hl : l.length ≤ 1000000) (w : World) :
  Calls Tryz.prog 271 #[tx l] w fun e w' => ∃ v, e = .returned v ∧ ReadTs w' v (wordsL l) ∧ Below w.heap.size w w' := by
 refine (words_st hl w).mono ?_
 rintro e w' ⟨v, S, rfl, h1, h2⟩
 refine ⟨v, rfl, h1.read (X := []) h2 fun x hx => ?_, h2.below⟩
 have := words_short l x hx
 unfold maxLen
 omega
section
open Go.ChangeMaps (setBlock)
def RootX (L : List Nd) (X : List Value) : Prop := ∃ r ∈ L, r.p = [] ∧ r.x = X
structure Same (L L' : List Nd) : Prop where
 ids : ∀ p k, HasId L' p k ↔ HasId L p k
 root : ∀ X, RootX L X → RootX L' X
theorem Same.refl (L : List Nd) : Same L L := ⟨fun _ _ => Iff.rfl, fun _ h => h⟩
theorem Same.trans {L L' L2 : List Nd} (h : Same L L') (g : Same L' L2) : Same L L2 := ⟨fun p k => (g.ids p k).trans (h.ids p k), fun X hX => g.root X (h.root X hX)⟩
theorem Same.perm {L L' : List Nd} (h : L.Perm L') : Same L L' :=
 ⟨fun p k => ⟨fun ⟨n, hn, e⟩ => ⟨n, h.mem_iff.2 hn, e⟩, fun ⟨n, hn, e⟩ => ⟨n, h.mem_iff.1 hn, e⟩⟩, fun X ⟨n, hn, e⟩ => ⟨n, h.mem_iff.1 hn, e⟩⟩
theorem Same.grow {n : Nd} {R : List Nd} {w : List UInt8} {nb : Nat} {y : TypeId} {s' : Tb (List UInt8)} : Same (n :: R) (newNd n w nb y :: { n with s := s' } :: R) := by
 refine ⟨fun p k => ⟨?_, ?_⟩, ?_⟩
 ·rintro ⟨m, hm, e1, e2⟩
  rcases List.mem_cons.1 hm with rfl | hm
  ·exact absurd e2 (by simp [Tb.new])
  rcases List.mem_cons.1 hm with rfl | hm
  ·exact ⟨n, List.mem_cons_self, e1, e2⟩
  ·exact ⟨m, List.mem_cons_of_mem _ hm, e1, e2⟩
 ·rintro ⟨m, hm, e1, e2⟩
  rcases List.mem_cons.1 hm with rfl | hm
  ·exact ⟨{ m with s := s' }, by simp, e1, e2⟩
  ·exact ⟨m, by simp [hm], e1, e2⟩
 ·rintro X ⟨m, hm, e1, e2⟩
  rcases List.mem_cons.1 hm with rfl | hm
  ·exact ⟨{ m with s := s' }, by simp, e1, e2⟩
  ·exact ⟨m, by simp [hm], e1, e2⟩
def LaidR (B : Nat) (w0 : World) (tb : Nat) (L : List Nd) (F : List (Nat × Obj)) (c : Nat) (p : Wds) (e : Ending) (w' : World) : Prop :=
 ∃ L' m, e = .returned (np m.b) ∧ m ∈ L' ∧ m.p = p ∧ St B w0 w' (objsL L' ++ F) ∧ TreeOk L' tb c ∧ Same L L'
section
variable {B : Nat} {w0 w : World} {F : List (Nat × Obj)} {L : List Nd} {tb c : Nat} {n m : Nd}
theorem cells_s (n : Nd) (s' : Tb (List UInt8)) : tabC n.cells 2 s'.mv s'.most = ({ n with s := s' } : Nd).cells := by
 simp [tabC, Nd.cells]
theorem cells_i (n : Nd) (i' : Tb Int) : tabC n.cells 4 i'.mv i'.most = ({ n with i := i' } : Nd).cells := by
 simp [tabC, Nd.cells]
theorem new_objs (n : Nd) (w : List UInt8) (nb : Nat) (y : TypeId) : (newNd n w nb y).objs = [(nb, .cells #[np n.b, tx w, .map none, .int .i64 0, .map none, .int .i64 0] y)] := by
 show (nb, (Obj.cells (newNd n w nb y).cells y)) :: [] = _
 unfold Nd.cells
 rw [lastW_snoc]
 rfl
set_option maxHeartbeats 1000000 in
theorem to_any (hst : St B w0 w (objsL L ++ F)) (ht : TreeOk L tb c) (hn : n ∈ L) (v : List UInt8) (hv : v.length ≤ 1000000) (hc : c ≤ 900000) :
  Calls Tryz.prog 272 #[np n.b, tx v] w (LaidR B w0 tb L F (c + 1) (n.p ++ [v])) := by
 have hk := run_kid hst ht hn v
 have c2 := hst.node hn (j := 2) (v := .map n.s.mv) rfl
 cases hm : nd L (n.p ++ [v]) with
 | some m =>
  obtain ⟨h1, h2⟩ := nd_mem hm
  have fin : Hid (LaidR B w0 tb L F (c + 1) (n.p ++ [v]) (.returned (np m.b)) w) := Lib.hid ⟨L, m, rfl, h1, h2, hst, ht.mono (Nat.le_succ _), Same.refl _⟩
  unfold ptrP at hk
  rw [hm] at hk
  clear hst ht hn h1 h2 hm
  go_enter Tryz.func272, Tryz.ntmps272
  go_wp2_with fail
  go_ret
  exact fin.out
 | none =>
  unfold ptrP at hk
  rw [hm] at hk
  have cl := Lib.hid (clone_any v w (by omega))
  have hne := nd_none.1 hm
  have put : Hid (∀ w1, Below w.heap.size w w1 → (w1.alloc (.cells #[np n.b, tx v, .map none, .int .i64 0, .map none, .int .i64 0] 318)).cell? ⟨w1.heap.size, 1, none⟩ = some (tx v) ∧
    Calls Tryz.prog 294 #[.pointer (some ⟨n.b, 2, none⟩), tx v, np w1.heap.size] (w1.alloc (.cells #[np n.b, tx v, .map none, .int .i64 0, .map none, .int .i64 0] 318)).drew fun e w' => e = .returned (.tuple #[]) ∧ LaidR B w0 tb L F (c + 1) (n.p ++ [v]) (.returned (np w1.heap.size)) w') := Lib.hid fun w1 hb => by
   obtain ⟨R, hp⟩ : ∃ R, L.Perm (n :: R) := by
    obtain ⟨a, b, rfl⟩ := List.append_of_mem hn
    exact ⟨a ++ b, List.perm_middle⟩
   have ht' := ht.perm hp
   have hs1 : St B w0 w1 (objsL (n :: R) ++ F) := (hst.grow hb).perm ((objs_perm hp).append_right F)
   have hs2 := (hs1.alloc (.cells #[np n.b, tx v, .map none, .int .i64 0, .map none, .int .i64 0] 318)).drew
   refine ⟨hs2.cell (b := w1.heap.size) List.mem_cons_self rfl, ?_⟩
   have hs3 : St B w0 (w1.alloc (.cells #[np n.b, tx v, .map none, .int .i64 0, .map none, .int .i64 0] 318)).drew ((n.b, .cells n.cells n.y) :: (tabH encS n.s ++ (tabH encI n.i ++ (objsL R ++ ((w1.heap.size, .cells #[np n.b, tx v, .map none, .int .i64 0, .map none, .int .i64 0] 318) :: F))))) := by
    refine hs2.perm ?_
    rw [objs_cons]
    unfold Nd.objs
    classical
    exact List.perm_iff_count.2 fun a => by simp only [List.count_append, List.count_cons, List.append_assoc, List.cons_append]; omega
   have hnk : v ∉ n.s.es.map (·.1) := by
    intro hmem
    rw [← keys_rows] at hmem
    obtain ⟨r, hr, rfl⟩ := List.mem_map.1 hmem
    obtain ⟨q, hq, e1, -⟩ := ht.downs n hn r hr
    exact hne q hq e1
   refine (putS_is hs3 rfl rfl (ht.oks n hn).1 (by omega) hnk).mono ?_
   rintro e w' ⟨rfl, s', ⟨g1, g2⟩, g3⟩
   have hnb : ∀ q ∈ n :: R, q.b ≠ w1.heap.size := fun q hq e => by
    have := hs1.lt (b := q.b) (o := .cells q.cells q.y) (List.mem_append_left _ (List.mem_flatMap.2 ⟨q, hq, List.mem_cons_self⟩))
    omega
   refine ⟨rfl, newNd n v w1.heap.size 318 :: { n with s := s' } :: R, newNd n v w1.heap.size 318, rfl, List.mem_cons_self, rfl, ?_, ht'.grow (fun q hq => hne q (hp.mem_iff.2 hq)) hnb g1 g2, (Same.perm hp).trans Same.grow⟩
   rw [cells_s] at g3
   refine g3.perm ?_
   rw [objs_cons, objs_cons, new_objs]
   unfold Nd.objs
   classical
   exact List.perm_iff_count.2 fun a => by simp only [List.count_append, List.count_cons, List.count_nil, List.append_assoc, List.cons_append]; omega
  clear hst ht hn hm hne
  go_enter Tryz.func272, Tryz.ntmps272
  go_wp2_with fail
  refine cl.out.mono ?_
  rintro e w1 ⟨rfl, hb⟩
  obtain ⟨g1, g2⟩ := put.out w1 hb
  replace g2 := Lib.hid g2
  clear hb put cl hk c2
  go_upto_region 5 with fail
  generalize w1.alloc (.cells #[np n.b, tx v, .map none, .int .i64 0, .map none, .int .i64 0] 318) = W2 at *
  generalize w1.heap.size = nb at *
  go_still_tail 8, (by kernel_rfl)
  change wpList _ _ _ _ _ W2.drew
  go_wp2_with fail
  refine g2.out.mono ?_
  rintro e w3 ⟨rfl, fin⟩
  replace fin := Lib.hid fin
  go_wp2_with fail
  go_ret
  exact fin.out
def LayAt (B : Nat) (w0 : World) (tb : Nat) (L0 : List Nd) (F : List (Nat × Obj)) (c : Nat) (P : Wds) (g : Nat) (a' : Act) (w' : World) : Prop :=
 ∃ (L : List Nd) (m : Nd) (at_ : Nat) (a : Option Addr) (cap : Nat) (S : List (Nat × Obj)), at_ + g = P.length ∧ m ∈ L ∧ m.p = P.take at_ ∧ Fr 22 [(0, np m.b), (5, .slice a P.length cap), (6, .int .i64 at_)] a' ∧
  St B w0 w' (objsL L ++ (S ++ F)) ∧ TreeOk L tb (c + at_) ∧ Same L0 L ∧ TssIs (.slice a P.length cap) P S
theorem take_snoc {P : Wds} {k : Nat} {x : List UInt8} (h : P[k]? = some x) : P.take k ++ [x] = P.take (k + 1) := by
 rw [List.take_add_one, h]; rfl
set_option maxHeartbeats 1000000 in
theorem lay_any (hst : St B w0 w (objsL L ++ F)) (ht : TreeOk L tb c) (hn : n ∈ L) (h0 : n.p = []) (l : List UInt8) (hl : l.length ≤ 1000) (hc : c ≤ 800000) :
  Calls Tryz.prog 243 #[np n.b, tx l] w (LaidR B w0 tb L F (c + (wordsL l).length) (wordsL l)) := by
 have hwl := words_len l
 have hws := words_short l
 have cw := Lib.hid (words_st (l := l) (by omega) w)
 have start : Hid (∀ w1 S, St w.heap.size w w1 S → St B w0 w1 (objsL L ++ (S ++ F)) ∧ TreeOk L tb (c + 0) ∧ Same L L ∧ n ∈ L ∧ n.p = (wordsL l).take 0) := Lib.hid fun w1 S hs => by
  refine ⟨(hst.join hs).perm ?_, ht, Same.refl _, hn, h0⟩
  rw [List.append_assoc]
  exact List.Perm.append_left _ List.perm_append_comm
 clear hst ht hn h0
 generalize wordsL l = P at *
 have hPl : P.length ≤ 1001 := by omega
 have hws : ∀ x ∈ P, x.length ≤ 1000 := fun x hx => by have := hws x hx; omega
 clear hwl
 generalize hnb : np n.b = nv at *
 go_enter Tryz.func243, Tryz.ntmps243
 go_wp2_with fail
 refine wp_scope_ghost 0 (LayAt B w0 tb L F c P) rfl ?_ ?_
 ·clear start cw hnb
  rintro g a' w' ⟨L1, m, at_, a, cap, S, hg, hm, hmp, hfr, hst, ht, hsame, hv⟩
  obtain ⟨f, rfl, hl'⟩ := hfr.lit
  clear hfr
  simp only [List.mem_cons, List.not_mem_nil, or_false, forall_eq_or_imp, forall_eq] at hl'
  obtain ⟨f0, f5, f6⟩ := hl'
  simp only [List.range, List.range.loop, List.map, f0, f5, f6]
  clear f0 f5 f6
  have hP0 : (P.length : Int) ≤ 1001 := by omega
  by_cases hlt : at_ < P.length
  ·have hx : P[at_]? = some P[at_] := List.getElem?_eq_getElem hlt
   have hxl := hws _ (List.mem_of_getElem? hx)
   have hrd : ReadTs w' (.slice a P.length cap) P := hv.read (X := objsL L1 ++ F) (hst.perm (by rw [List.append_assoc]; exact List.Perm.append_left _ List.perm_append_comm)) (fun x hx => by have := hws x hx; unfold maxLen; omega)
   obtain ⟨a2, cap2, e2, hta⟩ := hrd
   simp only [Value.slice.injEq, true_and] at e2
   obtain ⟨rfl, rfl⟩ := e2
   obtain ⟨-, b, off, rfl, hcell⟩ := hta.at_ _ _ hx
   have c1 := Lib.hid (to_any (v := P[at_]) hst ht hm (by omega) (by omega))
   rw [hmp, take_snoc hx] at c1
   have hlt' : (at_ : Int) < P.length := by omega
   have hat0 : (0 : Int) ≤ at_ := by omega
   have hne : ¬ (at_ : Int) = P.length := by omega
   have hneB : ((at_ : Int) == (P.length : Int)) = false := by simpa using hne
   generalize P[at_] = x at *
   replace hsame := Lib.hid hsame
   replace hv := Lib.hid hv
   clear hst ht hm hmp hta hx hws
   go_wp2_with fail
   refine c1.out.mono ?_
   rintro e w2 ⟨L2, m2, rfl, g1, g2, g3, g4, g5⟩
   replace g3 := Lib.hid g3
   replace g4 := Lib.hid g4
   replace g2 := Lib.hid g2
   clear c1
   go_wp2_with fail
   refine wp_goto ?_
   exact ⟨rfl, P.length - (at_ + 1), by omega, L2, m2, at_ + 1, _, _, S, by omega, g1, g2.out, ⟨rfl, rfl, by simp⟩, g3.out, by rw [← Nat.add_assoc]; exact g4.out, hsame.out.trans g5, hv.out⟩
  ·obtain rfl : at_ = P.length := by omega
   have fin : Hid (LaidR B w0 tb L F (c + P.length) P (.returned (np m.b)) w') := Lib.hid ⟨L1, m, rfl, hm, by rw [hmp, List.take_length], hst.sub ((List.Sublist.refl _).append (List.sublist_append_right _ _)), ht, hsame⟩
   clear hst ht hm hmp hsame hws hv
   go_wp2_with fail
   simp only [Exit.jump]
   go_ret
   exact fin.out
 ·intro H
  clear hws
  go_wp2_with fail
  refine cw.out.mono ?_
  rintro e w1 ⟨v, S, rfl, hv, hS⟩
  obtain ⟨a, cap, rfl⟩ := hv.form
  obtain ⟨k1, k2, k3, k4, k5⟩ := start.out _ _ hS
  clear hS start cw
  replace k1 := Lib.hid k1
  replace hv := Lib.hid hv
  go_wp2_with fail
  refine wp_label ?_
  go_step
  go_step
  exact H P.length _ _ ⟨L, n, 0, a, cap, S, by omega, k4, k5, ⟨rfl, rfl, by simp [hnb]⟩, k1.out, k2, k3, hv.out⟩
end
end
section
open Go.ChangeMaps (setBlock)
section
variable {B : Nat} {w0 w : World} {F : List (Nat × Obj)} {L : List Nd} {tb c : Nat} {n m : Nd} {P : Wds}
theorem TreeOk.one (h : TreeOk L tb c) {k : Nat} (hk : k < P.length) (hm : ∃ m ∈ L, m.p = P.take (k + 1)) : ∃ m ∈ L, m.p = P.take k := by
 obtain ⟨m, hm, e⟩ := hm
 have hx : P[k]? = some P[k] := List.getElem?_eq_getElem hk
 rw [← take_snoc hx] at e
 rcases h.ups m hm with ⟨h1, _⟩ | ⟨q, hq, w, h1, _, _⟩
 ·rw [h1] at e
  have := congrArg List.length e
  rw [List.length_append, List.length_singleton, List.length_nil] at this
  omega
 ·rw [h1] at e
  exact ⟨q, hq, (snoc_inj e).1⟩
theorem TreeOk.pre (h : TreeOk L tb c) (hm : ∃ m ∈ L, m.p = P) : ∀ (d k : Nat), k + d = P.length → ∃ m ∈ L, m.p = P.take k
 | 0, k, e => by rw [List.take_of_length_le (by omega)]; exact hm
 | d + 1, k, e => h.one (by omega) (TreeOk.pre h hm d (k + 1) (by omega))
theorem TreeOk.lost (h : TreeOk L tb c) {k : Nat} (hk : k ≤ P.length) (hn : nd L (P.take k) = none) : nd L P = none := by
 rw [nd_none]
 intro m hm e
 obtain ⟨q, hq, e2⟩ := h.pre ⟨m, hm, e⟩ (P.length - k) k (by omega)
 exact nd_none.1 hn q hq e2
def FindAt (w : World) (L : List Nd) (P : Wds) (g : Nat) (a' : Act) (w' : World) : Prop :=
 ∃ (at_ : Nat) (a : Option Addr) (cap : Nat), at_ + g = P.length ∧ Fr 30 [(0, ptrP L (P.take at_)), (5, .slice a P.length cap), (6, .int .i64 at_)] a' ∧ ReadTs w' (.slice a P.length cap) P ∧ Below w.heap.size w w'
set_option maxHeartbeats 1000000 in
theorem find_any (hst : St B w0 w (objsL L ++ F)) (ht : TreeOk L tb c) (hn : n ∈ L) (h0 : n.p = []) (l : List UInt8) (hl : l.length ≤ 1000) :
  Calls Tryz.prog 286 #[np n.b, tx l] w fun e w' => e = .returned (ptrP L (wordsL l)) ∧ Below w.heap.size w w' := by
 have hwl := words_len l
 have cw := Lib.hid (words_to (l := l) (by omega) w)
 have e0 : np n.b = ptrP L ((wordsL l).take 0) := by
  rw [List.take_zero, ← h0, ht.ptr hn]
 generalize wordsL l = P at *
 have hPl : P.length ≤ 1001 := by omega
 rw [e0]
 replace hst := Lib.hid hst
 replace ht := Lib.hid ht
 clear hwl e0 hn h0
 generalize hnv : ptrP L (P.take 0) = nv at *
 replace hnv := Lib.hid hnv
 go_enter Tryz.func286, Tryz.ntmps286
 go_wp2_with fail
 refine wp_scope_ghost 0 (FindAt w L P) rfl ?_ ?_
 ·clear cw hnv
  rintro g a' w' ⟨at_, a, cap, hg, hfr, hv, hb⟩
  obtain ⟨f, rfl, hl'⟩ := hfr.lit
  clear hfr
  simp only [List.mem_cons, List.not_mem_nil, or_false, forall_eq_or_imp, forall_eq] at hl'
  obtain ⟨f0, f5, f6⟩ := hl'
  simp only [List.range, List.range.loop, List.map, f0, f5, f6]
  clear f0 f5 f6
  have hP0 : (P.length : Int) ≤ 1001 := by omega
  have hat0 : (0 : Int) ≤ at_ := by omega
  cases hm : nd L (P.take at_) with
  | none =>
   have e1 : ptrP L (P.take at_) = .pointer none := by unfold ptrP; rw [hm]
   have e2 : ptrP L P = .pointer none := by unfold ptrP; rw [ht.out.lost (by omega) hm]
   rw [e1]
   replace e2 := Lib.hid e2
   replace hb := Lib.hid hb
   clear hv hst ht e1 hm
   go_wp2_with fail
   simp only [Exit.jump]
   go_ret
   exact ⟨by rw [e2.out]; rfl, hb.out⟩
  | some m =>
   obtain ⟨hm1, hm2⟩ := nd_mem hm
   have e1 : ptrP L (P.take at_) = np m.b := by unfold ptrP; rw [hm]
   rw [e1]
   by_cases hlt : at_ < P.length
   ·have hx : P[at_]? = some P[at_] := List.getElem?_eq_getElem hlt
    obtain ⟨a2, cap2, e2, hta⟩ := id hv
    simp only [Value.slice.injEq, true_and] at e2
    obtain ⟨rfl, rfl⟩ := e2
    obtain ⟨-, b, off, rfl, hcell⟩ := hta.at_ _ _ hx
    have hst' : St B w0 w' (objsL L ++ F) := hst.out.grow hb
    have hk := run_kid hst'.drew ht.out hm1 P[at_]
    rw [hm2, take_snoc hx] at hk
    have c2 := hst'.node hm1 (j := 2) (v := .map m.s.mv) rfl
    have hlt' : (at_ : Int) < P.length := by omega
    have hneB : ((at_ : Int) == (P.length : Int)) = false := by
     rw [beq_eq_false_iff_ne]
     omega
    replace hv := Lib.hid hv
    replace hb := Lib.hid hb
    clear hst ht hst' hm hm1 hm2 e1 hta
    generalize P[at_] = x at *
    generalize hnx : ptrP L (P.take (at_ + 1)) = nx at *
    replace hnx := Lib.hid hnx
    go_upto_region 5 with fail
    go_still_tail 10, (by kernel_rfl)
    change wpList _ _ _ _ _ w'.drew
    go_wp2_with fail
    refine wp_goto ?_
    exact ⟨rfl, P.length - (at_ + 1), by omega, at_ + 1, _, _, by omega, ⟨rfl, rfl, by simp [hnx.out]⟩, hv.out.below (Below.refl _ _).drew, hb.out.drew⟩
   ·obtain rfl : at_ = P.length := by omega
    rw [List.take_length] at e1
    replace e1 := Lib.hid e1
    replace hb := Lib.hid hb
    clear hst ht hv hm hm1 hm2
    go_wp2_with fail
    simp only [Exit.jump]
    go_ret
    exact ⟨by rw [e1.out]; rfl, hb.out⟩
 ·intro H
  go_wp2_with fail
  refine cw.out.mono ?_
  rintro e w1 ⟨v, rfl, hv, hb⟩
  obtain ⟨a, cap, rfl, hta⟩ := id hv
  clear cw hta
  replace hv := Lib.hid hv
  replace hb := Lib.hid hb
  go_wp2_with fail
  refine wp_label ?_
  go_step
  go_step
  exact H P.length _ _ ⟨0, a, cap, by omega, ⟨rfl, rfl, by simp only [List.mem_cons, List.not_mem_nil, or_false, forall_eq_or_imp, forall_eq]; exact ⟨by rw [hnv.out]; rfl, rfl, rfl⟩⟩, hv.out, hb.out⟩
theorem Same.cut {R : List Nd} {s' : Tb (List UInt8)} (hp : m.p ≠ []) (hi : m.i.es = []) : Same (m :: n :: R) ({ n with s := s' } :: R) := by
 refine ⟨fun p k => ⟨?_, ?_⟩, ?_⟩
 ·rintro ⟨q, hq, e1, e2⟩
  rcases List.mem_cons.1 hq with rfl | hq
  ·exact ⟨n, by simp, e1, e2⟩
  ·exact ⟨q, by simp [hq], e1, e2⟩
 ·rintro ⟨q, hq, e1, e2⟩
  rcases List.mem_cons.1 hq with rfl | hq
  ·rw [hi] at e2
   exact absurd e2 (by simp)
  rcases List.mem_cons.1 hq with rfl | hq
  ·exact ⟨{ q with s := s' }, by simp, e1, e2⟩
  ·exact ⟨q, by simp [hq], e1, e2⟩
 ·rintro X ⟨q, hq, e1, e2⟩
  rcases List.mem_cons.1 hq with rfl | hq
  ·exact absurd e1 hp
  rcases List.mem_cons.1 hq with rfl | hq
  ·exact ⟨{ q with s := s' }, by simp, e1, e2⟩
  ·exact ⟨q, by simp [hq], e1, e2⟩
def PruneR (B : Nat) (w0 : World) (tb : Nat) (L : List Nd) (F : List (Nat × Obj)) (c : Nat) (e : Ending) (w' : World) : Prop :=
 e = .returned (.tuple #[]) ∧ ∃ L', St B w0 w' (objsL L' ++ F) ∧ TreeOk L' tb c ∧ Same L L'
def PruneAt (B : Nat) (w0 : World) (tb : Nat) (L0 : List Nd) (F : List (Nat × Obj)) (c : Nat) (g : Nat) (a' : Act) (w' : World) : Prop :=
 ∃ L m, m ∈ L ∧ m.p.length = g ∧ Fr 36 [(0, np m.b)] a' ∧ St B w0 w' (objsL L ++ F) ∧ TreeOk L tb c ∧ Same L0 L
set_option maxHeartbeats 1000000 in
theorem prune_any (hst : St B w0 w (objsL L ++ F)) (ht : TreeOk L tb c) (hm : m ∈ L) (hc : c ≤ 1000000) :
  Calls Tryz.prog 288 #[np m.b] w (PruneR B w0 tb L F c) := by
 have start : Hid (St B w0 w (objsL L ++ F) ∧ TreeOk L tb c ∧ m ∈ L) := Lib.hid ⟨hst, ht, hm⟩
 clear hst ht hm
 generalize hnv : np m.b = nv at *
 replace hnv := Lib.hid hnv
 go_enter Tryz.func288, Tryz.ntmps288
 go_wp2_with fail
 refine wp_scope_ghost 0 (PruneAt B w0 tb L F c) rfl ?_ ?_
 ·clear start hnv
  rintro g a' w' ⟨L1, m, hm, hg, hfr, hst, ht, hsame⟩
  obtain ⟨f, rfl, hl'⟩ := hfr.lit
  clear hfr
  simp only [List.mem_cons, List.not_mem_nil, or_false, forall_eq_or_imp, forall_eq] at hl'
  simp only [List.range, List.range.loop, List.map, hl']
  clear hl'
  have c0 := hst.node hm (j := 0) (v := upV m.u) rfl
  have c1 := hst.node hm (j := 1) (v := tx (lastW m.p)) rfl
  have stop : Hid (PruneR B w0 tb L F c (.returned (.tuple #[])) w') := Lib.hid ⟨rfl, L1, hst, ht, hsame⟩
  have ci := Lib.hid (countI_any (hst.tabI hm) fun e => ((ht.oks m hm).2.bare e).1)
  have cs := Lib.hid (countS_any (hst.tabS hm) fun e => ((ht.oks m hm).1.bare e).1)
  rcases ht.up hm with ⟨hp0, hu⟩ | ⟨q, hq, wd, hpq, hu⟩
  ·rw [hu] at c0
   clear hst ht hm c1 ci cs hsame
   go_wp2_with fail
   simp only [Exit.jump]
   exact bodyPost_end (results_none rfl _ _ _) rfl stop.out
  ·rw [hu] at c0
   by_cases hi : m.i.es = []
   ·rw [hi] at ci
    by_cases hs : m.s.es = []
    ·rw [hs] at cs
     rw [hpq, lastW_snoc] at c1
     obtain ⟨R, hp⟩ : ∃ R, L1.Perm (m :: q :: R) := by
      obtain ⟨a, b, rfl⟩ := List.append_of_mem hm
      have hq2 : q ∈ a ++ b := by
       rcases List.mem_append.1 hq with hq | hq
       ·exact List.mem_append_left _ hq
       ·rcases List.mem_cons.1 hq with rfl | hq
        ·have := congrArg List.length hpq
         rw [List.length_append, List.length_singleton] at this
         omega
        ·exact List.mem_append_right _ hq
      obtain ⟨a2, b2, e2⟩ := List.append_of_mem hq2
      exact ⟨a2 ++ b2, List.perm_middle.trans (List.Perm.cons _ (by rw [e2]; exact List.perm_middle))⟩
     have hwd : wd ∈ q.s.es.map (·.1) := by
      rcases ht.ups m hm with ⟨e, _⟩ | ⟨q2, hq2, w2, e1, _, e3⟩
      ·rw [e] at hpq; simp at hpq
      ·rw [hpq] at e1
       obtain ⟨e4, rfl⟩ := snoc_inj e1
       obtain rfl := map_inj ht.paths hq hq2 e4
       rw [← keys_rows]
       exact List.mem_map_of_mem (f := (·.1)) e3
     have hs2 : St B w0 w'.drew ((q.b, .cells q.cells q.y) :: (tabH encS q.s ++ (tabH encI q.i ++ (objsL R ++ (m.objs ++ F))))) := by
      refine hst.drew.perm (((objs_perm hp).append_right F).trans ?_)
      rw [objs_cons, objs_cons]
      show (m.objs ++ (((q.b, .cells q.cells q.y) :: (tabH encS q.s ++ tabH encI q.i)) ++ objsL R) ++ F).Perm _
      classical
      exact List.perm_iff_count.2 fun a => by simp only [List.count_append, List.count_cons, List.append_assoc, List.cons_append]; omega
     have cd : Hid (Calls Tryz.prog 305 #[.pointer (some ⟨q.b, 2, none⟩), tx wd] w'.drew fun e w3 => e = .returned (.tuple #[]) ∧ ∃ L', ∃ q' ∈ L', q'.p = q.p ∧ q'.b = q.b ∧ St B w0 w3 (objsL L' ++ F) ∧ TreeOk L' tb c ∧ Same L L' ∧ w3.cell? ⟨m.b, 0, none⟩ = some (np q.b)) := Lib.hid (by
      refine (dropS_any hs2 rfl rfl (ht.oks q hq).1 hc hwd).mono ?_
      rintro e w3 ⟨rfl, s', ⟨g1, g2⟩, g3⟩
      rw [cells_s] at g3
      have hm0 : m.p ≠ [] := by rw [hpq]; simp
      refine ⟨rfl, { q with s := s' } :: R, _, List.mem_cons_self, rfl, rfl, ?_, (ht.perm hp).cut hpq (by simp [Tb.rows, hs]) g1 g2, hsame.trans ((Same.perm hp).trans (Same.cut hm0 hi)), ?_⟩
      ·have g4 : St B w0 w3 (m.objs ++ (objsL ({ q with s := s' } :: R) ++ F)) := by
        refine g3.perm ?_
        rw [objs_cons]
        show List.Perm _ (m.objs ++ (((q.b, .cells ({ q with s := s' } : Nd).cells q.y) :: (tabH encS s' ++ tabH encI q.i)) ++ objsL R ++ F))
        classical
        exact List.perm_iff_count.2 fun a => by simp only [List.count_append, List.count_cons, List.append_assoc, List.cons_append]; omega
       exact g4.sub (List.sublist_append_right _ _)
      ·refine g3.cell (b := m.b) (c := m.cells) (T := m.y) (fr := (0, 0)) ?_ (show m.cells[0]? = some (np q.b) by rw [← hu]; rfl)
       unfold Nd.objs
       simp)
     replace hpq := Lib.hid (congrArg List.length hpq)
     replace hg := Lib.hid hg
     clear hst ht hm hsame hs hi hwd hs2 stop hp hu hq
     go_wp2_with fail
     refine ci.out.mono ?_
     rintro e w2 ⟨rfl, rfl⟩
     go_wp2_with fail
     refine cs.out.mono ?_
     rintro e w2 ⟨rfl, rfl⟩
     go_upto_region 1 with fail
     go_still_tail 10, (by kernel_rfl)
     change wpList _ _ _ _ _ w2.drew
     go_wp2_with fail
     refine cd.out.mono ?_
     rintro e w3 ⟨rfl, L', q', g0, g1, g2, g3, g4, g5, g6⟩
     replace g3 := Lib.hid g3
     go_wp2_with fail
     refine wp_goto ?_
     refine ⟨rfl, q'.p.length, ?_, L', q', g0, rfl, ⟨rfl, rfl, fun p hp => by rw [List.mem_singleton] at hp; subst hp; rw [g2]; rfl⟩, g3.out, g4, g5⟩
     have := hpq.out
     rw [List.length_append, List.length_singleton] at this
     rw [g1, ← hg.out]
     omega
    ·have hpos : (0 : Int) < m.s.es.length := by
      have := List.length_pos_iff.2 hs
      omega
     generalize m.s.es.length = k at *
     clear hst ht hm c1 hsame hs hi
     go_wp2_with fail
     refine ci.out.mono ?_
     rintro e w2 ⟨rfl, rfl⟩
     go_wp2_with fail
     refine cs.out.mono ?_
     rintro e w2 ⟨rfl, rfl⟩
     go_wp2_with fail
     simp only [Exit.jump]
     exact bodyPost_end (results_none rfl _ _ _) rfl stop.out
   ·have hpos : (0 : Int) < m.i.es.length := by
     have := List.length_pos_iff.2 hi
     omega
    generalize m.i.es.length = k at *
    clear hst ht hm c1 cs hsame
    go_wp2_with fail
    refine ci.out.mono ?_
    rintro e w2 ⟨rfl, rfl⟩
    go_wp2_with fail
    simp only [Exit.jump]
    exact bodyPost_end (results_none rfl _ _ _) rfl stop.out
 ·intro H
  obtain ⟨k1, k2, k3⟩ := start.out
  replace k1 := Lib.hid k1
  go_wp2_with fail
  refine wp_label ?_
  go_step
  go_step
  refine H m.p.length _ _ ?_
  refine ⟨L, m, k3, rfl, ⟨rfl, rfl, ?_⟩, k1.out, k2, Same.refl _⟩
  intro p hp
  rw [List.mem_singleton] at hp
  subst hp
  rw [hnv.out]
  rfl
end
end
section
open Go.ChangeMaps (setBlock)
def okP (w : World) (b : Nat) : Prop := ∃ c T, w.heap[b]? = some (.cells c T (0, 0))
theorem uPNode : Tryz.prog.underlying 310 = some (.pointer 318) := by kernel_rfl
theorem infNode : (Tryz.prog.info? 318).map (fun i => i.size) = some 6 := by kernel_rfl
theorem uMapK : Tryz.prog.underlying 343 = some (.map 310 3) := by kernel_rfl
theorem zInt12 (w : World) : (zeroValue 3).run Tryz.prog w = .ok (.int .i64 0) w := Tryz.zeroValue3 w
theorem equal_np {w : World} {a b : Nat} (ha : okP w a) (hb : okP w b) : (Op.equal 310 (np a) (np b)).run Tryz.prog w = .ok (decide (b = a)) w := by
 obtain ⟨j, hj, hsz⟩ : ∃ j, Tryz.prog.info? 318 = some j ∧ j.size ≠ 0 := by
  have h := infNode
  cases hi : Tryz.prog.info? 318 with
  | none => rw [hi] at h; cases h
  | some j =>
   rw [hi] at h
   have : j.size = 6 := by simpa using h
   exact ⟨j, rfl, by omega⟩
 by_cases e : b = a
 ·subst e
  have h : ∀ d : Nat, (Op.equalIn (d + 1) 310 (np b) (np b)).run Tryz.prog w = .ok true w := fun d => by
   simp [Op.equalIn, run_underlying uPNode, sizeOf, typeInfo, hj, run_sameAddr_same]
  simp [Op.equal, Op.maxDepth, h 9999]
 ·obtain ⟨ca, ta, ha⟩ := ha
  obtain ⟨cb, tb, hb⟩ := hb
  have hne : (⟨a, 0, none⟩ : Addr) ≠ ⟨b, 0, none⟩ := fun h => e (congrArg Addr.block h).symm
  have h : ∀ d : Nat, (Op.equalIn (d + 1) 310 (np a) (np b)).run Tryz.prog w = .ok false w := fun d => by
   simp [Op.equalIn, run_underlying uPNode, sizeOf, typeInfo, hj, hsz, run_sameAddr_other w hne ha hb]
  simp [Op.equal, Op.maxDepth, h 9999, e]
theorem asking {w : World} {k : Nat} (hk : okP w k) : ∀ (l : List (MapRow Nat)) (i : Nat), (∀ x ∈ l, okP w x.1) → (Instr.findAsking 310 (np k) (l.map (entE np)) i).run Tryz.prog w = .ok (spot l k i) w
 | [], i, _ => rfl
 | x :: l, i, h => by
  have he := equal_np hk (h x (by simp))
  simp only [List.map_cons, Instr.findAsking, entE]
  simp only [Sem.run_bind, he, Result.andThen]
  by_cases e : x.1 = k
  ·subst e
   rw [spot_hit]
   simp
  ·rw [spot_miss e]
   have e2 : decide (x.1 = k) = false := by simpa using e
   simp only [e2]
   exact asking hk l (i + 1) fun y hy => h y (by simp [hy])
theorem keyP : KeyBy Tryz.prog 310 np okP := by
 refine ⟨fun em n k w => by simp [Instr.checkKey, run_underlying uPNode], fun l k w h1 h2 => ?_, fun k => ?_⟩
 ·cases l with
  | nil =>
   simp only [Instr.findKey]
   simp [run_underlying uPNode, Instr.findNow, spot_nil]
  | cons x l =>
   have h := asking h1 (x :: l) 0 h2
   have e : Instr.findNow (.pointer 318) (np k) ((x :: l).map (entE np)) 0 = none := rfl
   simp only [Instr.findKey]
   simp only [Sem.run_bind, run_underlying uPNode, Result.andThen, e]
   exact h
 ·have h : Instr.sameBits 10000 (np k) (np k) = ((some ⟨k, 0, none⟩ : Option Addr) == some ⟨k, 0, none⟩) := rfl
  rw [h]
  simp
section
variable {α : Type} [DecidableEq α]
theorem seek_push (l : List (MapRow α)) (x : MapRow α) (k : α) : seek (l ++ [x]) k = (seek l k).or (if x.1 = k then some x else none) := by
 unfold seek
 rw [List.find?_append]
 congr 1
 by_cases h : x.1 = k <;> simp [h]
theorem putE_hit (l : List (MapRow α)) (x : MapRow α) (v : Value) : putE (x :: l) x.1 v = (x.1, v, x.2.2) :: l := by
 unfold putE
 simp [List.findIdx?_cons]
theorem putE_miss {l : List (MapRow α)} {x : MapRow α} {k : α} (h : x.1 ≠ k) (v : Value) : putE (x :: l) k v = x :: putE l k v := by
 have h2 : decide (x.1 = k) = false := by simpa using h
 unfold putE
 simp only [List.findIdx?_cons, h2]
 cases hf : l.findIdx? (fun x => decide (x.1 = k)) with
 | none => simp
 | some j => simp
theorem putE_seek {l : List (MapRow α)} {k : α} {e : MapRow α} (h : seek l k = some e) (v : Value) (k' : α) : (seek (putE l k v) k').map (·.2.1) = if k' = k then some v else (seek l k').map (·.2.1) := by
 induction l with
 | nil => simp [seek] at h
 | cons x l ih =>
  by_cases hx : x.1 = k
  ·subst hx
   rw [putE_hit]
   by_cases e1 : k' = x.1
   ·subst e1
    simp [seek]
   ·have e2 : ¬ x.1 = k' := fun e => e1 e.symm
    simp [seek, e1, e2]
  ·rw [putE_miss hx]
   have h' : seek l k = some e := by
    have h2 : decide (x.1 = k) = false := by simpa using hx
    unfold seek at h ⊢
    rwa [List.find?_cons, h2] at h
   by_cases e1 : x.1 = k'
   ·subst e1
    simp [seek, hx]
   ·have := ih h'
    unfold seek at this ⊢
    have h2 : decide (x.1 = k') = false := by simpa using e1
    rw [List.find?_cons, List.find?_cons, h2]
    exact this
theorem putE_keys {l : List (MapRow α)} {k : α} {v : Value} {x : MapRow α} (h : x ∈ putE l k v) : x.1 = k ∨ x ∈ l := by
 induction l with
 | nil => simp [putE] at h
 | cons y l ih =>
  by_cases hy : y.1 = k
  ·subst hy
   rw [putE_hit] at h
   rcases List.mem_cons.1 h with rfl | h
   ·exact .inl rfl
   ·exact .inr (by simp [h])
  ·rw [putE_miss hy] at h
   rcases List.mem_cons.1 h with rfl | h
   ·exact .inr (by simp)
   ·exact (ih h).imp id (fun h => by simp [h])
end
def KnAt (L : List Nd) (kes : List (MapRow Nat)) (K : Kn) : Prop := (∀ n ∈ L, ((seek kes n.b).map (·.2.1)).getD (.int .i64 0) = .int .i64 (K n.p)) ∧ ∀ e ∈ kes, ∃ n ∈ L, e.1 = n.b
section
variable {B : Nat} {w0 w : World} {F : List (Nat × Obj)} {L : List Nd} {tb c wb kb clk : Nat} {n m : Nd} {K K0 : Kn} {H A : List Nd} {kes : List (MapRow Nat)}
theorem St.okP (h : St B w0 w (objsL L ++ F)) (hn : n ∈ L) : okP w n.b := ⟨_, _, h.nodeIn hn⟩
theorem KnAt.look (h : KnAt L kes K) (hst : St B w0 w (objsL L ++ F)) (hn : n ∈ L) (hg : w.heap[kb]? = some (.map (entsE np kes) clk)) :
  (Instr.lookup 343 (.map (some kb)) (np n.b) false).run Tryz.prog w = .ok (.int .i64 (K n.p)) w := by
 have := run_lookE (c := false) keyP uMapK (zInt12 w) hg (hst.okP hn) (fun x hx => by obtain ⟨m, hm, e⟩ := h.2 x hx; rw [e]; exact hst.okP hm)
 rw [h.1 n hn] at this
 exact this
theorem KnAt.put (h : KnAt L kes K) (ht : TreeOk L tb c) (hst : St B w0 w (objsL L ++ F)) (hn : n ∈ L) (hg : w.heap[kb]? = some (.map (entsE np kes) clk)) (v : Nat) :
  ∃ kes' clk', (Instr.mapUpdate 343 (.map (some kb)) (np n.b) (.int .i64 v)).run Tryz.prog w = .ok () (setBlock w kb (.map (entsE np kes') clk')) ∧ KnAt L kes' (K.set n.p v) := by
 have hok : ∀ x ∈ kes, Go.Proofs.YtknjamfjonapiaaGreatDoor.okP w x.1 := fun x hx => by
  obtain ⟨m, hm, e⟩ := h.2 x hx
  rw [e]
  exact hst.okP hm
 cases hs : seek kes n.b with
 | none =>
  refine ⟨_, _, run_mapE_new keyP uMapK hg (hst.okP hn) hok (.int .i64 v) hs, fun m hm => ?_, fun e he => ?_⟩
  ·rw [seek_push]
   by_cases e : m.p = n.p
   ·obtain rfl := map_inj ht.paths hm hn e
    rw [hs, Kn.set_same]
    simp
   ·rw [Kn.set_ne _ _ e, if_neg (fun e2 => e (by rw [map_inj ht.blocks hm hn e2.symm])), Option.or_none]
    exact h.1 m hm
  ·rcases List.mem_append.1 he with he | he
   ·exact h.2 e he
   ·rw [List.mem_singleton] at he
    subst he
    exact ⟨n, hn, rfl⟩
 | some y =>
  refine ⟨_, _, run_mapE_old keyP uMapK hg (hst.okP hn) hok (.int .i64 v) hs, fun m hm => ?_, fun e he => ?_⟩
  ·rw [putE_seek hs]
   by_cases e : m.p = n.p
   ·obtain rfl := map_inj ht.paths hm hn e
    rw [if_pos rfl, Kn.set_same]
    rfl
   ·rw [Kn.set_ne _ _ e, if_neg (fun e2 => e (by rw [map_inj ht.blocks hm hn e2]))]
    exact h.1 m hm
  ·rcases putE_keys he with e1 | he
   ·exact ⟨n, hn, e1⟩
   ·exact h.2 e he
def WkAt (B : Nat) (w0 w : World) (wb : Nat) (L H A : List Nd) (K : Kn) (F : List (Nat × Obj)) : Prop :=
 ∃ hv av SH SA kb kes clk, SlIs 310 1 hv H.length (H.map fun n => np n.b) SH ∧ SlIs 310 1 av A.length (A.map fun n => np n.b) SA ∧ KnAt L kes K ∧
  St B w0 w (objsL L ++ ((wb, .cells #[hv, av, .map (some kb)] 346) :: ((kb, .map (entsE np kes) clk) :: (SH ++ (SA ++ F)))))
def ov : Option Nd → Value
 | some n => np n.b
 | none => .pointer none
theorem perm_k {α : Type} (A B C : List α) (x y : α) : (A ++ x :: y :: B).Perm (y :: (A ++ x :: B)) := by
 classical
 exact List.perm_iff_count.2 fun a => by simp only [List.count_append, List.count_cons]; omega
theorem WkAt.turn {hv av : Value} {SH SA : List (Nat × Obj)} (h1 : SlIs 310 1 hv H.length (H.map fun n => np n.b) SH) (h2 : SlIs 310 1 av A.length (A.map fun n => np n.b) SA)
  (hst : St B w0 w (objsL L ++ ((wb, .cells #[hv, av, .map (some kb)] 346) :: ((kb, .map (entsE np kes) clk) :: (SH ++ (SA ++ F)))))) {kes' : List (MapRow Nat)} {clk' : Nat} (hk : KnAt L kes' K) :
  St B w0 (setBlock w kb (.map (entsE np kes') clk')) (objsL L ++ ((wb, .cells #[hv, av, .map (some kb)] 346) :: ((kb, .map (entsE np kes') clk') :: (SH ++ (SA ++ F))))) :=
 ((hst.perm (perm_k _ _ [] _ _)).block0 (o' := .map (entsE np kes') clk')).perm (perm_k _ _ [] _ _).symm
def PassR (B : Nat) (w0 : World) (wb : Nat) (L H A : List Nd) (K : Kn) (F : List (Nat × Obj)) (e : Ending) (w' : World) : Prop :=
 e = .returned (.tuple #[]) ∧ ∃ K', KOk L K' ∧ PassK K K' ∧ WkAt B w0 w' wb L H A K' F
def PassAt (B : Nat) (w0 : World) (wb : Nat) (L H A : List Nd) (K0 : Kn) (F : List (Nat × Obj)) (g : Nat) (a' : Act) (w' : World) : Prop :=
 ∃ (o : Option Nd) (K : Kn), (match o with | some n => n.p.length + 1 | none => 0) = g ∧ (∀ n, o = some n → n ∈ L ∧ ∃ m ∈ L, ∃ v, m.p = n.p ++ [v] ∧ K m.p ≠ 0) ∧ Fr 38 [(0, np wb), (1, ov o)] a' ∧ KOk L K ∧ PassK K0 K ∧ WkAt B w0 w' wb L H A K F
set_option maxHeartbeats 1000000 in
theorem pass_any (h : WkAt B w0 w wb L H A K F) (ht : TreeOk L tb c) (hc : c ≤ 900000) (hk : KOk L K) {o : Option Nd} (ho : ∀ n, o = some n → n ∈ L ∧ ∃ m ∈ L, ∃ v, m.p = n.p ++ [v] ∧ K m.p ≠ 0) :
  Calls Tryz.prog 313 #[np wb, ov o] w (PassR B w0 wb L H A K F) := by
 have start : Hid (PassAt B w0 wb L H A K F _ ⟨#[np wb, ov o, undef, undef, undef, undef, undef, undef, undef, undef, undef, undef, undef, undef, undef, undef, undef, undef, undef, undef, undef, undef, undef, undef, undef, undef, undef, undef, undef, undef, undef, undef, undef, undef, undef, undef, undef, undef], []⟩ w) :=
  Lib.hid ⟨o, K, rfl, ho, ⟨rfl, rfl, by intro p hp; simp only [List.mem_cons, List.not_mem_nil, or_false] at hp; rcases hp with rfl | rfl <;> rfl⟩, hk, PassK.refl _, h⟩
 replace ht := Lib.hid ht
 clear h hk ho
 generalize ov o = nv at *
 go_enter Tryz.func313, Tryz.ntmps313
 go_wp2_with fail
 refine wp_scope_ghost 0 (PassAt B w0 wb L H A K F) rfl ?_ ?_
 ·clear start
  rintro g a' w' ⟨o, K1, hg, ho, hfr, hk, hpk, hw⟩
  obtain ⟨f, rfl, hl'⟩ := hfr.lit
  clear hfr
  simp only [List.mem_cons, List.not_mem_nil, or_false, forall_eq_or_imp, forall_eq] at hl'
  obtain ⟨f0, f1⟩ := hl'
  simp only [List.range, List.range.loop, List.map, f0, f1]
  clear f0 f1
  have stop : Hid (PassR B w0 wb L H A K F (.returned (.tuple #[])) w') := Lib.hid ⟨rfl, K1, hk, hpk, hw⟩
  cases o with
  | none =>
   have e1 : ov none = .pointer none := rfl
   rw [e1]
   clear hk hpk hw ht
   go_wp2_with fail
   simp only [Exit.jump]
   exact bodyPost_end (results_none rfl _ _ _) rfl stop.out
  | some n =>
   have e1 : ov (some n) = np n.b := rfl
   rw [e1]
   obtain ⟨hn, m, hm, v, hmv, hmk⟩ := ho n rfl
   obtain ⟨hv, av, SH, SA, kb, kes, clk, s1, s2, s3, hst⟩ := hw
   have ci := Lib.hid (countI_any (hst.tabI hn) fun e => ((ht.out.oks n hn).2.bare e).1)
   have cs := Lib.hid (countS_any (hst.tabS hn) fun e => ((ht.out.oks n hn).1.bare e).1)
   have hkb : w'.heap[kb]? = some (.map (entsE np kes) clk) := hst.get (b := kb) (by simp)
   have hlk := s3.look hst hn hkb
   have cw := hst.cell (b := wb) (c := #[hv, av, .map (some kb)]) (T := 346) (fr := (0, 0)) (by simp) (i := 2) (v := .map (some kb)) rfl
   by_cases hi : n.i.es = []
   ·rw [hi] at ci
    by_cases hs : n.s.es.length ≤ 1
    ·by_cases h2 : K1 n.p = 2
     ·rw [h2] at hlk
      have hs' : ¬ (1 : Int) < n.s.es.length := by omega
      generalize n.s.es.length = l at *
      clear hst s1 s2 s3 hkb hk hpk ho hn hm hmv hmk ht hi
      go_wp2_with fail
      refine ci.out.mono ?_
      rintro e w2 ⟨rfl, rfl⟩
      go_wp2_with fail
      refine cs.out.mono ?_
      rintro e w2 ⟨rfl, rfl⟩
      go_wp2_with fail
      simp only [Exit.jump]
      exact bodyPost_end (results_none rfl _ _ _) rfl stop.out
     ·obtain ⟨kes', clk', hmu, hkn⟩ := s3.put ht.out hst hn hkb 2
      have hst2 := WkAt.turn s1 s2 hst (clk' := clk') hkn
      have hk2 : K1 n.p ≤ 1 := by
       have := hk.few n.p
       omega
      have hkp := hk.pass ht.out hn hi hs hm hmv hmk
      have hpk2 := hpk.step n.p
      have d0 := hst2.node hn (j := 0) (v := upV n.u) rfl
      have hmu : (Instr.mapUpdate 343 (.map (some kb)) (np n.b) (.int .i64 2)).run Tryz.prog w' = .ok () (setBlock w' kb (.map (entsE np kes') clk')) := hmu
      generalize hW : setBlock w' kb (.map (entsE np kes') clk') = W at *
      obtain ⟨o', e2, hg', ho'⟩ : ∃ o', upV n.u = ov o' ∧ (match o' with | some n => n.p.length + 1 | none => 0) < g ∧ (∀ q, o' = some q → q ∈ L ∧ ∃ m ∈ L, ∃ v, m.p = q.p ++ [v] ∧ (K1.set n.p 2) m.p ≠ 0) := by
       rcases ht.out.up hn with ⟨_, e⟩ | ⟨q, hq, v', e, e3⟩
       ·exact ⟨none, e, by rw [← hg]; simp, by simp⟩
       ·refine ⟨some q, e3, ?_, fun q' hq' => ?_⟩
        ·rw [← hg]
         simp [e]
        ·cases hq'
         exact ⟨hq, n, hn, v', e, by rw [Kn.set_same]; decide⟩
      rw [e2] at d0
      have fin : Hid (∀ a', Fr 38 [(0, np wb), (1, ov o')] a' → ∃ m, m < g ∧ PassAt B w0 wb L H A K F m a' W) := Lib.hid fun a' ha => ⟨_, hg', o', _, rfl, ho', ha, hkp, hpk2, hv, av, SH, SA, kb, kes', clk', s1, s2, hkn, hst2⟩
      have hs' : ¬ (1 : Int) < n.s.es.length := by omega
      have hkne : ((K1 n.p : Int) == 2) = false := by
       rw [beq_eq_false_iff_ne]
       omega
      generalize K1 n.p = kk at *
      generalize n.s.es.length = l at *
      generalize ov o' = nx at *
      replace hW := Lib.hid hW
      clear hst hst2 s1 s2 s3 hkb hk hpk ho hn hm hmv hmk ht hi stop hkn hkp hpk2 hg ho' hg' e2 hs h2
      go_wp2_with fail
      refine ci.out.mono ?_
      rintro e w2 ⟨rfl, rfl⟩
      go_wp2_with fail
      refine cs.out.mono ?_
      rintro e w2 ⟨rfl, rfl⟩
      go_wp2_with fail
      refine wp_goto ?_
      exact ⟨rfl, fin.out _ ⟨rfl, rfl, by simp⟩⟩
    ·have hs' : (1 : Int) < n.s.es.length := by omega
     generalize n.s.es.length = l at *
     clear hst s1 s2 s3 hkb hk hpk ho hn hm hmv hmk ht hi hlk
     go_wp2_with fail
     refine ci.out.mono ?_
     rintro e w2 ⟨rfl, rfl⟩
     go_wp2_with fail
     refine cs.out.mono ?_
     rintro e w2 ⟨rfl, rfl⟩
     go_wp2_with fail
     simp only [Exit.jump]
     exact bodyPost_end (results_none rfl _ _ _) rfl stop.out
   ·have hpos : (0 : Int) < n.i.es.length := by
     have := List.length_pos_iff.2 hi
     omega
    generalize n.i.es.length = l at *
    clear hst s1 s2 s3 hkb hk hpk ho hn hm hmv hmk ht hi hlk cs
    go_wp2_with fail
    refine ci.out.mono ?_
    rintro e w2 ⟨rfl, rfl⟩
    go_wp2_with fail
    simp only [Exit.jump]
    exact bodyPost_end (results_none rfl _ _ _) rfl stop.out
 ·intro H1
  go_wp2_with fail
  refine wp_label ?_
  go_step
  go_step
  exact H1 _ _ _ start.out
end
end
end Go.Proofs.YtknjamfjonapiaaGreatDoor
