/- Dials: the calls, as on a sorted row of times and IDs. -/
import Derived.Test.YtldocgpnmfmnaaaDlI
import Derived.Test.YtldocgpnmfmnaaaDlQ
namespace Go.Proofs.Ytldocgpnmfmnaaa
open Go.RowKit
set_option linter.unusedVariables false

/-- At db lies a dial on which the row L is due. -/
def DialIs (B : Nat) (w0 w : World) (db : Nat) (L : List (Int × Int)) (F : List (Nat × Obj)) : Prop :=
  ∃ M hv hF mv es clk, DmAt B w0 w db M hv hF mv es clk F ∧ Heap M ∧ Row M L

section
variable {B : Nat} {w0 w : World} {db : Nat} {M M' : List Mk} {hv : Value} {hF F R A : List (Nat × Obj)} {mv : Option Nat} {es : List (Int × Value × Nat)} {clk : Nat} {i j p n : Nat} {m o : Mk} {L : List (Int × Int)}

theorem zpMark (w : World) : (zeroValue 55).run Try.prog w = .ok (.pointer none) w := by kernel_rfl
theorem DialIs.drewN (h : DialIs B w0 w db L F) (n : Nat) : DialIs B w0 (w.drewN n) db L F := by
  obtain ⟨M, hv, hF, mv, es, clk, h1, h2⟩ := h
  exact ⟨M, hv, hF, mv, es, clk, h1.drewN n, h2⟩
theorem DialIs.below (h : DialIs B w0 w db L F) : Below B w0 w := by
  obtain ⟨M, hv, hF, mv, es, clk, h1, h2⟩ := h
  exact h1.at_.st.below

theorem lookup_none (h : DmAt B w0 w db M hv hF mv es clk F) {id : Int} (hid : id ∉ M.map Mk.id) :
    (Instr.lookup 52 (.map mv) (.int .i64 id) true).run Try.prog w = .ok (.tuple #[.pointer none, .bool false]) w := by
  cases mv with
  | none => exact run_lookupI_nil uMmap uInt5 (zpMark w) id
  | some mb =>
    rw [run_lookupI uMmap uInt5 (zpMark w) h.at_.mapGet id, h.map.none hid]
theorem lookup_some (h : DmAt B w0 w db M hv hF mv es clk F) (hm : m ∈ M) :
    (Instr.lookup 52 (.map mv) (.int .i64 m.id) true).run Try.prog w = .ok (.tuple #[mp m.b, .bool true]) w := by
  obtain ⟨mb, rfl⟩ := h.somewhere hm
  obtain ⟨c, hc⟩ := h.map.some h.ids hm
  rw [run_lookupI uMmap uInt5 (zpMark w) h.at_.mapGet m.id, hc]

theorem Heap.one : Heap ([] : List Mk) := Heap.nil

set_option maxHeartbeats 400000 in
theorem dl_new (hst : St B w0 w F) : Calls Try.prog 8 #[] w fun e w' => ∃ db, e = .returned (mp db) ∧ DialIs B w0 w' db [] F := by
  have h1 := hst.alloc (.cells #[.slice none 0 0, .map none] 54)
  have h2 : DialIs B w0 (w.alloc (.cells #[.slice none 0 0, .map none] 54)) w.heap.size [] F :=
    ⟨[], .slice none 0 0, [], none, [], 0, ⟨⟨SlIs.nil, by simpa [mksO, mapH, dialO] using h1, by simp, by simp⟩, .refl _, List.nodup_nil, fun _ => rfl⟩, Heap.nil, Row.nil⟩
  replace h2 := Lib.hid h2
  clear hst h1
  go_enter Try.func8, Try.ntmps8
  go_wp2_with fail
  go_ret
  exact ⟨_, rfl, h2.out⟩

set_option maxHeartbeats 400000 in
theorem dl_len (h : DialIs B w0 w db L F) : Calls Try.prog 19 #[mp db] w fun e w' => e = .returned (.int .i64 L.length) ∧ w' = w := by
  obtain ⟨M, hv, hF, mv, es, clk, h1, h2, h3⟩ := h
  have c0 := h1.at_.c0
  obtain ⟨a, cap, rfl⟩ := h1.at_.form
  have hl := h3.len
  rw [← hl]
  clear h1 h2 h3 hl
  go_enter Try.func19, Try.ntmps19
  go_wp2_with fail
  go_ret
  exact ⟨rfl, rfl⟩

def optV (r : Option Int) : Value := .tuple #[.int .i64 (r.getD 0), .bool r.isSome]

set_option maxHeartbeats 400000 in
theorem dl_next (h : DialIs B w0 w db L F) : Calls Try.prog 18 #[mp db] w fun e w' => e = .returned (optV (L.head?.map (·.1))) ∧ w' = w := by
  obtain ⟨M, hv, hF, mv, es, clk, h1, h2, h3⟩ := h
  have c0 := h1.at_.c0
  have hl := h3.len
  cases M with
  | nil =>
    obtain ⟨a, cap, rfl⟩ := h1.at_.form
    obtain rfl : L = [] := List.eq_nil_of_length_eq_zero (by simpa using hl.symm)
    simp only [List.length_nil] at c0
    clear h1 h2 h3 hl
    go_enter Try.func18, Try.ntmps18
    go_wp2_with fail
    go_ret2
    exact ⟨rfl, rfl⟩
  | cons m M =>
    have hi : (m :: M)[0]? = some m := rfl
    obtain ⟨L', rfl⟩ := h3.head h2 hi
    obtain ⟨g, off, cap, rfl, hcell, -⟩ := h1.at_.head hi
    have cg := hcell 0 m hi
    rw [Nat.add_zero] at cg
    have c1 := h1.at_.m1 hi
    have ct := Lib.hid (timeAt_any m.t (h1.at_.times m List.mem_cons_self) w)
    have hfew := h1.at_.few
    rw [List.length_cons] at c0 hfew
    have hb1 : (M.length : Int) ≤ 5000 := by omega
    have hb0 : (0 : Int) ≤ M.length := by omega
    have hb2 : (0 : Int) < (M.length : Int) + 1 := by omega
    have hne : ((M.length : Int) + 1 == 0) = false := by rw [beq_eq_false_iff_ne]; omega
    clear h1 h2 h3 hl hcell hfew
    go_enter Try.func18, Try.ntmps18
    go_wp2_with fail
    refine ct.out.mono ?_
    rintro e w1 ⟨rfl, rfl⟩
    go_wp2_with fail
    go_ret2
    exact ⟨rfl, rfl⟩

set_option maxHeartbeats 400000 in
theorem dl_when (h : DialIs B w0 w db L F) (id : Int) : Calls Try.prog 16 #[mp db, .int .i64 id] w fun e w' => e = .returned (optV (whenL id L)) ∧ w' = w := by
  obtain ⟨M, hv, hF, mv, es, clk, h1, h2, h3⟩ := h
  have c1 := h1.at_.c1
  by_cases hid : id ∈ M.map Mk.id
  · obtain ⟨m, hm, rfl⟩ := List.mem_map.1 hid
    have hlk := lookup_some h1 hm
    obtain ⟨i, hi⟩ := List.getElem?_of_mem hm
    have cp := h1.at_.m1 hi
    have ct := Lib.hid (timeAt_any m.t (h1.at_.times m hm) w)
    rw [h3.when_some hm]
    clear h1 h2 h3 hid
    go_enter Try.func16, Try.ntmps16
    go_wp2_with fail
    refine ct.out.mono ?_
    rintro e w1 ⟨rfl, rfl⟩
    go_wp2_with fail
    go_ret2
    exact ⟨rfl, rfl⟩
  · have hlk := lookup_none h1 hid
    rw [h3.when_none hid]
    clear h1 h2 h3 hid
    go_enter Try.func16, Try.ntmps16
    go_wp2_with fail
    go_ret2
    exact ⟨rfl, rfl⟩

def hasL (id : Int) (L : List (Int × Int)) : Bool := (whenL id L).isSome

set_option maxHeartbeats 400000 in
theorem dl_clear (h : DialIs B w0 w db L F) (id : Int) : Calls Try.prog 11 #[mp db, .int .i64 id] w fun e w' => e = .returned (.bool (hasL id L)) ∧ DialIs B w0 w' db (del id L) F := by
  have hh := Lib.hid h
  obtain ⟨M, hv, hF, mv, es, clk, h1, h2, h3⟩ := h
  have c1 := h1.at_.c1
  unfold hasL
  by_cases hid : id ∈ M.map Mk.id
  · obtain ⟨m, hm, rfl⟩ := List.mem_map.1 hid
    have hlk := lookup_some h1 hm
    obtain ⟨i, hi⟩ := List.getElem?_of_mem hm
    have cd := Lib.hid (drop_any h1 h2 hi)
    rw [h3.when_some hm]
    have fin : Hid (∀ w', DropR B w0 db M m F (.returned (.tuple #[])) w' → DialIs B w0 w' db (del m.id L) F) := Lib.hid fun w' ⟨_, M', hv, hF, mv, es, clk, k1, k2, k3⟩ => ⟨M', hv, hF, mv, es, clk, k3, k2, h3.drop k1⟩
    clear h1 h2 h3 hid
    go_enter Try.func11, Try.ntmps11
    go_wp2_with fail
    refine cd.out.mono ?_
    rintro e w1 ⟨rfl, k⟩
    have f2 := Lib.hid (fin.out w1 ⟨rfl, k⟩)
    clear k
    go_wp2_with fail
    go_ret
    exact ⟨rfl, f2.out⟩
  · have hlk := lookup_none h1 hid
    rw [h3.when_none hid, h3.del_none hid]
    clear h1 h2 h3 hid
    go_enter Try.func11, Try.ntmps11
    go_wp2_with fail
    go_ret
    exact ⟨rfl, hh.out⟩

theorem DlAt.setTime (h : DlAt B w0 w db M hv hF mv R) (hi : M[i]? = some m) (t : Int) (ht : T64 t) : DlAt B w0 (w.setCell ⟨m.b, 1, none⟩ (placeV t)) db (M.set i ⟨m.b, m.id, t⟩) hv hF mv R := by
  have hil := (List.getElem?_eq_some_iff.1 hi).1
  have s0 : St B w0 w ([(db, dialO hv mv)] ++ (mksO M ++ (R ++ hF))) := by have := h.st; simpa using this
  have s1 := s0.setAt (mksO_get hi) 1 (placeV t)
  have e1 : (mksO M).set i (m.b, .cells ((mkC i m).setIfInBounds 1 (placeV t)) 59) = mksO (M.set i ⟨m.b, m.id, t⟩) := by
    apply List.ext_getElem?
    intro k
    simp only [mksO, List.getElem?_set, List.getElem?_mapIdx, List.length_mapIdx]
    by_cases e : i = k
    · subst e
      rw [if_pos rfl, if_pos hil, if_pos rfl, if_pos hil]
      rfl
    · rw [if_neg e, if_neg e]
  have s2 : St B w0 (w.setCell ⟨m.b, 1, none⟩ (placeV t)) ([(db, dialO hv mv)] ++ ((mksO M).set i (m.b, .cells ((mkC i m).setIfInBounds 1 (placeV t)) 59) ++ (R ++ hF))) := s1
  rw [e1] at s2
  refine ⟨?_, by simpa using s2, ?_, by rw [List.length_set]; exact h.few⟩
  · have e2 : ptrs (M.set i ⟨m.b, m.id, t⟩) = ptrs M := by
      unfold ptrs
      rw [List.map_set]
      apply List.ext_getElem?
      intro k
      rw [List.getElem?_set]
      by_cases e : i = k
      · subst e
        rw [if_pos rfl, List.length_map, if_pos hil, List.getElem?_map, hi]; rfl
      · rw [if_neg e]
    rw [e2, List.length_set]
    exact h.sl
  · intro x hx
    rcases List.mem_or_eq_of_mem_set hx with hx | rfl
    · exact h.times x hx
    · exact ht

theorem Heap.push (h : Heap M) (x : Mk) : Rises (M ++ [x]) M.length := by
  have hv : ∀ k, k < M.length → V (M ++ [x]) k = V M k := fun k hk => by simp [V, List.getD_eq_getElem?_getD, List.getElem?_append_left hk]
  refine ⟨fun k k0 k1 k2 k3 => ?_, fun k k0 k1 k2 k3 => ?_⟩
  · rw [List.length_append, List.length_singleton] at k1
    rw [hv _ (by omega), hv _ (by omega)]
    exact h k k0 (by omega)
  · rw [List.length_append, List.length_singleton] at k1
    omega

theorem Row.times (h : DlAt B w0 w db M hv hF mv R) (h3 : Row M L) : ∀ x ∈ L, T64 x.1 := fun x hx => by
  obtain ⟨m, hm, rfl⟩ := h3.back hx
  exact h.times m hm

theorem store_complex (w : World) (a : Addr) (k : FloatKind) (x y : Nat) (m : Mode) : (store a (.complex k x y) m).run Try.prog w = stored Try.prog w a (.complex k x y) m := run_store Try.prog w a _ m rfl

/-- Behind a call without results: the row is L. -/
def DlSetR (B : Nat) (w0 : World) (db : Nat) (L : List (Int × Int)) (F : List (Nat × Obj)) (e : Ending) (w' : World) : Prop :=
  e = .returned (.tuple #[]) ∧ DialIs B w0 w' db L F

set_option maxHeartbeats 1000000 in
theorem dl_set (h : DialIs B w0 w db L F) (id t : Int) (ht : T64 t) (hL : L.length < 5000) : Calls Try.prog 9 #[mp db, .int .i64 id, .int .i64 t] w (DlSetR B w0 db (setL id t L) F) := by
  obtain ⟨M, hv, hF, mv, es, clk, h1, h2, h3⟩ := h
  have c1 := h1.at_.c1
  have hsto := store_complex
  have cT : Hid (∀ W, Calls Try.prog 20 #[.int .i64 t, .int .i64 4294967296] W fun e w' => e = .returned (.complex .f64 (floatOfInt .f64 (rst t)) (floatOfInt .f64 (rnd t))) ∧ ∃ n, w' = W.drewN n) := Lib.hid fun W => turn_any t 4294967296 ht (by decide) (by decide) W
  by_cases hid : id ∈ M.map Mk.id
  · obtain ⟨m, hm, rfl⟩ := List.mem_map.1 hid
    have hlk := lookup_some h1 hm
    obtain ⟨i, hi⟩ := List.getElem?_of_mem hm
    have hil := (List.getElem?_eq_some_iff.1 hi).1
    have cp := h1.at_.m1 hi
    have cf := h1.at_.msoft hi 1
    have se : Hid (∀ n, Calls Try.prog 22 #[mp db, mp m.b] ((w.drewN n).setCell ⟨m.b, 1, none⟩ (placeV t)) (SettleR B w0 db (M.set i ⟨m.b, m.id, t⟩) hv mv (mapH mv es clk ++ F))) := Lib.hid fun n =>
      settle_any (m := ⟨m.b, m.id, t⟩) ((h1.drewN n).at_.setTime hi t ht) (by rw [List.getElem?_set, if_pos rfl, if_pos hil]) (h2.rises i _)
    have fin : Hid (∀ w' M' hF', M'.Perm (M.set i ⟨m.b, m.id, t⟩) → Heap M' → DlAt B w0 w' db M' hv hF' mv (mapH mv es clk ++ F) → DialIs B w0 w' db (setL m.id t L) F) := Lib.hid fun w' M' hF' k1 k2 k3 => by
      have hr := (h3.set hi t).reorder k1
      obtain ⟨R, p1, p2⟩ := set_perms hi ⟨m.b, m.id, t⟩
      have hp : (M'.map pairM).Perm (M.map pairM) := by
        refine ((k1.trans p2).map pairM).trans ?_
        exact (p1.map pairM).symm
      exact ⟨M', hv, hF', mv, es, clk, ⟨k3, List.Perm.trans h1.map hp.symm, hr.ids, h1.bare⟩, k2, hr⟩
    unfold placeV at *
    clear h1 h2 h3 hid
    go_enter Try.func9, Try.ntmps9
    go_wp2_with fail
    refine (cT.out _).mono ?_
    rintro e w1 ⟨rfl, n, rfl⟩
    go_wp2_with fail
    refine (se.out n).mono ?_
    rintro e w1 ⟨rfl, M', hF', k1, k2, k3⟩
    have f2 := Lib.hid (fin.out _ _ _ k1 k2 k3)
    clear k1 k2 k3
    go_wp2_with fail
    exact bodyPost_end (results_none rfl _ _ _) rfl ⟨rfl, f2.out⟩
  · have hlk := lookup_none h1 hid
    have hlM := h3.len
    have ca := Lib.hid (add_any h1 id hid (by omega))
    have mk : Hid (∀ w' b hv hF mv es clk, DmAt B w0 w' db (M ++ [⟨b, id, 0⟩]) hv hF mv es clk F →
        (∃ x, w'.cell? ⟨b, 1, none⟩ = some x) ∧ w'.frozen? ⟨b, 1, none⟩ = false ∧
        ∀ n, Calls Try.prog 22 #[mp db, mp b] ((w'.drewN n).setCell ⟨b, 1, none⟩ (placeV t)) fun e w' => e = .returned (.tuple #[]) ∧ DialIs B w0 w' db (setL id t L) F) := by
      refine Lib.hid fun w' b hv hF mv es clk k => ?_
      have hi : (M ++ [(⟨b, id, 0⟩ : Mk)])[M.length]? = some ⟨b, id, 0⟩ := by simp
      have hset : (M ++ [(⟨b, id, 0⟩ : Mk)]).set M.length ⟨b, id, t⟩ = M ++ [⟨b, id, t⟩] := by
        rw [List.set_append_right _ _ (Nat.le_refl _)]; simp
      refine ⟨⟨_, k.at_.m1 hi⟩, k.at_.msoft hi 1, fun n => ?_⟩
      have hD := (k.drewN n).at_.setTime hi t ht
      rw [hset] at hD
      refine (settle_any (m := ⟨b, id, t⟩) hD (by simp) (h2.push _)).mono ?_
      rintro e w2 ⟨rfl, M', hF', p1, p2, p3⟩
      have hr := (h3.add (m := ⟨b, id, t⟩) hid t).reorder p1
      refine ⟨rfl, M', hv, hF', mv, es, clk, ⟨p3, ?_, hr.ids, k.bare⟩, p2, hr⟩
      refine List.Perm.trans k.map ?_
      refine List.Perm.trans ?_ (p1.map pairM).symm
      rw [List.map_append, List.map_append]
      exact List.Perm.refl _
    unfold placeV at *
    clear h1 h2 h3 hid hlM
    go_enter Try.func9, Try.ntmps9
    go_wp2_with fail
    refine ca.out.mono ?_
    rintro e w1 ⟨b, rfl, hv2, hF2, mv2, es2, clk2, k⟩
    obtain ⟨⟨x, q1⟩, q2, q3⟩ := mk.out _ _ _ _ _ _ _ k
    replace q3 := Lib.hid q3
    clear k mk
    go_wp2_with fail
    refine (cT.out _).mono ?_
    rintro e w2 ⟨rfl, n, rfl⟩
    go_wp2_with fail
    refine (q3.out n).mono ?_
    rintro e w3 ⟨rfl, f2⟩
    replace f2 := Lib.hid f2
    go_wp2_with fail
    exact bodyPost_end (results_none rfl _ _ _) rfl ⟨rfl, f2.out⟩
end
end Go.Proofs.Ytldocgpnmfmnaaa
