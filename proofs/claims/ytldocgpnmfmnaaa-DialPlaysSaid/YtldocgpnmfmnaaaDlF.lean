/- Dials: the map of the marks by ID; room that isn't needed given back. -/
import Derived.Test.YtldocgpnmfmnaaaDlE
import Derived.Test.YtldocgpnmfmnaaaEdit
import Derived.Lib.SliceRun
import Derived.Deep.LoopGhost
namespace Go.Proofs.Ytldocgpnmfmnaaa
open Go.RowKit
set_option linter.unusedVariables false

/-! ### the marks by ID, as plain data -/
def pairE (e : Int × Value × Nat) : Int × Value := (e.1, e.2.1)
def pairM (m : Mk) : Int × Value := (m.id, mp m.b)
def MapIs (es : List (Int × Value × Nat)) (M : List Mk) : Prop := (es.map pairE).Perm (M.map pairM)

section
variable {es : List (Int × Value × Nat)} {M M' : List Mk} {k : Int} {m : Mk} {i : Nat}

theorem MapIs.perm (h : MapIs es M) (hp : M'.Perm M) : MapIs es M' := List.Perm.trans h (hp.map pairM).symm
theorem MapIs.keys (h : MapIs es M) : (es.map (·.1)).Perm (M.map Mk.id) := by
  have := List.Perm.map Prod.fst h
  simpa [pairE, pairM, Function.comp_def] using this
theorem seekI_mem {e : Int × Value × Nat} (h : seekI es k = some e) : e ∈ es ∧ e.1 = k := by
  unfold seekI at h
  exact ⟨List.mem_of_find?_eq_some h, by simpa using List.find?_some h⟩
theorem MapIs.none (h : MapIs es M) (hk : k ∉ M.map Mk.id) : seekI es k = none := by
  unfold seekI
  rw [List.find?_eq_none]
  intro e he hh
  exact hk (h.keys.mem_iff.1 (List.mem_map.2 ⟨e, he, by simpa using hh⟩))
theorem id_inj (hn : (M.map Mk.id).Nodup) {i j : Nat} {m o : Mk} (hi : M[i]? = some m) (hj : M[j]? = some o) (he : m.id = o.id) : i = j := by
  have hil := (List.getElem?_eq_some_iff.1 hi).1
  exact (List.getElem?_inj (by simpa using hil) hn).1 (by simp [hi, hj, he])
theorem mem_id_inj (hn : (M.map Mk.id).Nodup) {m o : Mk} (hm : m ∈ M) (ho : o ∈ M) (he : m.id = o.id) : m = o := by
  obtain ⟨i, hi⟩ := List.getElem?_of_mem hm
  obtain ⟨j, hj⟩ := List.getElem?_of_mem ho
  have := id_inj hn hi hj he
  subst this
  rw [hi] at hj; cases hj; rfl
theorem MapIs.some (h : MapIs es M) (hn : (M.map Mk.id).Nodup) (hm : m ∈ M) : ∃ c, seekI es m.id = some (m.id, mp m.b, c) := by
  cases hs : seekI es m.id with
  | none =>
    unfold seekI at hs
    rw [List.find?_eq_none] at hs
    have : m.id ∈ es.map (·.1) := h.keys.mem_iff.2 (List.mem_map_of_mem hm)
    obtain ⟨e, he, hh⟩ := List.mem_map.1 this
    exact absurd (by simpa using hh) (hs e he)
  | some e =>
    obtain ⟨h1, h2⟩ := seekI_mem hs
    have h3 : pairE e ∈ M.map pairM := h.mem_iff.1 (List.mem_map_of_mem h1)
    obtain ⟨o, ho, h4⟩ := List.mem_map.1 h3
    simp only [pairE, pairM, Prod.mk.injEq] at h4
    have : o = m := mem_id_inj hn ho hm (by rw [h4.1, h2])
    subst this
    exact ⟨e.2.2, by rw [← h2, h4.2]⟩
theorem MapIs.push (h : MapIs es M) (m : Mk) (c : Nat) : MapIs (es ++ [(m.id, mp m.b, c)]) (M ++ [m]) := by
  unfold MapIs
  rw [List.map_append, List.map_append]
  exact List.Perm.append h (List.Perm.refl _)
theorem seekI_erase {e : Int × Value × Nat} (h : seekI es k = some e) : es.Perm (e :: es.eraseP (·.1 == k)) := by
  induction es with
  | nil => simp [seekI] at h
  | cons x es ih =>
    by_cases hx : x.1 = k
    · have : x = e := by simpa [seekI, hx] using h
      subst this
      rw [List.eraseP_cons_of_pos (by simpa using hx)]
    · have hx2 : (x.1 == k) = false := by simpa using hx
      rw [List.eraseP_cons_of_neg (by simpa using hx)]
      have : seekI es k = some e := by simpa [seekI, List.find?_cons, hx2] using h
      exact (List.Perm.cons x (ih this)).trans (List.Perm.swap _ _ _)
theorem MapIs.erase (h : MapIs es M) (hn : (M.map Mk.id).Nodup) (hp : M.Perm (m :: M')) : MapIs (es.eraseP (·.1 == m.id)) M' := by
  have hm : m ∈ M := hp.mem_iff.2 List.mem_cons_self
  obtain ⟨c, hc⟩ := h.some hn hm
  have h1 := (seekI_erase hc).map pairE
  have h2 := hp.map pairM
  rw [List.map_cons] at h1 h2
  exact List.Perm.cons_inv (h1.symm.trans (List.Perm.trans h h2))
end

/-! ### in memory -/
def mapH (mv : Option Nat) (es : List (Int × Value × Nat)) (clk : Nat) : List (Nat × Obj) := match mv with
  | none => []
  | some mb => [(mb, .map (entsI es) clk)]

/-- The dial's marks are M: in whatever order; what is told of their order stands beside it. -/
structure DmAt (B : Nat) (w0 w : World) (db : Nat) (M : List Mk) (hv : Value) (hF : List (Nat × Obj)) (mv : Option Nat) (es : List (Int × Value × Nat)) (clk : Nat) (F : List (Nat × Obj)) : Prop where
  at_ : DlAt B w0 w db M hv hF mv (mapH mv es clk ++ F)
  map : MapIs es M
  ids : (M.map Mk.id).Nodup
  bare : mv = none → es = []

section
variable {B : Nat} {w0 w : World} {db : Nat} {M : List Mk} {hv : Value} {hF F R A : List (Nat × Obj)} {mv : Option Nat} {es : List (Int × Value × Nat)} {clk : Nat} {i j p : Nat} {m o : Mk}

theorem uMarks : Try.prog.underlying 51 = some (.slice 55) := by kernel_rfl
theorem uMmap : Try.prog.underlying 52 = some (.map 3 55) := by kernel_rfl
theorem infPMark : (Try.prog.info? 55).map (fun i => (i.zero, i.size, i.bytes)) = some (some (.pointer none), 1, 8) := by kernel_rfl

theorem info_parts5 {T : TypeId} {v : Value} {a b : Nat} (h : (Try.prog.info? T).map (fun i => (i.zero, i.size, i.bytes)) = some (some v, a, b)) :
    ∃ i, Try.prog.info? T = some i ∧ i.zero = some v ∧ i.size = a ∧ i.bytes = b := by
  cases hi : Try.prog.info? T with
  | none => rw [hi] at h; cases h
  | some i =>
    rw [hi] at h
    simp only [Option.map_some, Option.some.injEq, Prod.mk.injEq] at h
    exact ⟨i, rfl, h.1, h.2.1, h.2.2⟩

/-- A copy of a slice of pointers. -/
def CloneR (B : Nat) (w0 : World) (A : List (Nat × Obj)) (n : Nat) (xs : List Value) (e : Ending) (w' : World) : Prop :=
  ∃ v' F', e = .returned v' ∧ SlIs 55 1 v' n xs F' ∧ St B w0 w' (A ++ F')

set_option maxHeartbeats 1000000 in
set_option maxRecDepth 100000 in
theorem cloneM_any {s : Value} {n : Nat} {xs : List Value} {S : List (Nat × Obj)} (hs : SlIs 55 1 s n xs S) (hst : St B w0 w (A ++ S)) (hn : n ≤ 4000000) (h1 : ∀ u ∈ xs, u.oneCell' = true) :
    Calls Try.prog 30 #[s] w (CloneR B w0 (A ++ S) n xs) := by
  obtain ⟨i0, hi0, hz0, hz1, hz2⟩ := info_parts5 infPMark
  have hst1 := hst.alloc (.cells #[] 55)
  have hst2 := hst1.perm (H' := (A ++ S) ++ [(w.heap.size, .cells #[] 55)]) (List.perm_append_singleton _ _).symm
  have hrd := hs.reads (A := (w.heap.size, .cells #[] 55) :: A) hst1
  have hemp : SlIs 55 1 (.slice (some ⟨w.heap.size, 0, none⟩) 0 0) 0 [] [(w.heap.size, .cells #[] 55)] := SlIs.made rfl (by unfold maxLen; omega)
  obtain ⟨v2, W2, F2, hr2, hs2, hst3⟩ := run_append_sl (P := Try.prog) 51 0 55 i0 _ 1 8 uMarks hi0 hz0 hz1 hz2 rfl hemp hst2 hrd h1 (by unfold maxLen; omega) (by omega)
  rw [Nat.zero_add, List.nil_append] at hs2
  have fin : CloneR B w0 (A ++ S) n xs (.returned v2) W2 := ⟨v2, F2, rfl, hs2, hst3⟩
  have fin0 : s = .slice none 0 0 → CloneR B w0 (A ++ S) n xs (.returned (.slice none 0 0)) w := fun e => by
    subst e
    obtain ⟨a, cap, e, -, -, -⟩ := hs.form
    cases e
    obtain rfl : xs = [] := List.eq_nil_of_length_eq_zero (by have := hs.len; omega)
    exact ⟨_, [], rfl, SlIs.nil, by simpa using hst⟩
  obtain ⟨a, cap, rfl, hc1, hc2, ha⟩ := hs.form
  replace fin := Lib.hid fin
  replace fin0 := Lib.hid fin0
  have hq := fun w => Lib.run_eql_slice_nil (P := Try.prog) w 51 55 a n cap 0 0 uMarks
  have hnil : a = none → (Value.slice a n cap) = .slice none 0 0 := fun e => by
    subst e
    obtain ⟨_, ⟨h, _⟩ | ⟨_, _, _, _, h, _⟩⟩ := hs
    · exact h
    · cases h
  replace hnil := Lib.hid hnil
  clear hs hst hst1 hst2 hrd hemp hs2 hst3 hz0 hz1 hz2 hi0 h1 hc1 hc2 ha
  cases a with
  | none =>
    have h := hnil.out rfl
    simp only [Value.slice.injEq, true_and] at h
    obtain ⟨rfl, rfl⟩ := h
    clear hnil fin hr2
    go_enter Try.func30, Try.ntmps30
    go_wp2_with fail
    go_ret
    exact fin0.out trivial
  | some ad =>
    clear hnil fin0
    go_enter Try.func30, Try.ntmps30
    go_wp2_with (at_builtin; refine wpList_append_go rfl (.tmp 5) (.tmp 6) 51 51 rfl _ _ rfl rfl hr2 ?_)
    go_ret
    exact fin.out

/-- The slice turned in the dial's first cell. -/
theorem DlAt.relaid {v' : Value} {F' : List (Nat × Obj)} (h : DlAt B w0 w db M hv hF mv R) {w' : World} (hs : SlIs 55 1 v' M.length (ptrs M) F') (hst : St B w0 w' (((db, dialO hv mv) :: (mksO M ++ R)) ++ F')) :
    DlAt B w0 (w'.setCell ⟨db, 0, none⟩ v') db M v' F' mv R :=
  ⟨hs, by rw [List.cons_append] at hst ⊢; exact hst.set0 0 v', h.times, h.few⟩
/-- .. the map in its second one. -/
theorem DlAt.remap {R' : List (Nat × Obj)} {mv' : Option Nat} {w' : World} (h : DlAt B w0 w db M hv hF mv R) (hst : St B w0 w' (((db, dialO hv mv) :: (mksO M ++ R')) ++ hF)) :
    DlAt B w0 (w'.setCell ⟨db, 1, none⟩ (.map mv')) db M hv hF mv' R' :=
  ⟨h.sl, by rw [List.cons_append] at hst ⊢; exact hst.set0 1 (.map mv'), h.times, h.few⟩

theorem perm_f {α : Type} (d x : α) (A F H : List α) : ((d :: (A ++ ([x] ++ F))) ++ H).Perm (x :: (d :: (A ++ F) ++ H)) := by
  classical
  exact List.perm_iff_count.2 fun a => by simp only [List.count_append, List.count_cons, List.count_nil]; omega

/-- The map's rows turned. -/
theorem DlAt.setMap {mb clk' : Nat} {es' : List (Int × Value × Nat)} (h : DlAt B w0 w db M hv hF (some mb) (mapH (some mb) es clk ++ F)) :
    DlAt B w0 (ChangeMaps.setBlock w mb (.map (entsI es') clk')) db M hv hF (some mb) (mapH (some mb) es' clk' ++ F) :=
  ⟨h.sl, ((h.st.perm (perm_f _ _ _ _ _)).block0 (o' := .map (entsI es') clk')).perm (perm_f _ _ _ _ _).symm, h.times, h.few⟩
theorem DlAt.mapGet {mb : Nat} (h : DlAt B w0 w db M hv hF (some mb) (mapH (some mb) es clk ++ F)) : w.heap[mb]? = some (.map (entsI es) clk) :=
  (h.st.perm (perm_f _ _ _ _ _)).get List.mem_cons_self
end
end Go.Proofs.Ytldocgpnmfmnaaa
