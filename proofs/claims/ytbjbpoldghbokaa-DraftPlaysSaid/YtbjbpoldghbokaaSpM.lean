/- Maps told by what each key has. -/
import Derived.Test.YtbjbpoldghbokaaSeek
namespace Go.Proofs.Ytbjbpoldghbokaa
open Go.RowKit
open Go.ChangeMaps (setBlock)
set_option linter.unusedVariables false
set_option linter.unusedSectionVars false
set_option linter.unusedSimpArgs false
set_option maxRecDepth 100000

section
variable {α : Type} [DecidableEq α] {es ds : List (MapRow α)} {clk c2 : Nat} {g g' : α → Option Value} {k : α}
def updG (g : α → Option Value) (k : α) (v : Option Value) : α → Option Value := fun x => if x = k then v else g x
structure MapFn (es : List (MapRow α)) (clk : Nat) (g : α → Option Value) : Prop where
  born : Born es clk
  keys : (es.map (·.1)).Nodup
  look : ∀ k, (seek es k).map (·.2.1) = g k
theorem MapFn.nil : MapFn ([] : List (MapRow α)) 0 (fun _ => none) := ⟨⟨by simp, by simp⟩, by simp, fun k => rfl⟩
theorem MapFn.congr (h : MapFn es clk g) (e : ∀ k, g k = g' k) : MapFn es clk g' := ⟨h.born, h.keys, fun k => (h.look k).trans (e k)⟩
theorem MapFn.none_iff (h : MapFn es clk g) (k : α) : seek es k = none ↔ g k = none := by
  rw [← h.look k, Option.map_eq_none_iff]
theorem MapFn.mem_keys (h : MapFn es clk g) (k : α) : k ∈ es.map (·.1) ↔ (g k).isSome = true := by
  rw [← h.look k, Option.isSome_map, seek_isSome, decide_eq_true_iff]
theorem MapFn.len (h : MapFn es clk g) {ks : List α} (hn : ks.Nodup) (hk : ∀ k, k ∈ ks ↔ (g k).isSome = true) : es.length = ks.length := by
  have := ((List.perm_ext_iff_of_nodup h.keys hn).2 fun k => (h.mem_keys k).trans (hk k).symm).length_eq
  simpa using this
theorem born_snoc (h : Born es clk) (k : α) (v : Value) : Born (es ++ [(k, v, clk)]) (clk + 1) := by
  refine ⟨?_, ?_⟩
  · simp only [List.map_append, List.map_cons, List.map_nil]
    rw [List.nodup_append]
    refine ⟨h.1, by simp, ?_⟩
    rintro a ha b hb rfl
    rw [List.mem_singleton] at hb
    subst hb
    obtain ⟨x, hx, e1⟩ := List.mem_map.1 ha
    have := h.2 x hx
    omega
  · intro x hx
    rcases List.mem_append.1 hx with hx | hx
    · have := h.2 x hx
      omega
    · rw [List.mem_singleton] at hx
      subst hx
      exact Nat.lt_succ_self _
theorem MapFn.putNew (h : MapFn es clk g) (hk : g k = none) (v : Value) : MapFn (es ++ [(k, v, clk)]) (clk + 1) (updG g k (some v)) := by
  have hs := (h.none_iff k).2 hk
  refine ⟨born_snoc h.born k v, ?_, fun x => ?_⟩
  · rw [List.map_append, List.nodup_append]
    refine ⟨h.keys, by simp, ?_⟩
    rintro a ha b hb rfl
    simp only [List.map_cons, List.map_nil, List.mem_singleton] at hb
    subst hb
    exact seek_none.1 hs ha
  · unfold updG
    have e : seek (es ++ [(k, v, clk)]) x = (seek es x).or (seek [(k, v, clk)] x) := List.find?_append
    rw [e]
    by_cases hx : x = k
    · subst hx
      rw [hs, if_pos rfl]
      simp [seek]
    · rw [if_neg hx, ← h.look x]
      have : seek [(k, v, clk)] x = none := seek_none.2 (by simpa using hx)
      rw [this, Option.or_none]
theorem putE_is : ∀ {es : List (MapRow α)}, (es.map (·.1)).Nodup → k ∈ es.map (·.1) → ∀ v : Value, putE es k v = es.map fun x => if x.1 = k then (k, v, x.2.2) else x
  | [], _, hk, v => by simp at hk
  | y :: r, hn, hk, v => by
    rw [List.map_cons, List.nodup_cons] at hn
    unfold putE
    rw [List.findIdx?_cons]
    by_cases hy : y.1 = k
    · subst hy
      rw [if_pos (by simp)]
      simp only [List.modify_zero_cons, List.map_cons, if_true]
      congr 1
      refine (List.map_id _).symm.trans (List.map_congr_left fun x hx => ?_)
      have hne : ¬ x.1 = y.1 := fun e => hn.1 (by rw [← e]; exact List.mem_map_of_mem hx)
      rw [if_neg hne]
      rfl
    · rw [if_neg (by simpa using hy)]
      have hk' : k ∈ r.map (·.1) := by
        rw [List.map_cons, List.mem_cons] at hk
        exact hk.resolve_left fun e => hy e.symm
      have ih := putE_is hn.2 hk' v
      unfold putE at ih
      cases hf : r.findIdx? (fun x => decide (x.1 = k)) with
      | none =>
        obtain ⟨x, hx, e⟩ := List.mem_map.1 hk'
        rw [List.findIdx?_eq_none_iff] at hf
        have := hf x hx
        simp [e] at this
      | some j =>
        rw [hf] at ih
        simp only [Option.map_some, List.modify_succ_cons, List.map_cons, if_neg hy] at ih ⊢
        rw [ih]
theorem MapFn.putOld (h : MapFn es clk g) (hk : k ∈ es.map (·.1)) (v : Value) : MapFn (putE es k v) clk (updG g k (some v)) := by
  rw [putE_is h.keys hk]
  have e1 : (es.map fun x => if x.1 = k then (k, v, x.2.2) else x).map (·.1) = es.map (·.1) := by
    rw [List.map_map]
    refine List.map_congr_left fun x _ => ?_
    simp only [Function.comp_apply]
    split
    · rename_i e; exact e.symm
    · rfl
  have e2 : (es.map fun x => if x.1 = k then (k, v, x.2.2) else x).map (·.2.2) = es.map (·.2.2) := by
    rw [List.map_map]
    refine List.map_congr_left fun x _ => ?_
    simp only [Function.comp_apply]
    split <;> rfl
  refine ⟨⟨by rw [e2]; exact h.born.1, fun x hx => ?_⟩, by rw [e1]; exact h.keys, fun x => ?_⟩
  · have : x.2.2 ∈ es.map (·.2.2) := e2 ▸ List.mem_map_of_mem hx
    obtain ⟨y, hy, e⟩ := List.mem_map.1 this
    rw [← e]
    exact h.born.2 y hy
  · have e3 : seek (es.map fun x => if x.1 = k then (k, v, x.2.2) else x) x = (seek es x).map fun x => if x.1 = k then (k, v, x.2.2) else x := by
      unfold seek
      rw [List.find?_map]
      congr 2
      funext y
      simp only [Function.comp_apply]
      split
      · rename_i e; rw [e]
      · rfl
    rw [e3]
    unfold updG
    by_cases hx : x = k
    · subst hx
      rw [if_pos rfl]
      cases hs : seek es x with
      | none => exact absurd hk (seek_none.1 hs)
      | some y => simp [(seek_mem hs).2]
    · rw [if_neg hx, ← h.look x]
      cases hs : seek es x with
      | none => rfl
      | some y =>
        have : ¬ y.1 = k := (seek_mem hs).2 ▸ hx
        simp [this]
theorem MapFn.del (h : MapFn es clk g) (k : α) : MapFn (restE es k) clk (updG g k none) := by
  have hsub := rest_sub es k
  have hkn : ((restE es k).map (·.1)).Nodup := h.keys.sublist (hsub.map _)
  refine ⟨⟨h.born.1.sublist (hsub.map _), fun x hx => h.born.2 x (hsub.subset hx)⟩, hkn, fun x => ?_⟩
  unfold updG
  have hmem : ∀ y, y ∈ restE es k ↔ y ∈ es ∧ y.1 ≠ k := fun y => by
    rw [rest_eq h.keys, List.mem_filter, decide_eq_true_iff]
  by_cases hx : x = k
  · subst hx
    rw [if_pos rfl, Option.map_eq_none_iff]
    refine seek_none.2 fun hm => ?_
    obtain ⟨y, hy, e⟩ := List.mem_map.1 hm
    exact ((hmem y).1 hy).2 e
  · rw [if_neg hx, ← h.look x]
    cases hs : seek es x with
    | none => rw [seek_none.2 fun hm => seek_none.1 hs ((hsub.map _).subset hm)]
    | some y =>
      obtain ⟨h1, h2⟩ := seek_mem hs
      have := seek_some hkn ((hmem y).2 ⟨h1, by rw [h2]; exact hx⟩)
      rw [h2] at this
      rw [this]
theorem MapFn.perm (h : MapFn es clk g) (hb : Born ds c2) (hp : (ds.map fun x => (x.1, x.2.1)).Perm (es.map fun x => (x.1, x.2.1))) : MapFn ds c2 g := by
  have hk : (ds.map (·.1)).Perm (es.map (·.1)) := by
    have := hp.map (·.1)
    simpa [Function.comp_def] using this
  have hkn := hk.nodup_iff.2 h.keys
  refine ⟨hb, hkn, fun x => ?_⟩
  rw [← h.look x]
  cases hs : seek es x with
  | none => rw [seek_none.2 fun hm => seek_none.1 hs (hk.mem_iff.1 hm)]
  | some y =>
    obtain ⟨h1, h2⟩ := seek_mem hs
    have h3 : (y.1, y.2.1) ∈ es.map fun x => (x.1, x.2.1) := List.mem_map.2 ⟨y, h1, rfl⟩
    obtain ⟨z, hz, e⟩ := List.mem_map.1 (hp.mem_iff.2 h3)
    simp only [Prod.mk.injEq] at e
    have h4 := seek_some hkn hz
    rw [e.1, h2] at h4
    rw [h4]
    simp [e.2]

/-! ### runs -/
variable {P : Program} {T K E : TypeId} {w : World} {b : Nat} {enc : α → Value}
theorem MapFn.run_look {z : Value} (h : MapFn es clk g) (kb : KeyBy P K enc (fun _ _ => True)) (hT : P.underlying T = some (.map K E)) (hz : (zeroValue E).run P w = .ok z w) (hb : w.heap[b]? = some (.map (entsE enc es) clk)) (k : α) (c : Bool) :
    (Instr.lookup T (.map (some b)) (enc k) c).run P w = .ok (if c then .tuple #[(g k).getD z, .bool (g k).isSome] else (g k).getD z) w := by
  have := run_lookE (c := c) kb hT hz hb (k := k) trivial (fun _ _ => trivial)
  rw [h.look k] at this
  rw [this, ← h.look k, Option.isSome_map]
theorem MapFn.run_put (h : MapFn es clk g) (kb : KeyBy P K enc (fun _ _ => True)) (hT : P.underlying T = some (.map K E)) (hb : w.heap[b]? = some (.map (entsE enc es) clk)) (k : α) (v : Value) :
    ∃ ds c2, (Instr.mapUpdate T (.map (some b)) (enc k) v).run P w = .ok () (setBlock w b (.map (entsE enc ds) c2)) ∧ MapFn ds c2 (updG g k (some v)) := by
  cases hs : seek es k with
  | none => exact ⟨_, _, run_mapE_new kb hT hb trivial (fun _ _ => trivial) v hs, h.putNew ((h.none_iff k).1 hs) v⟩
  | some y =>
    have hm : k ∈ es.map (·.1) := (seek_mem hs).2 ▸ List.mem_map_of_mem (seek_mem hs).1
    exact ⟨_, _, run_mapE_old kb hT hb trivial (fun _ _ => trivial) v hs, h.putOld hm v⟩
end

/-! ### one copied into another -/
section
variable {α : Type} [DecidableEq α] {enc : α → Value} {B : Nat} {w0 w : World} {F : List (Nat × Obj)} {db sb r : Nat} {es : List (MapRow α)} {clk : Nat} {P : Program} {T K E : TypeId}
def CopyG (enc : α → Value) (B : Nat) (w0 : World) (db sb r : Nat) (es : List (MapRow α)) (clk : Nat) (F : List (Nat × Obj)) (done laid : List (MapRow α)) (w' : World) : Prop :=
  IterAt w' sb r enc es clk done ∧ ∃ seen ds c2, ds.map (fun x => (x.1, x.2.1)) = laid.map (fun x => (x.1, x.2.1)) ∧ Born ds c2 ∧
    St B w0 w' ((db, .map (entsE enc ds) c2) :: (sb, .map (entsE enc es) clk) :: (r, .mapIter (some sb) clk seen clk) :: F)
theorem CopyG.grow {done laid : List (MapRow α)} {w' : World} (h : CopyG enc B w0 db sb r es clk F done laid w) (hb : Below w.heap.size w w') : CopyG enc B w0 db sb r es clk F done laid w' := by
  obtain ⟨hI, seen, ds, c2, h1, h2, h3⟩ := h
  exact ⟨hI.kept (hb.block _ (h3.lt (b := sb) (o := .map (entsE enc es) clk) (by simp))) (hb.block _ (h3.lt (b := r) (o := .mapIter (some sb) clk seen clk) (by simp))), seen, ds, c2, h1, h2, h3.grow hb⟩
theorem CopyG.next {done : List (MapRow α)} (h : CopyG enc B w0 db sb r es clk F done done w) (hB : Born es clk) (hn : es.Nodup) (ty : TypeId) :
    (done.Perm es ∧ (Instr.next (.pointer (some ⟨r, 0, none⟩)) false ty).run P w = .ok (.tuple #[.bool false]) w) ∨
    ∃ e w', e ∈ es ∧ e ∉ done ∧ (Instr.next (.pointer (some ⟨r, 0, none⟩)) false ty).run P w = .ok (.tuple #[.bool true, enc e.1, e.2.1]) w' ∧ (Instr.entry (.pointer (some ⟨r, 0, none⟩))).run P w' = .ok (.tuple #[enc e.1, e.2.1]) w' ∧
      CopyG enc B w0 db sb r es clk F (done ++ [e]) done w' := by
  obtain ⟨hI, seen, ds, c2, h1, h2, h3⟩ := h
  rcases hI.next (P := P) hB hn ty with ⟨hp, hr⟩ | ⟨e, he, hd, w', hr, hI', hk, hs, ho, ht, hu, hen⟩
  · exact .inl ⟨hp, hr⟩
  · obtain ⟨-, seen', hs', -⟩ := id hI'
    have pm : ∀ x : Obj, ((db, Obj.map (entsE enc ds) c2) :: (sb, .map (entsE enc es) clk) :: (r, x) :: F).Perm ([(db, Obj.map (entsE enc ds) c2), (sb, .map (entsE enc es) clk)] ++ (r, x) :: F) := fun x => List.Perm.refl _
    have h4 := ((h3.perm (pm _)).write hs' hk hs ho ht hu).perm (pm _).symm
    exact .inr ⟨e, w', he, hd, hr, hen, hI', seen', ds, c2, h1, h2, h4⟩
theorem CopyG.laid {done : List (MapRow α)} {e : MapRow α} (h : CopyG enc B w0 db sb r es clk F (done ++ [e]) done w) (kb : KeyBy P K enc (fun _ _ => True)) (hT : P.underlying T = some (.map K E)) (hk : (es.map (·.1)).Nodup) (he : e ∈ es) (hd : e ∉ done) :
    ∃ w', (Instr.mapUpdate T (.map (some db)) (enc e.1) e.2.1).run P w = .ok () w' ∧ CopyG enc B w0 db sb r es clk F (done ++ [e]) (done ++ [e]) w' := by
  obtain ⟨hI, seen, ds, c2, h1, h2, h3⟩ := h
  have hks : ds.map (·.1) = done.map (·.1) := by
    have := congrArg (List.map (·.1)) h1
    simpa [Function.comp_def] using this
  have hdone : ∀ x ∈ done ++ [e], x ∈ es := hI.2.choose_spec.2.2.1
  have hnk : e.1 ∉ ds.map (·.1) := by
    rw [hks]
    intro hm
    obtain ⟨x, hx, e1⟩ := List.mem_map.1 hm
    have hxe : x ∈ es := hdone x (List.mem_append_left _ hx)
    have := (seek_some hk hxe).symm.trans ((congrArg (seek es) e1).trans (seek_some hk he))
    cases this
    exact hd hx
  have hg := h3.get (b := db) (o := .map (entsE enc ds) c2) List.mem_cons_self
  have h4 := h3.block0 (o' := .map (entsE enc (ds ++ [(e.1, e.2.1, c2)])) (c2 + 1))
  refine ⟨_, run_mapE_new kb hT hg (k := e.1) trivial (fun _ _ => trivial) e.2.1 (seek_none.2 hnk), hI.kept ?_ ?_, seen, _, _, ?_, born_snoc h2 _ _, h4⟩
  · exact (h4.get (b := sb) (o := .map (entsE enc es) clk) (by simp)).trans hI.1.symm
  · exact (h4.get (b := r) (o := .mapIter (some sb) clk seen clk) (by simp)).trans (h3.get (b := r) (by simp)).symm
  · rw [List.map_append, List.map_append, h1]
    rfl
end
end Go.Proofs.Ytbjbpoldghbokaa
