/- A trie as its callers see it: pairs that come and go. -/
import Derived.Test.YtbfelfejelkdpaaTrH
namespace Go.Proofs.Ytbfelfejelkdpaa
open Go.RowKit
open Go.ChangeMaps (setBlock)
set_option linter.unusedVariables false
set_option linter.unusedSectionVars false
set_option linter.unusedSimpArgs false
set_option maxRecDepth 100000

abbrev Prs := List (Wds × Int)
def TrIs (B : Nat) (w0 w : World) (tb : Nat) (M : Prs) (F : List (Nat × Obj)) (c : Nat) : Prop :=
  ∃ L, St B w0 w (objsL L ++ F) ∧ TreeOk L tb c ∧ (∀ p k, HasId L p k ↔ (p, k) ∈ M) ∧ M.Nodup ∧ RootX L [.int .i64 M.length]
def addM (M : Prs) (x : Wds × Int) : Prs := if x ∈ M then M else M ++ [x]
def cutM (M : Prs) (x : Wds × Int) : Prs := M.filter fun y => decide (y ≠ x)
theorem cut_len {M : Prs} {x : Wds × Int} (hn : M.Nodup) (hx : x ∈ M) : (cutM M x).length + 1 = M.length := by
  unfold cutM
  have h := hn.erase_eq_filter x
  have e : (M.filter fun y => decide (y ≠ x)) = M.erase x := by
    rw [h]
    apply List.filter_congr
    intro y _
    rw [Bool.eq_iff_iff]
    simp [bne]
  rw [e, List.length_erase_of_mem hx]
  have := List.length_pos_of_mem hx
  omega
theorem cutM_none {M : Prs} {x : Wds × Int} (hx : x ∉ M) : cutM M x = M := by
  unfold cutM
  refine List.filter_eq_self.2 fun y hy => ?_
  have : y ≠ x := fun e => hx (e ▸ hy)
  simpa using this
theorem mem_cut {M : Prs} {x y : Wds × Int} : y ∈ cutM M x ↔ y ∈ M ∧ y ≠ x := by simp [cutM]
theorem mem_add {M : Prs} {x y : Wds × Int} : y ∈ addM M x ↔ y ∈ M ∨ y = x := by
  unfold addM
  split
  · rename_i h
    exact ⟨.inl, fun e => e.elim id fun e => e ▸ h⟩
  · simp

section
variable {B : Nat} {w0 w : World} {F : List (Nat × Obj)} {L : List Nd} {tb c : Nat} {n m : Nd} {M : Prs}
theorem TrIs.grow {w' : World} (h : TrIs B w0 w tb M F c) (hb : Below w.heap.size w w') : TrIs B w0 w' tb M F c := by
  obtain ⟨L, h1, h2⟩ := h
  exact ⟨L, h1.grow hb, h2⟩
theorem TrIs.mono {c' : Nat} (h : TrIs B w0 w tb M F c) (hc : c ≤ c') : TrIs B w0 w tb M F c' := by
  obtain ⟨L, h1, h2, h3⟩ := h
  exact ⟨L, h1, h2.mono hc, h3⟩
theorem TrIs.sub {F' : List (Nat × Obj)} (h : TrIs B w0 w tb M F c) (hs : F'.Sublist F) : TrIs B w0 w tb M F' c := by
  obtain ⟨L, h1, h2⟩ := h
  exact ⟨L, h1.sub ((List.Sublist.refl _).append hs), h2⟩
theorem TrIs.permF {F' : List (Nat × Obj)} (h : TrIs B w0 w tb M F c) (hs : F.Perm F') : TrIs B w0 w tb M F' c := by
  obtain ⟨L, h1, h2⟩ := h
  exact ⟨L, h1.perm (hs.append_left _), h2⟩
/-- What lies beside a trie, and the way back. -/
theorem TrIs.beside (h : TrIs B w0 w tb M F c) : ∃ S, St B w0 w (S ++ F) ∧ ∀ w' F', St B w0 w' (S ++ F') → TrIs B w0 w' tb M F' c := by
  obtain ⟨L, h1, h2⟩ := h
  exact ⟨objsL L, h1, fun w' F' h => ⟨L, h, h2⟩⟩

theorem new_any (hst : St B w0 w F) : Calls Try.prog 7 #[] w fun e w' => ∃ tb, e = .returned (np tb) ∧ TrIs B w0 w' tb [] F 1 := by
  have h1 := hst.alloc (.cells #[.pointer none, tx [], .map none, .int .i64 0, .map none, .int .i64 0, .int .i64 0] 51)
  have fin : Hid (TrIs B w0 (w.alloc (.cells #[.pointer none, tx [], .map none, .int .i64 0, .map none, .int .i64 0, .int .i64 0] 51)) w.heap.size [] F 1) := Lib.hid (by
    refine ⟨[⟨[], w.heap.size, none, Tb.new, Tb.new, [.int .i64 0], 51⟩], h1, ⟨by simp, by simp, ⟨_, List.mem_cons_self, rfl, rfl⟩, ?_, ?_, ?_, ?_, by simp⟩, ?_, by simp, ⟨_, List.mem_cons_self, rfl, rfl⟩⟩
    · intro n hn
      rw [List.mem_singleton] at hn
      subst hn
      exact .inl ⟨rfl, rfl⟩
    · intro n hn r hr
      rw [List.mem_singleton] at hn
      subst hn
      exact absurd hr (by simp [Tb.new, Tb.rows])
    · intro n hn e he
      rw [List.mem_singleton] at hn
      subst hn
      exact absurd he (by simp [Tb.new])
    · intro n hn
      rw [List.mem_singleton] at hn
      subst hn
      exact ⟨TbOk.new _, TbOk.new _⟩
    · rintro p k
      constructor
      · rintro ⟨n, hn, -, hk⟩
        rw [List.mem_singleton] at hn
        subst hn
        exact absurd hk (by simp [Tb.new])
      · intro h
        exact absurd h (by simp))
  clear h1 hst
  go_enter Try.func7, Try.ntmps7
  go_wp2_with fail
  go_ret
  exact ⟨_, rfl, fin.out⟩

theorem TrIs.six (h : TrIs B w0 w tb M F c) : w.cell? ⟨tb, 6, none⟩ = some (.int .i64 M.length) := by
  obtain ⟨L, h1, h2, h3, h4, r, hr, e1, e2⟩ := h
  obtain ⟨r2, hr2, g1, g2⟩ := h2.root
  obtain rfl := map_inj h2.paths hr hr2 (e1.trans g1.symm)
  rw [← g2]
  refine h1.node hr ?_
  show (([upV r.u, tx (lastW r.p), .map r.s.mv, .int .i64 r.s.most, .map r.i.mv, .int .i64 r.i.most] ++ r.x).toArray)[6]? = _
  rw [e2]
  rfl
theorem len_any (h : TrIs B w0 w tb M F c) : Calls Try.prog 10 #[np tb] w fun e w' => e = .returned (.int .i64 M.length) ∧ w' = w := by
  have c6 := h.six
  clear h
  generalize M.length = k at *
  go_enter Try.func10, Try.ntmps10
  go_wp2_with fail
  go_ret
  exact ⟨rfl, rfl⟩

/-- The number of pairs turned. -/
theorem root_set {v v' : Value} (hst : St B w0 w (objsL L ++ F)) (ht : TreeOk L tb c) (hx : RootX L [v]) :
    w.cell? ⟨tb, 6, none⟩ = some v ∧ w.frozen? ⟨tb, 6, none⟩ = false ∧ ∃ L', St B w0 (w.setCell ⟨tb, 6, none⟩ v') (objsL L' ++ F) ∧ TreeOk L' tb c ∧ (∀ p k, HasId L' p k ↔ HasId L p k) ∧ RootX L' [v'] ∧ ∀ m ∈ L, ∃ m' ∈ L', m'.p = m.p ∧ m'.b = m.b := by
  obtain ⟨r, hr, e1, e2⟩ := hx
  obtain ⟨r2, hr2, g1, g2⟩ := ht.root
  obtain rfl := map_inj ht.paths hr hr2 (e1.trans g1.symm)
  have hc : r.cells = #[upV r.u, tx (lastW r.p), .map r.s.mv, .int .i64 r.s.most, .map r.i.mv, .int .i64 r.i.most, v] := by
    unfold Nd.cells
    rw [e2]
    rfl
  refine ⟨by rw [← g2]; exact hst.node hr (by rw [hc]; rfl), by rw [← g2]; exact hst.nodeSoft hr 6, ?_⟩
  obtain ⟨R, hp⟩ : ∃ R, L.Perm (r :: R) := by
    obtain ⟨a, b, rfl⟩ := List.append_of_mem hr
    exact ⟨a ++ b, List.perm_middle⟩
  have ht' := ht.perm hp
  have hs2 : St B w0 w ((r.b, .cells r.cells r.y) :: ((tabH encS r.s ++ tabH encI r.i) ++ (objsL R ++ F))) := by
    refine hst.perm (((objs_perm hp).append_right F).trans ?_)
    rw [objs_cons]
    unfold Nd.objs
    exact List.Perm.of_eq (by simp)
  have hs3 := hs2.set0 6 v'
  rw [g2] at hs3
  have hc2 : r.cells.setIfInBounds 6 v' = ({ r with x := [v'] } : Nd).cells := by
    rw [hc]
    rfl
  rw [hc2] at hs3
  refine ⟨{ r with x := [v'] } :: R, ?_, ht'.ids (i' := r.i) (ht.bare r hr) (Nat.le_refl _) (ht.oks r hr).2, ?_, ⟨_, List.mem_cons_self, e1, rfl⟩, ?_⟩
  · refine hs3.perm (List.Perm.of_eq ?_)
    rw [objs_cons]
    unfold Nd.objs
    simp [g2]
  · intro p k
    rw [← (Same.perm hp).ids p k]
    constructor
    · rintro ⟨q, hq, e3, e4⟩
      rcases List.mem_cons.1 hq with rfl | hq
      · exact ⟨r, by simp, e3, e4⟩
      · exact ⟨q, by simp [hq], e3, e4⟩
    · rintro ⟨q, hq, e3, e4⟩
      rcases List.mem_cons.1 hq with rfl | hq
      · exact ⟨{ q with x := [v'] }, by simp, e3, e4⟩
      · exact ⟨q, by simp [hq], e3, e4⟩
  · intro m hm
    rcases List.mem_cons.1 (hp.mem_iff.1 hm) with rfl | hm
    · exact ⟨{ m with x := [v'] }, by simp, rfl, rfl⟩
    · exact ⟨m, by simp [hm], rfl, rfl⟩

/-- A node's ids turned by a call. -/
theorem ids_turn (hst : St B w0 w (objsL L ++ F)) (ht : TreeOk L tb c) (hn : n ∈ L) : ∃ R, L.Perm (n :: R) ∧ St B w0 w ((n.b, .cells n.cells n.y) :: (tabH encI n.i ++ (tabH encS n.s ++ (objsL R ++ F)))) ∧
    ∀ w' (i' : Tb Int) c', St B w0 w' ((n.b, .cells (tabC n.cells 4 i'.mv i'.most) n.y) :: (tabH encI i' ++ (tabH encS n.s ++ (objsL R ++ F)))) → Bare i' → c ≤ c' → TbOk i' c' →
      St B w0 w' (objsL ({ n with i := i' } :: R) ++ F) ∧ TreeOk ({ n with i := i' } :: R) tb c' ∧ (∀ X, RootX L X → RootX ({ n with i := i' } :: R) X) ∧
      ∀ p k, HasId ({ n with i := i' } :: R) p k ↔ (if p = n.p then k ∈ i'.rows.map (·.1) else HasId L p k) := by
  obtain ⟨R, hp⟩ : ∃ R, L.Perm (n :: R) := by
    obtain ⟨a, b, rfl⟩ := List.append_of_mem hn
    exact ⟨a ++ b, List.perm_middle⟩
  have ht' := ht.perm hp
  refine ⟨R, hp, ?_, fun w' i' c' h1 h2 h3 h4 => ⟨?_, ht'.ids (x' := n.x) h2 h3 h4, ?_, ?_⟩⟩
  · refine hst.perm (((objs_perm hp).append_right F).trans ?_)
    rw [objs_cons]
    unfold Nd.objs
    classical
    exact List.perm_iff_count.2 fun a => by simp only [List.count_append, List.count_cons, List.append_assoc, List.cons_append]; omega
  · rw [cells_i] at h1
    refine h1.perm ?_
    rw [objs_cons]
    show List.Perm _ (((n.b, .cells ({ n with i := i' } : Nd).cells n.y) :: (tabH encS n.s ++ tabH encI i')) ++ objsL R ++ F)
    classical
    exact List.perm_iff_count.2 fun a => by simp only [List.count_append, List.count_cons, List.append_assoc, List.cons_append]; omega
  · rintro X ⟨q, hq, e1, e2⟩
    rcases List.mem_cons.1 (hp.mem_iff.1 hq) with rfl | hq
    · exact ⟨{ q with i := i' }, by simp, e1, e2⟩
    · exact ⟨q, by simp [hq], e1, e2⟩
  · intro p k
    have nn : ∀ q ∈ R, q.p ≠ n.p := fun q hq e => by
      have := ht'.paths
      rw [List.map_cons, List.nodup_cons] at this
      exact this.1 (e ▸ List.mem_map_of_mem hq)
    constructor
    · rintro ⟨q, hq, rfl, e2⟩
      rcases List.mem_cons.1 hq with rfl | hq
      · rw [if_pos rfl, keys_rows]
        exact e2
      · rw [if_neg (nn q hq)]
        exact ⟨q, hp.mem_iff.2 (by simp [hq]), rfl, e2⟩
    · split
      · rename_i e
        intro hk
        rw [keys_rows] at hk
        exact ⟨{ n with i := i' }, by simp, e.symm, hk⟩
      · rename_i e
        rintro ⟨q, hq, rfl, e2⟩
        rcases List.mem_cons.1 (hp.mem_iff.1 hq) with rfl | hq
        · exact absurd rfl e
        · exact ⟨q, by simp [hq], rfl, e2⟩
end
end Go.Proofs.Ytbfelfejelkdpaa
