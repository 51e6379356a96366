/- A tree of nodes: told by their words from the root on; in memory; what changes leave of it. -/
import Derived.Test.YtbfelfejelkdpaaTrE
import Derived.Test.YtbfelfejelkdpaaPtA
namespace Go.Proofs.Ytbfelfejelkdpaa
open Go.RowKit
open Go.ChangeMaps (setBlock)
set_option linter.unusedVariables false
set_option linter.unusedSectionVars false
set_option linter.unusedSimpArgs false
set_option maxRecDepth 100000

structure Nd where
  p : Wds
  b : Nat
  u : Option Nat
  s : Tb (List UInt8)
  i : Tb Int
  x : List Value
  y : TypeId

def lastW (p : Wds) : List UInt8 := p.getLastD []
theorem lastW_snoc (p : Wds) (w : List UInt8) : lastW (p ++ [w]) = w := by simp [lastW]
theorem snoc_inj {p q : Wds} {w v : List UInt8} (h : p ++ [w] = q ++ [v]) : p = q ∧ w = v := by
  have := List.append_inj' h rfl
  exact ⟨this.1, by simpa using this.2⟩
def upV (u : Option Nat) : Value := .pointer (u.map fun a => ⟨a, 0, none⟩)
def Nd.cells (n : Nd) : Array Value := ([upV n.u, tx (lastW n.p), .map n.s.mv, .int .i64 n.s.most, .map n.i.mv, .int .i64 n.i.most] ++ n.x).toArray
def Nd.objs (n : Nd) : List (Nat × Obj) := (n.b, .cells n.cells n.y) :: (tabH encS n.s ++ tabH encI n.i)
def objsL (L : List Nd) : List (Nat × Obj) := L.flatMap Nd.objs

structure TreeOk (L : List Nd) (tb c : Nat) : Prop where
  paths : (L.map Nd.p).Nodup
  blocks : (L.map Nd.b).Nodup
  root : ∃ n ∈ L, n.p = [] ∧ n.b = tb
  ups : ∀ n ∈ L, (n.p = [] ∧ n.u = none) ∨ ∃ q ∈ L, ∃ w, n.p = q.p ++ [w] ∧ n.u = some q.b ∧ (w, np n.b) ∈ q.s.rows
  downs : ∀ n ∈ L, ∀ r ∈ n.s.rows, ∃ m ∈ L, m.p = n.p ++ [r.1] ∧ r.2 = np m.b
  bare : ∀ n ∈ L, Bare n.i
  oks : ∀ n ∈ L, TbOk n.s c ∧ TbOk n.i c
  few : L.length ≤ c

theorem map_inj {α β : Type} {f : α → β} {L : List α} (h : (L.map f).Nodup) {m n : α} (hm : m ∈ L) (hn : n ∈ L) (e : f m = f n) : m = n := by
  obtain ⟨i, hi⟩ := List.getElem?_of_mem hm
  obtain ⟨j, hj⟩ := List.getElem?_of_mem hn
  have hil := (List.getElem?_eq_some_iff.1 hi).1
  have : i = j := (List.getElem?_inj (by simpa using hil) h).1 (by simp [hi, hj, e])
  subst this
  rw [hi] at hj; cases hj; rfl

def nd (L : List Nd) (p : Wds) : Option Nd := L.find? fun n => decide (n.p = p)
def ptrP (L : List Nd) (p : Wds) : Value := match nd L p with
  | some n => np n.b
  | none => .pointer none
def HasId (L : List Nd) (p : Wds) (k : Int) : Prop := ∃ n ∈ L, n.p = p ∧ k ∈ n.i.es.map (·.1)

section
variable {L : List Nd} {tb c : Nat} {n m : Nd} {p : Wds}
theorem nd_mem (h : nd L p = some n) : n ∈ L ∧ n.p = p := ⟨List.mem_of_find?_eq_some h, by simpa using List.find?_some h⟩
theorem nd_none : nd L p = none ↔ ∀ n ∈ L, n.p ≠ p := by
  unfold nd
  rw [List.find?_eq_none]
  simp
theorem TreeOk.nd_some (h : TreeOk L tb c) (hn : n ∈ L) : nd L n.p = some n := by
  cases hs : nd L n.p with
  | none => exact absurd rfl (nd_none.1 hs n hn)
  | some m =>
    obtain ⟨h1, h2⟩ := nd_mem hs
    rw [map_inj h.paths h1 hn h2]
theorem TreeOk.ptr (h : TreeOk L tb c) (hn : n ∈ L) : ptrP L n.p = np n.b := by
  unfold ptrP
  rw [h.nd_some hn]
theorem TreeOk.kid (h : TreeOk L tb c) (hn : n ∈ L) (w : List UInt8) : ((seek n.s.es w).map (·.2.1)).getD (.pointer none) = ptrP L (n.p ++ [w]) := by
  cases hs : seek n.s.es w with
  | none =>
    have : nd L (n.p ++ [w]) = none := by
      rw [nd_none]
      intro m hm e
      rcases h.ups m hm with ⟨h1, _⟩ | ⟨q, hq, w', h1, _, h2⟩
      · rw [h1] at e; simp at e
      · rw [h1] at e
        obtain ⟨e1, rfl⟩ := snoc_inj e
        obtain rfl := map_inj h.paths hq hn e1
        refine seek_none.1 hs ?_
        rw [← keys_rows]
        exact List.mem_map_of_mem (f := (·.1)) h2
    unfold ptrP
    rw [this]
    rfl
  | some e =>
    obtain ⟨h1, rfl⟩ := seek_mem hs
    obtain ⟨m, hm, h2, h3⟩ := h.downs n hn (e.1, e.2.1) (List.mem_map_of_mem (f := fun e => (e.1, e.2.1)) h1)
    rw [← h2, h.ptr hm]
    exact h3
/-- What leads up. -/
theorem TreeOk.up (h : TreeOk L tb c) (hn : n ∈ L) : (n.p = [] ∧ upV n.u = .pointer none) ∨ ∃ q ∈ L, ∃ w, n.p = q.p ++ [w] ∧ upV n.u = np q.b := by
  rcases h.ups n hn with ⟨h1, h2⟩ | ⟨q, hq, w, h1, h2, _⟩
  · exact .inl ⟨h1, by rw [h2]; rfl⟩
  · exact .inr ⟨q, hq, w, h1, by rw [h2]; rfl⟩
theorem HasId.of (h : TreeOk L tb c) (hn : n ∈ L) (k : Int) : HasId L n.p k ↔ k ∈ n.i.es.map (·.1) := by
  constructor
  · rintro ⟨m, hm, e, hk⟩
    rwa [map_inj h.paths hm hn e] at hk
  · exact fun hk => ⟨n, hn, rfl, hk⟩

theorem TreeOk.sim {L' : List Nd} {c' : Nat} (h : TreeOk L tb c) (hf : ∀ m ∈ L, ∃ m' ∈ L', m'.p = m.p ∧ m'.b = m.b ∧ m'.u = m.u ∧ m'.s = m.s) (hg : ∀ m' ∈ L', ∃ m ∈ L, m'.p = m.p ∧ m'.b = m.b ∧ m'.u = m.u ∧ m'.s = m.s)
    (h1 : (L'.map Nd.p).Nodup) (h2 : (L'.map Nd.b).Nodup) (h3 : ∀ n ∈ L', Bare n.i) (h4 : ∀ n ∈ L', TbOk n.s c' ∧ TbOk n.i c') (h5 : L'.length ≤ c') : TreeOk L' tb c' := by
  refine ⟨h1, h2, ?_, ?_, ?_, h3, h4, h5⟩
  · obtain ⟨n, hn, e1, e2⟩ := h.root
    obtain ⟨m, hm, g1, g2, -⟩ := hf n hn
    exact ⟨m, hm, g1.trans e1, g2.trans e2⟩
  · intro m' hm'
    obtain ⟨m, hm, g1, g2, g3, g4⟩ := hg m' hm'
    rw [g1, g2, g3]
    rcases h.ups m hm with e | ⟨q, hq, w, e1, e2, e3⟩
    · exact .inl e
    · obtain ⟨q', hq', k1, k2, k3, k4⟩ := hf q hq
      exact .inr ⟨q', hq', w, by rw [e1, k1], by rw [e2, k2], by rw [k4]; exact e3⟩
  · intro m' hm' r hr
    obtain ⟨m, hm, g1, g2, g3, g4⟩ := hg m' hm'
    rw [g4] at hr
    obtain ⟨q, hq, e1, e2⟩ := h.downs m hm r hr
    obtain ⟨q', hq', k1, k2, k3, k4⟩ := hf q hq
    exact ⟨q', hq', by rw [k1, e1, g1], by rw [e2, k2]⟩
theorem TreeOk.perm {L' : List Nd} (h : TreeOk L tb c) (hp : L.Perm L') : TreeOk L' tb c :=
  h.sim (fun m hm => ⟨m, hp.mem_iff.1 hm, rfl, rfl, rfl, rfl⟩) (fun m hm => ⟨m, hp.mem_iff.2 hm, rfl, rfl, rfl, rfl⟩) ((hp.map _).nodup_iff.1 h.paths) ((hp.map _).nodup_iff.1 h.blocks)
    (fun m hm => h.bare m (hp.mem_iff.2 hm)) (fun m hm => h.oks m (hp.mem_iff.2 hm)) (by rw [← hp.length_eq]; exact h.few)
theorem TreeOk.mono {c' : Nat} (h : TreeOk L tb c) (hc : c ≤ c') : TreeOk L tb c' :=
  ⟨h.paths, h.blocks, h.root, h.ups, h.downs, h.bare, fun n hn => ⟨(h.oks n hn).1.mono hc, (h.oks n hn).2.mono hc⟩, Nat.le_trans h.few hc⟩

/-- A node's ids turned. -/
theorem TreeOk.ids {R : List Nd} {c' : Nat} {i' : Tb Int} {x' : List Value} (h : TreeOk (n :: R) tb c) (hb : Bare i') (hc : c ≤ c') (hok : TbOk i' c') : TreeOk ({ n with i := i', x := x' } :: R) tb c' := by
  refine h.sim ?_ ?_ h.paths h.blocks ?_ ?_ (Nat.le_trans h.few hc)
  · intro m hm
    rcases List.mem_cons.1 hm with rfl | hm
    · exact ⟨_, List.mem_cons_self, rfl, rfl, rfl, rfl⟩
    · exact ⟨m, List.mem_cons_of_mem _ hm, rfl, rfl, rfl, rfl⟩
  · intro m hm
    rcases List.mem_cons.1 hm with rfl | hm
    · exact ⟨n, List.mem_cons_self, rfl, rfl, rfl, rfl⟩
    · exact ⟨m, List.mem_cons_of_mem _ hm, rfl, rfl, rfl, rfl⟩
  · intro m hm
    rcases List.mem_cons.1 hm with rfl | hm
    · exact hb
    · exact h.bare m (List.mem_cons_of_mem _ hm)
  · intro m hm
    rcases List.mem_cons.1 hm with rfl | hm
    · exact ⟨(h.oks n List.mem_cons_self).1.mono hc, hok⟩
    · exact ⟨(h.oks m (List.mem_cons_of_mem _ hm)).1.mono hc, (h.oks m (List.mem_cons_of_mem _ hm)).2.mono hc⟩

/-- A node that leads to a new one. -/
abbrev newNd (n : Nd) (w : List UInt8) (nb : Nat) (y : TypeId) : Nd := ⟨n.p ++ [w], nb, some n.b, Tb.new, Tb.new, [], y⟩
theorem TreeOk.grow {R : List Nd} {w : List UInt8} {nb : Nat} {y : TypeId} {s' : Tb (List UInt8)} (h : TreeOk (n :: R) tb c) (hw : ∀ m ∈ n :: R, m.p ≠ n.p ++ [w]) (hnb : ∀ m ∈ n :: R, m.b ≠ nb)
    (hs : s'.rows = n.s.rows ++ [(w, np nb)]) (hok : TbOk s' (c + 1)) : TreeOk (newNd n w nb y :: { n with s := s' } :: R) tb (c + 1) := by
  have hf : ∀ m ∈ n :: R, ∃ m' ∈ newNd n w nb y :: { n with s := s' } :: R, m'.p = m.p ∧ m'.b = m.b ∧ m'.u = m.u ∧ (∀ r ∈ m.s.rows, r ∈ m'.s.rows) := by
    intro m hm
    rcases List.mem_cons.1 hm with rfl | hm
    · exact ⟨{ m with s := s' }, by simp, rfl, rfl, rfl, fun r hr => by show r ∈ s'.rows; rw [hs]; exact List.mem_append_left _ hr⟩
    · exact ⟨m, by simp [hm], rfl, rfl, rfl, fun r hr => hr⟩
  refine ⟨?_, ?_, ?_, ?_, ?_, ?_, ?_, by have := h.few; simpa using this⟩
  · show ((n.p ++ [w]) :: ((n :: R).map Nd.p)).Nodup
    rw [List.nodup_cons]
    refine ⟨fun hm => ?_, h.paths⟩
    obtain ⟨m, hm, e⟩ := List.mem_map.1 hm
    exact hw m hm e
  · show (nb :: ((n :: R).map Nd.b)).Nodup
    rw [List.nodup_cons]
    refine ⟨fun hm => ?_, h.blocks⟩
    obtain ⟨m, hm, e⟩ := List.mem_map.1 hm
    exact hnb m hm e
  · obtain ⟨r, hr, e1, e2⟩ := h.root
    obtain ⟨r', hr', g1, g2, -⟩ := hf r hr
    exact ⟨r', hr', g1.trans e1, g2.trans e2⟩
  · have key : ∀ m ∈ n :: R, (m.p = [] ∧ m.u = none) ∨ ∃ q ∈ newNd n w nb y :: { n with s := s' } :: R, ∃ w', m.p = q.p ++ [w'] ∧ m.u = some q.b ∧ (w', np m.b) ∈ q.s.rows := by
      intro m hm
      rcases h.ups m hm with e | ⟨q, hq, w', e1, e2, e3⟩
      · exact .inl e
      · obtain ⟨q', hq', k1, k2, k3, k4⟩ := hf q hq
        exact .inr ⟨q', hq', w', by rw [e1, k1], by rw [e2, k2], k4 _ e3⟩
    intro m hm
    rcases List.mem_cons.1 hm with rfl | hm
    · exact .inr ⟨{ n with s := s' }, by simp, w, rfl, rfl, by show _ ∈ s'.rows; rw [hs]; simp⟩
    rcases List.mem_cons.1 hm with rfl | hm
    · exact key n List.mem_cons_self
    · exact key m (List.mem_cons_of_mem _ hm)
  · have key : ∀ m ∈ n :: R, ∀ r ∈ m.s.rows, ∃ m' ∈ newNd n w nb y :: { n with s := s' } :: R, m'.p = m.p ++ [r.1] ∧ r.2 = np m'.b := by
      intro m hm r hr
      obtain ⟨q, hq, e1, e2⟩ := h.downs m hm r hr
      obtain ⟨q', hq', k1, k2, k3, k4⟩ := hf q hq
      exact ⟨q', hq', by rw [k1, e1], by rw [e2, k2]⟩
    intro m hm r hr
    rcases List.mem_cons.1 hm with rfl | hm
    · exact absurd hr (by show r ∉ (Tb.new : Tb (List UInt8)).rows; simp [Tb.new, Tb.rows])
    rcases List.mem_cons.1 hm with rfl | hm
    · have hr : r ∈ s'.rows := hr
      rw [hs] at hr
      rcases List.mem_append.1 hr with hr | hr
      · exact key n List.mem_cons_self r hr
      · rw [List.mem_singleton] at hr
        subst hr
        exact ⟨newNd n w nb y, by simp, rfl, rfl⟩
    · exact key m (List.mem_cons_of_mem _ hm) r hr
  · intro m hm
    rcases List.mem_cons.1 hm with rfl | hm
    · intro e he
      exact absurd he (by simp [Tb.new])
    rcases List.mem_cons.1 hm with rfl | hm
    · exact h.bare n List.mem_cons_self
    · exact h.bare m (List.mem_cons_of_mem _ hm)
  · intro m hm
    rcases List.mem_cons.1 hm with rfl | hm
    · exact ⟨TbOk.new _, TbOk.new _⟩
    rcases List.mem_cons.1 hm with rfl | hm
    · exact ⟨hok, (h.oks n List.mem_cons_self).2.mono (Nat.le_succ _)⟩
    · exact ⟨(h.oks m (List.mem_cons_of_mem _ hm)).1.mono (Nat.le_succ _), (h.oks m (List.mem_cons_of_mem _ hm)).2.mono (Nat.le_succ _)⟩

/-- A node that leads nowhere goes. -/
theorem TreeOk.cut {R : List Nd} {w : List UInt8} {s' : Tb (List UInt8)} (h : TreeOk (m :: n :: R) tb c) (hm : m.p = n.p ++ [w]) (h0 : m.s.rows = [])
    (hs : s'.rows.Perm (n.s.rows.filter fun x => decide (x.1 ≠ w))) (hok : TbOk s' c) : TreeOk ({ n with s := s' } :: R) tb c := by
  have hmp : m.p ≠ [] := by rw [hm]; simp
  have nm : ∀ k ∈ n :: R, k.p ≠ m.p := fun k hk e => by
    have := h.paths
    rw [List.map_cons, List.nodup_cons] at this
    exact this.1 (e ▸ List.mem_map_of_mem hk)
  have nn : ∀ k ∈ R, k.p ≠ n.p := fun k hk e => by
    have := h.paths
    rw [List.map_cons, List.nodup_cons, List.map_cons, List.nodup_cons] at this
    exact this.2.1 (e ▸ List.mem_map_of_mem hk)
  have hin : ∀ k ∈ m :: n :: R, k.p ≠ m.p → ∃ k' ∈ { n with s := s' } :: R, k'.p = k.p ∧ k'.b = k.b := by
    intro k hk hne
    rcases List.mem_cons.1 hk with rfl | hk
    · exact absurd rfl hne
    rcases List.mem_cons.1 hk with rfl | hk
    · exact ⟨_, List.mem_cons_self, rfl, rfl⟩
    · exact ⟨k, List.mem_cons_of_mem _ hk, rfl, rfl⟩
  have mem : ∀ r, r ∈ s'.rows ↔ r ∈ n.s.rows ∧ r.1 ≠ w := fun r => by rw [hs.mem_iff, List.mem_filter]; simp
  refine ⟨?_, ?_, ?_, ?_, ?_, ?_, ?_, ?_⟩
  · have := h.paths
    rw [List.map_cons, List.nodup_cons] at this
    exact this.2
  · have := h.blocks
    rw [List.map_cons, List.nodup_cons] at this
    exact this.2
  · obtain ⟨r, hr, e1, e2⟩ := h.root
    obtain ⟨r', hr', g1, g2⟩ := hin r hr (by rw [e1]; exact Ne.symm hmp)
    exact ⟨r', hr', g1.trans e1, g2.trans e2⟩
  · have key : ∀ k ∈ n :: R, (k.p = [] ∧ k.u = none) ∨ ∃ q ∈ { n with s := s' } :: R, ∃ w', k.p = q.p ++ [w'] ∧ k.u = some q.b ∧ (w', np k.b) ∈ q.s.rows := by
      intro k hk
      rcases h.ups k (List.mem_cons_of_mem _ hk) with e | ⟨q, hq, w', e1, e2, e3⟩
      · exact .inl e
      · refine .inr ?_
        rcases List.mem_cons.1 hq with rfl | hq
        · rw [h0] at e3
          exact absurd e3 (by simp)
        rcases List.mem_cons.1 hq with rfl | hq
        · refine ⟨_, List.mem_cons_self, w', e1, e2, (mem _).2 ⟨e3, fun e => ?_⟩⟩
          have e : w' = w := e
          rw [e, ← hm] at e1
          exact nm k hk e1
        · exact ⟨q, List.mem_cons_of_mem _ hq, w', e1, e2, e3⟩
    intro k hk
    rcases List.mem_cons.1 hk with rfl | hk
    · exact key n List.mem_cons_self
    · exact key k (List.mem_cons_of_mem _ hk)
  · intro k hk r hr
    rcases List.mem_cons.1 hk with rfl | hk
    · obtain ⟨h1, h2⟩ := (mem r).1 hr
      obtain ⟨q, hq, e1, e2⟩ := h.downs n (by simp) r h1
      obtain ⟨q', hq', k1, k2⟩ := hin q hq (by rw [e1, hm]; intro e; exact h2 (snoc_inj e).2)
      exact ⟨q', hq', by rw [k1, e1], by rw [e2, k2]⟩
    · obtain ⟨q, hq, e1, e2⟩ := h.downs k (by simp [hk]) r hr
      obtain ⟨q', hq', k1, k2⟩ := hin q hq (by rw [e1, hm]; intro e; exact nn k hk (snoc_inj e).1)
      exact ⟨q', hq', by rw [k1, e1], by rw [e2, k2]⟩
  · intro k hk
    rcases List.mem_cons.1 hk with rfl | hk
    · exact h.bare n (by simp)
    · exact h.bare k (by simp [hk])
  · intro k hk
    rcases List.mem_cons.1 hk with rfl | hk
    · exact ⟨hok, (h.oks n (by simp)).2⟩
    · exact h.oks k (by simp [hk])
  · have := h.few
    simp only [List.length_cons] at this ⊢
    omega
end

/-! ### in memory -/
section
variable {B : Nat} {w0 w : World} {F : List (Nat × Obj)} {L : List Nd} {tb c : Nat} {n m : Nd}
theorem objs_perm {L' : List Nd} (h : L.Perm L') : (objsL L).Perm (objsL L') := List.Perm.flatMap_right _ h
theorem objs_cons (n : Nd) (R : List Nd) : objsL (n :: R) = n.objs ++ objsL R := rfl
theorem mem_cells (hn : n ∈ L) : (n.b, (.cells n.cells n.y : Obj)) ∈ objsL L ++ F := List.mem_append_left _ (List.mem_flatMap.2 ⟨n, hn, List.mem_cons_self⟩)
theorem St.node (h : St B w0 w (objsL L ++ F)) (hn : n ∈ L) {j : Nat} {v : Value} (hj : n.cells[j]? = some v) : w.cell? ⟨n.b, j, none⟩ = some v := h.cell (b := n.b) (mem_cells hn) hj
theorem St.nodeSoft (h : St B w0 w (objsL L ++ F)) (hn : n ∈ L) (j : Nat) : w.frozen? ⟨n.b, j, none⟩ = false := h.soft (b := n.b) (mem_cells hn) j
theorem St.nodeIn (h : St B w0 w (objsL L ++ F)) (hn : n ∈ L) : w.heap[n.b]? = some (.cells n.cells n.y) := h.get (b := n.b) (mem_cells hn)
theorem St.tabS (h : St B w0 w (objsL L ++ F)) (hn : n ∈ L) : TbAt w n.b 2 encS n.s :=
  ⟨h.node hn rfl, h.node hn rfl, fun mb e => h.get (b := mb) (List.mem_append_left _ (List.mem_flatMap.2 ⟨n, hn, by unfold Nd.objs tabH; rw [e]; simp⟩))⟩
theorem St.tabI (h : St B w0 w (objsL L ++ F)) (hn : n ∈ L) : TbAt w n.b 4 encI n.i :=
  ⟨h.node hn rfl, h.node hn rfl, fun mb e => h.get (b := mb) (List.mem_append_left _ (List.mem_flatMap.2 ⟨n, hn, by unfold Nd.objs; simp only [tabH, e]; simp⟩))⟩
/-- Looked up: where a word leads. -/
theorem run_kid (h : St B w0 w (objsL L ++ F)) (ht : TreeOk L tb c) (hn : n ∈ L) (v : List UInt8) :
    (Instr.lookup 42 (.map n.s.mv) (tx v) false).run Try.prog w = .ok (ptrP L (n.p ++ [v])) w := by
  have hk := ht.kid hn v
  cases hmv : n.s.mv with
  | none =>
    have := run_lookE_nil (c := false) keyS uMapS (zNode w) (k := v) trivial
    rw [((ht.oks n hn).1.bare hmv).1] at hk
    rw [← hk]
    exact this
  | some mb =>
    have := run_lookE (c := false) keyS uMapS (zNode w) ((h.tabS hn).map mb hmv) (k := v) trivial (fun _ _ => trivial)
    rw [hk] at this
    exact this
end
end Go.Proofs.Ytbfelfejelkdpaa
