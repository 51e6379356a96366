/- A slice that the call itself grows, as a list of the one block that it lies in (or none): so that it can stand beside other things that the call owns. -/
import Derived.Test.YtpeedcghpdnogaaOwn
import Derived.Maps.AppendAt
namespace Go.Proofs.Ytpeedcghpdnogaa
open Go.RowKit

def SliceIs (T : TypeId) (size : Nat) (v : Value) (n : Nat) (xs : List Value) (F : List (Nat × Obj)) : Prop :=
  xs.length = n * size ∧ ((v = .slice none 0 0 ∧ n = 0 ∧ F = []) ∨
    ∃ g cap cur, v = .slice (some ⟨g, 0, none⟩) n cap ∧ F = [(g, .cells cur T (0, 0))] ∧ n ≤ cap ∧ cap ≤ maxLen ∧ cur.size = cap * size ∧ cur.toList.take (n * size) = xs)

section
variable {B : Nat} {w0 w w' : World} {A F : List (Nat × Obj)} {T : TypeId} {size n n' : Nat} {v v' : Value} {xs xs' : List Value}

theorem SliceIs.nil : SliceIs T size (.slice none 0 0) 0 [] [] := ⟨by simp, .inl ⟨rfl, rfl, rfl⟩⟩

theorem SliceIs.row (h : SliceIs T size v n xs F) (hst : St B w0 w (A ++ F)) : w.ownsRow B T size v n xs := by
  obtain ⟨h1, ⟨h2, h3, _⟩ | ⟨g, cap, cur, h2, h3, h4, h5, h6, h7⟩⟩ := h
  · exact ⟨h1, .inl ⟨h2, h3⟩⟩
  · refine ⟨h1, .inr ⟨g, cap, cur, h2, ?_, ?_, h4, h5, h6, h7⟩⟩
    · exact hst.ge (b := g) (o := .cells cur T (0, 0)) (by rw [h3]; simp)
    · exact hst.get (b := g) (by rw [h3]; simp)

theorem SliceIs.block (h : SliceIs T size v n xs F) (hst : St B w0 w (A ++ F)) : ∀ k, v.ownBlock = some k → B ≤ k ∧ k ∉ A.map (·.1) := by
  obtain ⟨h1, ⟨rfl, h3, _⟩ | ⟨g, cap, cur, rfl, h3, h4, h5, h6, h7⟩⟩ := h
  · intro k hk
    simp [Value.ownBlock] at hk
  · intro k hk
    simp only [Value.ownBlock, Option.some.injEq] at hk
    subst hk
    refine ⟨hst.ge (b := g) (o := .cells cur T (0, 0)) (by rw [h3]; simp), fun hm => ?_⟩
    have hn := hst.nodup
    rw [h3] at hn
    simp only [List.map_append, List.map_cons, List.map_nil] at hn
    exact (List.nodup_append.1 hn).2.2 _ hm g (by simp) rfl

/-- Behind an append by the law that says where the new slice lies. -/
theorem SliceIs.appended (h : SliceIs T size v n xs F) (hst : St B w0 w (A ++ F)) (hown : w'.ownsRow B T size v' n' xs') (hg : w.grownBy w' v.ownBlock)
    (hat : v'.ownBlock = v.ownBlock ∨ v'.ownBlock = some w.heap.size) : ∃ F', SliceIs T size v' n' xs' F' ∧ St B w0 w' (A ++ F') := by
  have hA : St B w0 w' A := (hst.sub (List.sublist_append_left _ _)).grown hg (h.block hst)
  obtain ⟨h1, ⟨rfl, h3⟩ | ⟨g, cap, cur, rfl, hb, hh, h4, h5, h6, h7⟩⟩ := hown
  · exact ⟨[], ⟨h1, .inl ⟨rfl, h3, rfl⟩⟩, by simpa using hA⟩
  · refine ⟨[(g, .cells cur T (0, 0))], ⟨h1, .inr ⟨g, cap, cur, rfl, rfl, h4, h5, h6, h7⟩⟩, hA.below, hA.base, ?_, ?_⟩
    · have hgA : g ∉ A.map (·.1) := by
        rcases hat with hat | hat
        · exact (h.block hst g hat.symm).2
        · simp only [Value.ownBlock, Option.some.injEq] at hat
          rw [hat]
          intro hm
          obtain ⟨p, hp, he⟩ := List.mem_map.1 hm
          have := hst.lt (b := p.1) (o := p.2) (by simp [hp])
          omega
      simp only [List.map_append, List.map_cons, List.map_nil]
      refine List.nodup_append.2 ⟨hA.nodup, by simp, fun x hx y hy => ?_⟩
      obtain rfl := List.mem_singleton.1 hy
      exact fun e => hgA (e ▸ hx)
    · intro p hp
      rcases List.mem_append.1 hp with hp | hp
      · exact hA.at_ p hp
      · obtain rfl := List.mem_singleton.1 hp
        exact ⟨hb, hh⟩

theorem St.grew (h : St B w0 w A) (o : Obj) : St B w0 (w.alloc o) A := (h.alloc o).sub (List.sublist_cons_self _ _)

/-- A slice with an element lies somewhere. -/
theorem SliceIs.full (h : SliceIs T size v n xs F) (hn : 0 < n) : ∃ g cap cur, v = .slice (Option.some ⟨g, 0, none⟩) n cap ∧ F = [(g, .cells cur T (0, 0))] ∧ n ≤ cap ∧ cap ≤ maxLen := by
  obtain ⟨_, ⟨_, h3, _⟩ | ⟨g, cap, cur, h2, h3, h4, h5, _⟩⟩ := h
  · omega
  · exact ⟨g, cap, cur, h2, h3, h4, h5⟩
end
end Go.Proofs.Ytpeedcghpdnogaa
