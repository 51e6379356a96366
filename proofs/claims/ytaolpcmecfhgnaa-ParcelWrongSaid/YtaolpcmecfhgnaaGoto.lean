/- A scope with two labels that the run jumps back to: of each its pass is walked once; what falls from round to round is told by what holds at the label. -/
import Derived.Test.YtaolpcmecfhgnaaOwn
namespace Go.Proofs.Ytaolpcmecfhgnaa
open Go.RowKit

/-- As Q; by a goto: what J says of that label. -/
def jumps (J : Nat → Act → World → Prop) (Q : Exit → Act → World → Prop) : Exit → Act → World → Prop
  | .goto l, a, w => J l a w
  | e, a, w => Q e a w

theorem jumps_mono {J K : Nat → Act → World → Prop} {Q : Exit → Act → World → Prop} (h : ∀ l a w, J l a w → K l a w) : ∀ e a w, jumps J Q e a w → jumps K Q e a w := by
  intro e a w hj
  cases e with
  | goto l => exact h _ _ _ hj
  | _ => exact hj

section
variable {P : Program} {a : Act} {w : World} {Q : Exit → Act → World → Prop}

theorem wp_scope_gotos {c : Code} (X : Nat → Code) (J : Nat → Nat → Act → World → Prop) (hf : ∀ l n a w, J l n a w → findLabel c l = some (.seq .skip (X l)))
    (first : c.wp P (jumps (fun l a' w' => ∃ n, J l n a' w') Q) a w)
    (pass : ∀ l n a w, J l n a w → (X l).wp P (jumps (fun l' a' w' => ∃ m, m < n ∧ J l' m a' w') Q) a w) : (Code.scope c).wp P Q a w := by
  intro b k cs
  have hg : ∀ l n a w, J l n a w → gotoIn l (.inScope c :: k) = some (.code (.seq .skip (X l)) :: .inScope c :: k) := fun l n a w h => by simp [gotoIn, hf l n a w h]
  have key : ∀ n l a w, J l n a w → ∃ e a' w', Q e a' w' ∧ Arrives P (lone (b.at a (.code (.seq .skip (X l)) :: .inScope c :: k)) cs w) b k cs e a' w' := by
    intro n
    induction n using Nat.strongRecOn with
    | _ n ih =>
      intro l a w hJ
      obtain ⟨e, a₁, w₁, hq, harr⟩ := (wp_seq (wp_skip (pass l n a w hJ))) b (.inScope c :: k) cs
      cases e with
      | normal => exact ⟨.normal, a₁, w₁, hq, Steps.trans harr (.one step_inScope)⟩
      | exit id => exact ⟨.exit id, a₁, w₁, hq, fun k' hk => harr k' (by simp [exitTo, hk])⟩
      | goto l' =>
        obtain ⟨m, hlt, hJ'⟩ := hq
        obtain ⟨e₂, a₂, w₂, hq₂, harr₂⟩ := ih m hlt l' a₁ w₁ hJ'
        exact ⟨e₂, a₂, w₂, hq₂, .of_steps (harr _ (hg _ _ _ _ hJ')) harr₂⟩
      | ret => exact ⟨_, a₁, w₁, hq, harr⟩
      | panic ch => exact ⟨_, a₁, w₁, hq, harr⟩
      | outgrown => exact ⟨_, a₁, w₁, hq, harr⟩
  obtain ⟨e, a₁, w₁, hq, harr⟩ := first b (.inScope c :: k) cs
  cases e with
  | normal => exact ⟨.normal, a₁, w₁, hq, .head step_scope (Steps.trans harr (.one step_inScope))⟩
  | exit id => exact ⟨.exit id, a₁, w₁, hq, fun k' hk => .head step_scope (harr k' (by simp [exitTo, hk]))⟩
  | goto l' =>
    obtain ⟨n, hJ'⟩ := hq
    obtain ⟨e₂, a₂, w₂, hq₂, harr₂⟩ := key n l' a₁ w₁ hJ'
    exact ⟨e₂, a₂, w₂, hq₂, .of_steps (.head step_scope (harr _ (hg _ _ _ _ hJ'))) harr₂⟩
  | ret => exact ⟨_, a₁, w₁, hq, .of_steps (.one step_scope) harr⟩
  | panic ch => exact ⟨_, a₁, w₁, hq, .of_steps (.one step_scope) harr⟩
  | outgrown => exact ⟨_, a₁, w₁, hq, .of_steps (.one step_scope) harr⟩

/-- The relation at two labels: those of the second one lie below those of the first. -/
def two (l0 l1 : Nat) (J0 J1 : Nat → Act → World → Prop) (l : Nat) (a : Act) (w : World) : Prop := (l = l0 ∧ ∃ n, J0 n a w) ∨ (l = l1 ∧ ∃ n, J1 n a w)
/-- .. behind a pass from the first label. -/
def twoBelow (l0 l1 : Nat) (J0 J1 : Nat → Act → World → Prop) (n l : Nat) (a : Act) (w : World) : Prop := (l = l0 ∧ ∃ m, m < n ∧ J0 m a w) ∨ (l = l1 ∧ ∃ m, J1 m a w)

theorem wp_scope_two {c X0 X1 : Code} (l0 l1 : Nat) (N : Nat) (J0 J1 : Nat → Act → World → Prop) (hne : l0 ≠ l1) (h0 : findLabel c l0 = some (.seq .skip X0)) (h1 : findLabel c l1 = some (.seq .skip X1))
    (hN : ∀ n a w, J1 n a w → n < N)
    (pass1 : ∀ n a w, J1 n a w → X1.wp P (jumps (fun l a' w' => l = l1 ∧ ∃ m, m < n ∧ J1 m a' w') Q) a w)
    (pass0 : ∀ n, (∀ m a w, J1 m a w → X1.wp P (jumps (twoBelow l0 l1 J0 J1 n) Q) a w) → ∀ a w, J0 n a w → X0.wp P (jumps (twoBelow l0 l1 J0 J1 n) Q) a w)
    (first : (∀ n a w, J0 n a w → X0.wp P (jumps (two l0 l1 J0 J1) Q) a w) → c.wp P (jumps (two l0 l1 J0 J1) Q) a w) : (Code.scope c).wp P Q a w := by
  have p0 : ∀ n a w, J0 n a w → X0.wp P (jumps (twoBelow l0 l1 J0 J1 n) Q) a w := fun n a w hJ =>
    pass0 n (fun m a w hJ => Code.wp_mono (jumps_mono fun l a' w' ⟨e, m, _, h⟩ => .inr ⟨e, m, h⟩) (pass1 m a w hJ)) a w hJ
  refine wp_scope_gotos (fun l => if l = l0 then X0 else X1) (fun l n a w => (l = l0 ∧ ∃ m, n = N + m ∧ J0 m a w) ∨ (l = l1 ∧ J1 n a w)) ?_ ?_ ?_
  · rintro l n a w (⟨rfl, _⟩ | ⟨rfl, _⟩)
    · rw [if_pos rfl]; exact h0
    · rw [if_neg (Ne.symm hne)]; exact h1
  · refine Code.wp_mono (jumps_mono ?_) (first fun n a w hJ => Code.wp_mono (jumps_mono ?_) (p0 n a w hJ))
    · rintro l a' w' (⟨rfl, n, h⟩ | ⟨rfl, n, h⟩)
      · exact ⟨N + n, .inl ⟨rfl, n, rfl, h⟩⟩
      · exact ⟨n, .inr ⟨rfl, h⟩⟩
    · rintro l a' w' (⟨rfl, m, _, h⟩ | ⟨rfl, m, h⟩)
      · exact .inl ⟨rfl, m, h⟩
      · exact .inr ⟨rfl, m, h⟩
  · rintro l n a w (⟨rfl, m, rfl, h⟩ | ⟨rfl, h⟩)
    · rw [if_pos rfl]
      refine Code.wp_mono (jumps_mono ?_) (p0 m a w h)
      rintro l' a' w' (⟨rfl, q, hq, h⟩ | ⟨rfl, q, h⟩)
      · exact ⟨N + q, by omega, .inl ⟨rfl, q, rfl, h⟩⟩
      · exact ⟨q, by have := hN _ _ _ h; omega, .inr ⟨rfl, h⟩⟩
    · rw [if_neg (Ne.symm hne)]
      refine Code.wp_mono (jumps_mono ?_) (pass1 n a w h)
      rintro l' a' w' ⟨rfl, q, hq, h⟩
      exact ⟨q, hq, .inr ⟨rfl, h⟩⟩
end
end Go.Proofs.Ytaolpcmecfhgnaa
