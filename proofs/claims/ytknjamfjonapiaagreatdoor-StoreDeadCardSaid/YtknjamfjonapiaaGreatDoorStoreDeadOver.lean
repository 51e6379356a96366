import Derived.Test.YtknjamfjonapiaaGreatDoorStoreDeadRow
import Derived.Test.YtknjamfjonapiaaGreatDoorCards
import Derived.Test.YtknjamfjonapiaaGreatDoorTie
import Derived.Test.YtknjamfjonapiaaGreatDoorY26
import Derived.Test.YtknjamfjonapiaaGreatDoorY25
import Derived.Test.YtknjamfjonapiaaGreatDoorY01
import Derived.WalkKit
import Derived.ProofKit
import Derived.OpenShut
import Derived.ShutString
import Derived.ChangeOld
import Derived.Below
import Derived.Deep.Slices
import Derived.Deep.Fields
import Derived.ChangeSame
import Derived.LaidMore
import Derived.Stop.Joined
import Derived.SevenTiedAt
namespace Go.Proofs.YtknjamfjonapiaaGreatDoor.storeDead
open Go Go.ChangeShapes Go.WideShapes Go.ChangeAt Go.RowKit Go.Deep
set_option linter.unusedVariables false
set_option maxHeartbeats 20000000 in
theorem closed : joinedFacts Tryz.pinned.checked.prog 5 Tryz.f5 Rows.storeDeadSpec Rows.storeDeadRow = true := by
 simp only [joinedFacts, Bool.and_eq_true]
 repeat' apply And.intro
 all_goals as_aux_lemma => kernel_rfl
set_option maxHeartbeats 20000000 in
theorem over : Rows.StoreDeadSaid :=
 OpenClaim.holds_of_wide 5 Tryz.f5 rfl rfl rfl rfl rfl rfl rfl ⟨rfl, rfl, rfl, rfl, rfl⟩ rfl rfl rfl rfl rfl (by as_aux_lemma => kernel_rfl) Tryz.func5 closed
  (of_decide_eq_true (by as_aux_lemma => kernel_rfl)) (by unfold Func.isWrapper; first | (rw [if_pos (by decide +kernel)]; kernel_rfl) | (rw [if_neg (by decide +kernel)]; exact ⟨rfl, rfl⟩))
  (fun os started H enc _ => lifted os started H enc)
end Go.Proofs.YtknjamfjonapiaaGreatDoor.storeDead
