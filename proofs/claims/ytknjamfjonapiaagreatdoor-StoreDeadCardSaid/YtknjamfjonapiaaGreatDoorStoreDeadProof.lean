import Derived.Test.YtknjamfjonapiaaGreatDoorStoreDeadOver
import Derived.Test.YtknjamfjonapiaaGreatDoorCards
import Derived.Test.YtknjamfjonapiaaGreatDoorTie
import Derived.Test.YtknjamfjonapiaaGreatDoorY26
import Derived.Test.YtknjamfjonapiaaGreatDoorY25
import Derived.Test.YtknjamfjonapiaaGreatDoorY01
import Derived.WalkKit
import Derived.ProofKit
import Derived.OpenShut
import Derived.ShutString
import Derived.ChangeOld
import Derived.Below
import Derived.Deep.Slices
import Derived.Deep.Fields
import Derived.ChangeSame
import Derived.LaidMore
import Derived.Stop.Joined
import Derived.SevenTiedAt
namespace Go.Proofs.YtknjamfjonapiaaGreatDoor.storeDead
open Go Go.ChangeShapes Go.WideShapes Go.ChangeAt Go.RowKit Go.Deep
set_option linter.unusedVariables false
set_option maxHeartbeats 20000000 in
theorem proved : Rows.StoreDeadCardSaid :=
 Claim7.holds_tied_plain_at .later [] [.data] true Rows.storeDeadCard.stood.harness false
  over (fun _ h => by cases h) (by as_aux_lemma => kernel_rfl) (fun _ h => by cases h) storeDead_row_tie rfl ⟨rfl, rfl⟩ (by as_aux_lemma => kernel_rfl) rfl
  (fun f fn hf hfn => by
   obtain rfl : f = 5 := (Option.some.inj ((show Tryz.prog.funcNamed "mailcoach/mailcoachlaw19.StoreDead" = some 5 by as_aux_lemma => kernel_rfl).symm.trans hf)).symm
   obtain rfl : fn = Tryz.f5 := (Option.some.inj (Tryz.func5.symm.trans hfn)).symm
   exact ⟨by as_aux_lemma => kernel_rfl, fun j t ht => by
    rw [Tryz.params5] at ht
    have hm : t ∈ [5, 5, 4] := by simpa using Array.mem_of_getElem? ht
    have hall : ([5, 5, 4].all fun u => !Tryz.prog.wantsStandIn u) = true := by as_aux_lemma => kernel_rfl
    exact (show Tryz.prog.wantsStandIn t = false by simpa using List.all_eq_true.1 hall t hm)⟩)
  (by as_aux_lemma => kernel_rfl)
#print axioms proved
end Go.Proofs.YtknjamfjonapiaaGreatDoor.storeDead
