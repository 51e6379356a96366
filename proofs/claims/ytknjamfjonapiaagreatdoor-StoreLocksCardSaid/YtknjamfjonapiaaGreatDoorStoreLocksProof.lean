import Derived.Test.YtknjamfjonapiaaGreatDoorStoreLocksOver
import Derived.Test.YtknjamfjonapiaaGreatDoorCards
import Derived.Test.YtknjamfjonapiaaGreatDoorTie
import Derived.Test.YtknjamfjonapiaaGreatDoorZ29
import Derived.Test.YtknjamfjonapiaaGreatDoorZ01
import Derived.WalkKit
import Derived.ProofKit
import Derived.OpenShut
import Derived.ShutString
import Derived.ChangeOld
import Derived.Below
import Derived.Deep.Slices
import Derived.Deep.Fields
import Derived.ChangeSame
import Derived.LaidMore
import Derived.Stop.Joined
import Derived.SevenTiedAt
namespace Go.Proofs.YtknjamfjonapiaaGreatDoor.storeLocks
open Go Go.ChangeShapes Go.WideShapes Go.ChangeAt Go.RowKit Go.Deep
set_option linter.unusedVariables false
set_option maxHeartbeats 20000000 in
theorem proved : Rows.StoreLocksCardSaid :=
 Claim7.holds_tied_plain_at .later [] [.data] true Rows.storeLocksCard.stood.harness false
  over (fun _ h => by cases h) (by as_aux_lemma => kernel_rfl) (fun _ h => by cases h) storeLocks_row_tie rfl ⟨rfl, rfl⟩ (by as_aux_lemma => kernel_rfl) rfl
  (fun f fn hf hfn => by
   obtain rfl : f = 6 := (Option.some.inj ((show Tryz.prog.funcNamed "mailcoach/mailcoachlaw19.StoreLocks" = some 6 by as_aux_lemma => kernel_rfl).symm.trans hf)).symm
   obtain rfl : fn = Tryz.f6 := (Option.some.inj (Tryz.func6.symm.trans hfn)).symm
   exact ⟨by as_aux_lemma => kernel_rfl, fun j t ht => by
    rw [Tryz.params6] at ht
    have hm : t ∈ [5, 5] := by simpa using Array.mem_of_getElem? ht
    have hall : ([5, 5].all fun u => !Tryz.prog.wantsStandIn u) = true := by as_aux_lemma => kernel_rfl
    exact (show Tryz.prog.wantsStandIn t = false by simpa using List.all_eq_true.1 hall t hm)⟩)
  (by as_aux_lemma => kernel_rfl)
#print axioms proved
end Go.Proofs.YtknjamfjonapiaaGreatDoor.storeLocks
