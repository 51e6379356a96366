/-
  DERIVED. GIVEN WITH THE SEED: THE CARDS: each row of YtnnpcjhjmghobaaDoorRows.lean that lists a variable, with what it lists TIED to the program's text (the seventh form; the later family's looks); each row that meets fmt, with fmt's text TOLD by the authors' own Lean function (tested against real Go, not proved from fmt's source: count such statements apart). THE CARD IS WHAT COUNTS. Prove the row's statement (the work); the ties are given (YtnnpcjhjmghobaaDoorTie.lean); close each card by the builder's one call (the guide's Derived/Test/ToyasCard.lean, 'card_holds'). Laid BY PROGRAM, IN A SANDBOX (cutbox-door.mjs). By AI agents, Wed Nov 11 2026. No macro, syntax, notation, axiom, sorry.
-/
import Derived.Test.YtnnpcjhjmghobaaDoorRows
import GoSem.ClaimSeven
namespace Go.Proofs.YtnnpcjhjmghobaaDoor
namespace Rows

/-- THE TIED CARD OF 'mailcoachlaw9.ContentTells'. -/
def contentTellsCard : Claim7 := { stood := { row := contentTellsRow, standIns := [], harness := (true, "ce029dc86685babb136ed5f02ccc37f16ac680a47b35f587fa75699df9915538"), looks := false }, kinds := [], alts := [], laidByText := true, laidKinds := [.data], laidTests := true, laidLooks := .later }
def ContentTellsCardSaid : Prop := Claim7.holds Tryd.pinned (.plain (OpenSpec.ofChange contentTellsSpec)) contentTellsCard

/-- THE TIED CARD OF 'mailcoachlaw9.ContentLimits'. -/
def contentLimitsCard : Claim7 := { stood := { row := contentLimitsRow, standIns := [], harness := (true, "ce029dc86685babb136ed5f02ccc37f16ac680a47b35f587fa75699df9915538"), looks := false }, kinds := [], alts := [], laidByText := true, laidKinds := [.data], laidTests := true, laidLooks := .later }
def ContentLimitsCardSaid : Prop := Claim7.holds Tryd.pinned (.plain (OpenSpec.ofChange contentLimitsSpec)) contentLimitsCard

/-- THE SECOND FORM's CARD OF 'mailcoachlaw9.ContentTells'. -/
def contentTellsUptoCard : Claim7 := { stood := { row := contentTellsUptoRow, standIns := [], harness := (true, "ce029dc86685babb136ed5f02ccc37f16ac680a47b35f587fa75699df9915538"), looks := false }, kinds := [], alts := [], laidByText := true, laidKinds := [.data], laidTests := true, laidLooks := .later }
def ContentTellsUptoCardSaid : Prop := Claim7.holds Tryd.pinned (.plain (OpenSpec.upto contentTellsSpec)) contentTellsUptoCard

/-- THE SECOND FORM's CARD OF 'mailcoachlaw9.ContentLimits'. -/
def contentLimitsUptoCard : Claim7 := { stood := { row := contentLimitsUptoRow, standIns := [], harness := (true, "ce029dc86685babb136ed5f02ccc37f16ac680a47b35f587fa75699df9915538"), looks := false }, kinds := [], alts := [], laidByText := true, laidKinds := [.data], laidTests := true, laidLooks := .later }
def ContentLimitsUptoCardSaid : Prop := Claim7.holds Tryd.pinned (.plain (OpenSpec.upto contentLimitsSpec)) contentLimitsUptoCard
end Rows
end Go.Proofs.YtnnpcjhjmghobaaDoor
