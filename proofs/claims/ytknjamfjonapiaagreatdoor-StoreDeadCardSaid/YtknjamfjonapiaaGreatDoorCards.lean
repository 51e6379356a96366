/-
  DERIVED. GIVEN WITH THE SEED: THE CARDS: each row of YtknjamfjonapiaaGreatDoorRows.lean that lists a variable, with what it lists TIED to the program's text (the seventh form; the later family's looks); each row that meets fmt, with fmt's text TOLD by the authors' own Lean function (tested against real Go, not proved from fmt's source: count such statements apart). THE CARD IS WHAT COUNTS. Prove the row's statement (the work); the ties are given (YtknjamfjonapiaaGreatDoorTie.lean); close each card by the builder's one call (the guide's Derived/Test/ToyasCard.lean, 'card_holds'). Laid BY PROGRAM, IN A SANDBOX (cutbox-door.mjs). By AI agents, Wed Nov 11 2026. No macro, syntax, notation, axiom, sorry.
-/
import Derived.Test.YtknjamfjonapiaaGreatDoorRows
import GoSem.ClaimSeven
namespace Go.Proofs.YtknjamfjonapiaaGreatDoor
namespace Rows

/-- THE TIED CARD OF 'mailcoachlaw19.StorePlays'. -/
def storePlaysCard : Claim7 := { stood := { row := storePlaysRow, standIns := [], harness := (true, "edbbeb3a804f86524298b90bcc81a9e2272855771c5da261458aacf66ad16b01"), looks := false }, kinds := [], alts := [], laidByText := true, laidKinds := [.data, .data], laidTests := true, laidLooks := .later }
def StorePlaysCardSaid : Prop := Claim7.holds Tryz.pinned (.plain (OpenSpec.ofChange storePlaysSpec)) storePlaysCard

/-- THE TIED CARD OF 'mailcoachlaw19.StoreHolds'. -/
def storeHoldsCard : Claim7 := { stood := { row := storeHoldsRow, standIns := [], harness := (true, "edbbeb3a804f86524298b90bcc81a9e2272855771c5da261458aacf66ad16b01"), looks := false }, kinds := [], alts := [], laidByText := true, laidKinds := [.data, .data], laidTests := true, laidLooks := .later }
def StoreHoldsCardSaid : Prop := Claim7.holds Tryz.pinned (.plain (OpenSpec.ofChange storeHoldsSpec)) storeHoldsCard

/-- THE TIED CARD OF 'mailcoachlaw19.StoreDead'. -/
def storeDeadCard : Claim7 := { stood := { row := storeDeadRow, standIns := [], harness := (true, "edbbeb3a804f86524298b90bcc81a9e2272855771c5da261458aacf66ad16b01"), looks := false }, kinds := [], alts := [], laidByText := true, laidKinds := [.data], laidTests := true, laidLooks := .later }
def StoreDeadCardSaid : Prop := Claim7.holds Tryz.pinned (.plain (OpenSpec.ofChange storeDeadSpec)) storeDeadCard

/-- THE TIED CARD OF 'mailcoachlaw19.StoreLocks'. -/
def storeLocksCard : Claim7 := { stood := { row := storeLocksRow, standIns := [], harness := (true, "edbbeb3a804f86524298b90bcc81a9e2272855771c5da261458aacf66ad16b01"), looks := false }, kinds := [], alts := [], laidByText := true, laidKinds := [.data], laidTests := true, laidLooks := .later }
def StoreLocksCardSaid : Prop := Claim7.holds Tryz.pinned (.plain (OpenSpec.ofChange storeLocksSpec)) storeLocksCard

/-- THE TIED CARD OF 'mailcoachlaw19.StoreAuto'. -/
def storeAutoCard : Claim7 := { stood := { row := storeAutoRow, standIns := [], harness := (true, "edbbeb3a804f86524298b90bcc81a9e2272855771c5da261458aacf66ad16b01"), looks := false }, kinds := [], alts := [], laidByText := true, laidKinds := [.data], laidTests := true, laidLooks := .later }
def StoreAutoCardSaid : Prop := Claim7.holds Tryz.pinned (.plain (OpenSpec.ofChange storeAutoSpec)) storeAutoCard

/-- THE TIED CARD OF 'mailcoachlaw19.StoreSole'. -/
def storeSoleCard : Claim7 := { stood := { row := storeSoleRow, standIns := [], harness := (true, "edbbeb3a804f86524298b90bcc81a9e2272855771c5da261458aacf66ad16b01"), looks := false }, kinds := [], alts := [], laidByText := true, laidKinds := [.data], laidTests := true, laidLooks := .later }
def StoreSoleCardSaid : Prop := Claim7.holds Tryz.pinned (.plain (OpenSpec.ofChange storeSoleSpec)) storeSoleCard

/-- THE TIED CARD OF 'mailcoachlaw19.StoreTimes'. -/
def storeTimesCard : Claim7 := { stood := { row := storeTimesRow, standIns := [], harness := (true, "edbbeb3a804f86524298b90bcc81a9e2272855771c5da261458aacf66ad16b01"), looks := false }, kinds := [], alts := [], laidByText := true, laidKinds := [.data], laidTests := true, laidLooks := .later }
def StoreTimesCardSaid : Prop := Claim7.holds Tryz.pinned (.plain (OpenSpec.ofChange storeTimesSpec)) storeTimesCard

/-- THE TIED CARD OF 'mailcoachlaw19.StoreNumbers'. -/
def storeNumbersCard : Claim7 := { stood := { row := storeNumbersRow, standIns := [], harness := (true, "edbbeb3a804f86524298b90bcc81a9e2272855771c5da261458aacf66ad16b01"), looks := false }, kinds := [], alts := [], laidByText := true, laidKinds := [.data], laidTests := true, laidLooks := .later }
def StoreNumbersCardSaid : Prop := Claim7.holds Tryz.pinned (.plain (OpenSpec.ofChange storeNumbersSpec)) storeNumbersCard

/-- THE SECOND FORM's CARD OF 'mailcoachlaw19.StorePlays'. -/
def storePlaysUptoCard : Claim7 := { stood := { row := storePlaysUptoRow, standIns := [], harness := (true, "edbbeb3a804f86524298b90bcc81a9e2272855771c5da261458aacf66ad16b01"), looks := false }, kinds := [], alts := [], laidByText := true, laidKinds := [.data, .data], laidTests := true, laidLooks := .later }
def StorePlaysUptoCardSaid : Prop := Claim7.holds Tryz.pinned (.plain (OpenSpec.upto storePlaysSpec)) storePlaysUptoCard

/-- THE SECOND FORM's CARD OF 'mailcoachlaw19.StoreHolds'. -/
def storeHoldsUptoCard : Claim7 := { stood := { row := storeHoldsUptoRow, standIns := [], harness := (true, "edbbeb3a804f86524298b90bcc81a9e2272855771c5da261458aacf66ad16b01"), looks := false }, kinds := [], alts := [], laidByText := true, laidKinds := [.data, .data], laidTests := true, laidLooks := .later }
def StoreHoldsUptoCardSaid : Prop := Claim7.holds Tryz.pinned (.plain (OpenSpec.upto storeHoldsSpec)) storeHoldsUptoCard

/-- THE SECOND FORM's CARD OF 'mailcoachlaw19.StoreDead'. -/
def storeDeadUptoCard : Claim7 := { stood := { row := storeDeadUptoRow, standIns := [], harness := (true, "edbbeb3a804f86524298b90bcc81a9e2272855771c5da261458aacf66ad16b01"), looks := false }, kinds := [], alts := [], laidByText := true, laidKinds := [.data], laidTests := true, laidLooks := .later }
def StoreDeadUptoCardSaid : Prop := Claim7.holds Tryz.pinned (.plain (OpenSpec.upto storeDeadSpec)) storeDeadUptoCard

/-- THE SECOND FORM's CARD OF 'mailcoachlaw19.StoreLocks'. -/
def storeLocksUptoCard : Claim7 := { stood := { row := storeLocksUptoRow, standIns := [], harness := (true, "edbbeb3a804f86524298b90bcc81a9e2272855771c5da261458aacf66ad16b01"), looks := false }, kinds := [], alts := [], laidByText := true, laidKinds := [.data], laidTests := true, laidLooks := .later }
def StoreLocksUptoCardSaid : Prop := Claim7.holds Tryz.pinned (.plain (OpenSpec.upto storeLocksSpec)) storeLocksUptoCard

/-- THE SECOND FORM's CARD OF 'mailcoachlaw19.StoreAuto'. -/
def storeAutoUptoCard : Claim7 := { stood := { row := storeAutoUptoRow, standIns := [], harness := (true, "edbbeb3a804f86524298b90bcc81a9e2272855771c5da261458aacf66ad16b01"), looks := false }, kinds := [], alts := [], laidByText := true, laidKinds := [.data], laidTests := true, laidLooks := .later }
def StoreAutoUptoCardSaid : Prop := Claim7.holds Tryz.pinned (.plain (OpenSpec.upto storeAutoSpec)) storeAutoUptoCard

/-- THE SECOND FORM's CARD OF 'mailcoachlaw19.StoreSole'. -/
def storeSoleUptoCard : Claim7 := { stood := { row := storeSoleUptoRow, standIns := [], harness := (true, "edbbeb3a804f86524298b90bcc81a9e2272855771c5da261458aacf66ad16b01"), looks := false }, kinds := [], alts := [], laidByText := true, laidKinds := [.data], laidTests := true, laidLooks := .later }
def StoreSoleUptoCardSaid : Prop := Claim7.holds Tryz.pinned (.plain (OpenSpec.upto storeSoleSpec)) storeSoleUptoCard

/-- THE SECOND FORM's CARD OF 'mailcoachlaw19.StoreTimes'. -/
def storeTimesUptoCard : Claim7 := { stood := { row := storeTimesUptoRow, standIns := [], harness := (true, "edbbeb3a804f86524298b90bcc81a9e2272855771c5da261458aacf66ad16b01"), looks := false }, kinds := [], alts := [], laidByText := true, laidKinds := [.data], laidTests := true, laidLooks := .later }
def StoreTimesUptoCardSaid : Prop := Claim7.holds Tryz.pinned (.plain (OpenSpec.upto storeTimesSpec)) storeTimesUptoCard

/-- THE SECOND FORM's CARD OF 'mailcoachlaw19.StoreNumbers'. -/
def storeNumbersUptoCard : Claim7 := { stood := { row := storeNumbersUptoRow, standIns := [], harness := (true, "edbbeb3a804f86524298b90bcc81a9e2272855771c5da261458aacf66ad16b01"), looks := false }, kinds := [], alts := [], laidByText := true, laidKinds := [.data], laidTests := true, laidLooks := .later }
def StoreNumbersUptoCardSaid : Prop := Claim7.holds Tryz.pinned (.plain (OpenSpec.upto storeNumbersSpec)) storeNumbersUptoCard
end Rows
end Go.Proofs.YtknjamfjonapiaaGreatDoor
