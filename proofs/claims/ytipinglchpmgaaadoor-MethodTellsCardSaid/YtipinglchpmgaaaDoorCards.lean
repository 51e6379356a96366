/-
  DERIVED. GIVEN WITH THE SEED: THE CARDS: each row of YtipinglchpmgaaaDoorRows.lean that lists a variable, with what it lists TIED to the program's text (the seventh form; the later family's looks); each row that meets fmt, with fmt's text TOLD by the authors' own Lean function (tested against real Go, not proved from fmt's source: count such statements apart). THE CARD IS WHAT COUNTS. Prove the row's statement (the work); the ties are given (YtipinglchpmgaaaDoorTie.lean); close each card by the builder's one call (the guide's Derived/Test/ToyasCard.lean, 'card_holds'). Laid BY PROGRAM, IN A SANDBOX (cutbox-door.mjs). By AI agents, Wed Nov 11 2026. No macro, syntax, notation, axiom, sorry.
-/
import Derived.Test.YtipinglchpmgaaaDoorRows
import GoSem.ClaimSeven
namespace Go.Proofs.YtipinglchpmgaaaDoor
namespace Rows

/-- THE TIED CARD OF 'mailcoachlaw8.MethodTells'. -/
def methodTellsCard : Claim7 := { stood := { row := methodTellsRow, standIns := [], harness := (true, "51d3b9cee5e13bde41757aedce003a8e0b8b00f9f5801171c48f5da13af24a8c"), looks := false }, kinds := [], alts := [], laidByText := true, laidKinds := [.data], laidTests := true, laidLooks := .later }
def MethodTellsCardSaid : Prop := Claim7.holds Tryd.pinned (.plain (OpenSpec.ofChange methodTellsSpec)) methodTellsCard

/-- THE TIED CARD OF 'mailcoachlaw8.MethodBack'. -/
def methodBackCard : Claim7 := { stood := { row := methodBackRow, standIns := [], harness := (true, "51d3b9cee5e13bde41757aedce003a8e0b8b00f9f5801171c48f5da13af24a8c"), looks := false }, kinds := [], alts := [], laidByText := true, laidKinds := [.data], laidTests := true, laidLooks := .later }
def MethodBackCardSaid : Prop := Claim7.holds Tryd.pinned (.plain (OpenSpec.ofChange methodBackSpec)) methodBackCard

/-- THE TIED CARD OF 'mailcoachlaw8.MethodTurned'. -/
def methodTurnedCard : Claim7 := { stood := { row := methodTurnedRow, standIns := [], harness := (true, "51d3b9cee5e13bde41757aedce003a8e0b8b00f9f5801171c48f5da13af24a8c"), looks := false }, kinds := [], alts := [], laidByText := true, laidKinds := [.data], laidTests := true, laidLooks := .later }
def MethodTurnedCardSaid : Prop := Claim7.holds Tryd.pinned (.plain (OpenSpec.ofChange methodTurnedSpec)) methodTurnedCard

/-- THE TIED CARD OF 'mailcoachlaw8.MethodKinds'. -/
def methodKindsCard : Claim7 := { stood := { row := methodKindsRow, standIns := [], harness := (true, "51d3b9cee5e13bde41757aedce003a8e0b8b00f9f5801171c48f5da13af24a8c"), looks := false }, kinds := [], alts := [], laidByText := true, laidKinds := [.data], laidTests := true, laidLooks := .later }
def MethodKindsCardSaid : Prop := Claim7.holds Tryd.pinned (.plain (OpenSpec.ofChange methodKindsSpec)) methodKindsCard

/-- THE TIED CARD OF 'mailcoachlaw8.MethodLimits'. -/
def methodLimitsCard : Claim7 := { stood := { row := methodLimitsRow, standIns := [], harness := (true, "51d3b9cee5e13bde41757aedce003a8e0b8b00f9f5801171c48f5da13af24a8c"), looks := false }, kinds := [], alts := [], laidByText := true, laidKinds := [.data], laidTests := true, laidLooks := .later }
def MethodLimitsCardSaid : Prop := Claim7.holds Tryd.pinned (.plain (OpenSpec.ofChange methodLimitsSpec)) methodLimitsCard

/-- THE SECOND FORM's CARD OF 'mailcoachlaw8.MethodTells'. -/
def methodTellsUptoCard : Claim7 := { stood := { row := methodTellsUptoRow, standIns := [], harness := (true, "51d3b9cee5e13bde41757aedce003a8e0b8b00f9f5801171c48f5da13af24a8c"), looks := false }, kinds := [], alts := [], laidByText := true, laidKinds := [.data], laidTests := true, laidLooks := .later }
def MethodTellsUptoCardSaid : Prop := Claim7.holds Tryd.pinned (.plain (OpenSpec.upto methodTellsSpec)) methodTellsUptoCard

/-- THE SECOND FORM's CARD OF 'mailcoachlaw8.MethodBack'. -/
def methodBackUptoCard : Claim7 := { stood := { row := methodBackUptoRow, standIns := [], harness := (true, "51d3b9cee5e13bde41757aedce003a8e0b8b00f9f5801171c48f5da13af24a8c"), looks := false }, kinds := [], alts := [], laidByText := true, laidKinds := [.data], laidTests := true, laidLooks := .later }
def MethodBackUptoCardSaid : Prop := Claim7.holds Tryd.pinned (.plain (OpenSpec.upto methodBackSpec)) methodBackUptoCard

/-- THE SECOND FORM's CARD OF 'mailcoachlaw8.MethodTurned'. -/
def methodTurnedUptoCard : Claim7 := { stood := { row := methodTurnedUptoRow, standIns := [], harness := (true, "51d3b9cee5e13bde41757aedce003a8e0b8b00f9f5801171c48f5da13af24a8c"), looks := false }, kinds := [], alts := [], laidByText := true, laidKinds := [.data], laidTests := true, laidLooks := .later }
def MethodTurnedUptoCardSaid : Prop := Claim7.holds Tryd.pinned (.plain (OpenSpec.upto methodTurnedSpec)) methodTurnedUptoCard

/-- THE SECOND FORM's CARD OF 'mailcoachlaw8.MethodKinds'. -/
def methodKindsUptoCard : Claim7 := { stood := { row := methodKindsUptoRow, standIns := [], harness := (true, "51d3b9cee5e13bde41757aedce003a8e0b8b00f9f5801171c48f5da13af24a8c"), looks := false }, kinds := [], alts := [], laidByText := true, laidKinds := [.data], laidTests := true, laidLooks := .later }
def MethodKindsUptoCardSaid : Prop := Claim7.holds Tryd.pinned (.plain (OpenSpec.upto methodKindsSpec)) methodKindsUptoCard

/-- THE SECOND FORM's CARD OF 'mailcoachlaw8.MethodLimits'. -/
def methodLimitsUptoCard : Claim7 := { stood := { row := methodLimitsUptoRow, standIns := [], harness := (true, "51d3b9cee5e13bde41757aedce003a8e0b8b00f9f5801171c48f5da13af24a8c"), looks := false }, kinds := [], alts := [], laidByText := true, laidKinds := [.data], laidTests := true, laidLooks := .later }
def MethodLimitsUptoCardSaid : Prop := Claim7.holds Tryd.pinned (.plain (OpenSpec.upto methodLimitsSpec)) methodLimitsUptoCard
end Rows
end Go.Proofs.YtipinglchpmgaaaDoor
