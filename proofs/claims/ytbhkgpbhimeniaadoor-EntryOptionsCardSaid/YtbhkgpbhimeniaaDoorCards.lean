/-
  DERIVED. GIVEN WITH THE SEED: THE CARDS: each row of YtbhkgpbhimeniaaDoorRows.lean that lists a variable, with what it lists TIED to the program's text (the seventh form; the later family's looks); each row that meets fmt, with fmt's text TOLD by the authors' own Lean function (tested against real Go, not proved from fmt's source: count such statements apart). THE CARD IS WHAT COUNTS. Prove the row's statement (the work); the ties are given (YtbhkgpbhimeniaaDoorTie.lean); close each card by the builder's one call (the guide's Derived/Test/ToyasCard.lean, 'card_holds'). Laid BY PROGRAM, IN A SANDBOX (cutbox-door.mjs). By AI agents, Wed Nov 11 2026. No macro, syntax, notation, axiom, sorry.
-/
import Derived.Test.YtbhkgpbhimeniaaDoorRows
import GoSem.ClaimSeven
namespace Go.Proofs.YtbhkgpbhimeniaaDoor
namespace Rows

/-- THE TIED CARD OF 'mailcoachlaw14.EntryTimes'. -/
def entryTimesCard : Claim7 := { stood := { row := entryTimesRow, standIns := [], harness := (true, "eacf0fb166c18f31c0cf84726c5a7cd3e09d52ac8678cb54472311c90dd55163"), looks := false }, kinds := [], alts := [], laidByText := true, laidKinds := [.data], laidTests := true, laidLooks := .later }
def EntryTimesCardSaid : Prop := Claim7.holds Tryd.pinned (.plain (OpenSpec.ofChange entryTimesSpec)) entryTimesCard

/-- THE TIED CARD OF 'mailcoachlaw14.EntryOrders'. -/
def entryOrdersCard : Claim7 := { stood := { row := entryOrdersRow, standIns := [], harness := (true, "eacf0fb166c18f31c0cf84726c5a7cd3e09d52ac8678cb54472311c90dd55163"), looks := false }, kinds := [], alts := [], laidByText := true, laidKinds := [.data], laidTests := true, laidLooks := .later }
def EntryOrdersCardSaid : Prop := Claim7.holds Tryd.pinned (.plain (OpenSpec.ofChange entryOrdersSpec)) entryOrdersCard

/-- THE TIED CARD OF 'mailcoachlaw14.EntryOptions'. -/
def entryOptionsCard : Claim7 := { stood := { row := entryOptionsRow, standIns := [], harness := (true, "eacf0fb166c18f31c0cf84726c5a7cd3e09d52ac8678cb54472311c90dd55163"), looks := false }, kinds := [], alts := [], laidByText := true, laidKinds := [.data], laidTests := true, laidLooks := .later }
def EntryOptionsCardSaid : Prop := Claim7.holds Tryd.pinned (.plain (OpenSpec.ofChange entryOptionsSpec)) entryOptionsCard

/-- THE SECOND FORM's CARD OF 'mailcoachlaw14.EntryTimes'. -/
def entryTimesUptoCard : Claim7 := { stood := { row := entryTimesUptoRow, standIns := [], harness := (true, "eacf0fb166c18f31c0cf84726c5a7cd3e09d52ac8678cb54472311c90dd55163"), looks := false }, kinds := [], alts := [], laidByText := true, laidKinds := [.data], laidTests := true, laidLooks := .later }
def EntryTimesUptoCardSaid : Prop := Claim7.holds Tryd.pinned (.plain (OpenSpec.upto entryTimesSpec)) entryTimesUptoCard

/-- THE SECOND FORM's CARD OF 'mailcoachlaw14.EntryOrders'. -/
def entryOrdersUptoCard : Claim7 := { stood := { row := entryOrdersUptoRow, standIns := [], harness := (true, "eacf0fb166c18f31c0cf84726c5a7cd3e09d52ac8678cb54472311c90dd55163"), looks := false }, kinds := [], alts := [], laidByText := true, laidKinds := [.data], laidTests := true, laidLooks := .later }
def EntryOrdersUptoCardSaid : Prop := Claim7.holds Tryd.pinned (.plain (OpenSpec.upto entryOrdersSpec)) entryOrdersUptoCard

/-- THE SECOND FORM's CARD OF 'mailcoachlaw14.EntryOptions'. -/
def entryOptionsUptoCard : Claim7 := { stood := { row := entryOptionsUptoRow, standIns := [], harness := (true, "eacf0fb166c18f31c0cf84726c5a7cd3e09d52ac8678cb54472311c90dd55163"), looks := false }, kinds := [], alts := [], laidByText := true, laidKinds := [.data], laidTests := true, laidLooks := .later }
def EntryOptionsUptoCardSaid : Prop := Claim7.holds Tryd.pinned (.plain (OpenSpec.upto entryOptionsSpec)) entryOptionsUptoCard
end Rows
end Go.Proofs.YtbhkgpbhimeniaaDoor
