/-
  DERIVED. GIVEN WITH THE SEED: THE CARDS: each row of YtmclnnepcgkiaaaDoorRows.lean that lists a variable, with what it lists TIED to the program's text (the seventh form; the later family's looks); each row that meets fmt, with fmt's text TOLD by the authors' own Lean function (tested against real Go, not proved from fmt's source: count such statements apart). THE CARD IS WHAT COUNTS. Prove the row's statement (the work); the ties are given (YtmclnnepcgkiaaaDoorTie.lean); close each card by the builder's one call (the guide's Derived/Test/ToyasCard.lean, 'card_holds'). Laid BY PROGRAM, IN A SANDBOX (cutbox-door.mjs). By AI agents, Wed Nov 11 2026. No macro, syntax, notation, axiom, sorry.
-/
import Derived.Test.YtmclnnepcgkiaaaDoorRows
import GoSem.ClaimSeven
namespace Go.Proofs.YtmclnnepcgkiaaaDoor
namespace Rows

/-- THE TIED CARD OF 'mailcoachlaw4.BitmapPlays'. -/
def bitmapPlaysCard : Claim7 := { stood := { row := bitmapPlaysRow, standIns := [], harness := (true, "5130cbdd3be8d412a3344d9a13b8f3bc89c006a9d186156b26d0fb502d2913c2"), looks := false }, kinds := [], alts := [], laidByText := true, laidKinds := [.data], laidTests := true, laidLooks := .later }
def BitmapPlaysCardSaid : Prop := Claim7.holds Tryd.pinned (.plain (OpenSpec.ofChange bitmapPlaysSpec)) bitmapPlaysCard

/-- THE TIED CARD OF 'mailcoachlaw4.BitmapRound'. -/
def bitmapRoundCard : Claim7 := { stood := { row := bitmapRoundRow, standIns := [], harness := (true, "5130cbdd3be8d412a3344d9a13b8f3bc89c006a9d186156b26d0fb502d2913c2"), looks := false }, kinds := [], alts := [], laidByText := true, laidKinds := [.data], laidTests := true, laidLooks := .later }
def BitmapRoundCardSaid : Prop := Claim7.holds Tryd.pinned (.plain (OpenSpec.ofChange bitmapRoundSpec)) bitmapRoundCard

/-- THE TIED CARD OF 'mailcoachlaw4.BitmapFar'. -/
def bitmapFarCard : Claim7 := { stood := { row := bitmapFarRow, standIns := [], harness := (true, "5130cbdd3be8d412a3344d9a13b8f3bc89c006a9d186156b26d0fb502d2913c2"), looks := false }, kinds := [], alts := [], laidByText := true, laidKinds := [.data], laidTests := true, laidLooks := .later }
def BitmapFarCardSaid : Prop := Claim7.holds Tryd.pinned (.plain (OpenSpec.ofChange bitmapFarSpec)) bitmapFarCard

/-- THE SECOND FORM's CARD OF 'mailcoachlaw4.BitmapPlays'. -/
def bitmapPlaysUptoCard : Claim7 := { stood := { row := bitmapPlaysUptoRow, standIns := [], harness := (true, "5130cbdd3be8d412a3344d9a13b8f3bc89c006a9d186156b26d0fb502d2913c2"), looks := false }, kinds := [], alts := [], laidByText := true, laidKinds := [.data], laidTests := true, laidLooks := .later }
def BitmapPlaysUptoCardSaid : Prop := Claim7.holds Tryd.pinned (.plain (OpenSpec.upto bitmapPlaysSpec)) bitmapPlaysUptoCard

/-- THE SECOND FORM's CARD OF 'mailcoachlaw4.BitmapRound'. -/
def bitmapRoundUptoCard : Claim7 := { stood := { row := bitmapRoundUptoRow, standIns := [], harness := (true, "5130cbdd3be8d412a3344d9a13b8f3bc89c006a9d186156b26d0fb502d2913c2"), looks := false }, kinds := [], alts := [], laidByText := true, laidKinds := [.data], laidTests := true, laidLooks := .later }
def BitmapRoundUptoCardSaid : Prop := Claim7.holds Tryd.pinned (.plain (OpenSpec.upto bitmapRoundSpec)) bitmapRoundUptoCard

/-- THE SECOND FORM's CARD OF 'mailcoachlaw4.BitmapFar'. -/
def bitmapFarUptoCard : Claim7 := { stood := { row := bitmapFarUptoRow, standIns := [], harness := (true, "5130cbdd3be8d412a3344d9a13b8f3bc89c006a9d186156b26d0fb502d2913c2"), looks := false }, kinds := [], alts := [], laidByText := true, laidKinds := [.data], laidTests := true, laidLooks := .later }
def BitmapFarUptoCardSaid : Prop := Claim7.holds Tryd.pinned (.plain (OpenSpec.upto bitmapFarSpec)) bitmapFarUptoCard
end Rows
end Go.Proofs.YtmclnnepcgkiaaaDoor
