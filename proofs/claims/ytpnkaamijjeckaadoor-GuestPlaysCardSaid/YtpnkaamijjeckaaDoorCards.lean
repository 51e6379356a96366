/-
  DERIVED. GIVEN WITH THE SEED: THE CARDS: each row of YtpnkaamijjeckaaDoorRows.lean that lists a variable, with what it lists TIED to the program's text (the seventh form; the later family's looks); each row that meets fmt, with fmt's text TOLD by the authors' own Lean function (tested against real Go, not proved from fmt's source: count such statements apart). THE CARD IS WHAT COUNTS. Prove the row's statement (the work); the ties are given (YtpnkaamijjeckaaDoorTie.lean); close each card by the builder's one call (the guide's Derived/Test/ToyasCard.lean, 'card_holds'). Laid BY PROGRAM, IN A SANDBOX (cutbox-door.mjs). By AI agents, Wed Nov 11 2026. No macro, syntax, notation, axiom, sorry.
-/
import Derived.Test.YtpnkaamijjeckaaDoorRows
import GoSem.ClaimSeven
namespace Go.Proofs.YtpnkaamijjeckaaDoor
namespace Rows

/-- THE TIED CARD OF 'mailcoachlaw18.GuestPlays'. -/
def guestPlaysCard : Claim7 := { stood := { row := guestPlaysRow, standIns := [], harness := (true, "a7f8dc70ea992e869c1897444378b08f0c7bf2965f6f59bc60ed548cf089cd3d"), looks := false }, kinds := [], alts := [], laidByText := true, laidKinds := [.data], laidTests := true, laidLooks := .later }
def GuestPlaysCardSaid : Prop := Claim7.holds Tryd.pinned (.plain (OpenSpec.ofChange guestPlaysSpec)) guestPlaysCard

/-- THE TIED CARD OF 'mailcoachlaw18.GuestFair'. -/
def guestFairCard : Claim7 := { stood := { row := guestFairRow, standIns := [], harness := (true, "a7f8dc70ea992e869c1897444378b08f0c7bf2965f6f59bc60ed548cf089cd3d"), looks := false }, kinds := [], alts := [], laidByText := true, laidKinds := [.data], laidTests := true, laidLooks := .later }
def GuestFairCardSaid : Prop := Claim7.holds Tryd.pinned (.plain (OpenSpec.ofChange guestFairSpec)) guestFairCard

/-- THE TIED CARD OF 'mailcoachlaw18.GuestSpins'. -/
def guestSpinsCard : Claim7 := { stood := { row := guestSpinsRow, standIns := [], harness := (true, "a7f8dc70ea992e869c1897444378b08f0c7bf2965f6f59bc60ed548cf089cd3d"), looks := false }, kinds := [], alts := [], laidByText := true, laidKinds := [.data], laidTests := true, laidLooks := .later }
def GuestSpinsCardSaid : Prop := Claim7.holds Tryd.pinned (.plain (OpenSpec.ofChange guestSpinsSpec)) guestSpinsCard

/-- THE TIED CARD OF 'mailcoachlaw18.GuestDrops'. -/
def guestDropsCard : Claim7 := { stood := { row := guestDropsRow, standIns := [], harness := (true, "a7f8dc70ea992e869c1897444378b08f0c7bf2965f6f59bc60ed548cf089cd3d"), looks := false }, kinds := [], alts := [], laidByText := true, laidKinds := [.data], laidTests := true, laidLooks := .later }
def GuestDropsCardSaid : Prop := Claim7.holds Tryd.pinned (.plain (OpenSpec.ofChange guestDropsSpec)) guestDropsCard

/-- THE SECOND FORM's CARD OF 'mailcoachlaw18.GuestPlays'. -/
def guestPlaysUptoCard : Claim7 := { stood := { row := guestPlaysUptoRow, standIns := [], harness := (true, "a7f8dc70ea992e869c1897444378b08f0c7bf2965f6f59bc60ed548cf089cd3d"), looks := false }, kinds := [], alts := [], laidByText := true, laidKinds := [.data], laidTests := true, laidLooks := .later }
def GuestPlaysUptoCardSaid : Prop := Claim7.holds Tryd.pinned (.plain (OpenSpec.upto guestPlaysSpec)) guestPlaysUptoCard

/-- THE SECOND FORM's CARD OF 'mailcoachlaw18.GuestFair'. -/
def guestFairUptoCard : Claim7 := { stood := { row := guestFairUptoRow, standIns := [], harness := (true, "a7f8dc70ea992e869c1897444378b08f0c7bf2965f6f59bc60ed548cf089cd3d"), looks := false }, kinds := [], alts := [], laidByText := true, laidKinds := [.data], laidTests := true, laidLooks := .later }
def GuestFairUptoCardSaid : Prop := Claim7.holds Tryd.pinned (.plain (OpenSpec.upto guestFairSpec)) guestFairUptoCard

/-- THE SECOND FORM's CARD OF 'mailcoachlaw18.GuestSpins'. -/
def guestSpinsUptoCard : Claim7 := { stood := { row := guestSpinsUptoRow, standIns := [], harness := (true, "a7f8dc70ea992e869c1897444378b08f0c7bf2965f6f59bc60ed548cf089cd3d"), looks := false }, kinds := [], alts := [], laidByText := true, laidKinds := [.data], laidTests := true, laidLooks := .later }
def GuestSpinsUptoCardSaid : Prop := Claim7.holds Tryd.pinned (.plain (OpenSpec.upto guestSpinsSpec)) guestSpinsUptoCard

/-- THE SECOND FORM's CARD OF 'mailcoachlaw18.GuestDrops'. -/
def guestDropsUptoCard : Claim7 := { stood := { row := guestDropsUptoRow, standIns := [], harness := (true, "a7f8dc70ea992e869c1897444378b08f0c7bf2965f6f59bc60ed548cf089cd3d"), looks := false }, kinds := [], alts := [], laidByText := true, laidKinds := [.data], laidTests := true, laidLooks := .later }
def GuestDropsUptoCardSaid : Prop := Claim7.holds Tryd.pinned (.plain (OpenSpec.upto guestDropsSpec)) guestDropsUptoCard
end Rows
end Go.Proofs.YtpnkaamijjeckaaDoor
