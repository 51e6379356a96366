/-
  NARROWER THAN 'FOR EVERY INPUT', by the rows' own cells (each row's printed sentence says how): StorePlays: laid · StoreHolds: laid · StoreDead: laid · StoreLocks: laid · StoreAuto: laid · StoreSole: laid · StoreTimes: laid · StoreNumbers: laid.
  DERIVED. THE GIVEN ROWS OF THIS SEAT. 8 by the template 'for every input the law returns true; each argument reads behind the call as it read before'; 0 by the template 'total and deterministic' (their statements: YtknjamfjonapiaaGreatDoorTotals.lean).
  GIVEN WITH THE SEED: the statements are not yours to turn. If you find one false, say at which input.
  Laid BY PROGRAM, IN A SANDBOX (cutbox-rows.mjs): the forced cells as the released guide's own fill.sh prints them over the translation 72858bbda67f5214… (all of the seat's roots in one cut). By AI agents, Wed Nov 11 2026. No macro, syntax, notation, axiom, sorry.
-/
import Derived.Test.YtknjamfjonapiaaGreatDoorChecked
import GoSem.Claim
import GoSem.ClaimJoined
import GoSem.ClaimMapViews
import Derived.JoinedTies
import Derived.KernelRfl
namespace Go.Proofs.YtknjamfjonapiaaGreatDoor
/- THE CELL 'sum', in the pinned program and in every row, IS THE sha256 OF THE DUMP (.gsa) THAT YtknjamfjonapiaaGreatDoorProg.lean LOADS. Nothing in Lean hashes anything: it is a label: what it is worth is what the hold of that sum in a sandbox is worth. -/
noncomputable def Tryz.pinned : Pinned := { name := "ytknjamfjonapiaagreatdoor", sum := "72858bbda67f5214c0662c4c695448dc40f25b7f0edc295acf0ade08fd93da80", checked := Tryz.checked }
namespace Rows
def none {H : Type} : Left H := { results := [], args := [] }

/- WHAT THE LISTED PACKAGE-LEVEL VARIABLES READ AS WHEN THE CALL BEGINS. Each datum BY PROGRAM (the guide's laid-datum.mjs) off the statement by which the dump's own 'gosem.cut.vars' lays the variable. In a bare row this is a premise. The card (YtknjamfjonapiaaGreatDoorCards.lean) ties it to the program's text. -/
def laid_math_bits_deBruijn64tab {H : Type} : DataW H := .agg [.lit (.int .u8 0), .lit (.int .u8 1), .lit (.int .u8 56), .lit (.int .u8 2), .lit (.int .u8 57), .lit (.int .u8 49), .lit (.int .u8 28), .lit (.int .u8 3), .lit (.int .u8 61), .lit (.int .u8 58), .lit (.int .u8 42), .lit (.int .u8 50), .lit (.int .u8 38), .lit (.int .u8 29), .lit (.int .u8 17), .lit (.int .u8 4), .lit (.int .u8 62), .lit (.int .u8 47), .lit (.int .u8 59), .lit (.int .u8 36), .lit (.int .u8 45), .lit (.int .u8 43), .lit (.int .u8 51), .lit (.int .u8 22), .lit (.int .u8 53), .lit (.int .u8 39), .lit (.int .u8 33), .lit (.int .u8 30), .lit (.int .u8 24), .lit (.int .u8 18), .lit (.int .u8 12), .lit (.int .u8 5), .lit (.int .u8 63), .lit (.int .u8 55), .lit (.int .u8 48), .lit (.int .u8 27), .lit (.int .u8 60), .lit (.int .u8 41), .lit (.int .u8 37), .lit (.int .u8 16), .lit (.int .u8 46), .lit (.int .u8 35), .lit (.int .u8 44), .lit (.int .u8 21), .lit (.int .u8 52), .lit (.int .u8 32), .lit (.int .u8 23), .lit (.int .u8 11), .lit (.int .u8 54), .lit (.int .u8 26), .lit (.int .u8 40), .lit (.int .u8 15), .lit (.int .u8 34), .lit (.int .u8 20), .lit (.int .u8 31), .lit (.int .u8 10), .lit (.int .u8 25), .lit (.int .u8 14), .lit (.int .u8 19), .lit (.int .u8 9), .lit (.int .u8 13), .lit (.int .u8 8), .lit (.int .u8 7), .lit (.int .u8 6)]
def laid_mailcoach_entry_most {H : Type} : DataW H := .agg [.lit (.int .i64 60), .lit (.int .i64 10000), .lit (.int .i64 3), .lit (.int .i64 15), .lit (.int .i64 12), .lit (.int .i64 40)]

/-- 'mailcoachlaw19.StorePlays': WHATEVER THE INPUT: true; the input reads as it did. -/
def storePlaysSpec : ChangeSpec := { name := "storePlays", fn := fun _ => fun
  | [d1, d2] => { results := [.lit (.bool true)], args := [d1, d2] }
  | _ => none }
def storePlaysRow : OpenClaim := { program := "ytknjamfjonapiaagreatdoor", sum := "72858bbda67f5214c0662c4c695448dc40f25b7f0edc295acf0ade08fd93da80", func := "mailcoach/mailcoachlaw19.StorePlays", spec := "storePlays", inPlace := ["internal/bytealg.IndexByteString", "internal/bytealg.IndexString"], unfollowed := true, recurses := true, named := ["mailcoach/entry.most", "internal/bytealg.MaxLen", "math/bits.deBruijn64tab"], apart := false, laid := [("math/bits.deBruijn64tab", laid_math_bits_deBruijn64tab), ("mailcoach/entry.most", laid_mailcoach_entry_most)] }
def StorePlaysSaid : Prop := storePlaysRow.holds Tryz.pinned (OpenSpec.ofChange storePlaysSpec)

/-- ITS FALSE NEIGHBOUR: 'it returns false'. Refute it at one input. -/
def storePlaysWrong : ChangeSpec := { name := "storePlays", fn := fun _ => fun
  | [d1, d2] => { results := [.lit (.bool false)], args := [d1, d2] }
  | _ => none }
def StorePlaysWrongFalsely : Prop := storePlaysRow.holds Tryz.pinned (OpenSpec.ofChange storePlaysWrong)

/-- 'mailcoachlaw19.StoreHolds': WHATEVER THE INPUT: true; the input reads as it did. -/
def storeHoldsSpec : ChangeSpec := { name := "storeHolds", fn := fun _ => fun
  | [d] => { results := [.lit (.bool true)], args := [d] }
  | _ => none }
def storeHoldsRow : OpenClaim := { program := "ytknjamfjonapiaagreatdoor", sum := "72858bbda67f5214c0662c4c695448dc40f25b7f0edc295acf0ade08fd93da80", func := "mailcoach/mailcoachlaw19.StoreHolds", spec := "storeHolds", inPlace := ["internal/bytealg.IndexByteString", "internal/bytealg.IndexString"], unfollowed := true, recurses := true, named := ["mailcoach/entry.most", "internal/bytealg.MaxLen", "math/bits.deBruijn64tab"], apart := false, laid := [("math/bits.deBruijn64tab", laid_math_bits_deBruijn64tab), ("mailcoach/entry.most", laid_mailcoach_entry_most)] }
def StoreHoldsSaid : Prop := storeHoldsRow.holds Tryz.pinned (OpenSpec.ofChange storeHoldsSpec)

/-- ITS FALSE NEIGHBOUR: 'it returns false'. Refute it at one input. -/
def storeHoldsWrong : ChangeSpec := { name := "storeHolds", fn := fun _ => fun
  | [d] => { results := [.lit (.bool false)], args := [d] }
  | _ => none }
def StoreHoldsWrongFalsely : Prop := storeHoldsRow.holds Tryz.pinned (OpenSpec.ofChange storeHoldsWrong)

/-- 'mailcoachlaw19.StoreDead': WHATEVER THE INPUT: true; the input reads as it did. -/
def storeDeadSpec : ChangeSpec := { name := "storeDead", fn := fun _ => fun
  | [d1, d2, d3] => { results := [.lit (.bool true)], args := [d1, d2, d3] }
  | _ => none }
def storeDeadRow : OpenClaim := { program := "ytknjamfjonapiaagreatdoor", sum := "72858bbda67f5214c0662c4c695448dc40f25b7f0edc295acf0ade08fd93da80", func := "mailcoach/mailcoachlaw19.StoreDead", spec := "storeDead", inPlace := ["internal/bytealg.IndexByteString", "internal/bytealg.IndexString"], unfollowed := true, recurses := true, named := ["mailcoach/entry.most", "internal/bytealg.MaxLen"], apart := false, laid := [("mailcoach/entry.most", laid_mailcoach_entry_most)] }
def StoreDeadSaid : Prop := storeDeadRow.holds Tryz.pinned (OpenSpec.ofChange storeDeadSpec)

/-- ITS FALSE NEIGHBOUR: 'it returns false'. Refute it at one input. -/
def storeDeadWrong : ChangeSpec := { name := "storeDead", fn := fun _ => fun
  | [d1, d2, d3] => { results := [.lit (.bool false)], args := [d1, d2, d3] }
  | _ => none }
def StoreDeadWrongFalsely : Prop := storeDeadRow.holds Tryz.pinned (OpenSpec.ofChange storeDeadWrong)

/-- 'mailcoachlaw19.StoreLocks': WHATEVER THE INPUT: true; the input reads as it did. -/
def storeLocksSpec : ChangeSpec := { name := "storeLocks", fn := fun _ => fun
  | [d1, d2] => { results := [.lit (.bool true)], args := [d1, d2] }
  | _ => none }
def storeLocksRow : OpenClaim := { program := "ytknjamfjonapiaagreatdoor", sum := "72858bbda67f5214c0662c4c695448dc40f25b7f0edc295acf0ade08fd93da80", func := "mailcoach/mailcoachlaw19.StoreLocks", spec := "storeLocks", inPlace := ["internal/bytealg.IndexByteString", "internal/bytealg.IndexString"], unfollowed := true, recurses := true, named := ["mailcoach/entry.most", "internal/bytealg.MaxLen"], apart := false, laid := [("mailcoach/entry.most", laid_mailcoach_entry_most)] }
def StoreLocksSaid : Prop := storeLocksRow.holds Tryz.pinned (OpenSpec.ofChange storeLocksSpec)

/-- ITS FALSE NEIGHBOUR: 'it returns false'. Refute it at one input. -/
def storeLocksWrong : ChangeSpec := { name := "storeLocks", fn := fun _ => fun
  | [d1, d2] => { results := [.lit (.bool false)], args := [d1, d2] }
  | _ => none }
def StoreLocksWrongFalsely : Prop := storeLocksRow.holds Tryz.pinned (OpenSpec.ofChange storeLocksWrong)

/-- 'mailcoachlaw19.StoreAuto': WHATEVER THE INPUT: true; the input reads as it did. -/
def storeAutoSpec : ChangeSpec := { name := "storeAuto", fn := fun _ => fun
  | [d1, d2] => { results := [.lit (.bool true)], args := [d1, d2] }
  | _ => none }
def storeAutoRow : OpenClaim := { program := "ytknjamfjonapiaagreatdoor", sum := "72858bbda67f5214c0662c4c695448dc40f25b7f0edc295acf0ade08fd93da80", func := "mailcoach/mailcoachlaw19.StoreAuto", spec := "storeAuto", inPlace := ["internal/bytealg.IndexByteString", "internal/bytealg.IndexString"], unfollowed := true, recurses := true, named := ["mailcoach/entry.most", "internal/bytealg.MaxLen"], apart := false, laid := [("mailcoach/entry.most", laid_mailcoach_entry_most)] }
def StoreAutoSaid : Prop := storeAutoRow.holds Tryz.pinned (OpenSpec.ofChange storeAutoSpec)

/-- ITS FALSE NEIGHBOUR: 'it returns false'. Refute it at one input. -/
def storeAutoWrong : ChangeSpec := { name := "storeAuto", fn := fun _ => fun
  | [d1, d2] => { results := [.lit (.bool false)], args := [d1, d2] }
  | _ => none }
def StoreAutoWrongFalsely : Prop := storeAutoRow.holds Tryz.pinned (OpenSpec.ofChange storeAutoWrong)

/-- 'mailcoachlaw19.StoreSole': WHATEVER THE INPUT: true; the input reads as it did. -/
def storeSoleSpec : ChangeSpec := { name := "storeSole", fn := fun _ => fun
  | [d1, d2] => { results := [.lit (.bool true)], args := [d1, d2] }
  | _ => none }
def storeSoleRow : OpenClaim := { program := "ytknjamfjonapiaagreatdoor", sum := "72858bbda67f5214c0662c4c695448dc40f25b7f0edc295acf0ade08fd93da80", func := "mailcoach/mailcoachlaw19.StoreSole", spec := "storeSole", inPlace := ["internal/bytealg.IndexByteString", "internal/bytealg.IndexString"], unfollowed := true, recurses := true, named := ["mailcoach/entry.most", "internal/bytealg.MaxLen"], apart := false, laid := [("mailcoach/entry.most", laid_mailcoach_entry_most)] }
def StoreSoleSaid : Prop := storeSoleRow.holds Tryz.pinned (OpenSpec.ofChange storeSoleSpec)

/-- ITS FALSE NEIGHBOUR: 'it returns false'. Refute it at one input. -/
def storeSoleWrong : ChangeSpec := { name := "storeSole", fn := fun _ => fun
  | [d1, d2] => { results := [.lit (.bool false)], args := [d1, d2] }
  | _ => none }
def StoreSoleWrongFalsely : Prop := storeSoleRow.holds Tryz.pinned (OpenSpec.ofChange storeSoleWrong)

/-- 'mailcoachlaw19.StoreTimes': WHATEVER THE INPUT: true; the input reads as it did. -/
def storeTimesSpec : ChangeSpec := { name := "storeTimes", fn := fun _ => fun
  | [d1, d2, d3] => { results := [.lit (.bool true)], args := [d1, d2, d3] }
  | _ => none }
def storeTimesRow : OpenClaim := { program := "ytknjamfjonapiaagreatdoor", sum := "72858bbda67f5214c0662c4c695448dc40f25b7f0edc295acf0ade08fd93da80", func := "mailcoach/mailcoachlaw19.StoreTimes", spec := "storeTimes", inPlace := ["internal/bytealg.IndexByteString", "internal/bytealg.IndexString"], unfollowed := true, recurses := true, named := ["mailcoach/entry.most", "internal/bytealg.MaxLen"], apart := false, laid := [("mailcoach/entry.most", laid_mailcoach_entry_most)] }
def StoreTimesSaid : Prop := storeTimesRow.holds Tryz.pinned (OpenSpec.ofChange storeTimesSpec)

/-- ITS FALSE NEIGHBOUR: 'it returns false'. Refute it at one input. -/
def storeTimesWrong : ChangeSpec := { name := "storeTimes", fn := fun _ => fun
  | [d1, d2, d3] => { results := [.lit (.bool false)], args := [d1, d2, d3] }
  | _ => none }
def StoreTimesWrongFalsely : Prop := storeTimesRow.holds Tryz.pinned (OpenSpec.ofChange storeTimesWrong)

/-- 'mailcoachlaw19.StoreNumbers': WHATEVER THE INPUT: true; the input reads as it did. -/
def storeNumbersSpec : ChangeSpec := { name := "storeNumbers", fn := fun _ => fun
  | [d] => { results := [.lit (.bool true)], args := [d] }
  | _ => none }
def storeNumbersRow : OpenClaim := { program := "ytknjamfjonapiaagreatdoor", sum := "72858bbda67f5214c0662c4c695448dc40f25b7f0edc295acf0ade08fd93da80", func := "mailcoach/mailcoachlaw19.StoreNumbers", spec := "storeNumbers", inPlace := ["internal/bytealg.IndexByteString", "internal/bytealg.IndexString"], unfollowed := true, recurses := true, named := ["mailcoach/entry.most", "internal/bytealg.MaxLen"], apart := false, laid := [("mailcoach/entry.most", laid_mailcoach_entry_most)] }
def StoreNumbersSaid : Prop := storeNumbersRow.holds Tryz.pinned (OpenSpec.ofChange storeNumbersSpec)

/-- ITS FALSE NEIGHBOUR: 'it returns false'. Refute it at one input. -/
def storeNumbersWrong : ChangeSpec := { name := "storeNumbers", fn := fun _ => fun
  | [d] => { results := [.lit (.bool false)], args := [d] }
  | _ => none }
def StoreNumbersWrongFalsely : Prop := storeNumbersRow.holds Tryz.pinned (OpenSpec.ofChange storeNumbersWrong)

/- THE SECOND FORM. 'bulk': how many values and letters a reading holds, each counted each time it is reached (what is shared counts as often as it is met; a slice's spare places count too). A statement '..UptoSaid' is the law's where the arguments, and the package variables that the reading takes, are together of bulk at most 1048576: NARROWER than '..Said'. Prove '..Said' where nothing that the law and all that it calls make is longer than what came in: it says more and counts as full. Else prove '..UptoSaid'. A law counts once. -/
mutual
def uptoBulk {H : Type} : DataW H → Nat
  | .lit (.string bytes) => bytes.length + 1
  | .lit _ => 1
  | .nil => 1
  | .ptr d => uptoBulk d + 1
  | .slice elems spare => uptoBulkAll elems + uptoBulkAll spare + 1
  | .agg parts => uptoBulkAll parts + 1
  | .iface _ d => uptoBulk d + 1
  | .map entries => uptoBulkEntries entries + 1
  | .held _ => 1
def uptoBulkAll {H : Type} : List (DataW H) → Nat
  | [] => 0
  | d :: r => uptoBulk d + uptoBulkAll r
def uptoBulkEntries {H : Type} : List (Lit × DataW H) → Nat
  | [] => 0
  | x :: r => uptoBulkEntry x + uptoBulkEntries r
def uptoBulkEntry {H : Type} : Lit × DataW H → Nat
  | (.string bytes, d) => bytes.length + uptoBulk d + 1
  | (_, d) => uptoBulk d + 1
 end
def uptoSmall : (H : Type) → List (DataW H) → Bool := fun _ ds => decide (uptoBulkAll ds ≤ 1048576)
def OpenSpec.upto (s : _root_.Go.ChangeSpec) : _root_.Go.OpenSpec := { _root_.Go.OpenSpec.ofChange s with cond := some uptoSmall }

/-- 'mailcoachlaw19.StorePlays', WHERE WHAT IT READS IS OF BULK AT MOST 1048576: true; the input reads as it did. -/
def storePlaysUptoRow : OpenClaim := { program := "ytknjamfjonapiaagreatdoor", sum := "72858bbda67f5214c0662c4c695448dc40f25b7f0edc295acf0ade08fd93da80", func := "mailcoach/mailcoachlaw19.StorePlays", spec := "storePlays", inPlace := ["internal/bytealg.IndexByteString", "internal/bytealg.IndexString"], unfollowed := true, recurses := true, named := ["mailcoach/entry.most", "internal/bytealg.MaxLen", "math/bits.deBruijn64tab"], apart := false, laid := [("math/bits.deBruijn64tab", laid_math_bits_deBruijn64tab), ("mailcoach/entry.most", laid_mailcoach_entry_most)], narrowed := true }
def StorePlaysUptoSaid : Prop := storePlaysUptoRow.holds Tryz.pinned (OpenSpec.upto storePlaysSpec)

/-- 'mailcoachlaw19.StoreHolds', WHERE WHAT IT READS IS OF BULK AT MOST 1048576: true; the input reads as it did. -/
def storeHoldsUptoRow : OpenClaim := { program := "ytknjamfjonapiaagreatdoor", sum := "72858bbda67f5214c0662c4c695448dc40f25b7f0edc295acf0ade08fd93da80", func := "mailcoach/mailcoachlaw19.StoreHolds", spec := "storeHolds", inPlace := ["internal/bytealg.IndexByteString", "internal/bytealg.IndexString"], unfollowed := true, recurses := true, named := ["mailcoach/entry.most", "internal/bytealg.MaxLen", "math/bits.deBruijn64tab"], apart := false, laid := [("math/bits.deBruijn64tab", laid_math_bits_deBruijn64tab), ("mailcoach/entry.most", laid_mailcoach_entry_most)], narrowed := true }
def StoreHoldsUptoSaid : Prop := storeHoldsUptoRow.holds Tryz.pinned (OpenSpec.upto storeHoldsSpec)

/-- 'mailcoachlaw19.StoreDead', WHERE WHAT IT READS IS OF BULK AT MOST 1048576: true; the input reads as it did. -/
def storeDeadUptoRow : OpenClaim := { program := "ytknjamfjonapiaagreatdoor", sum := "72858bbda67f5214c0662c4c695448dc40f25b7f0edc295acf0ade08fd93da80", func := "mailcoach/mailcoachlaw19.StoreDead", spec := "storeDead", inPlace := ["internal/bytealg.IndexByteString", "internal/bytealg.IndexString"], unfollowed := true, recurses := true, named := ["mailcoach/entry.most", "internal/bytealg.MaxLen"], apart := false, laid := [("mailcoach/entry.most", laid_mailcoach_entry_most)], narrowed := true }
def StoreDeadUptoSaid : Prop := storeDeadUptoRow.holds Tryz.pinned (OpenSpec.upto storeDeadSpec)

/-- 'mailcoachlaw19.StoreLocks', WHERE WHAT IT READS IS OF BULK AT MOST 1048576: true; the input reads as it did. -/
def storeLocksUptoRow : OpenClaim := { program := "ytknjamfjonapiaagreatdoor", sum := "72858bbda67f5214c0662c4c695448dc40f25b7f0edc295acf0ade08fd93da80", func := "mailcoach/mailcoachlaw19.StoreLocks", spec := "storeLocks", inPlace := ["internal/bytealg.IndexByteString", "internal/bytealg.IndexString"], unfollowed := true, recurses := true, named := ["mailcoach/entry.most", "internal/bytealg.MaxLen"], apart := false, laid := [("mailcoach/entry.most", laid_mailcoach_entry_most)], narrowed := true }
def StoreLocksUptoSaid : Prop := storeLocksUptoRow.holds Tryz.pinned (OpenSpec.upto storeLocksSpec)

/-- 'mailcoachlaw19.StoreAuto', WHERE WHAT IT READS IS OF BULK AT MOST 1048576: true; the input reads as it did. -/
def storeAutoUptoRow : OpenClaim := { program := "ytknjamfjonapiaagreatdoor", sum := "72858bbda67f5214c0662c4c695448dc40f25b7f0edc295acf0ade08fd93da80", func := "mailcoach/mailcoachlaw19.StoreAuto", spec := "storeAuto", inPlace := ["internal/bytealg.IndexByteString", "internal/bytealg.IndexString"], unfollowed := true, recurses := true, named := ["mailcoach/entry.most", "internal/bytealg.MaxLen"], apart := false, laid := [("mailcoach/entry.most", laid_mailcoach_entry_most)], narrowed := true }
def StoreAutoUptoSaid : Prop := storeAutoUptoRow.holds Tryz.pinned (OpenSpec.upto storeAutoSpec)

/-- 'mailcoachlaw19.StoreSole', WHERE WHAT IT READS IS OF BULK AT MOST 1048576: true; the input reads as it did. -/
def storeSoleUptoRow : OpenClaim := { program := "ytknjamfjonapiaagreatdoor", sum := "72858bbda67f5214c0662c4c695448dc40f25b7f0edc295acf0ade08fd93da80", func := "mailcoach/mailcoachlaw19.StoreSole", spec := "storeSole", inPlace := ["internal/bytealg.IndexByteString", "internal/bytealg.IndexString"], unfollowed := true, recurses := true, named := ["mailcoach/entry.most", "internal/bytealg.MaxLen"], apart := false, laid := [("mailcoach/entry.most", laid_mailcoach_entry_most)], narrowed := true }
def StoreSoleUptoSaid : Prop := storeSoleUptoRow.holds Tryz.pinned (OpenSpec.upto storeSoleSpec)

/-- 'mailcoachlaw19.StoreTimes', WHERE WHAT IT READS IS OF BULK AT MOST 1048576: true; the input reads as it did. -/
def storeTimesUptoRow : OpenClaim := { program := "ytknjamfjonapiaagreatdoor", sum := "72858bbda67f5214c0662c4c695448dc40f25b7f0edc295acf0ade08fd93da80", func := "mailcoach/mailcoachlaw19.StoreTimes", spec := "storeTimes", inPlace := ["internal/bytealg.IndexByteString", "internal/bytealg.IndexString"], unfollowed := true, recurses := true, named := ["mailcoach/entry.most", "internal/bytealg.MaxLen"], apart := false, laid := [("mailcoach/entry.most", laid_mailcoach_entry_most)], narrowed := true }
def StoreTimesUptoSaid : Prop := storeTimesUptoRow.holds Tryz.pinned (OpenSpec.upto storeTimesSpec)

/-- 'mailcoachlaw19.StoreNumbers', WHERE WHAT IT READS IS OF BULK AT MOST 1048576: true; the input reads as it did. -/
def storeNumbersUptoRow : OpenClaim := { program := "ytknjamfjonapiaagreatdoor", sum := "72858bbda67f5214c0662c4c695448dc40f25b7f0edc295acf0ade08fd93da80", func := "mailcoach/mailcoachlaw19.StoreNumbers", spec := "storeNumbers", inPlace := ["internal/bytealg.IndexByteString", "internal/bytealg.IndexString"], unfollowed := true, recurses := true, named := ["mailcoach/entry.most", "internal/bytealg.MaxLen"], apart := false, laid := [("mailcoach/entry.most", laid_mailcoach_entry_most)], narrowed := true }
def StoreNumbersUptoSaid : Prop := storeNumbersUptoRow.holds Tryz.pinned (OpenSpec.upto storeNumbersSpec)

end Rows
end Go.Proofs.YtknjamfjonapiaaGreatDoor
