/-
  NARROWER THAN 'FOR EVERY INPUT', by the rows' own cells (each row's printed sentence says how): EntryTimes: laid · EntryOrders: laid · EntryOptions: laid.
  DERIVED. THE GIVEN ROWS OF THIS SEAT. 3 by the template 'for every input the law returns true; each argument reads behind the call as it read before'; 0 by the template 'total and deterministic' (their statements: YtbhkgpbhimeniaaDoorTotals.lean).
  GIVEN WITH THE SEED: the statements are not yours to turn. If you find one false, say at which input.
  Laid BY PROGRAM, IN A SANDBOX (cutbox-rows.mjs): the forced cells as the released guide's own fill.sh prints them over the translation a6dace707173304c… (all of the seat's roots in one cut). By AI agents, Wed Nov 11 2026. No macro, syntax, notation, axiom, sorry.
-/
import Derived.Test.YtbhkgpbhimeniaaDoorChecked
import GoSem.Claim
import GoSem.ClaimJoined
import GoSem.ClaimMapViews
import Derived.JoinedTies
import Derived.KernelRfl
namespace Go.Proofs.YtbhkgpbhimeniaaDoor
/- THE CELL 'sum', in the pinned program and in every row, IS THE sha256 OF THE DUMP (.gsa) THAT YtbhkgpbhimeniaaDoorProg.lean LOADS. Nothing in Lean hashes anything: it is a label: what it is worth is what the hold of that sum in a sandbox is worth. -/
noncomputable def Tryd.pinned : Pinned := { name := "ytbhkgpbhimeniaadoor", sum := "a6dace707173304cc9522b16779c019b478223608553478dfab26de6610be3ca", checked := Tryd.checked }
namespace Rows
def none {H : Type} : Left H := { results := [], args := [] }

/- WHAT THE LISTED PACKAGE-LEVEL VARIABLES READ AS WHEN THE CALL BEGINS. Each datum BY PROGRAM (the guide's laid-datum.mjs) off the statement by which the dump's own 'gosem.cut.vars' lays the variable. In a bare row this is a premise. The card (YtbhkgpbhimeniaaDoorCards.lean) ties it to the program's text. -/
def laid_mailcoach_entry_most {H : Type} : DataW H := .agg [.lit (.int .i64 60), .lit (.int .i64 10000), .lit (.int .i64 3), .lit (.int .i64 15), .lit (.int .i64 12), .lit (.int .i64 40)]

/-- 'mailcoachlaw14.EntryTimes': WHATEVER THE INPUT: true; the input reads as it did. -/
def entryTimesSpec : ChangeSpec := { name := "entryTimes", fn := fun _ => fun
  | [d1, d2, d3, d4] => { results := [.lit (.bool true)], args := [d1, d2, d3, d4] }
  | _ => none }
def entryTimesRow : OpenClaim := { program := "ytbhkgpbhimeniaadoor", sum := "a6dace707173304cc9522b16779c019b478223608553478dfab26de6610be3ca", func := "mailcoach/mailcoachlaw14.EntryTimes", spec := "entryTimes", named := ["mailcoach/entry.most"], apart := false, laid := [("mailcoach/entry.most", laid_mailcoach_entry_most)] }
def EntryTimesSaid : Prop := entryTimesRow.holds Tryd.pinned (OpenSpec.ofChange entryTimesSpec)

/-- ITS FALSE NEIGHBOUR: 'it returns false'. Refute it at one input. -/
def entryTimesWrong : ChangeSpec := { name := "entryTimes", fn := fun _ => fun
  | [d1, d2, d3, d4] => { results := [.lit (.bool false)], args := [d1, d2, d3, d4] }
  | _ => none }
def EntryTimesWrongFalsely : Prop := entryTimesRow.holds Tryd.pinned (OpenSpec.ofChange entryTimesWrong)

/-- 'mailcoachlaw14.EntryOrders': WHATEVER THE INPUT: true; the input reads as it did. -/
def entryOrdersSpec : ChangeSpec := { name := "entryOrders", fn := fun _ => fun
  | [d1, d2, d3] => { results := [.lit (.bool true)], args := [d1, d2, d3] }
  | _ => none }
def entryOrdersRow : OpenClaim := { program := "ytbhkgpbhimeniaadoor", sum := "a6dace707173304cc9522b16779c019b478223608553478dfab26de6610be3ca", func := "mailcoach/mailcoachlaw14.EntryOrders", spec := "entryOrders", named := ["mailcoach/entry.most"], apart := false, laid := [("mailcoach/entry.most", laid_mailcoach_entry_most)] }
def EntryOrdersSaid : Prop := entryOrdersRow.holds Tryd.pinned (OpenSpec.ofChange entryOrdersSpec)

/-- ITS FALSE NEIGHBOUR: 'it returns false'. Refute it at one input. -/
def entryOrdersWrong : ChangeSpec := { name := "entryOrders", fn := fun _ => fun
  | [d1, d2, d3] => { results := [.lit (.bool false)], args := [d1, d2, d3] }
  | _ => none }
def EntryOrdersWrongFalsely : Prop := entryOrdersRow.holds Tryd.pinned (OpenSpec.ofChange entryOrdersWrong)

/-- 'mailcoachlaw14.EntryOptions': WHATEVER THE INPUT: true; the input reads as it did. -/
def entryOptionsSpec : ChangeSpec := { name := "entryOptions", fn := fun _ => fun
  | [d1, d2, d3, d4, d5, d6] => { results := [.lit (.bool true)], args := [d1, d2, d3, d4, d5, d6] }
  | _ => none }
def entryOptionsRow : OpenClaim := { program := "ytbhkgpbhimeniaadoor", sum := "a6dace707173304cc9522b16779c019b478223608553478dfab26de6610be3ca", func := "mailcoach/mailcoachlaw14.EntryOptions", spec := "entryOptions", named := ["mailcoach/entry.most"], apart := false, laid := [("mailcoach/entry.most", laid_mailcoach_entry_most)] }
def EntryOptionsSaid : Prop := entryOptionsRow.holds Tryd.pinned (OpenSpec.ofChange entryOptionsSpec)

/-- ITS FALSE NEIGHBOUR: 'it returns false'. Refute it at one input. -/
def entryOptionsWrong : ChangeSpec := { name := "entryOptions", fn := fun _ => fun
  | [d1, d2, d3, d4, d5, d6] => { results := [.lit (.bool false)], args := [d1, d2, d3, d4, d5, d6] }
  | _ => none }
def EntryOptionsWrongFalsely : Prop := entryOptionsRow.holds Tryd.pinned (OpenSpec.ofChange entryOptionsWrong)

/- THE SECOND FORM. 'bulk': how many values and letters a reading holds, each counted each time it is reached (what is shared counts as often as it is met; a slice's spare places count too). A statement '..UptoSaid' is the law's where the arguments, and the package variables that the reading takes, are together of bulk at most 1048576: NARROWER than '..Said'. Prove '..Said' where nothing that the law and all that it calls make is longer than what came in: it says more and counts as full. Else prove '..UptoSaid'. A law counts once. -/
mutual
def uptoBulk {H : Type} : DataW H → Nat
  | .lit (.string bytes) => bytes.length + 1
  | .lit _ => 1
  | .nil => 1
  | .ptr d => uptoBulk d + 1
  | .slice elems spare => uptoBulkAll elems + uptoBulkAll spare + 1
  | .agg parts => uptoBulkAll parts + 1
  | .iface _ d => uptoBulk d + 1
  | .map entries => uptoBulkEntries entries + 1
  | .held _ => 1
def uptoBulkAll {H : Type} : List (DataW H) → Nat
  | [] => 0
  | d :: r => uptoBulk d + uptoBulkAll r
def uptoBulkEntries {H : Type} : List (Lit × DataW H) → Nat
  | [] => 0
  | x :: r => uptoBulkEntry x + uptoBulkEntries r
def uptoBulkEntry {H : Type} : Lit × DataW H → Nat
  | (.string bytes, d) => bytes.length + uptoBulk d + 1
  | (_, d) => uptoBulk d + 1
 end
def uptoSmall : (H : Type) → List (DataW H) → Bool := fun _ ds => decide (uptoBulkAll ds ≤ 1048576)
def OpenSpec.upto (s : _root_.Go.ChangeSpec) : _root_.Go.OpenSpec := { _root_.Go.OpenSpec.ofChange s with cond := some uptoSmall }

/-- 'mailcoachlaw14.EntryTimes', WHERE WHAT IT READS IS OF BULK AT MOST 1048576: true; the input reads as it did. -/
def entryTimesUptoRow : OpenClaim := { program := "ytbhkgpbhimeniaadoor", sum := "a6dace707173304cc9522b16779c019b478223608553478dfab26de6610be3ca", func := "mailcoach/mailcoachlaw14.EntryTimes", spec := "entryTimes", named := ["mailcoach/entry.most"], apart := false, laid := [("mailcoach/entry.most", laid_mailcoach_entry_most)], narrowed := true }
def EntryTimesUptoSaid : Prop := entryTimesUptoRow.holds Tryd.pinned (OpenSpec.upto entryTimesSpec)

/-- 'mailcoachlaw14.EntryOrders', WHERE WHAT IT READS IS OF BULK AT MOST 1048576: true; the input reads as it did. -/
def entryOrdersUptoRow : OpenClaim := { program := "ytbhkgpbhimeniaadoor", sum := "a6dace707173304cc9522b16779c019b478223608553478dfab26de6610be3ca", func := "mailcoach/mailcoachlaw14.EntryOrders", spec := "entryOrders", named := ["mailcoach/entry.most"], apart := false, laid := [("mailcoach/entry.most", laid_mailcoach_entry_most)], narrowed := true }
def EntryOrdersUptoSaid : Prop := entryOrdersUptoRow.holds Tryd.pinned (OpenSpec.upto entryOrdersSpec)

/-- 'mailcoachlaw14.EntryOptions', WHERE WHAT IT READS IS OF BULK AT MOST 1048576: true; the input reads as it did. -/
def entryOptionsUptoRow : OpenClaim := { program := "ytbhkgpbhimeniaadoor", sum := "a6dace707173304cc9522b16779c019b478223608553478dfab26de6610be3ca", func := "mailcoach/mailcoachlaw14.EntryOptions", spec := "entryOptions", named := ["mailcoach/entry.most"], apart := false, laid := [("mailcoach/entry.most", laid_mailcoach_entry_most)], narrowed := true }
def EntryOptionsUptoSaid : Prop := entryOptionsUptoRow.holds Tryd.pinned (OpenSpec.upto entryOptionsSpec)

end Rows
end Go.Proofs.YtbhkgpbhimeniaaDoor
