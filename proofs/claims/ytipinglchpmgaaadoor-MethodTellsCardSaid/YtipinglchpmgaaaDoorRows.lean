/-
  NARROWER THAN 'FOR EVERY INPUT', by the rows' own cells (each row's printed sentence says how): MethodTells: laid · MethodBack: laid · MethodTurned: laid · MethodKinds: laid · MethodLimits: laid.
  DERIVED. THE GIVEN ROWS OF THIS SEAT. 5 by the template 'for every input the law returns true; each argument reads behind the call as it read before'; 0 by the template 'total and deterministic' (their statements: YtipinglchpmgaaaDoorTotals.lean).
  GIVEN WITH THE SEED: the statements are not yours to turn. If you find one false, say at which input.
  Laid BY PROGRAM, IN A SANDBOX (cutbox-rows.mjs): the forced cells as the released guide's own fill.sh prints them over the translation c42bb1fbd8c15121… (all of the seat's roots in one cut). By AI agents, Wed Nov 11 2026. No macro, syntax, notation, axiom, sorry.
-/
import Derived.Test.YtipinglchpmgaaaDoorChecked
import GoSem.Claim
import GoSem.ClaimJoined
import GoSem.ClaimMapViews
import Derived.JoinedTies
import Derived.KernelRfl
namespace Go.Proofs.YtipinglchpmgaaaDoor
/- THE CELL 'sum', in the pinned program and in every row, IS THE sha256 OF THE DUMP (.gsa) THAT YtipinglchpmgaaaDoorProg.lean LOADS. Nothing in Lean hashes anything: it is a label: what it is worth is what the hold of that sum in a sandbox is worth. -/
noncomputable def Tryd.pinned : Pinned := { name := "ytipinglchpmgaaadoor", sum := "c42bb1fbd8c1512118bb8c92410f94a9a7e8e553a547da8b64cafca5e6cdb3a8", checked := Tryd.checked }
namespace Rows
def none {H : Type} : Left H := { results := [], args := [] }

/- WHAT THE LISTED PACKAGE-LEVEL VARIABLES READ AS WHEN THE CALL BEGINS. Each datum BY PROGRAM (the guide's laid-datum.mjs) off the statement by which the dump's own 'gosem.cut.vars' lays the variable. In a bare row this is a premise. The card (YtipinglchpmgaaaDoorCards.lean) ties it to the program's text. -/
def laid_mailcoach_method_rows {H : Type} : DataW H := .agg [.agg [.lit (.string []), .lit (.bool false)], .agg [.lit (.string []), .lit (.bool false)], .agg [.lit (.string [116]), .lit (.bool true)], .agg [.lit (.string [110, 110, 110]), .lit (.bool false)], .agg [.lit (.string [110, 110, 110]), .lit (.bool true)], .agg [.lit (.string [116]), .lit (.bool true)], .agg [.lit (.string []), .lit (.bool false)], .agg [.lit (.string [116, 110]), .lit (.bool true)], .agg [.lit (.string []), .lit (.bool true)], .agg [.lit (.string []), .lit (.bool true)], .agg [.lit (.string []), .lit (.bool false)], .agg [.lit (.string [116, 110]), .lit (.bool true)], .agg [.lit (.string []), .lit (.bool true)], .agg [.lit (.string [116, 116, 98]), .lit (.bool true)], .agg [.lit (.string []), .lit (.bool false)], .agg [.lit (.string [116, 98]), .lit (.bool true)], .agg [.lit (.string []), .lit (.bool false)], .agg [.lit (.string [116, 116, 116, 110, 110, 110, 98]), .lit (.bool true)], .agg [.lit (.string [116, 110, 110]), .lit (.bool false)], .agg [.lit (.string [116, 116, 116]), .lit (.bool true)], .agg [.lit (.string []), .lit (.bool false)], .agg [.lit (.string [116, 116, 116]), .lit (.bool true)], .agg [.lit (.string []), .lit (.bool false)], .agg [.lit (.string [116]), .lit (.bool true)], .agg [.lit (.string [110]), .lit (.bool false)], .agg [.lit (.string [116, 98]), .lit (.bool true)], .agg [.lit (.string [110]), .lit (.bool false)], .agg [.lit (.string [110]), .lit (.bool true)], .agg [.lit (.string []), .lit (.bool false)], .agg [.lit (.string [116, 116, 98]), .lit (.bool true)], .agg [.lit (.string [116]), .lit (.bool false)], .agg [.lit (.string [116]), .lit (.bool true)], .agg [.lit (.string [116]), .lit (.bool false)], .agg [.lit (.string [116, 116, 98]), .lit (.bool true)], .agg [.lit (.string [116, 116, 110]), .lit (.bool false)], .agg [.lit (.string [116, 116, 116, 110, 98]), .lit (.bool false)], .agg [.lit (.string [116, 98]), .lit (.bool true)], .agg [.lit (.string [116, 116, 110, 110, 98]), .lit (.bool false)], .agg [.lit (.string []), .lit (.bool false)], .agg [.lit (.string [110, 98]), .lit (.bool true)], .agg [.lit (.string [110, 98]), .lit (.bool true)], .agg [.lit (.string [110, 98]), .lit (.bool true)], .agg [.lit (.string []), .lit (.bool true)], .agg [.lit (.string []), .lit (.bool false)], .agg [.lit (.string []), .lit (.bool true)], .agg [.lit (.string []), .lit (.bool false)], .agg [.lit (.string []), .lit (.bool true)], .agg [.lit (.string []), .lit (.bool false)], .agg [.lit (.string []), .lit (.bool true)], .agg [.lit (.string []), .lit (.bool false)]]

/-- 'mailcoachlaw8.MethodTells': WHATEVER THE INPUT: true; the input reads as it did. -/
def methodTellsSpec : ChangeSpec := { name := "methodTells", fn := fun _ => fun
  | [d1, d2, d3, d4] => { results := [.lit (.bool true)], args := [d1, d2, d3, d4] }
  | _ => none }
def methodTellsRow : OpenClaim := { program := "ytipinglchpmgaaadoor", sum := "c42bb1fbd8c1512118bb8c92410f94a9a7e8e553a547da8b64cafca5e6cdb3a8", func := "mailcoach/mailcoachlaw8.MethodTells", spec := "methodTells", named := ["mailcoach/method.rows"], apart := false, laid := [("mailcoach/method.rows", laid_mailcoach_method_rows)] }
def MethodTellsSaid : Prop := methodTellsRow.holds Tryd.pinned (OpenSpec.ofChange methodTellsSpec)

/-- ITS FALSE NEIGHBOUR: 'it returns false'. Refute it at one input. -/
def methodTellsWrong : ChangeSpec := { name := "methodTells", fn := fun _ => fun
  | [d1, d2, d3, d4] => { results := [.lit (.bool false)], args := [d1, d2, d3, d4] }
  | _ => none }
def MethodTellsWrongFalsely : Prop := methodTellsRow.holds Tryd.pinned (OpenSpec.ofChange methodTellsWrong)

/-- 'mailcoachlaw8.MethodBack': WHATEVER THE INPUT: true; the input reads as it did. -/
def methodBackSpec : ChangeSpec := { name := "methodBack", fn := fun _ => fun
  | [d1, d2, d3, d4] => { results := [.lit (.bool true)], args := [d1, d2, d3, d4] }
  | _ => none }
def methodBackRow : OpenClaim := { program := "ytipinglchpmgaaadoor", sum := "c42bb1fbd8c1512118bb8c92410f94a9a7e8e553a547da8b64cafca5e6cdb3a8", func := "mailcoach/mailcoachlaw8.MethodBack", spec := "methodBack", named := ["mailcoach/method.rows"], apart := false, laid := [("mailcoach/method.rows", laid_mailcoach_method_rows)] }
def MethodBackSaid : Prop := methodBackRow.holds Tryd.pinned (OpenSpec.ofChange methodBackSpec)

/-- ITS FALSE NEIGHBOUR: 'it returns false'. Refute it at one input. -/
def methodBackWrong : ChangeSpec := { name := "methodBack", fn := fun _ => fun
  | [d1, d2, d3, d4] => { results := [.lit (.bool false)], args := [d1, d2, d3, d4] }
  | _ => none }
def MethodBackWrongFalsely : Prop := methodBackRow.holds Tryd.pinned (OpenSpec.ofChange methodBackWrong)

/-- 'mailcoachlaw8.MethodTurned': WHATEVER THE INPUT: true; the input reads as it did. -/
def methodTurnedSpec : ChangeSpec := { name := "methodTurned", fn := fun _ => fun
  | [d1, d2, d3] => { results := [.lit (.bool true)], args := [d1, d2, d3] }
  | _ => none }
def methodTurnedRow : OpenClaim := { program := "ytipinglchpmgaaadoor", sum := "c42bb1fbd8c1512118bb8c92410f94a9a7e8e553a547da8b64cafca5e6cdb3a8", func := "mailcoach/mailcoachlaw8.MethodTurned", spec := "methodTurned", named := ["mailcoach/method.rows"], apart := false, laid := [("mailcoach/method.rows", laid_mailcoach_method_rows)] }
def MethodTurnedSaid : Prop := methodTurnedRow.holds Tryd.pinned (OpenSpec.ofChange methodTurnedSpec)

/-- ITS FALSE NEIGHBOUR: 'it returns false'. Refute it at one input. -/
def methodTurnedWrong : ChangeSpec := { name := "methodTurned", fn := fun _ => fun
  | [d1, d2, d3] => { results := [.lit (.bool false)], args := [d1, d2, d3] }
  | _ => none }
def MethodTurnedWrongFalsely : Prop := methodTurnedRow.holds Tryd.pinned (OpenSpec.ofChange methodTurnedWrong)

/-- 'mailcoachlaw8.MethodKinds': WHATEVER THE INPUT: true; the input reads as it did. -/
def methodKindsSpec : ChangeSpec := { name := "methodKinds", fn := fun _ => fun
  | [d1, d2, d3, d4] => { results := [.lit (.bool true)], args := [d1, d2, d3, d4] }
  | _ => none }
def methodKindsRow : OpenClaim := { program := "ytipinglchpmgaaadoor", sum := "c42bb1fbd8c1512118bb8c92410f94a9a7e8e553a547da8b64cafca5e6cdb3a8", func := "mailcoach/mailcoachlaw8.MethodKinds", spec := "methodKinds", named := ["mailcoach/method.rows"], apart := false, laid := [("mailcoach/method.rows", laid_mailcoach_method_rows)] }
def MethodKindsSaid : Prop := methodKindsRow.holds Tryd.pinned (OpenSpec.ofChange methodKindsSpec)

/-- ITS FALSE NEIGHBOUR: 'it returns false'. Refute it at one input. -/
def methodKindsWrong : ChangeSpec := { name := "methodKinds", fn := fun _ => fun
  | [d1, d2, d3, d4] => { results := [.lit (.bool false)], args := [d1, d2, d3, d4] }
  | _ => none }
def MethodKindsWrongFalsely : Prop := methodKindsRow.holds Tryd.pinned (OpenSpec.ofChange methodKindsWrong)

/-- 'mailcoachlaw8.MethodLimits': WHATEVER THE INPUT: true; the input reads as it did. -/
def methodLimitsSpec : ChangeSpec := { name := "methodLimits", fn := fun _ => fun
  | [d1, d2] => { results := [.lit (.bool true)], args := [d1, d2] }
  | _ => none }
def methodLimitsRow : OpenClaim := { program := "ytipinglchpmgaaadoor", sum := "c42bb1fbd8c1512118bb8c92410f94a9a7e8e553a547da8b64cafca5e6cdb3a8", func := "mailcoach/mailcoachlaw8.MethodLimits", spec := "methodLimits", named := ["mailcoach/method.rows"], apart := false, laid := [("mailcoach/method.rows", laid_mailcoach_method_rows)] }
def MethodLimitsSaid : Prop := methodLimitsRow.holds Tryd.pinned (OpenSpec.ofChange methodLimitsSpec)

/-- ITS FALSE NEIGHBOUR: 'it returns false'. Refute it at one input. -/
def methodLimitsWrong : ChangeSpec := { name := "methodLimits", fn := fun _ => fun
  | [d1, d2] => { results := [.lit (.bool false)], args := [d1, d2] }
  | _ => none }
def MethodLimitsWrongFalsely : Prop := methodLimitsRow.holds Tryd.pinned (OpenSpec.ofChange methodLimitsWrong)

/- THE SECOND FORM. 'bulk': how many values and letters a reading holds, each counted each time it is reached (what is shared counts as often as it is met; a slice's spare places count too). A statement '..UptoSaid' is the law's where the arguments, and the package variables that the reading takes, are together of bulk at most 1048576: NARROWER than '..Said'. Prove '..Said' where nothing that the law and all that it calls make is longer than what came in: it says more and counts as full. Else prove '..UptoSaid'. A law counts once. -/
mutual
def uptoBulk {H : Type} : DataW H → Nat
  | .lit (.string bytes) => bytes.length + 1
  | .lit _ => 1
  | .nil => 1
  | .ptr d => uptoBulk d + 1
  | .slice elems spare => uptoBulkAll elems + uptoBulkAll spare + 1
  | .agg parts => uptoBulkAll parts + 1
  | .iface _ d => uptoBulk d + 1
  | .map entries => uptoBulkEntries entries + 1
  | .held _ => 1
def uptoBulkAll {H : Type} : List (DataW H) → Nat
  | [] => 0
  | d :: r => uptoBulk d + uptoBulkAll r
def uptoBulkEntries {H : Type} : List (Lit × DataW H) → Nat
  | [] => 0
  | x :: r => uptoBulkEntry x + uptoBulkEntries r
def uptoBulkEntry {H : Type} : Lit × DataW H → Nat
  | (.string bytes, d) => bytes.length + uptoBulk d + 1
  | (_, d) => uptoBulk d + 1
 end
def uptoSmall : (H : Type) → List (DataW H) → Bool := fun _ ds => decide (uptoBulkAll ds ≤ 1048576)
def OpenSpec.upto (s : _root_.Go.ChangeSpec) : _root_.Go.OpenSpec := { _root_.Go.OpenSpec.ofChange s with cond := some uptoSmall }

/-- 'mailcoachlaw8.MethodTells', WHERE WHAT IT READS IS OF BULK AT MOST 1048576: true; the input reads as it did. -/
def methodTellsUptoRow : OpenClaim := { program := "ytipinglchpmgaaadoor", sum := "c42bb1fbd8c1512118bb8c92410f94a9a7e8e553a547da8b64cafca5e6cdb3a8", func := "mailcoach/mailcoachlaw8.MethodTells", spec := "methodTells", named := ["mailcoach/method.rows"], apart := false, laid := [("mailcoach/method.rows", laid_mailcoach_method_rows)], narrowed := true }
def MethodTellsUptoSaid : Prop := methodTellsUptoRow.holds Tryd.pinned (OpenSpec.upto methodTellsSpec)

/-- 'mailcoachlaw8.MethodBack', WHERE WHAT IT READS IS OF BULK AT MOST 1048576: true; the input reads as it did. -/
def methodBackUptoRow : OpenClaim := { program := "ytipinglchpmgaaadoor", sum := "c42bb1fbd8c1512118bb8c92410f94a9a7e8e553a547da8b64cafca5e6cdb3a8", func := "mailcoach/mailcoachlaw8.MethodBack", spec := "methodBack", named := ["mailcoach/method.rows"], apart := false, laid := [("mailcoach/method.rows", laid_mailcoach_method_rows)], narrowed := true }
def MethodBackUptoSaid : Prop := methodBackUptoRow.holds Tryd.pinned (OpenSpec.upto methodBackSpec)

/-- 'mailcoachlaw8.MethodTurned', WHERE WHAT IT READS IS OF BULK AT MOST 1048576: true; the input reads as it did. -/
def methodTurnedUptoRow : OpenClaim := { program := "ytipinglchpmgaaadoor", sum := "c42bb1fbd8c1512118bb8c92410f94a9a7e8e553a547da8b64cafca5e6cdb3a8", func := "mailcoach/mailcoachlaw8.MethodTurned", spec := "methodTurned", named := ["mailcoach/method.rows"], apart := false, laid := [("mailcoach/method.rows", laid_mailcoach_method_rows)], narrowed := true }
def MethodTurnedUptoSaid : Prop := methodTurnedUptoRow.holds Tryd.pinned (OpenSpec.upto methodTurnedSpec)

/-- 'mailcoachlaw8.MethodKinds', WHERE WHAT IT READS IS OF BULK AT MOST 1048576: true; the input reads as it did. -/
def methodKindsUptoRow : OpenClaim := { program := "ytipinglchpmgaaadoor", sum := "c42bb1fbd8c1512118bb8c92410f94a9a7e8e553a547da8b64cafca5e6cdb3a8", func := "mailcoach/mailcoachlaw8.MethodKinds", spec := "methodKinds", named := ["mailcoach/method.rows"], apart := false, laid := [("mailcoach/method.rows", laid_mailcoach_method_rows)], narrowed := true }
def MethodKindsUptoSaid : Prop := methodKindsUptoRow.holds Tryd.pinned (OpenSpec.upto methodKindsSpec)

/-- 'mailcoachlaw8.MethodLimits', WHERE WHAT IT READS IS OF BULK AT MOST 1048576: true; the input reads as it did. -/
def methodLimitsUptoRow : OpenClaim := { program := "ytipinglchpmgaaadoor", sum := "c42bb1fbd8c1512118bb8c92410f94a9a7e8e553a547da8b64cafca5e6cdb3a8", func := "mailcoach/mailcoachlaw8.MethodLimits", spec := "methodLimits", named := ["mailcoach/method.rows"], apart := false, laid := [("mailcoach/method.rows", laid_mailcoach_method_rows)], narrowed := true }
def MethodLimitsUptoSaid : Prop := methodLimitsUptoRow.holds Tryd.pinned (OpenSpec.upto methodLimitsSpec)

end Rows
end Go.Proofs.YtipinglchpmgaaaDoor
