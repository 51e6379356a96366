/-
  No cell of these rows narrows 'for every input' (looked for: loops, veiled, ifaces, maps, wideKeys, modest, calm, conditions, laid).
  DERIVED. THE GIVEN ROWS OF THIS SEAT. 4 by the template 'for every input the law returns true; each argument reads behind the call as it read before'; 0 by the template 'total and deterministic' (their statements: YtpplpcpdoghifaaTotals.lean).
  GIVEN WITH THE SEED: the statements are not yours to turn. If you find one false, say at which input.
  Laid BY PROGRAM, IN A SANDBOX (cutbox-rows.mjs): the forced cells as the released guide's own fill.sh prints them over the translation a0d0ae9fbb0a2f89… (all of the seat's roots in one cut). By AI agents, Wed Nov 11 2026. No macro, syntax, notation, axiom, sorry.
-/
import Derived.Test.YtpplpcpdoghifaaChecked
import GoSem.Claim
import GoSem.ClaimJoined
import GoSem.ClaimMapViews
import Derived.JoinedTies
import Derived.KernelRfl
namespace Go.Proofs.Ytpplpcpdoghifaa
/- THE CELL 'sum', in the pinned program and in every row, IS THE sha256 OF THE DUMP (.gsa) THAT YtpplpcpdoghifaaProg.lean LOADS. Nothing in Lean hashes anything: it is a label: what it is worth is what the hold of that sum in a sandbox is worth. -/
noncomputable def Try.pinned : Pinned := { name := "ytpplpcpdoghifaa", sum := "a0d0ae9fbb0a2f89adba8e4ddb689c0030ef366c1a1f57d2b28f847a982ca3f7", checked := Try.checked }
namespace Rows
def none {H : Type} : Left H := { results := [], args := [] }

/-- 'mailcoachlaw10.PatternTells': WHATEVER THE INPUT: true; the input reads as it did. -/
def patternTellsSpec : ChangeSpec := { name := "patternTells", fn := fun _ => fun
  | [d1, d2] => { results := [.lit (.bool true)], args := [d1, d2] }
  | _ => none }
def patternTellsRow : OpenClaim := { program := "ytpplpcpdoghifaa", sum := "a0d0ae9fbb0a2f89adba8e4ddb689c0030ef366c1a1f57d2b28f847a982ca3f7", func := "mailcoach/mailcoachlaw10.PatternTells", spec := "patternTells", inPlace := ["internal/bytealg.IndexByteString", "internal/bytealg.IndexString"], named := ["internal/bytealg.MaxLen"], apart := false }
def PatternTellsSaid : Prop := patternTellsRow.holds Try.pinned (OpenSpec.ofChange patternTellsSpec)

/-- ITS FALSE NEIGHBOUR: 'it returns false'. Refute it at one input. -/
def patternTellsWrong : ChangeSpec := { name := "patternTells", fn := fun _ => fun
  | [d1, d2] => { results := [.lit (.bool false)], args := [d1, d2] }
  | _ => none }
def PatternTellsWrongFalsely : Prop := patternTellsRow.holds Try.pinned (OpenSpec.ofChange patternTellsWrong)

/-- 'mailcoachlaw10.PatternWords': WHATEVER THE INPUT: true; the input reads as it did. -/
def patternWordsSpec : ChangeSpec := { name := "patternWords", fn := fun _ => fun
  | [d1, d2, d3, d4] => { results := [.lit (.bool true)], args := [d1, d2, d3, d4] }
  | _ => none }
def patternWordsRow : OpenClaim := { program := "ytpplpcpdoghifaa", sum := "a0d0ae9fbb0a2f89adba8e4ddb689c0030ef366c1a1f57d2b28f847a982ca3f7", func := "mailcoach/mailcoachlaw10.PatternWords", spec := "patternWords", inPlace := ["internal/bytealg.IndexByteString", "internal/bytealg.IndexString"], named := ["internal/bytealg.MaxLen"], apart := false }
def PatternWordsSaid : Prop := patternWordsRow.holds Try.pinned (OpenSpec.ofChange patternWordsSpec)

/-- ITS FALSE NEIGHBOUR: 'it returns false'. Refute it at one input. -/
def patternWordsWrong : ChangeSpec := { name := "patternWords", fn := fun _ => fun
  | [d1, d2, d3, d4] => { results := [.lit (.bool false)], args := [d1, d2, d3, d4] }
  | _ => none }
def PatternWordsWrongFalsely : Prop := patternWordsRow.holds Try.pinned (OpenSpec.ofChange patternWordsWrong)

/-- 'mailcoachlaw10.PatternNames': WHATEVER THE INPUT: true; the input reads as it did. -/
def patternNamesSpec : ChangeSpec := { name := "patternNames", fn := fun _ => fun
  | [d1, d2, d3] => { results := [.lit (.bool true)], args := [d1, d2, d3] }
  | _ => none }
def patternNamesRow : OpenClaim := { program := "ytpplpcpdoghifaa", sum := "a0d0ae9fbb0a2f89adba8e4ddb689c0030ef366c1a1f57d2b28f847a982ca3f7", func := "mailcoach/mailcoachlaw10.PatternNames", spec := "patternNames", inPlace := ["internal/bytealg.IndexByteString", "internal/bytealg.IndexString"], named := ["internal/bytealg.MaxLen"], apart := false }
def PatternNamesSaid : Prop := patternNamesRow.holds Try.pinned (OpenSpec.ofChange patternNamesSpec)

/-- ITS FALSE NEIGHBOUR: 'it returns false'. Refute it at one input. -/
def patternNamesWrong : ChangeSpec := { name := "patternNames", fn := fun _ => fun
  | [d1, d2, d3] => { results := [.lit (.bool false)], args := [d1, d2, d3] }
  | _ => none }
def PatternNamesWrongFalsely : Prop := patternNamesRow.holds Try.pinned (OpenSpec.ofChange patternNamesWrong)

/-- 'mailcoachlaw10.PatternHashes': WHATEVER THE INPUT: true; the input reads as it did. -/
def patternHashesSpec : ChangeSpec := { name := "patternHashes", fn := fun _ => fun
  | [d1, d2, d3] => { results := [.lit (.bool true)], args := [d1, d2, d3] }
  | _ => none }
def patternHashesRow : OpenClaim := { program := "ytpplpcpdoghifaa", sum := "a0d0ae9fbb0a2f89adba8e4ddb689c0030ef366c1a1f57d2b28f847a982ca3f7", func := "mailcoach/mailcoachlaw10.PatternHashes", spec := "patternHashes", inPlace := ["internal/bytealg.IndexByteString", "internal/bytealg.IndexString"], named := ["internal/bytealg.MaxLen"], apart := false }
def PatternHashesSaid : Prop := patternHashesRow.holds Try.pinned (OpenSpec.ofChange patternHashesSpec)

/-- ITS FALSE NEIGHBOUR: 'it returns false'. Refute it at one input. -/
def patternHashesWrong : ChangeSpec := { name := "patternHashes", fn := fun _ => fun
  | [d1, d2, d3] => { results := [.lit (.bool false)], args := [d1, d2, d3] }
  | _ => none }
def PatternHashesWrongFalsely : Prop := patternHashesRow.holds Try.pinned (OpenSpec.ofChange patternHashesWrong)

/- THE SECOND FORM. 'bulk': how many values and letters a reading holds, each counted each time it is reached (what is shared counts as often as it is met; a slice's spare places count too). A statement '..UptoSaid' is the law's where the arguments, and the package variables that the reading takes, are together of bulk at most 1048576: NARROWER than '..Said'. Prove '..Said' where nothing that the law and all that it calls make is longer than what came in: it says more and counts as full. Else prove '..UptoSaid'. A law counts once. -/
mutual
def uptoBulk {H : Type} : DataW H → Nat
  | .lit (.string bytes) => bytes.length + 1
  | .lit _ => 1
  | .nil => 1
  | .ptr d => uptoBulk d + 1
  | .slice elems spare => uptoBulkAll elems + uptoBulkAll spare + 1
  | .agg parts => uptoBulkAll parts + 1
  | .iface _ d => uptoBulk d + 1
  | .map entries => uptoBulkEntries entries + 1
  | .held _ => 1
def uptoBulkAll {H : Type} : List (DataW H) → Nat
  | [] => 0
  | d :: r => uptoBulk d + uptoBulkAll r
def uptoBulkEntries {H : Type} : List (Lit × DataW H) → Nat
  | [] => 0
  | x :: r => uptoBulkEntry x + uptoBulkEntries r
def uptoBulkEntry {H : Type} : Lit × DataW H → Nat
  | (.string bytes, d) => bytes.length + uptoBulk d + 1
  | (_, d) => uptoBulk d + 1
 end
def uptoSmall : (H : Type) → List (DataW H) → Bool := fun _ ds => decide (uptoBulkAll ds ≤ 1048576)
def OpenSpec.upto (s : _root_.Go.ChangeSpec) : _root_.Go.OpenSpec := { _root_.Go.OpenSpec.ofChange s with cond := some uptoSmall }

/-- 'mailcoachlaw10.PatternTells', WHERE WHAT IT READS IS OF BULK AT MOST 1048576: true; the input reads as it did. -/
def patternTellsUptoRow : OpenClaim := { program := "ytpplpcpdoghifaa", sum := "a0d0ae9fbb0a2f89adba8e4ddb689c0030ef366c1a1f57d2b28f847a982ca3f7", func := "mailcoach/mailcoachlaw10.PatternTells", spec := "patternTells", inPlace := ["internal/bytealg.IndexByteString", "internal/bytealg.IndexString"], named := ["internal/bytealg.MaxLen"], apart := false, narrowed := true }
def PatternTellsUptoSaid : Prop := patternTellsUptoRow.holds Try.pinned (OpenSpec.upto patternTellsSpec)

/-- 'mailcoachlaw10.PatternWords', WHERE WHAT IT READS IS OF BULK AT MOST 1048576: true; the input reads as it did. -/
def patternWordsUptoRow : OpenClaim := { program := "ytpplpcpdoghifaa", sum := "a0d0ae9fbb0a2f89adba8e4ddb689c0030ef366c1a1f57d2b28f847a982ca3f7", func := "mailcoach/mailcoachlaw10.PatternWords", spec := "patternWords", inPlace := ["internal/bytealg.IndexByteString", "internal/bytealg.IndexString"], named := ["internal/bytealg.MaxLen"], apart := false, narrowed := true }
def PatternWordsUptoSaid : Prop := patternWordsUptoRow.holds Try.pinned (OpenSpec.upto patternWordsSpec)

/-- 'mailcoachlaw10.PatternNames', WHERE WHAT IT READS IS OF BULK AT MOST 1048576: true; the input reads as it did. -/
def patternNamesUptoRow : OpenClaim := { program := "ytpplpcpdoghifaa", sum := "a0d0ae9fbb0a2f89adba8e4ddb689c0030ef366c1a1f57d2b28f847a982ca3f7", func := "mailcoach/mailcoachlaw10.PatternNames", spec := "patternNames", inPlace := ["internal/bytealg.IndexByteString", "internal/bytealg.IndexString"], named := ["internal/bytealg.MaxLen"], apart := false, narrowed := true }
def PatternNamesUptoSaid : Prop := patternNamesUptoRow.holds Try.pinned (OpenSpec.upto patternNamesSpec)

/-- 'mailcoachlaw10.PatternHashes', WHERE WHAT IT READS IS OF BULK AT MOST 1048576: true; the input reads as it did. -/
def patternHashesUptoRow : OpenClaim := { program := "ytpplpcpdoghifaa", sum := "a0d0ae9fbb0a2f89adba8e4ddb689c0030ef366c1a1f57d2b28f847a982ca3f7", func := "mailcoach/mailcoachlaw10.PatternHashes", spec := "patternHashes", inPlace := ["internal/bytealg.IndexByteString", "internal/bytealg.IndexString"], named := ["internal/bytealg.MaxLen"], apart := false, narrowed := true }
def PatternHashesUptoSaid : Prop := patternHashesUptoRow.holds Try.pinned (OpenSpec.upto patternHashesSpec)

end Rows
end Go.Proofs.Ytpplpcpdoghifaa
