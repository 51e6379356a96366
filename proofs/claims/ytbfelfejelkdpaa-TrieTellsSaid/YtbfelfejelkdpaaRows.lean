/-
  No cell of these rows narrows 'for every input' (looked for: loops, veiled, ifaces, maps, wideKeys, modest, calm, conditions, laid).
  DERIVED. THE GIVEN ROWS OF THIS SEAT. 3 by the template 'for every input the law returns true; each argument reads behind the call as it read before'; 0 by the template 'total and deterministic' (their statements: YtbfelfejelkdpaaTotals.lean).
  GIVEN WITH THE SEED: the statements are not yours to turn. If you find one false, say at which input.
  Laid BY PROGRAM, IN A SANDBOX (cutbox-rows.mjs): the forced cells as the released guide's own fill.sh prints them over the translation b3b65b1450154f9d… (all of the seat's roots in one cut). By AI agents, Wed Nov 11 2026. No macro, syntax, notation, axiom, sorry.
-/
import Derived.Test.YtbfelfejelkdpaaChecked
import GoSem.Claim
import GoSem.ClaimJoined
import GoSem.ClaimMapViews
import Derived.JoinedTies
import Derived.KernelRfl
namespace Go.Proofs.Ytbfelfejelkdpaa
/- THE CELL 'sum', in the pinned program and in every row, IS THE sha256 OF THE DUMP (.gsa) THAT YtbfelfejelkdpaaProg.lean LOADS. Nothing in Lean hashes anything: it is a label: what it is worth is what the hold of that sum in a sandbox is worth. -/
noncomputable def Try.pinned : Pinned := { name := "ytbfelfejelkdpaa", sum := "b3b65b1450154f9d20f5a30d6bf12fea8cc22b511c3a74184c543a2ca2332807", checked := Try.checked }
namespace Rows
def none {H : Type} : Left H := { results := [], args := [] }

/-- 'mailcoachlaw12.TrieTells': WHATEVER THE INPUT: true; the input reads as it did. -/
def trieTellsSpec : ChangeSpec := { name := "trieTells", fn := fun _ => fun
  | [d1, d2] => { results := [.lit (.bool true)], args := [d1, d2] }
  | _ => none }
def trieTellsRow : OpenClaim := { program := "ytbfelfejelkdpaa", sum := "b3b65b1450154f9d20f5a30d6bf12fea8cc22b511c3a74184c543a2ca2332807", func := "mailcoach/mailcoachlaw12.TrieTells", spec := "trieTells", inPlace := ["internal/bytealg.IndexByteString", "internal/bytealg.IndexString"], recurses := true, named := ["internal/bytealg.MaxLen"], apart := false }
def TrieTellsSaid : Prop := trieTellsRow.holds Try.pinned (OpenSpec.ofChange trieTellsSpec)

/-- ITS FALSE NEIGHBOUR: 'it returns false'. Refute it at one input. -/
def trieTellsWrong : ChangeSpec := { name := "trieTells", fn := fun _ => fun
  | [d1, d2] => { results := [.lit (.bool false)], args := [d1, d2] }
  | _ => none }
def TrieTellsWrongFalsely : Prop := trieTellsRow.holds Try.pinned (OpenSpec.ofChange trieTellsWrong)

/-- 'mailcoachlaw12.TrieHashes': WHATEVER THE INPUT: true; the input reads as it did. -/
def trieHashesSpec : ChangeSpec := { name := "trieHashes", fn := fun _ => fun
  | [d1, d2, d3, d4] => { results := [.lit (.bool true)], args := [d1, d2, d3, d4] }
  | _ => none }
def trieHashesRow : OpenClaim := { program := "ytbfelfejelkdpaa", sum := "b3b65b1450154f9d20f5a30d6bf12fea8cc22b511c3a74184c543a2ca2332807", func := "mailcoach/mailcoachlaw12.TrieHashes", spec := "trieHashes", inPlace := ["internal/bytealg.IndexByteString", "internal/bytealg.IndexString"], recurses := true, named := ["internal/bytealg.MaxLen"], apart := false }
def TrieHashesSaid : Prop := trieHashesRow.holds Try.pinned (OpenSpec.ofChange trieHashesSpec)

/-- ITS FALSE NEIGHBOUR: 'it returns false'. Refute it at one input. -/
def trieHashesWrong : ChangeSpec := { name := "trieHashes", fn := fun _ => fun
  | [d1, d2, d3, d4] => { results := [.lit (.bool false)], args := [d1, d2, d3, d4] }
  | _ => none }
def TrieHashesWrongFalsely : Prop := trieHashesRow.holds Try.pinned (OpenSpec.ofChange trieHashesWrong)

/-- 'mailcoachlaw12.TrieIDs': WHATEVER THE INPUT: true; the input reads as it did. -/
def trieIDsSpec : ChangeSpec := { name := "trieIDs", fn := fun _ => fun
  | [d1, d2] => { results := [.lit (.bool true)], args := [d1, d2] }
  | _ => none }
def trieIDsRow : OpenClaim := { program := "ytbfelfejelkdpaa", sum := "b3b65b1450154f9d20f5a30d6bf12fea8cc22b511c3a74184c543a2ca2332807", func := "mailcoach/mailcoachlaw12.TrieIDs", spec := "trieIDs", inPlace := ["internal/bytealg.IndexByteString", "internal/bytealg.IndexString"], recurses := true, named := ["internal/bytealg.MaxLen"], apart := false }
def TrieIDsSaid : Prop := trieIDsRow.holds Try.pinned (OpenSpec.ofChange trieIDsSpec)

/-- ITS FALSE NEIGHBOUR: 'it returns false'. Refute it at one input. -/
def trieIDsWrong : ChangeSpec := { name := "trieIDs", fn := fun _ => fun
  | [d1, d2] => { results := [.lit (.bool false)], args := [d1, d2] }
  | _ => none }
def TrieIDsWrongFalsely : Prop := trieIDsRow.holds Try.pinned (OpenSpec.ofChange trieIDsWrong)

/- THE SECOND FORM. 'bulk': how many values and letters a reading holds, each counted each time it is reached (what is shared counts as often as it is met; a slice's spare places count too). A statement '..UptoSaid' is the law's where the arguments, and the package variables that the reading takes, are together of bulk at most 1048576: NARROWER than '..Said'. Prove '..Said' where nothing that the law and all that it calls make is longer than what came in: it says more and counts as full. Else prove '..UptoSaid'. A law counts once. -/
mutual
def uptoBulk {H : Type} : DataW H → Nat
  | .lit (.string bytes) => bytes.length + 1
  | .lit _ => 1
  | .nil => 1
  | .ptr d => uptoBulk d + 1
  | .slice elems spare => uptoBulkAll elems + uptoBulkAll spare + 1
  | .agg parts => uptoBulkAll parts + 1
  | .iface _ d => uptoBulk d + 1
  | .map entries => uptoBulkEntries entries + 1
  | .held _ => 1
def uptoBulkAll {H : Type} : List (DataW H) → Nat
  | [] => 0
  | d :: r => uptoBulk d + uptoBulkAll r
def uptoBulkEntries {H : Type} : List (Lit × DataW H) → Nat
  | [] => 0
  | x :: r => uptoBulkEntry x + uptoBulkEntries r
def uptoBulkEntry {H : Type} : Lit × DataW H → Nat
  | (.string bytes, d) => bytes.length + uptoBulk d + 1
  | (_, d) => uptoBulk d + 1
 end
def uptoSmall : (H : Type) → List (DataW H) → Bool := fun _ ds => decide (uptoBulkAll ds ≤ 1048576)
def OpenSpec.upto (s : _root_.Go.ChangeSpec) : _root_.Go.OpenSpec := { _root_.Go.OpenSpec.ofChange s with cond := some uptoSmall }

/-- 'mailcoachlaw12.TrieTells', WHERE WHAT IT READS IS OF BULK AT MOST 1048576: true; the input reads as it did. -/
def trieTellsUptoRow : OpenClaim := { program := "ytbfelfejelkdpaa", sum := "b3b65b1450154f9d20f5a30d6bf12fea8cc22b511c3a74184c543a2ca2332807", func := "mailcoach/mailcoachlaw12.TrieTells", spec := "trieTells", inPlace := ["internal/bytealg.IndexByteString", "internal/bytealg.IndexString"], recurses := true, named := ["internal/bytealg.MaxLen"], apart := false, narrowed := true }
def TrieTellsUptoSaid : Prop := trieTellsUptoRow.holds Try.pinned (OpenSpec.upto trieTellsSpec)

/-- 'mailcoachlaw12.TrieHashes', WHERE WHAT IT READS IS OF BULK AT MOST 1048576: true; the input reads as it did. -/
def trieHashesUptoRow : OpenClaim := { program := "ytbfelfejelkdpaa", sum := "b3b65b1450154f9d20f5a30d6bf12fea8cc22b511c3a74184c543a2ca2332807", func := "mailcoach/mailcoachlaw12.TrieHashes", spec := "trieHashes", inPlace := ["internal/bytealg.IndexByteString", "internal/bytealg.IndexString"], recurses := true, named := ["internal/bytealg.MaxLen"], apart := false, narrowed := true }
def TrieHashesUptoSaid : Prop := trieHashesUptoRow.holds Try.pinned (OpenSpec.upto trieHashesSpec)

/-- 'mailcoachlaw12.TrieIDs', WHERE WHAT IT READS IS OF BULK AT MOST 1048576: true; the input reads as it did. -/
def trieIDsUptoRow : OpenClaim := { program := "ytbfelfejelkdpaa", sum := "b3b65b1450154f9d20f5a30d6bf12fea8cc22b511c3a74184c543a2ca2332807", func := "mailcoach/mailcoachlaw12.TrieIDs", spec := "trieIDs", inPlace := ["internal/bytealg.IndexByteString", "internal/bytealg.IndexString"], recurses := true, named := ["internal/bytealg.MaxLen"], apart := false, narrowed := true }
def TrieIDsUptoSaid : Prop := trieIDsUptoRow.holds Try.pinned (OpenSpec.upto trieIDsSpec)

end Rows
end Go.Proofs.Ytbfelfejelkdpaa
