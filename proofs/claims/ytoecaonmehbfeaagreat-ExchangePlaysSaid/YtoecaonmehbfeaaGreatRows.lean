/-
  No cell of these rows narrows 'for every input' (looked for: loops, veiled, ifaces, maps, wideKeys, modest, calm, conditions, laid).
  DERIVED. THE GIVEN ROWS OF THIS SEAT. 3 by the template 'for every input the law returns true; each argument reads behind the call as it read before'; 0 by the template 'total and deterministic' (their statements: YtoecaonmehbfeaaGreatTotals.lean).
  GIVEN WITH THE SEED: the statements are not yours to turn. If you find one false, say at which input.
  Laid BY PROGRAM, IN A SANDBOX (cutbox-rows.mjs): the forced cells as the released guide's own fill.sh prints them over the translation e345595113255012… (all of the seat's roots in one cut). By AI agents, Wed Nov 11 2026. No macro, syntax, notation, axiom, sorry.
-/
import Derived.Test.YtoecaonmehbfeaaGreatChecked
import GoSem.Claim
import GoSem.ClaimJoined
import GoSem.ClaimMapViews
import Derived.JoinedTies
import Derived.KernelRfl
namespace Go.Proofs.YtoecaonmehbfeaaGreat
/- THE CELL 'sum', in the pinned program and in every row, IS THE sha256 OF THE DUMP (.gsa) THAT YtoecaonmehbfeaaGreatProg.lean LOADS. Nothing in Lean hashes anything: it is a label: what it is worth is what the hold of that sum in a sandbox is worth. -/
noncomputable def Tryz.pinned : Pinned := { name := "ytoecaonmehbfeaagreat", sum := "e345595113255012477462dfb3a3524e2056a3504c602e5a1cca90e03ee1e2c3", checked := Tryz.checked }
namespace Rows
def none {H : Type} : Left H := { results := [], args := [] }

/-- 'mailcoachlaw13.ExchangePlays': WHATEVER THE INPUT: true; the input reads as it did. -/
def exchangePlaysSpec : ChangeSpec := { name := "exchangePlays", fn := fun _ => fun
  | [d1, d2, d3] => { results := [.lit (.bool true)], args := [d1, d2, d3] }
  | _ => none }
def exchangePlaysRow : OpenClaim := { program := "ytoecaonmehbfeaagreat", sum := "e345595113255012477462dfb3a3524e2056a3504c602e5a1cca90e03ee1e2c3", func := "mailcoach/mailcoachlaw13.ExchangePlays", spec := "exchangePlays", inPlace := ["internal/bytealg.IndexByteString", "internal/bytealg.IndexString"], unfollowed := true, recurses := true, named := ["internal/bytealg.MaxLen"], apart := false }
def ExchangePlaysSaid : Prop := exchangePlaysRow.holds Tryz.pinned (OpenSpec.ofChange exchangePlaysSpec)

/-- ITS FALSE NEIGHBOUR: 'it returns false'. Refute it at one input. -/
def exchangePlaysWrong : ChangeSpec := { name := "exchangePlays", fn := fun _ => fun
  | [d1, d2, d3] => { results := [.lit (.bool false)], args := [d1, d2, d3] }
  | _ => none }
def ExchangePlaysWrongFalsely : Prop := exchangePlaysRow.holds Tryz.pinned (OpenSpec.ofChange exchangePlaysWrong)

/-- 'mailcoachlaw13.ExchangeRoutes': WHATEVER THE INPUT: true; the input reads as it did. -/
def exchangeRoutesSpec : ChangeSpec := { name := "exchangeRoutes", fn := fun _ => fun
  | [d1, d2, d3, d4] => { results := [.lit (.bool true)], args := [d1, d2, d3, d4] }
  | _ => none }
def exchangeRoutesRow : OpenClaim := { program := "ytoecaonmehbfeaagreat", sum := "e345595113255012477462dfb3a3524e2056a3504c602e5a1cca90e03ee1e2c3", func := "mailcoach/mailcoachlaw13.ExchangeRoutes", spec := "exchangeRoutes", inPlace := ["internal/bytealg.IndexByteString", "internal/bytealg.IndexString"], unfollowed := true, recurses := true, named := ["internal/bytealg.MaxLen"], apart := false }
def ExchangeRoutesSaid : Prop := exchangeRoutesRow.holds Tryz.pinned (OpenSpec.ofChange exchangeRoutesSpec)

/-- ITS FALSE NEIGHBOUR: 'it returns false'. Refute it at one input. -/
def exchangeRoutesWrong : ChangeSpec := { name := "exchangeRoutes", fn := fun _ => fun
  | [d1, d2, d3, d4] => { results := [.lit (.bool false)], args := [d1, d2, d3, d4] }
  | _ => none }
def ExchangeRoutesWrongFalsely : Prop := exchangeRoutesRow.holds Tryz.pinned (OpenSpec.ofChange exchangeRoutesWrong)

/-- 'mailcoachlaw13.ExchangeAuto': WHATEVER THE INPUT: true; the input reads as it did. -/
def exchangeAutoSpec : ChangeSpec := { name := "exchangeAuto", fn := fun _ => fun
  | [d1, d2, d3] => { results := [.lit (.bool true)], args := [d1, d2, d3] }
  | _ => none }
def exchangeAutoRow : OpenClaim := { program := "ytoecaonmehbfeaagreat", sum := "e345595113255012477462dfb3a3524e2056a3504c602e5a1cca90e03ee1e2c3", func := "mailcoach/mailcoachlaw13.ExchangeAuto", spec := "exchangeAuto", inPlace := ["internal/bytealg.IndexByteString", "internal/bytealg.IndexString"], unfollowed := true, recurses := true, named := ["internal/bytealg.MaxLen"], apart := false }
def ExchangeAutoSaid : Prop := exchangeAutoRow.holds Tryz.pinned (OpenSpec.ofChange exchangeAutoSpec)

/-- ITS FALSE NEIGHBOUR: 'it returns false'. Refute it at one input. -/
def exchangeAutoWrong : ChangeSpec := { name := "exchangeAuto", fn := fun _ => fun
  | [d1, d2, d3] => { results := [.lit (.bool false)], args := [d1, d2, d3] }
  | _ => none }
def ExchangeAutoWrongFalsely : Prop := exchangeAutoRow.holds Tryz.pinned (OpenSpec.ofChange exchangeAutoWrong)

/- THE SECOND FORM. 'bulk': how many values and letters a reading holds, each counted each time it is reached (what is shared counts as often as it is met; a slice's spare places count too). A statement '..UptoSaid' is the law's where the arguments, and the package variables that the reading takes, are together of bulk at most 1048576: NARROWER than '..Said'. Prove '..Said' where nothing that the law and all that it calls make is longer than what came in: it says more and counts as full. Else prove '..UptoSaid'. A law counts once. -/
mutual
def uptoBulk {H : Type} : DataW H → Nat
  | .lit (.string bytes) => bytes.length + 1
  | .lit _ => 1
  | .nil => 1
  | .ptr d => uptoBulk d + 1
  | .slice elems spare => uptoBulkAll elems + uptoBulkAll spare + 1
  | .agg parts => uptoBulkAll parts + 1
  | .iface _ d => uptoBulk d + 1
  | .map entries => uptoBulkEntries entries + 1
  | .held _ => 1
def uptoBulkAll {H : Type} : List (DataW H) → Nat
  | [] => 0
  | d :: r => uptoBulk d + uptoBulkAll r
def uptoBulkEntries {H : Type} : List (Lit × DataW H) → Nat
  | [] => 0
  | x :: r => uptoBulkEntry x + uptoBulkEntries r
def uptoBulkEntry {H : Type} : Lit × DataW H → Nat
  | (.string bytes, d) => bytes.length + uptoBulk d + 1
  | (_, d) => uptoBulk d + 1
 end
def uptoSmall : (H : Type) → List (DataW H) → Bool := fun _ ds => decide (uptoBulkAll ds ≤ 1048576)
def OpenSpec.upto (s : _root_.Go.ChangeSpec) : _root_.Go.OpenSpec := { _root_.Go.OpenSpec.ofChange s with cond := some uptoSmall }

/-- 'mailcoachlaw13.ExchangePlays', WHERE WHAT IT READS IS OF BULK AT MOST 1048576: true; the input reads as it did. -/
def exchangePlaysUptoRow : OpenClaim := { program := "ytoecaonmehbfeaagreat", sum := "e345595113255012477462dfb3a3524e2056a3504c602e5a1cca90e03ee1e2c3", func := "mailcoach/mailcoachlaw13.ExchangePlays", spec := "exchangePlays", inPlace := ["internal/bytealg.IndexByteString", "internal/bytealg.IndexString"], unfollowed := true, recurses := true, named := ["internal/bytealg.MaxLen"], apart := false, narrowed := true }
def ExchangePlaysUptoSaid : Prop := exchangePlaysUptoRow.holds Tryz.pinned (OpenSpec.upto exchangePlaysSpec)

/-- 'mailcoachlaw13.ExchangeRoutes', WHERE WHAT IT READS IS OF BULK AT MOST 1048576: true; the input reads as it did. -/
def exchangeRoutesUptoRow : OpenClaim := { program := "ytoecaonmehbfeaagreat", sum := "e345595113255012477462dfb3a3524e2056a3504c602e5a1cca90e03ee1e2c3", func := "mailcoach/mailcoachlaw13.ExchangeRoutes", spec := "exchangeRoutes", inPlace := ["internal/bytealg.IndexByteString", "internal/bytealg.IndexString"], unfollowed := true, recurses := true, named := ["internal/bytealg.MaxLen"], apart := false, narrowed := true }
def ExchangeRoutesUptoSaid : Prop := exchangeRoutesUptoRow.holds Tryz.pinned (OpenSpec.upto exchangeRoutesSpec)

/-- 'mailcoachlaw13.ExchangeAuto', WHERE WHAT IT READS IS OF BULK AT MOST 1048576: true; the input reads as it did. -/
def exchangeAutoUptoRow : OpenClaim := { program := "ytoecaonmehbfeaagreat", sum := "e345595113255012477462dfb3a3524e2056a3504c602e5a1cca90e03ee1e2c3", func := "mailcoach/mailcoachlaw13.ExchangeAuto", spec := "exchangeAuto", inPlace := ["internal/bytealg.IndexByteString", "internal/bytealg.IndexString"], unfollowed := true, recurses := true, named := ["internal/bytealg.MaxLen"], apart := false, narrowed := true }
def ExchangeAutoUptoSaid : Prop := exchangeAutoUptoRow.holds Tryz.pinned (OpenSpec.upto exchangeAutoSpec)

end Rows
end Go.Proofs.YtoecaonmehbfeaaGreat
