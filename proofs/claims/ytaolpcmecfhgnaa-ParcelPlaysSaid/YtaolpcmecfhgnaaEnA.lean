/- Entries: plain data, and their values. -/
import Derived.Test.YtaolpcmecfhgnaaOcA
import Derived.Test.YtaolpcmecfhgnaaProg
namespace Go.Proofs.Ytaolpcmecfhgnaa
open Go.RowKit
set_option linter.unusedVariables false

structure Ent where
  id : Int
  body : Int
  size : Int
  exch : List UInt8
  key : List UInt8
  prio : Int
  ttl : Int
  til : Int
  again : Bool
  hops : Int
abbrev enV (e : Ent) : Value := .agg #[.int .i64 e.id, .int .i64 e.body, .int .i64 e.size, tx e.exch, tx e.key, .int .i64 e.prio, .int .i64 e.ttl, .int .i64 e.til, .bool e.again, .int .i64 e.hops]
abbrev enO (e : Ent) : Obj := .cells #[.int .i64 e.id, .int .i64 e.body, .int .i64 e.size, tx e.exch, tx e.key, .int .i64 e.prio, .int .i64 e.ttl, .int .i64 e.til, .bool e.again, .int .i64 e.hops] 28
/-- A number that a 64-bit int can hold. -/
def In64 (n : Int) : Prop := -9223372036854775808 ≤ n ∧ n ≤ 9223372036854775807

/-- Which one is first. -/
def lessE (a b : Ent) : Bool := decide (b.prio < a.prio ∨ a.prio = b.prio ∧ a.id < b.id)
def goneE (e : Ent) (now : Int) : Bool := decide (0 < e.til ∧ e.til ≤ now)
end Go.Proofs.Ytaolpcmecfhgnaa
