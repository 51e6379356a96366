/- Entries and options: plain data, and their values. -/
import Derived.Test.YtbhkgpbhimeniaaDoorOcA
import Derived.Test.YtbhkgpbhimeniaaDoorProg
namespace Go.Proofs.YtbhkgpbhimeniaaDoor
open Go.RowKit
set_option linter.unusedVariables false

structure Ent where
  id : Int
  body : Int
  size : Int
  exch : List UInt8
  key : List UInt8
  prio : Int
  ttl : Int
  til : Int
  again : Bool
  hops : Int
structure Opt where
  dead : List UInt8
  deadKey : List UInt8
  maxLen : Int
  ttl : Int
  prio : Int
  bits : Int

abbrev enV (e : Ent) : Value := .agg #[.int .i64 e.id, .int .i64 e.body, .int .i64 e.size, tx e.exch, tx e.key, .int .i64 e.prio, .int .i64 e.ttl, .int .i64 e.til, .bool e.again, .int .i64 e.hops]
abbrev enO (e : Ent) : Obj := .cells #[.int .i64 e.id, .int .i64 e.body, .int .i64 e.size, tx e.exch, tx e.key, .int .i64 e.prio, .int .i64 e.ttl, .int .i64 e.til, .bool e.again, .int .i64 e.hops] 25
abbrev opV (o : Opt) : Value := .agg #[tx o.dead, tx o.deadKey, .int .i64 o.maxLen, .int .i64 o.ttl, .int .i64 o.prio, .int .i64 o.bits]
abbrev opO (o : Opt) : Obj := .cells #[tx o.dead, tx o.deadKey, .int .i64 o.maxLen, .int .i64 o.ttl, .int .i64 o.prio, .int .i64 o.bits] 28

/-- A number that a 64-bit int can hold. -/
def In64 (n : Int) : Prop := -9223372036854775808 ≤ n ∧ n ≤ 9223372036854775807

/-- Which one is first. -/
def lessE (a b : Ent) : Bool := decide (b.prio < a.prio ∨ a.prio = b.prio ∧ a.id < b.id)
def goneE (e : Ent) (now : Int) : Bool := decide (0 < e.til ∧ e.til ≤ now)
def limitO (o : Opt) : Int := if 1 ≤ o.maxLen ∧ o.maxLen ≤ 60 then o.maxLen else 60
/-- The lesser one of those that are above 0; 0, if none is. -/
def shorter (t u : Int) : Int := if 0 < t then (if 0 < u ∧ u < t then u else t) else if 0 < u then u else 0
def forE (e : Ent) (o : Opt) (now : Int) : Ent :=
  { e with prio := max (min e.prio o.prio) 0, til := if 0 < shorter e.ttl o.ttl then IntKind.i64.wrap (now + shorter e.ttl o.ttl) else 0 }
def isO (o : Opt) : Bool := decide ((0 ≤ o.maxLen ∧ o.maxLen ≤ 60) ∧ (0 ≤ o.ttl ∧ o.ttl ≤ 10000) ∧ (0 ≤ o.prio ∧ o.prio ≤ 3) ∧ (0 ≤ o.bits ∧ o.bits ≤ 15) ∧ o.dead.length ≤ 12 ∧ o.deadKey.length ≤ 40)
/-- Bits without Passive. -/
def lastB (n : Int) : Int := bits .andNot .i64 n 8
def lastO (o : Opt) : Opt := { o with bits := lastB o.bits }
def sameO (a b : Opt) : Bool := decide (a.dead = b.dead ∧ a.deadKey = b.deadKey ∧ a.maxLen = b.maxLen ∧ a.ttl = b.ttl ∧ a.prio = b.prio ∧ lastB a.bits = lastB b.bits)
end Go.Proofs.YtbhkgpbhimeniaaDoor
