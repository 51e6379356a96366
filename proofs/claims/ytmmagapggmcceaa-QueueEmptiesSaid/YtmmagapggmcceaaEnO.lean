/- Options: plain data, and their values. -/
import Derived.Test.YtmmagapggmcceaaEnA
namespace Go.Proofs.Ytmmagapggmcceaa
open Go.RowKit
set_option linter.unusedVariables false

structure Opt where
  dead : List UInt8
  deadKey : List UInt8
  maxLen : Int
  ttl : Int
  prio : Int
  bits : Int

abbrev opV (o : Opt) : Value := .agg #[tx o.dead, tx o.deadKey, .int .i64 o.maxLen, .int .i64 o.ttl, .int .i64 o.prio, .int .i64 o.bits]
abbrev opO (o : Opt) : Obj := .cells #[tx o.dead, tx o.deadKey, .int .i64 o.maxLen, .int .i64 o.ttl, .int .i64 o.prio, .int .i64 o.bits] 25


def limitO (o : Opt) : Int := if 1 ≤ o.maxLen ∧ o.maxLen ≤ 60 then o.maxLen else 60
/-- The lesser one of those that are above 0; 0, if none is. -/
def shorter (t u : Int) : Int := if 0 < t then (if 0 < u ∧ u < t then u else t) else if 0 < u then u else 0
def forE (e : Ent) (o : Opt) (now : Int) : Ent :=
  { e with prio := max (min e.prio o.prio) 0, til := if 0 < shorter e.ttl o.ttl then IntKind.i64.wrap (now + shorter e.ttl o.ttl) else 0 }
def isO (o : Opt) : Bool := decide ((0 ≤ o.maxLen ∧ o.maxLen ≤ 60) ∧ (0 ≤ o.ttl ∧ o.ttl ≤ 10000) ∧ (0 ≤ o.prio ∧ o.prio ≤ 3) ∧ (0 ≤ o.bits ∧ o.bits ≤ 15) ∧ o.dead.length ≤ 12 ∧ o.deadKey.length ≤ 40)
/-- Bits without Passive. -/
def lastB (n : Int) : Int := bits .andNot .i64 n 8
def lastO (o : Opt) : Opt := { o with bits := lastB o.bits }
def sameO (a b : Opt) : Bool := decide (a.dead = b.dead ∧ a.deadKey = b.deadKey ∧ a.maxLen = b.maxLen ∧ a.ttl = b.ttl ∧ a.prio = b.prio ∧ lastB a.bits = lastB b.bits)
end Go.Proofs.Ytmmagapggmcceaa
