import Derived.Test.YtknjamfjonapiaaGreatDoorZ11
import Derived.Test.YtknjamfjonapiaaGreatDoorZ02
import Derived.Test.YtknjamfjonapiaaGreatDoorZ21
import Derived.Test.YtknjamfjonapiaaGreatDoorZ09
import Derived.Test.YtknjamfjonapiaaGreatDoorZ22
import Derived.Deep.RegionHeld3
import Derived.Deep.RegionLaw
import Derived.Deep.RegionWith
import Derived.Deep.Fields
import Derived.StillTailTactics
import Derived.Deep.QuietTactic
import Derived.BigQuiet
import Derived.Test.YtknjamfjonapiaaGreatDoorZ01
namespace Go.Proofs.YtknjamfjonapiaaGreatDoor
open Go.RowKit
set_option linter.unusedVariables false
set_option linter.unusedSectionVars false
set_option linter.unusedSimpArgs false
set_option maxRecDepth 100000
def exclB (n : Int) : Bool := bits .and .i64 n 1 != 0
def passB (n : Int) : Bool := bits .and .i64 n 8 != 0
def Sto.at_ (S : Sto) (n : List UInt8) : Option (Nat × Plq) := (S.idx n).bind fun i => (S.L[i]?).map fun d => (i, d)
def Sto.open_ (S : Sto) (n : List UInt8) (q : Int) : Int × Option (Nat × Plq) := match S.at_ n with
 | none => (404, none)
 | some x => if exclB x.2.o.bits = true ∧ x.2.conn ≠ q then (405, none) else (0, some x)
def Sto.byNum (S : Sto) (k : Int) : Option Nat := S.L.findIdx? fun p => p.num == k
def Sto.dones (S : Sto) (M : List Ent) : Sto := M.foldl (fun S e => S.letGo e.body) S
def Sto.emptied (S : Sto) (i : Nat) (d : Plq) : Sto := (S.setM i d []).dones d.M
def Sto.out (S : Sto) (i : Nat) (d : Plq) : Sto := { S with L := S.L.eraseIdx i, P := (dropqX S.P S.A d.name).1, A := (dropqX S.P S.A d.name).2 }
def Sto.removed (S : Sto) (i : Nat) (d : Plq) : Sto := (S.out i d).dones d.M
def Sto.setG (S : Sto) (i : Nat) (d : Plq) (G : List Gst) (T : Nat) : Sto := { S with L := S.L.set i { d with G := G, T := T } }
def Sto.declare (S : Sto) (n : List UInt8) (o : Opt) (q : Int) : Sto × Int :=
 if isNm n = false ∨ isO o = false then (S, 406)
 else match S.open_ n q with
 | (_, some x) => if sameO x.2.o o = true then (S, 0) else (S, 406)
 | (e, none) => if e = 405 then (S, 405) else if 8 ≤ S.L.length then (S, 506)
  else ({ S with num := S.num + 1, L := S.L ++ [⟨n, S.num + 1, q, o, [], [], 0⟩] }, 0)
def Sto.asked (S : Sto) (n : List UInt8) (q : Int) : Int × Int × Int := match S.open_ n q with
 | (e, none) => (0, 0, e)
 | (_, some x) => (x.2.M.length, x.2.G.length, 0)
def Sto.queue (S : Sto) (n : List UInt8) (o : Opt) (q : Int) : Sto × Int × Int × Int :=
 if passB o.bits = true then (S, S.asked n q)
 else if (S.declare n o q).2 ≠ 0 then ((S.declare n o q).1, 0, 0, (S.declare n o q).2)
 else ((S.declare n o q).1, (S.declare n o q).1.asked n q)
def Sto.exch (S : Sto) (n k : List UInt8) (bt : Int) : Sto × Int := ({ S with P := (declX S.P n (kindL k) (autoB bt)).1 }, (declX S.P n (kindL k) (autoB bt)).2)
def Sto.bind (S : Sto) (b : Bnd) (q : Int) : Sto × Int := match S.open_ b.2.1 q with
 | (e, none) => (S, e)
 | (_, some _) => ({ S with A := (bindX S.P S.A b).1 }, (bindX S.P S.A b).2)
def Sto.purge (S : Sto) (n : List UInt8) (q : Int) : Sto × Int × Int := match S.open_ n q with
 | (e, none) => (S, 0, e)
 | (_, some x) => (S.emptied x.1 x.2, x.2.M.length, 0)
def Sto.delete (S : Sto) (n : List UInt8) (bt q : Int) : Sto × Int × Int := match S.open_ n q with
 | (e, none) => (S, 0, e)
 | (_, some x) => if (unuB bt = true ∧ 0 < x.2.G.length) ∨ (autoB bt = true ∧ 0 < x.2.M.length) then (S, 0, 406) else (S.removed x.1 x.2, x.2.M.length, 0)
def Sto.take (S : Sto) (n : List UInt8) (q : Int) : Sto × Ent × Int × Int × Int := match S.open_ n q with
 | (e, none) => (S, z0E, 0, 0, e)
 | (_, some x) => match x.2.M with
  | [] => (S, z0E, 0, 0, 14)
  | e :: M => (S.setM x.1 x.2 M, e, x.2.num, M.length, 0)
def Sto.consume (S : Sto) (n : List UInt8) (g : Gst) : Sto × Int := match S.open_ n g.conn with
 | (e, none) => (S, e)
 | (_, some x) => if soleG x.2.G = true ∨ (g.sole = true ∧ 0 < x.2.G.length) then (S, 403)
  else if addOkG x.2.G g = true then (S.setG x.1 x.2 (addG x.2.G g) x.2.T, 0) else (S, 406)
def Sto.back (S : Sto) (k : Int) (e : Ent) : Sto := match (S.byNum k).bind fun i => (S.L[i]?).map fun d => (i, d) with
 | none => S.letGo e.body
 | some x => if putOk x.2.M (againE e) = true then S.setM x.1 x.2 (putM x.2.M (againE e)) else S.letGo e.body
def Sto.dead (S : Sto) (k : Int) (e : Ent) : Sto := match S.byNum k with
 | none => S.letGo e.body
 | some i => (Cf.mk S [.dead i [e]] false).fin.S
def Sto.pubC (S : Sto) (e : Ent) : Cf := (Cf.mk S.born [S.mail true e] false).fin
def Sto.publish (S : Sto) (e : Ent) : Sto × Bool × Int := ((S.pubC e).S, !(S.pubC e).r, (S.tos e.exch e.key).length)
def sweep (f : Sto → Nat → Sto) : Sto → Nat → Nat → Sto
 | S, _, 0 => S
 | S, i, n + 1 => sweep f (f S i) (if (f S i).L.length < S.L.length then i else i + 1) n
def Sto.unused (S : Sto) (i : Nat) : Sto := match S.L[i]? with
 | none => S
 | some d => if autoB d.o.bits = true ∧ d.G = [] then S.removed i d else S
def Sto.cancel1 (c h : Int) (t : List UInt8) (S : Sto) (i : Nat) : Sto := match S.L[i]? with
 | none => S
 | some d => if (idxG d.G c h t).isSome = true then (S.setG i d (dropM d.G c h t) (dropT d.G d.T c h t)).unused i else S
def goG (c : Int) : List Gst → List Gst × Nat → List Gst × Nat
 | [], x => x
 | g :: l, x => if g.conn = c then (dropM (goG c l x).1 g.conn g.chan g.tag, dropT (goG c l x).1 (goG c l x).2 g.conn g.chan g.tag) else goG c l x
def Sto.leave1 (c : Int) (S : Sto) (i : Nat) : Sto := match S.L[i]? with
 | none => S
 | some d => if (d.G.any fun g => g.conn == c) = true then (S.setG i d (goG c d.G (d.G, d.T)).1 (goG c d.G (d.G, d.T)).2).unused i else S
def Sto.leave2 (c : Int) (S : Sto) (i : Nat) : Sto := match S.L[i]? with
 | none => S
 | some d => if exclB d.o.bits = true ∧ d.conn = c then S.removed i d else S
def Sto.leave (S : Sto) (c : Int) : Sto := sweep (Sto.leave2 c) (sweep (Sto.leave1 c) S 0 S.L.length) 0 (sweep (Sto.leave1 c) S 0 S.L.length).L.length
def Sto.readyOf (S : Sto) (n : List UInt8) : List Ent := match S.at_ n with | none => [] | some x => x.2.M
def Sto.guestsOf (S : Sto) (n : List UInt8) : List Gst := match S.at_ n with | none => [] | some x => x.2.G
def Sto.pick (S : Sto) (n : List UInt8) (sl : Nat) (s : Nat → Bool) : Sto × Gst × Ent × Int × Bool := match S.at_ n with
 | none => (S, z0G, z0E, 0, false)
 | some x => match x.2.M with
  | [] => (S, z0G, z0E, 0, false)
  | e :: M => match pickG x.2.G.length x.2.T (sparG x.2.G.length sl s) with
   | none => (S, z0G, z0E, 0, false)
   | some k => match x.2.G[k]? with
    | none => (S, z0G, z0E, 0, false)
    | some g => ({ S with L := S.L.set x.1 { x.2 with M := M, T := turnG x.2.G.length (k + 1) } }, g, e, x.2.num, true)
abbrev ptrO (o : Option Nat) : Value := .pointer (o.map fun b => ⟨b, 0, none⟩)
def ptrQ (bs : List Nat) (o : Option Nat) : Value := ptrO (o.bind fun i => bs[i]?)
theorem ptrQ_none (bs : List Nat) : ptrQ bs none = .pointer none := rfl
theorem ptrQ_some {bs : List Nat} {i b : Nat} (h : bs[i]? = some b) : ptrQ bs (some i) = bpt b := by
 simp [ptrQ, ptrO, h]
structure TellsQ (w : World) (g : Nat) (cb : Array Value) (bs : List Nat) (L : List Plq) (f : Plq → Bool) : Prop where
 go : ∀ args w, (callFunc g args).run Tryz.prog w = .ok (.enter g args) w
 is : ∀ w1, Below w.heap.size w w1 → ∀ (i b : Nat) d, bs[i]? = some b → L[i]? = some d → Calls Tryz.prog g (#[bpt b] ++ cb) w1 fun e w2 => e = .returned (.bool (f d)) ∧ Below w1.heap.size w1 w2
def SFindJ (w : World) (sb : Nat) (fv : Value) (bs : List Nat) (L : List Plq) (f : Plq → Bool) (g : Nat) (a' : Act) (w' : World) : Prop :=
 ∃ i : Nat, i + g = bs.length ∧ (∀ (j : Nat) d, j < i → L[j]? = some d → f d = false) ∧ Fr 31 [(0, bpt sb), (1, fv), (5, .int .i64 i)] a' ∧ Below w.heap.size w w'
theorem findIdx_here {L : List Plq} {f : Plq → Bool} {i : Nat} {d : Plq} (h : ∀ (j : Nat) d, j < i → L[j]? = some d → f d = false) (hd : L[i]? = some d) (hf : f d = true) : L.findIdx? f = some i := by
 rw [List.findIdx?_eq_some_iff_getElem]
 obtain ⟨hl, rfl⟩ := List.getElem?_eq_some_iff.1 hd
 exact ⟨hl, hf, fun j hj => by rw [h j _ hj (List.getElem?_eq_getElem (by omega))]; decide⟩
theorem findIdx_nowhere {L : List Plq} {f : Plq → Bool} (h : ∀ (j : Nat) d, j < L.length → L[j]? = some d → f d = false) : L.findIdx? f = none := by
 rw [List.findIdx?_eq_none_iff]
 intro x hx
 obtain ⟨j, hj, rfl⟩ := List.mem_iff_getElem.1 hx
 exact h j _ hj (List.getElem?_eq_getElem hj)
section
variable {qT : Bool} {B : Nat} {w0 w w' : World} {sb pb qb gb c c' i k : Nat} {bs : List Nat} {S S' : Sto} {d d' : Plq} {F F' Z : List (Nat × Obj)} {o : Opt} {M : List Ent} {G : List Gst} {T : Nat} {n : List UInt8} {q : Int}
set_option maxHeartbeats 2000000 in
theorem sfind_any {g : Nat} {cb : Array Value} {f : Plq → Bool} (h : StoIs qT B w0 w sb bs S F c) (hp : TellsQ w g cb bs S.L f) :
  Calls Tryz.prog 126 #[bpt sb, .func (.func g) #[] cb] w fun e w' => e = .returned (ptrQ bs (S.L.findIdx? f)) ∧ Below w.heap.size w w' := by
 obtain ⟨eg, his⟩ := hp
 obtain ⟨a, cap, c2, hrows⟩ := h.rows
 have hlen := Lib.hid h.len
 have hfew : bs.length ≤ 8 := by have := h.fine.few; rw [h.len]; exact this
 have hc := Lib.hid (fun w' (hb : Below w.heap.size w w') => cellUp c2 hb)
 have hr : Hid (∀ w', Below w.heap.size w w' → ∀ (i : Nat) b, bs[i]? = some b → ∃ g off, a = some ⟨g, off, none⟩ ∧ w'.cell? ⟨g, off + i, none⟩ = some (bpt b)) := Lib.hid fun w' hb i b hi => by
  obtain ⟨g, off, e, hcell⟩ := hrows i b hi
  exact ⟨g, off, e, cellUp hcell hb⟩
 have hg := Lib.hid his
 obtain ⟨ans, ha⟩ : ∃ ans, ans = ptrQ bs (S.L.findIdx? f) := ⟨_, rfl⟩
 rw [← ha]
 replace ha := Lib.hid ha
 clear h hrows his c2
 go_enter Tryz.func126, Tryz.ntmps126
 go_wp2_with fail
 refine wp_scope_ghost 0 (SFindJ w sb (.func (.func g) #[] cb) bs S.L f) rfl ?_ ?_
 ·rintro m a' w' ⟨i, hi, hno, hfr, hbel⟩
  obtain ⟨q, rfl, hl'⟩ := hfr.lit
  clear hfr
  simp only [List.mem_cons, List.not_mem_nil, or_false, forall_eq_or_imp, forall_eq] at hl'
  obtain ⟨f0, f1, f5⟩ := hl'
  simp only [List.range, List.range.loop, List.map, f0, f1, f5]
  clear f0 f1 f5
  have hi0 : (0 : Int) ≤ i := by omega
  have ct := hc.out w' hbel
  by_cases hlt : i < bs.length
  ·have hx : bs[i]? = some bs[i] := List.getElem?_eq_getElem hlt
   have hlt2 : i < S.L.length := by have := hlen.out; omega
   have hd : S.L[i]? = some S.L[i] := List.getElem?_eq_getElem hlt2
   generalize bs[i] = b at hx
   generalize S.L[i] = d at hd
   have hi1 : (i : Int) < bs.length := by omega
   have hne : ((i : Int) == bs.length) = false := by rw [beq_eq_false_iff_ne]; omega
   obtain ⟨g1, o1, rfl, k1⟩ := hr.out w' hbel i b hx
   have cc := Lib.hid (hg.out w' hbel i b d hx hd)
   have hx2 : Hid (∀ w2, Below w'.heap.size w' w2 → w2.cell? ⟨sb, 2, none⟩ = some (.slice (some ⟨g1, o1, none⟩) bs.length cap) ∧ w2.cell? ⟨g1, o1 + i, none⟩ = some (bpt b)) := Lib.hid fun w2 hb => ⟨cellUp ct hb, cellUp k1 hb⟩
   cases hfd : f d with
   | true =>
    have e1 : ans = bpt b := by rw [ha.out, findIdx_here hno hd hfd, ptrQ_some hx]
    rw [hfd] at cc
    have fin := Lib.hid (fun w2 (hb : Below w'.heap.size w' w2) => bel hbel hb)
    subst e1
    clear hno hx hd hfd hg hr ha hbel
    go_wp2_with fail
    refine cc.out.mono ?_
    rintro e w2 ⟨rfl, hb⟩
    obtain ⟨y1, y2⟩ := hx2.out w2 hb
    replace fin := Lib.hid (fin.out w2 hb)
    clear hb hx2 cc ct k1
    go_wp2_with fail
    simp only [Exit.jump]
    go_ret
    exact ⟨rfl, fin.out⟩
   | false =>
    rw [hfd] at cc
    have nxt : Hid (∀ w2, Below w'.heap.size w' w2 → ∀ a', Fr 31 [(0, bpt sb), (1, .func (.func g) #[] cb), (5, .int .i64 ((i + 1 : Nat) : Int))] a' → ∃ k, k < m ∧ SFindJ w sb (.func (.func g) #[] cb) bs S.L f k a' w2) := Lib.hid fun w2 hb a' hf =>
     ⟨m - 1, by omega, i + 1, by omega, fun j d' hj hd' => by
      rcases Nat.lt_succ_iff_lt_or_eq.1 hj with hj | rfl
      ·exact hno j d' hj hd'
      ·rw [hd] at hd'
       obtain rfl := Option.some.inj hd'
       exact hfd, hf, bel hbel hb⟩
    clear hno hx hd hfd hg hr ha hbel
    go_wp2_with fail
    refine cc.out.mono ?_
    rintro e w2 ⟨rfl, hb⟩
    replace nxt := Lib.hid (nxt.out w2 hb)
    clear hb hx2 cc ct k1
    go_wp2_with fail
    refine wp_goto ?_
    exact ⟨rfl, nxt.out _ ⟨rfl, rfl, by simp⟩⟩
  ·obtain rfl : i = bs.length := by omega
   have e1 : ans = .pointer none := by
    rw [ha.out, findIdx_nowhere (fun j d hj => hno j d (by have := hlen.out; omega)), ptrQ_none]
   subst e1
   replace hbel := Lib.hid hbel
   clear hno hg hr ha
   go_wp2_with fail
   simp only [Exit.jump]
   go_ret
   exact ⟨rfl, hbel.out⟩
 ·intro H
  clear hg hr ha hc
  go_wp2_with fail
  refine wp_label ?_
  go_step
  go_step
  exact H bs.length _ _ ⟨0, by omega, fun j d hj => absurd hj (by omega), ⟨rfl, rfl, by simp⟩, Below.refl _ _⟩
theorem StoIs.seeP (h : StoIs qT B w0 w sb bs S F c) {b : Nat} (hb : bs[i]? = some b) (hd : S.L[i]? = some d) : ∃ qb gb, SeeP w b qb gb d := by
 obtain ⟨pb, qb, gb, h1, h2, -⟩ := h.place hd
 rw [hb] at h1
 obtain rfl := Option.some.inj h1
 exact ⟨qb, gb, h2⟩
set_option maxHeartbeats 1000000 in
theorem named_one {b nb : Nat} {x n : List UInt8} {r : Bool} (hr : (x == n) = r) (h1 : w.cell? ⟨b, 0, none⟩ = some (tx x)) (h2 : w.cell? ⟨nb, 0, none⟩ = some (tx n)) :
  Calls Tryz.prog 127 #[bpt b, bpt nb] w fun e w2 => e = .returned (.bool r) ∧ Below w.heap.size w w2 := by
 go_enter Tryz.func127, Tryz.ntmps127
 go_wp2_with fail
 go_quiet (fail)
 go_wp2_with fail
 go_ret
 exact ⟨rfl, drewN_below w _⟩
set_option maxHeartbeats 1000000 in
theorem named_any (h : StoIs qT B w0 w sb bs S F c) (n : List UInt8) : Calls Tryz.prog 68 #[bpt sb, tx n] w fun e w' => e = .returned (ptrQ bs (S.idx n)) ∧ Below w.heap.size w w' := by
 have h1 := h.alloc (.cells #[tx n] 9)
 have hn : (w.alloc (.cells #[tx n] 9)).cell? ⟨w.heap.size, 0, none⟩ = some (tx n) := h1.cell List.mem_cons_self rfl
 have ht : TellsQ (w.alloc (.cells #[tx n] 9)) 127 #[bpt w.heap.size] bs S.L (fun p => p.name == n) := ⟨fun args w => by kernel_rfl, fun w1 hb i b d hi hd => by
  obtain ⟨qb, gb, hs⟩ := h1.seeP hi hd
  exact named_one rfl (cellUp hs.c0 hb) (cellUp hn hb)⟩
 have cf := Lib.hid (sfind_any h1 ht)
 have fin := Lib.hid (fun w2 (hb : Below (w.alloc (.cells #[tx n] 9)).heap.size (w.alloc (.cells #[tx n] 9)) w2) => bel (new_below w (.cells #[tx n] 9)) hb)
 obtain ⟨ans, ha⟩ : ∃ ans, ans = ptrQ bs (S.idx n) := ⟨_, rfl⟩
 rw [← ha]
 rw [show ptrQ bs (S.L.findIdx? fun p => p.name == n) = ans from ha.symm] at cf
 clear h h1 hn ht ha
 go_enter Tryz.func68, Tryz.ntmps68
 go_wp2_with fail
 refine cf.out.mono ?_
 rintro e w2 ⟨rfl, hb⟩
 replace fin := Lib.hid (fin.out w2 hb)
 clear cf hb
 go_wp2_with fail
 go_ret
 exact ⟨rfl, fin.out⟩
theorem uOptB : ∃ fs f, Tryz.prog.underlying 34 = some (.struct fs) ∧ fs[5]? = some f ∧ f.type = 3 ∧ f.offset = 5 := by
 have h : (Tryz.prog.underlying 34).map (fun t => match t with | .struct fs => (fs[5]?).map (fun f => (f.type, f.offset)) | _ => none) = some (some (3, 5)) := by kernel_rfl
 rw [Option.map_eq_some_iff] at h
 obtain ⟨t, h1, h2⟩ := h
 cases t <;> simp only at h2 <;> try (cases h2; done)
 rw [Option.map_eq_some_iff] at h2
 obtain ⟨f, h3, h4⟩ := h2
 simp only [Prod.mk.injEq] at h4
 exact ⟨_, _, h1, h3, h4.1, h4.2⟩
theorem field_bits (v : Int) (x0 x1 x2 x3 x4 : Value) (W : World) : (Instr.field 34 (.agg #[x0, x1, x2, x3, x4, .int .i64 v]) 5).run Tryz.prog W = .ok (.int .i64 v) W := by
 obtain ⟨fs, f, h1, h2, h3, h4⟩ := uOptB
 simp [Instr.field, go_sem, asAgg, h1, h2, h3, h4]
set_option maxHeartbeats 1000000 in
theorem excl_any (h : QuIs B w0 w qb o M F) (h3 : w.cell? ⟨pb, 3, none⟩ = some (rptr qb)) : Calls Tryz.prog 92 #[bpt pb] w fun e w' => e = .returned (.bool (exclB o.bits)) ∧ QuIs B w0 w' qb o M F := by
 have co := Lib.hid (qu_opts h)
 have hf := fun W => field_bits o.bits (tx o.dead) (tx o.deadKey) (.int .i64 o.maxLen) (.int .i64 o.ttl) (.int .i64 o.prio) W
 unfold exclB
 clear h
 go_enter Tryz.func92, Tryz.ntmps92
 go_wp2_with fail
 refine co.out.mono ?_
 rintro e w2 ⟨rfl, hq⟩
 replace hq := Lib.hid hq
 clear co
 go_wp2_with fail
 go_ret
 exact ⟨rfl, hq.out⟩
set_option maxHeartbeats 1000000 in
theorem autod_any (h : QuIs B w0 w qb o M F) (h3 : w.cell? ⟨pb, 3, none⟩ = some (rptr qb)) : Calls Tryz.prog 155 #[bpt pb] w fun e w' => e = .returned (.bool (autoB o.bits)) ∧ QuIs B w0 w' qb o M F := by
 have co := Lib.hid (qu_opts h)
 have hf := fun W => field_bits o.bits (tx o.dead) (tx o.deadKey) (.int .i64 o.maxLen) (.int .i64 o.ttl) (.int .i64 o.prio) W
 unfold autoB
 clear h
 go_enter Tryz.func155, Tryz.ntmps155
 go_wp2_with fail
 refine co.out.mono ?_
 rintro e w2 ⟨rfl, hq⟩
 replace hq := Lib.hid hq
 clear co
 go_wp2_with fail
 go_ret
 exact ⟨rfl, hq.out⟩
end
abbrev noneV : Ending := .returned (.tuple #[])
def HeldOk (S : Sto) : Prop := ∀ x ∈ S.sl.bs, x.2.1 < 9223372036854775807
def newS (room : Int) : Sto := ⟨SV.new room, [], [], [], 0, 0, 0⟩
section
variable {qT : Bool} {B : Nat} {w0 w w' : World} {sb pb qb gb c c' i k : Nat} {bs : List Nat} {S S' : Sto} {d d' : Plq} {F F' Z : List (Nat × Obj)} {o : Opt} {M : List Ent} {G : List Gst} {T : Nat} {n : List UInt8} {q z : Int} {e : Ent}
set_option maxHeartbeats 1000000 in
theorem st_new (hT : qT = true → Tab B w0) (hM : Most B w0) (h : St B w0 w F) (room : Int) : Calls Tryz.prog 13 #[.int .i64 room] w fun e w' => ∃ sb, e = .returned (bpt sb) ∧ StoIs qT B w0 w' sb [] (newS room) F 1 := by
 have cn := Lib.hid (new_is h room)
 have fin : Hid (∀ w', SlabIs B w0 w' w.heap.size (SV.new room) F → StoIs qT B w0 (w'.alloc (soO w.heap.size (.pointer none) (.slice none 0 0) (newS room))) w'.heap.size [] (newS room) F 1) := Lib.hid fun w' h' => by
  obtain ⟨SS, h1, h2⟩ := h'.in_
  refine ⟨[], w.heap.size, .pointer none, .slice none 0 0, [], [], SS, ⟨rfl, rfl, SlIs.nil, h2, .inl ⟨rfl, rfl, rfl, rfl⟩, by simp, ?_, hT, hM, Nat.le_refl _⟩, ?_⟩
  ·exact ⟨by simp [newS], by simp [newS], by simp [newS], by simp [newS], Int.le_refl _, by simp [newS], FineX.nil⟩
  ·simpa [stoO, pqsO] using h1.alloc (soO w.heap.size (.pointer none) (.slice none 0 0) (newS room))
 clear h
 generalize w.heap.size = slb at *
 go_enter Tryz.func13, Tryz.ntmps13
 go_wp2_with fail
 refine cn.out.mono ?_
 rintro e w1 ⟨rfl, h1⟩
 replace fin := Lib.hid (fin.out w1 h1)
 clear cn h1
 go_wp2_with fail
 go_ret
 exact ⟨_, rfl, fin.out⟩
set_option maxHeartbeats 400000 in
theorem st_slab {slb : Nat} (h0 : w.cell? ⟨sb, 0, none⟩ = some (ptr slb)) : Calls Tryz.prog 21 #[bpt sb] w fun e w' => e = .returned (ptr slb) ∧ w' = w := by
 go_enter Tryz.func21, Tryz.ntmps21
 go_wp2_with fail
 go_ret
 exact ⟨rfl, rfl⟩
set_option maxHeartbeats 400000 in
theorem st_now (h : StoIs qT B w0 w sb bs S F c) : Calls Tryz.prog 38 #[bpt sb] w fun e w' => e = .returned (.int .i64 S.now) ∧ w' = w := by
 obtain ⟨slb, xv, v, hs⟩ := h.see
 have h5 := hs.c5
 clear hs h
 go_enter Tryz.func38, Tryz.ntmps38
 go_wp2_with fail
 go_ret
 exact ⟨rfl, rfl⟩
set_option maxHeartbeats 1000000 in
theorem st_letgo (h : StoIs qT B w0 w sb bs S F c) (hh : HeldOk S) {b : Int} (hS : S.letGo b = S') : Calls Tryz.prog 70 #[bpt sb, .int .i64 b] w fun e w' => e = noneV ∧ StoIs qT B w0 w' sb bs S' F c := by
 unfold Sto.letGo at hS
 by_cases hb : 0 < b
 ·rw [if_pos hb] at hS
  obtain ⟨slb, Z, c0, h1, h2⟩ := h.slab
  have cs := Lib.hid (st_slab c0)
  have cd := Lib.hid (sb_drop_is h1 b hh)
  have fin : Hid (∀ w', SlabIs B w0 w' slb (S.sl.drop b).2 (Z ++ F) → StoIs qT B w0 w' sb bs S' F c) := Lib.hid fun w' h' => by rw [← hS]; exact h2 w' _ F h'
  clear h h1 h2 c0 hS hh
  go_enter Tryz.func70, Tryz.ntmps70
  go_wp2_with fail
  refine cs.out.mono ?_
  rintro e w1 ⟨rfl, rfl⟩
  clear cs
  go_wp2_with fail
  refine cd.out.mono ?_
  rintro e w2 ⟨rfl, h3⟩
  replace fin := Lib.hid (fin.out w2 h3)
  clear cd h3
  go_wp2_with fail
  exact bodyPost_end (results_none rfl _ _ _) rfl ⟨rfl, fin.out⟩
 ·rw [if_neg hb] at hS
  subst hS
  replace h := Lib.hid h
  clear hh
  go_enter Tryz.func70, Tryz.ntmps70
  go_wp2_with fail
  exact bodyPost_end (results_none rfl _ _ _) rfl ⟨rfl, h.out⟩
set_option maxHeartbeats 1000000 in
theorem st_hold (h : StoIs qT B w0 w sb bs S F c) (hh : HeldOk S) {b : Int} (hS : S.hold b = S') : Calls Tryz.prog 357 #[bpt sb, .int .i64 b] w fun e w' => e = noneV ∧ StoIs qT B w0 w' sb bs S' F c := by
 unfold Sto.hold at hS
 by_cases hb : 0 < b
 ·rw [if_pos hb] at hS
  obtain ⟨slb, Z, c0, h1, h2⟩ := h.slab
  have cs := Lib.hid (st_slab c0)
  have cd := Lib.hid (hold_is h1 b hh)
  have fin : Hid (∀ w', SlabIs B w0 w' slb (S.sl.hold b).2 (Z ++ F) → StoIs qT B w0 w' sb bs S' F c) := Lib.hid fun w' h' => by rw [← hS]; exact h2 w' _ F h'
  clear h h1 h2 c0 hS hh
  go_enter Tryz.func357, Tryz.ntmps357
  go_wp2_with fail
  refine cs.out.mono ?_
  rintro e w1 ⟨rfl, rfl⟩
  clear cs
  go_wp2_with fail
  refine cd.out.mono ?_
  rintro e w2 ⟨rfl, h3⟩
  replace fin := Lib.hid (fin.out w2 h3)
  clear cd h3
  go_wp2_with fail
  exact bodyPost_end (results_none rfl _ _ _) rfl ⟨rfl, fin.out⟩
 ·rw [if_neg hb] at hS
  subst hS
  replace h := Lib.hid h
  clear hh
  go_enter Tryz.func357, Tryz.ntmps357
  go_wp2_with fail
  exact bodyPost_end (results_none rfl _ _ _) rfl ⟨rfl, h.out⟩
set_option maxHeartbeats 1000000 in
theorem st_done (h : StoIs qT B w0 w sb bs S F c) (hh : HeldOk S) (e : Ent) (hS : S.letGo e.body = S') : Calls Tryz.prog 24 #[bpt sb, enV e] w fun r w' => r = noneV ∧ StoIs qT B w0 w' sb bs S' F c := by
 have h1 := h.alloc (enO e)
 have cl : Hid (Calls Tryz.prog 70 #[bpt sb, .int .i64 e.body] (w.alloc (enO e)) fun r w' => r = noneV ∧ StoIs qT B w0 w' sb bs S' F c) :=
  Lib.hid ((st_letgo h1 hh hS).mono fun r w' ⟨a, b⟩ => ⟨a, b.sub (List.sublist_cons_self _ _)⟩)
 clear h h1 hS hh
 go_enter Tryz.func24, Tryz.ntmps24
 go_wp2_with fail
 refine cl.out.mono ?_
 rintro r w1 ⟨rfl, h1⟩
 replace h1 := Lib.hid h1
 clear cl
 go_wp2_with fail
 exact bodyPost_end (results_none rfl _ _ _) rfl ⟨rfl, h1.out⟩
theorem idx_at (S : Sto) (n : List UInt8) : (S.idx n = none ∧ S.at_ n = none) ∨ ∃ i d, S.idx n = some i ∧ S.L[i]? = some d ∧ S.at_ n = some (i, d) ∧ d.name = n := by
 unfold Sto.at_
 cases h : S.idx n with
 | none => exact .inl ⟨rfl, rfl⟩
 | some i =>
  obtain ⟨hl, hn, -⟩ := List.findIdx?_eq_some_iff_getElem.1 h
  exact .inr ⟨i, S.L[i], rfl, List.getElem?_eq_getElem hl, by rw [Option.bind_some, List.getElem?_eq_getElem hl]; rfl, by simpa using hn⟩
theorem open_ways (S : Sto) (n : List UInt8) (q : Int) : (∃ z, S.open_ n q = (z, none) ∧ (z = 404 ∨ z = 405)) ∨ ∃ i d, S.open_ n q = (0, some (i, d)) ∧ S.idx n = some i ∧ S.L[i]? = some d ∧ S.at_ n = some (i, d) ∧ d.name = n := by
 unfold Sto.open_
 rcases idx_at S n with ⟨-, h⟩ | ⟨i, d, h1, h2, h3, h4⟩
 ·rw [h]; exact .inl ⟨404, rfl, .inl rfl⟩
 ·rw [h3]
  simp only
  by_cases hx : exclB d.o.bits = true ∧ d.conn ≠ q
  ·rw [if_pos hx]; exact .inl ⟨405, rfl, .inr rfl⟩
  ·rw [if_neg hx]; exact .inr ⟨i, d, rfl, h1, h2, rfl, h4⟩
theorem StoIs.blk (h : StoIs qT B w0 w sb bs S F c) (hi : S.L[i]? = some d) : ∃ pb, bs[i]? = some pb := by
 obtain ⟨pb, qb, gb, h1, -⟩ := h.place hi
 exact ⟨pb, h1⟩
theorem setM_same (hi : S.L[i]? = some d) : S.setM i d d.M = S := by
 unfold Sto.setM
 obtain ⟨hl, rfl⟩ := List.getElem?_eq_some_iff.1 hi
 rw [List.set_getElem_self]
set_option maxHeartbeats 2000000 in
theorem st_open (h : StoIs qT B w0 w sb bs S F c) (n : List UInt8) (q : Int) : Calls Tryz.prog 71 #[bpt sb, tx n, .int .i64 q] w fun e w' =>
  e = .returned (.tuple #[ptrQ bs ((S.open_ n q).2.map (·.1)), .int .i64 (S.open_ n q).1]) ∧ StoIs qT B w0 w' sb bs S F c := by
 have cn := Lib.hid (named_any h n)
 unfold Sto.open_
 rcases idx_at S n with ⟨e1, e2⟩ | ⟨i, d, e1, hi, e2, -⟩
 ·rw [e2]
  rw [e1, ptrQ_none] at cn
  replace h := Lib.hid h
  simp only [Option.map_none, ptrQ_none]
  clear e1 e2
  go_enter Tryz.func71, Tryz.ntmps71
  go_wp2_with fail
  refine cn.out.mono ?_
  rintro e w1 ⟨rfl, hb⟩
  have fin := Lib.hid (h.out.grow hb)
  clear cn hb h
  go_wp2_with fail
  go_ret2
  exact ⟨rfl, fin.out⟩
 ·rw [e2]
  obtain ⟨pb, hpb⟩ := h.blk hi
  rw [e1, ptrQ_some hpb] at cn
  have see : Hid (∀ w1, Below w.heap.size w w1 → ∃ qb, w1.cell? ⟨pb, 3, none⟩ = some (rptr qb) ∧ Calls Tryz.prog 92 #[bpt pb] w1 fun e w' => e = .returned (.bool (exclB d.o.bits)) ∧ w'.cell? ⟨pb, 2, none⟩ = some (.int .i64 d.conn) ∧ StoIs qT B w0 w' sb bs S F c) := Lib.hid fun w1 hb => by
   obtain ⟨pb', qb, gb, h1, h2, ⟨Z, h3, h4⟩, -⟩ := (h.grow hb).place hi
   rw [hpb] at h1
   obtain rfl := Option.some.inj h1
   refine ⟨qb, h2.c3, (excl_any h3 h2.c3).mono ?_⟩
   rintro e w' ⟨rfl, h5⟩
   obtain ⟨h6, h7⟩ := h4 _ _ _ h5
   rw [setM_same hi] at h7
   exact ⟨rfl, h6.c2, h7⟩
  simp only
  obtain ⟨ex, hex⟩ : ∃ ex, ex = exclB d.o.bits := ⟨_, rfl⟩
  rw [← hex] at see ⊢
  generalize d.conn = cn0 at *
  by_cases hc : ex = true ∧ cn0 ≠ q
  ·rw [if_pos hc]
   simp only [Option.map_none, ptrQ_none]
   obtain ⟨rfl, hc⟩ := hc
   have hcb : (cn0 != q) = true := by simpa using hc
   clear e1 e2 hi hex hpb h hc
   go_enter Tryz.func71, Tryz.ntmps71
   go_wp2_with fail
   refine cn.out.mono ?_
   rintro e w1 ⟨rfl, hb⟩
   obtain ⟨qb, -, ce⟩ := see.out w1 hb
   replace ce := Lib.hid ce
   clear cn hb see
   go_wp2_with fail
   refine ce.out.mono ?_
   rintro e w2 ⟨rfl, c2, h2⟩
   replace h2 := Lib.hid h2
   clear ce
   go_wp2_with fail
   go_ret2
   exact ⟨rfl, h2.out⟩
  ·rw [if_neg hc]
   simp only [Option.map_some, ptrQ_some hpb]
   cases ex with
   | false =>
    clear e1 e2 hi hex hpb h hc
    go_enter Tryz.func71, Tryz.ntmps71
    go_wp2_with fail
    refine cn.out.mono ?_
    rintro e w1 ⟨rfl, hb⟩
    obtain ⟨qb, -, ce⟩ := see.out w1 hb
    replace ce := Lib.hid ce
    clear cn hb see
    go_wp2_with fail
    refine ce.out.mono ?_
    rintro e w2 ⟨rfl, c2, h2⟩
    replace h2 := Lib.hid h2
    clear ce
    go_wp2_with fail
    go_ret2
    exact ⟨rfl, h2.out⟩
   | true =>
    obtain rfl : cn0 = q := by
     by_cases e : cn0 = q
     ·exact e
     ·exact absurd ⟨rfl, e⟩ hc
    have hcb : (cn0 != cn0) = false := by simp
    clear e1 e2 hi hex hpb h hc
    go_enter Tryz.func71, Tryz.ntmps71
    go_wp2_with fail
    refine cn.out.mono ?_
    rintro e w1 ⟨rfl, hb⟩
    obtain ⟨qb, -, ce⟩ := see.out w1 hb
    replace ce := Lib.hid ce
    clear cn hb see
    go_wp2_with fail
    refine ce.out.mono ?_
    rintro e w2 ⟨rfl, c2, h2⟩
    replace h2 := Lib.hid h2
    clear ce
    go_wp2_with fail
    go_ret2
    exact ⟨rfl, h2.out⟩
theorem st_open_no (h : StoIs qT B w0 w sb bs S F c) (ho : S.open_ n q = (z, none)) : Calls Tryz.prog 71 #[bpt sb, tx n, .int .i64 q] w fun e w' =>
  e = .returned (.tuple #[.pointer none, .int .i64 z]) ∧ StoIs qT B w0 w' sb bs S F c := by
 have := st_open h n q
 rw [ho] at this
 exact this
theorem st_open_yes (h : StoIs qT B w0 w sb bs S F c) (ho : S.open_ n q = (0, some (i, d))) (hb : bs[i]? = some pb) : Calls Tryz.prog 71 #[bpt sb, tx n, .int .i64 q] w fun e w' =>
  e = .returned (.tuple #[bpt pb, .int .i64 0]) ∧ StoIs qT B w0 w' sb bs S F c := by
 have := st_open h n q
 rw [ho] at this
 simp only [Option.map_some, ptrQ_some hb] at this
 exact this
end
section
variable {B : Nat} {w0 w w' : World} {F F' T R Q S : List (Nat × Obj)} {tb xb c c' pb qb : Nat} {A A' rows : List Bnd} {P P' : List Plc} {v tv u : Value} {n x key : List UInt8} {keys l : List (List UInt8)} {b : Bnd} {z kd bt : Int} {ok : Bool}
theorem decl_is (h : ExIs B w0 w xb P A F c) (hc : 1 ≤ c) (e : declX P n kd (autoB bt) = (P', z)) : Calls Tryz.prog 76 #[bpt xb, tx n, .int .i64 kd, .int .i64 bt] w fun e w' => e = .returned (.int .i64 z) ∧ ExIs B w0 w' xb P' A F c := by
 have := xdeclare_any h hc n kd bt
 rw [e] at this
 exact this
theorem bind_is {b1 b2 b3 : List UInt8} (h : ExIs B w0 w xb P A F c) (hb : FitB (b1, b2, b3)) (hc : c ≤ 100000) (e : bindX P A (b1, b2, b3) = (A', z)) : Calls Tryz.prog 78 #[bpt xb, .agg #[tx b1, tx b2, tx b3]] w fun e w' => e = .returned (.int .i64 z) ∧ ExIs B w0 w' xb P A' F (c + 50) := by
 have := xbind_any h hb hc
 rw [e] at this
 exact this
theorem dropq_is (h : ExIs B w0 w xb P A F c) (hc : c ≤ 100000) (e : dropqX P A x = (P', A')) : Calls Tryz.prog 134 #[bpt xb, tx x] w fun e w' => e = .returned (.tuple #[]) ∧ ExIs B w0 w' xb P' A' F c := by
 have := xdropq_any h x hc
 rw [e] at this
 exact this
theorem rou_is (h : ExIs B w0 w xb P A F c) (hk : key.length ≤ 1000) (hc : c ≤ 100000) (e : routeX P A n key = (l, ok)) : Calls Tryz.prog 148 #[bpt xb, tx n, tx key] w fun e w' => ∃ a cap S, e = .returned (.tuple #[.slice a l.length cap, .bool ok]) ∧ TssIs (.slice a l.length cap) l S ∧ ExIs B w0 w' xb P A (S ++ F) c := by
 have := route_is h n key hk hc
 rw [e] at this
 refine this.mono ?_
 rintro e w' ⟨u, rfl, S, hu, hE⟩
 obtain ⟨a, cap, rfl⟩ := hu.form
 exact ⟨a, cap, S, rfl, hu, hE⟩
theorem ReadTs.one {a : Option Addr} {cap : Nat} (h : ReadTs w (.slice a 1 cap) [n]) : ∃ g off, a = some ⟨g, off, none⟩ ∧ w.cell? ⟨g, off, none⟩ = some (tx n) := by
 obtain ⟨a', cap', e, ht⟩ := h
 cases e
 obtain ⟨-, g, off, rfl, hc⟩ := ht.at_ 0 n rfl
 exact ⟨g, off, rfl, hc⟩
end
def StoX (qT : Bool) (B : Nat) (w0 w : World) (sb : Nat) (bs : List Nat) (S : Sto) (F : List (Nat × Obj)) (c xb : Nat) : Prop :=
 ∃ Z, ExIs B w0 w xb S.P S.A (Z ++ F) c ∧ ∀ w' P A F' c', 1 ≤ c' → ExIs B w0 w' xb P A (Z ++ F') c' → StoIs qT B w0 w' sb bs { S with P := P, A := A } F' c'
section
variable {qT : Bool} {B : Nat} {w0 w w' : World} {sb slb xb pb qb gb c c' i k : Nat} {bs : List Nat} {S S' : Sto} {L : List Pq} {xv v : Value} {d d' : Plq} {R SX SS F F' Z : List (Nat × Obj)} {o : Opt} {M : List Ent} {G : List Gst} {T : Nat} {n : List UInt8} {q z bt : Int} {e : Ent} {b : Bnd}
theorem FineS.ways (h : FineS S) {P : List Plc} {A : List Bnd} (hf : FineX P A) : FineS { S with P := P, A := A } := ⟨h.few, h.once, h.nums, h.top, h.num0, h.each, hf⟩
theorem StoIn.x (h1 : StoIn qT B w0 bs S L slb xv v R SX SS c) (hx : ExIs B w0 w xb S.P S.A (((sb, soO slb (bpt xb) v S) :: (R ++ (SS ++ pqsO L))) ++ F) c) : StoX qT B w0 w sb bs S F c xb :=
 ⟨_, hx, fun w'' P A F' c' hc h => by
  obtain ⟨SX', a, b⟩ := h.in_
  refine ⟨L, slb, bpt xb, v, R, SX', SS, { h1 with ways := b, fine := h1.fine.ways h.fine, c1 := hc }, ?_⟩
  show St B w0 w'' (stoO sb slb (bpt xb) v S L R SX' SS ++ F')
  refine a.perm (perm_by fun a => ?_)
  simp only [stoO, List.count_append, List.count_cons]; omega⟩
theorem StoX.same (h : StoX qT B w0 w sb bs S F c xb) (hc : 1 ≤ c) : StoIs qT B w0 w sb bs S F c := by
 obtain ⟨Z, h1, h2⟩ := h
 exact h2 _ _ _ _ _ hc h1
theorem StoIs.c1 (h : StoIs qT B w0 w sb bs S F c) : 1 ≤ c := by
 obtain ⟨L, slb, xv, v, R, SX, SS, h1, -⟩ := h
 exact h1.c1
set_option maxHeartbeats 2000000 in
theorem st_ways (h : StoIs qT B w0 w sb bs S F c) : Calls Tryz.prog 63 #[bpt sb] w fun e w' => ∃ xb, e = .returned (bpt xb) ∧ StoX qT B w0 w' sb bs S F c xb := by
 obtain ⟨L, slb, xv, v, R, SX, SS, h1, h2⟩ := h
 have hp : ∀ xv SX, (stoO sb slb xv v S L R SX SS ++ F).Perm (SX ++ (((sb, soO slb xv v S) :: (R ++ (SS ++ pqsO L))) ++ F)) := fun xv SX => perm_by fun a => by
  simp only [stoO, List.count_append, List.count_cons]; omega
 have c1 := (h2.seeS (List.mem_append_left _ List.mem_cons_self)).c1
 rcases h1.ways with ⟨rfl, hP, hA, rfl⟩ | ⟨xb, rfl, hx⟩
 ·have h3 := h2.perm (hp _ _)
  rw [List.nil_append] at h3
  have cn := Lib.hid (xnew_any h3)
  have st : Hid (∀ w1 xb, ExIs B w0 w1 xb [] [] (((sb, soO slb (.pointer none) v S) :: (R ++ (SS ++ pqsO L))) ++ F) 1 → w1.frozen? ⟨sb, 1, none⟩ = false ∧ w1.cell? ⟨sb, 1, none⟩ = some (.pointer none) ∧ (w1.setCell ⟨sb, 1, none⟩ (bpt xb)).cell? ⟨sb, 1, none⟩ = some (bpt xb) ∧ StoX qT B w0 (w1.setCell ⟨sb, 1, none⟩ (bpt xb)) sb bs S F c xb) := Lib.hid fun w1 xb hx => by
   obtain ⟨O, s1, s2⟩ := hx.beside
   have m0 : (sb, soO slb (.pointer none) v S) ∈ O ++ (((sb, soO slb (.pointer none) v S) :: (R ++ (SS ++ pqsO L))) ++ F) := List.mem_append_right _ (List.mem_append_left _ List.mem_cons_self)
   have s3 : St B w0 (w1.setCell ⟨sb, 1, none⟩ (bpt xb)) (O ++ ((sb, soO slb (bpt xb) v S) :: ((R ++ (SS ++ pqsO L)) ++ F))) := St.set (A := O) s1 1 (bpt xb)
   have s4 := s2 _ (((sb, soO slb (bpt xb) v S) :: (R ++ (SS ++ pqsO L))) ++ F) s3
   refine ⟨s1.soft m0 1, s1.cell m0 rfl, s3.cell (b := sb) (List.mem_append_right _ List.mem_cons_self) rfl, StoIn.x h1 ?_⟩
   rw [hP, hA]
   exact s4.mono h1.c1
  clear h1 h2 h3 hp hP hA
  generalize w.heap.size = xb at *
  go_enter Tryz.func63, Tryz.ntmps63
  go_wp2_with fail
  refine cn.out.mono ?_
  rintro e w1 ⟨rfl, hx⟩
  obtain ⟨f1, k1, k2, fin⟩ := st.out w1 xb hx
  replace fin := Lib.hid fin
  clear cn st hx
  go_wp2_with fail
  go_ret
  exact ⟨_, rfl, fin.out⟩
 ·have fin := Lib.hid (StoIn.x h1 (hx _ _ (h2.perm (hp _ _))))
  clear h1 h2 hp hx
  go_enter Tryz.func63, Tryz.ntmps63
  go_wp2_with fail
  go_ret
  exact ⟨_, rfl, fin.out⟩
set_option maxHeartbeats 1000000 in
theorem st_has (h : StoIs qT B w0 w sb bs S F c) (n : List UInt8) : Calls Tryz.prog 17 #[bpt sb, tx n] w fun e w' => e = .returned (.bool (hasX S.P n)) ∧ StoIs qT B w0 w' sb bs S F c := by
 have hc := h.c1
 have cw := Lib.hid (st_ways h)
 clear h
 go_enter Tryz.func17, Tryz.ntmps17
 go_wp2_with fail
 refine cw.out.mono ?_
 rintro e w1 ⟨xb, rfl, hx⟩
 have ch : Hid (Calls Tryz.prog 64 #[bpt xb, tx n] w1 fun e w' => e = .returned (.bool (hasX S.P n)) ∧ w' = w1) := Lib.hid (by
  obtain ⟨Z, x1, -⟩ := hx
  exact has_is x1 n)
 have fin := Lib.hid (hx.same hc)
 clear cw hx
 go_wp2_with fail
 refine ch.out.mono ?_
 rintro e w2 ⟨rfl, rfl⟩
 clear ch
 go_wp2_with fail
 go_ret
 exact ⟨rfl, fin.out⟩
set_option maxHeartbeats 1000000 in
theorem st_exch (h : StoIs qT B w0 w sb bs S F c) (n k : List UInt8) (bt : Int) {S' : Sto} {z : Int} (hS : S.exch n k bt = (S', z)) : Calls Tryz.prog 28 #[bpt sb, tx n, tx k, .int .i64 bt] w fun e w' => e = .returned (.int .i64 z) ∧ StoIs qT B w0 w' sb bs S' F c := by
 have hc := h.c1
 have cw := Lib.hid (st_ways h)
 have ck := Lib.hid (fun w => kind_any k w)
 obtain ⟨kd, hkd⟩ : ∃ kd, kd = kindL k := ⟨_, rfl⟩
 rw [← hkd] at ck
 have cd : Hid (∀ w1 xb, StoX qT B w0 w1 sb bs S F c xb → Calls Tryz.prog 76 #[bpt xb, tx n, .int .i64 kd, .int .i64 bt] w1 fun e w' => e = .returned (.int .i64 z) ∧ StoIs qT B w0 w' sb bs S' F c) := Lib.hid fun w1 xb hx => by
  obtain ⟨Z, x1, x2⟩ := hx
  unfold Sto.exch at hS
  rw [← hkd] at hS
  obtain ⟨rfl, rfl⟩ := Prod.mk.inj hS
  refine (decl_is x1 hc (P' := (declX S.P n kd (autoB bt)).1) (z := (declX S.P n kd (autoB bt)).2) rfl).mono ?_
  rintro e w' ⟨rfl, h2⟩
  exact ⟨rfl, x2 _ _ _ _ _ hc h2⟩
 clear h hS hkd
 go_enter Tryz.func28, Tryz.ntmps28
 go_wp2_with fail
 refine cw.out.mono ?_
 rintro e w1 ⟨xb, rfl, hx⟩
 replace cd := Lib.hid (cd.out w1 xb hx)
 clear cw hx
 go_wp2_with fail
 refine (ck.out w1).mono ?_
 rintro e w2 ⟨rfl, rfl⟩
 clear ck
 go_wp2_with fail
 refine cd.out.mono ?_
 rintro e w3 ⟨rfl, h3⟩
 replace h3 := Lib.hid h3
 clear cd
 go_wp2_with fail
 go_ret
 exact ⟨rfl, h3.out⟩
set_option maxHeartbeats 1000000 in
theorem st_bind (h : StoIs qT B w0 w sb bs S F c) {b1 b2 b3 : List UInt8} (hb : FitB (b1, b2, b3)) (hc : c ≤ 100000) (q : Int) {S' : Sto} {z : Int} (hS : S.bind (b1, b2, b3) q = (S', z)) :
  Calls Tryz.prog 29 #[bpt sb, .agg #[tx b1, tx b2, tx b3], .int .i64 q] w fun e w' => e = .returned (.int .i64 z) ∧ StoIs qT B w0 w' sb bs S' F (c + 50) := by
 have h1 := h.alloc (bO (b1, b2, b3))
 have hc1 := h.c1
 unfold Sto.bind at hS
 simp only at hS
 rcases open_ways S b2 q with ⟨y, ho, hy⟩ | ⟨i, d, ho, e1, hi, e2, -⟩
 ·rw [ho] at hS
  obtain ⟨rfl, rfl⟩ := Prod.mk.inj hS
  have co := Lib.hid (st_open_no h1 ho)
  have fin : Hid (∀ w', StoIs qT B w0 w' sb bs S ((w.heap.size, bO (b1, b2, b3)) :: F) c → StoIs qT B w0 w' sb bs S F (c + 50)) := Lib.hid fun w' h' => (h'.sub (List.sublist_cons_self _ _)).mono (by omega)
  have hyb : (y != 0) = true := by rcases hy with rfl | rfl <;> rfl
  clear h h1 ho hy hb hc hS hc1
  go_enter Tryz.func29, Tryz.ntmps29
  go_wp2_with fail
  refine co.out.mono ?_
  rintro e w1 ⟨rfl, hx⟩
  replace fin := Lib.hid (fin.out w1 hx)
  clear co hx
  go_wp2_with fail
  go_ret
  exact ⟨rfl, fin.out⟩
 ·rw [ho] at hS
  simp only at hS
  obtain ⟨rfl, rfl⟩ := Prod.mk.inj hS
  obtain ⟨pb, hpb⟩ := h.blk hi
  have co := Lib.hid (st_open_yes h1 ho hpb)
  have cw : Hid (∀ w1, StoIs qT B w0 w1 sb bs S ((w.heap.size, bO (b1, b2, b3)) :: F) c → Calls Tryz.prog 63 #[bpt sb] w1 fun e w' => ∃ xb, e = .returned (bpt xb) ∧ StoX qT B w0 w' sb bs S ((w.heap.size, bO (b1, b2, b3)) :: F) c xb ∧ (w'.cell? ⟨w.heap.size, 0, none⟩ = some (tx b1) ∧ w'.cell? ⟨w.heap.size, 1, none⟩ = some (tx b2) ∧ w'.cell? ⟨w.heap.size, 2, none⟩ = some (tx b3))) := Lib.hid fun w1 h' => (st_ways h').mono (by
   rintro e w' ⟨xb, rfl, hx⟩
   have h3 := hx.same hc1
   exact ⟨xb, rfl, hx, ⟨h3.cell List.mem_cons_self rfl, h3.cell List.mem_cons_self rfl, h3.cell List.mem_cons_self rfl⟩⟩)
  have cb : Hid (∀ w1 xb, StoX qT B w0 w1 sb bs S ((w.heap.size, bO (b1, b2, b3)) :: F) c xb → Calls Tryz.prog 78 #[bpt xb, .agg #[tx b1, tx b2, tx b3]] w1 fun e w' => e = .returned (.int .i64 (bindX S.P S.A (b1, b2, b3)).2) ∧ StoIs qT B w0 w' sb bs { S with A := (bindX S.P S.A (b1, b2, b3)).1 } ((w.heap.size, bO (b1, b2, b3)) :: F) (c + 50) ∧
    (w'.cell? ⟨w.heap.size, 0, none⟩ = some (tx b1) ∧ w'.cell? ⟨w.heap.size, 1, none⟩ = some (tx b2) ∧ w'.cell? ⟨w.heap.size, 2, none⟩ = some (tx b3))) := Lib.hid fun w1 xb hx => by
   obtain ⟨Z, x1, x2⟩ := hx
   refine (bind_is x1 hb hc (A' := (bindX S.P S.A (b1, b2, b3)).1) (z := (bindX S.P S.A (b1, b2, b3)).2) rfl).mono ?_
   rintro e w' ⟨rfl, h2⟩
   have h3 := x2 _ _ _ ((w.heap.size, bO (b1, b2, b3)) :: F) _ (by omega) h2
   exact ⟨rfl, h3, h3.cell List.mem_cons_self rfl, h3.cell List.mem_cons_self rfl, h3.cell List.mem_cons_self rfl⟩
  have hcells : Hid (∀ w1, StoIs qT B w0 w1 sb bs S ((w.heap.size, bO (b1, b2, b3)) :: F) c → StoIs qT B w0 w1.drew sb bs S ((w.heap.size, bO (b1, b2, b3)) :: F) c ∧ Hid (w1.drew.cell? ⟨w.heap.size, 0, none⟩ = some (tx b1) ∧ w1.drew.cell? ⟨w.heap.size, 1, none⟩ = some (tx b2) ∧ w1.drew.cell? ⟨w.heap.size, 2, none⟩ = some (tx b3))) := Lib.hid fun w1 h' => by
   have h3 := h'.grow (drew_b w1)
   exact ⟨h3, Lib.hid ⟨h3.cell List.mem_cons_self rfl, h3.cell List.mem_cons_self rfl, h3.cell List.mem_cons_self rfl⟩⟩
  generalize (bindX S.P S.A (b1, b2, b3)).2 = z at *
  generalize ({ S with A := (bindX S.P S.A (b1, b2, b3)).1 } : Sto) = S' at *
  clear h h1 ho hpb hi e1 e2 hb hc hS hc1
  go_enter Tryz.func29, Tryz.ntmps29
  go_wp2_with fail
  refine co.out.mono ?_
  rintro e w1 ⟨rfl, hx⟩
  obtain ⟨hx1, hs0⟩ := hcells.out w1 hx
  clear co hx hcells
  generalize w.heap.size = nb at *
  go_wp2_with fail
  go_region_held3 (fun x => x.cell? ⟨nb, 0, none⟩ = some (tx b1) ∧ x.cell? ⟨nb, 1, none⟩ = some (tx b2) ∧ x.cell? ⟨nb, 2, none⟩ = some (tx b3)) (first | exact kS | exact hs0.out) (first
   | (go_at_call 63; refine (cw.out _ (by assumption)).mono ?_; rintro e w'' ⟨xb, rfl, hX, kS⟩)
   | (go_at_call 78; refine (cb.out _ _ (by assumption)).mono ?_; rintro e w'' ⟨rfl, h3, kS⟩))
  have fin := Lib.hid (h3.sub (List.sublist_cons_self _ _))
  clear h3 hX hx1 hs0 cw cb
  go_wp2_with fail
  go_ret
  exact ⟨rfl, fin.out⟩
end
theorem ret_entry4 {P : Program} {fn : Func} {a a1 a2 a3 d : Nat} {v1 v2 v3 : Int} {tmps : Array Value} {w : World} {e : Ent} (hr : fn.results = #[.cell a 51, .tmp a1, .tmp a2, .tmp a3]) (h0 : tmps[a]? = some (.pointer (some ⟨d, 0, none⟩))) (h1 : tmps[a1]? = some (.int .i64 v1)) (h2 : tmps[a2]? = some (.int .i64 v2)) (h3 : tmps[a3]? = some (.int .i64 v3)) (q : EnAt w d e) (hP : P = Tryz.prog) :
  (results fn tmps).run P w = .ok (.tuple #[enV e, .int .i64 v1, .int .i64 v2, .int .i64 v3]) w := by
 subst hP
 obtain ⟨q0, q1, q2, q3, q4, q5, q6, q7, q8, q9⟩ := q
 simp [results, hr, go_sem, h0, h1, h2, h3, q0, q1, q2, q3, q4, q5, q6, q7, q8, q9]
section
variable {qT : Bool} {B : Nat} {w0 w w' : World} {sb slb xb pb qb gb c c' i k b : Nat} {bs : List Nat} {S S' : Sto} {L : List Pq} {xv v : Value} {d d' : Plq} {R SX SS F F' Z : List (Nat × Obj)} {o : Opt} {M : List Ent} {G : List Gst} {T : Nat} {n : List UInt8} {q z bt : Int} {e e0 : Ent}
theorem StoIs.putE (h : StoIs qT B w0 w sb bs S ((k, enO e0) :: F) c) : StoIs qT B w0 (enPut w k e) sb bs S ((k, enO e) :: F) c := by
 obtain ⟨O, h1, -, h2⟩ := h.beside
 exact h2 _ _ (((h1.perm List.perm_middle).enPut (e := e)).perm List.perm_middle.symm)
theorem StoIs.enAt (h : StoIs qT B w0 w sb bs S F c) (hm : (k, enO e) ∈ F) : EnAt w k e ∧ ∀ i, w.frozen? ⟨k, i, none⟩ = false := by
 obtain ⟨O, hs, -⟩ := h.beside
 exact ⟨hs.enAt (List.mem_append_right _ hm), fun i => hs.soft (List.mem_append_right _ hm) i⟩
theorem StoIs.ret_e (h : StoIs qT B w0 w sb bs S ((k, enO e0) :: F) c) (x : Ent) : EnAt w k e0 ∧ (∀ i, w.frozen? ⟨k, i, none⟩ = false) ∧ EnAt (enPut w k x) k x ∧ StoIs qT B w0 (enPut w k x) sb bs S F c := by
 have h1 := h.enAt List.mem_cons_self
 have h2 := h.putE (e := x)
 exact ⟨h1.1, h1.2, (h2.enAt List.mem_cons_self).1, h2.sub (List.sublist_cons_self _ _)⟩
theorem cell_enPut {a : Addr} {v : Value} (h : w.cell? a = some v) (hn : k ≠ a.block) : (enPut w k e).cell? a = some v := by
 have e : (enPut w k e).cell? a = w.cell? a := by
  repeat rw [World.cell?_setCell_far _ _ _ _ (by exact hn)]
 rw [e]
 exact h
theorem enAt_enPut {x : Ent} (h : EnAt w b x) (hn : k ≠ b) : EnAt (enPut w k e) b x := by
 obtain ⟨q0, q1, q2, q3, q4, q5, q6, q7, q8, q9⟩ := h
 exact ⟨cell_enPut q0 hn, cell_enPut q1 hn, cell_enPut q2 hn, cell_enPut q3 hn, cell_enPut q4 hn, cell_enPut q5 hn, cell_enPut q6 hn, cell_enPut q7 hn, cell_enPut q8 hn, cell_enPut q9 hn⟩
theorem StoIs.lt {x : Obj} (h : StoIs qT B w0 w sb bs S F c) (hm : (k, x) ∈ F) : k < w.heap.size := by
 obtain ⟨O, hs, -⟩ := h.beside
 exact St.lt (o := x) hs (List.mem_append_right _ hm)
theorem StoIs.ne {x : Obj} (h : StoIs qT B w0 w sb bs S F c) (hm : (k, x) ∈ F) (hb : bs[i]? = some pb) : k ≠ pb := by
 obtain ⟨L, slb, xv, v, R, SX, SS, h1, h2⟩ := h
 rw [← h1.blks, List.getElem?_map, Option.map_eq_some_iff] at hb
 obtain ⟨p, hp, rfl⟩ := hb
 have hn := h2.nodup
 rw [List.map_append, List.nodup_append] at hn
 refine fun e => hn.2.2 p.b (List.mem_map.2 ⟨(p.b, pqO p.d p.qb p.gb), ?_, rfl⟩) k (List.mem_map.2 ⟨_, hm, rfl⟩) e.symm
 refine List.mem_cons_of_mem _ (List.mem_append_right _ (List.mem_append_right _ (List.mem_append_right _ ?_)))
 exact List.mem_flatMap.2 ⟨p, List.mem_of_getElem? hp, List.mem_cons_self⟩
theorem set_get {α : Type} {l : List α} {i : Nat} {x y : α} (h : l[i]? = some x) : (l.set i y)[i]? = some y := by
 rw [List.getElem?_set_self (List.getElem?_eq_some_iff.1 h).1]
theorem setM_get {M : List Ent} (hi : S.L[i]? = some d) : (S.setM i d M).L[i]? = some { d with M := M } := set_get hi
theorem pl_take (h : StoIs qT B w0 w sb bs S F c) (hi : S.L[i]? = some d) (hb : bs[i]? = some pb) : ∃ qb, w.cell? ⟨pb, 3, none⟩ = some (rptr qb) ∧ Calls Tryz.prog 83 #[rptr qb] w fun r w' => r = .returned (firstV d.M) ∧ (w'.cell? ⟨pb, 1, none⟩ = some (.int .i64 d.num) ∧ w'.cell? ⟨pb, 3, none⟩ = some (rptr qb)) ∧ StoIs qT B w0 w' sb bs (S.setM i d d.M.tail) F c := by
 obtain ⟨pb', qb, gb, h1, h2, ⟨Z, h3, h4⟩, -⟩ := h.place hi
 rw [hb] at h1
 obtain rfl := Option.some.inj h1
 refine ⟨qb, h2.c3, (qu_take h3).mono ?_⟩
 rintro r w' ⟨rfl, h5⟩
 obtain ⟨h6, h7⟩ := h4 _ _ _ h5
 exact ⟨rfl, ⟨h6.c1, h6.c3⟩, h7⟩
theorem pl_len (h : StoIs qT B w0 w sb bs S F c) (hi : S.L[i]? = some d) (hb : bs[i]? = some pb) (h3 : w.cell? ⟨pb, 3, none⟩ = some (rptr qb)) : Calls Tryz.prog 73 #[rptr qb] w fun r w' => r = .returned (.int .i64 d.M.length) ∧ (w'.cell? ⟨pb, 1, none⟩ = some (.int .i64 d.num) ∧ w'.cell? ⟨pb, 3, none⟩ = some (rptr qb)) ∧ StoIs qT B w0 w' sb bs S F c := by
 obtain ⟨pb', qb', gb, h1, h2, ⟨Z, h4, h5⟩, -⟩ := h.place hi
 rw [hb] at h1
 obtain rfl := Option.some.inj h1
 have e := h2.c3
 rw [h3] at e
 cases e
 refine (qu_len h4).mono ?_
 rintro r w' ⟨rfl, h6⟩
 obtain ⟨h7, h8⟩ := h5 _ _ _ h6
 rw [setM_same hi] at h8
 exact ⟨rfl, ⟨h7.c1, h7.c3⟩, h8⟩
set_option maxHeartbeats 4000000 in
theorem st_take (h : StoIs qT B w0 w sb bs S F c) (n : List UInt8) (q : Int) {S' : Sto} {e : Ent} {a1 a2 a3 : Int} (hS : S.take n q = (S', e, a1, a2, a3)) :
  Calls Tryz.prog 32 #[bpt sb, tx n, .int .i64 q] w fun r w' => r = .returned (.tuple #[enV e, .int .i64 a1, .int .i64 a2, .int .i64 a3]) ∧ StoIs qT B w0 w' sb bs S' F c := by
 have h0 := h.alloc (enO z0E)
 unfold Sto.take at hS
 rcases open_ways S n q with ⟨y, ho, hy⟩ | ⟨i, d, ho, e1, hi, e2, -⟩
 ·rw [ho] at hS
  simp only [Prod.mk.injEq] at hS
  obtain ⟨rfl, rfl, rfl, rfl, rfl⟩ := hS
  have co := Lib.hid (st_open_no h0 ho)
  have hret := Lib.hid (fun w' (h' : StoIs qT B w0 w' sb bs S ((w.heap.size, enO z0E) :: F) c) => h'.ret_e z0E)
  have hyb : (y != 0) = true := by rcases hy with rfl | rfl <;> rfl
  clear h h0 ho hy
  go_enter Tryz.func32, Tryz.ntmps32
  go_wp2_with fail
  refine co.out.mono ?_
  rintro r w1 ⟨rfl, hx⟩
  obtain ⟨⟨z0, z1, z2, z3, z4, z5, z6, z7, z8, z9⟩, zs, finE, fin⟩ := hret.out w1 hx
  replace finE := Lib.hid finE
  replace fin := Lib.hid fin
  clear co hx hret
  go_wp2_with fail
  exact bodyPost_ret (ret_entry4 (e := z0E) rfl rfl rfl rfl rfl finE.out rfl) rfl ⟨rfl, fin.out⟩
 ·rw [ho] at hS
  simp only at hS
  obtain ⟨pb, hpb⟩ := h.blk hi
  have co := Lib.hid (st_open_yes h0 ho hpb)
  have ct := Lib.hid (fun w1 (h' : StoIs qT B w0 w1 sb bs S ((w.heap.size, enO z0E) :: F) c) => pl_take h' hi hpb)
  cases hM : d.M with
  | nil =>
   rw [hM] at hS ct
   simp only [Prod.mk.injEq] at hS
   obtain ⟨rfl, rfl, rfl, rfl, rfl⟩ := hS
   have e3 : S.setM i d [] = S := by rw [← hM]; exact setM_same hi
   simp only [List.tail_nil, e3] at ct
   have hfv : firstV [] = .tuple #[enV z0E, .bool false] := rfl
   have hret := Lib.hid (fun w' (h' : StoIs qT B w0 w' sb bs S ((w.heap.size, enO z0E) :: F) c) => ((h'.alloc (enO z0E)).permF (List.Perm.swap _ _ _)).ret_e z0E)
   have hsub := Lib.hid (fun w' (h' : StoIs qT B w0 w' sb bs S ((w'.heap.size, enO z0E) :: F) c) => h'.sub (List.sublist_cons_self _ _))
   clear h h0 ho e1 e2 hi hpb hM e3
   go_enter Tryz.func32, Tryz.ntmps32
   go_wp2_with fail
   refine co.out.mono ?_
   rintro r w1 ⟨rfl, hx⟩
   obtain ⟨qb, k3, ct1⟩ := ct.out w1 hx
   replace ct1 := Lib.hid ct1
   clear co hx ct
   go_wp2_with fail
   refine ct1.out.mono ?_
   rintro r w2 ⟨rfl, ⟨k1, k4⟩, h2⟩
   rw [hfv]
   obtain ⟨⟨z0, z1, z2, z3, z4, z5, z6, z7, z8, z9⟩, zs, finE, fin⟩ := hret.out w2 h2
   replace finE := Lib.hid finE
   replace fin := Lib.hid (fin.sub (List.sublist_cons_self _ _))
   clear ct1 h2 hret hfv k3
   go_wp2_with fail
   exact bodyPost_ret (ret_entry4 (e := z0E) rfl rfl rfl rfl rfl finE.out rfl) rfl ⟨rfl, fin.out⟩
  | cons x M =>
   rw [hM] at hS ct
   simp only [Prod.mk.injEq] at hS
   obtain ⟨rfl, rfl, rfl, rfl, rfl⟩ := hS
   simp only [List.tail_cons] at ct
   have hfv : firstV (x :: M) = .tuple #[enV x, .bool true] := rfl
   have hg := setM_get (M := M) hi
   have hne : Hid (∀ W, StoIs qT B w0 W sb bs (S.setM i d M) ((w.heap.size, enO z0E) :: F) c → w.heap.size ≠ pb) := Lib.hid fun W h' => h'.ne List.mem_cons_self hpb
   have hret := Lib.hid (fun eb w' (h' : StoIs qT B w0 w' sb bs (S.setM i d M) ((w.heap.size, enO z0E) :: (eb, enO x) :: F) c) => h'.ret_e x)
   have hal := Lib.hid (fun w' (h' : StoIs qT B w0 w' sb bs (S.setM i d M) ((w.heap.size, enO z0E) :: F) c) => ((h'.alloc (enO x)).permF (List.Perm.swap _ _ _)).grow (drew_b _))
   have cl : Hid (∀ eb W qb, W.cell? ⟨pb, 3, none⟩ = some (rptr qb) → StoIs qT B w0 W sb bs (S.setM i d M) ((w.heap.size, enO z0E) :: (eb, enO x) :: F) c → Calls Tryz.prog 73 #[rptr qb] W fun r w' => r = .returned (.int .i64 M.length) ∧ StoIs qT B w0 w' sb bs (S.setM i d M) ((w.heap.size, enO z0E) :: (eb, enO x) :: F) c ∧
     (w'.cell? ⟨pb, 3, none⟩ = some (rptr qb) ∧ w'.cell? ⟨pb, 1, none⟩ = some (.int .i64 d.num) ∧ EnAt w' eb x) ∧ (EnAt w' w.heap.size z0E ∧ ∀ i, w'.frozen? ⟨w.heap.size, i, none⟩ = false)) := Lib.hid fun eb W qb h3 h' => (pl_len h' hg hpb h3).mono (by
    rintro r w' ⟨rfl, ⟨k1, k3⟩, h2⟩
    exact ⟨rfl, h2, ⟨k3, k1, (h2.enAt (List.mem_cons_of_mem _ List.mem_cons_self)).1⟩, h2.enAt List.mem_cons_self⟩)
   generalize M.length = ml at *
   generalize d.num = num at *
   generalize S.setM i d M = S2 at *
   clear h h0 ho e1 e2 hi hpb hM hg
   go_enter Tryz.func32, Tryz.ntmps32
   go_wp2_with fail
   refine co.out.mono ?_
   rintro r w1 ⟨rfl, hx⟩
   obtain ⟨qb, k3, ct1⟩ := ct.out w1 hx
   replace ct1 := Lib.hid ct1
   clear co hx ct
   go_wp2_with fail
   refine ct1.out.mono ?_
   rintro r w2 ⟨rfl, ⟨k1, k4⟩, h2⟩
   rw [hfv]
   have hO := hal.out w2 h2
   have hn1 := hne.out w2 h2
   have hn2 : w.heap.size ≠ w2.heap.size := Nat.ne_of_lt (h2.lt List.mem_cons_self)
   obtain ⟨W2, hW⟩ : ∃ W2, W2 = w2.alloc (enO x) := ⟨_, rfl⟩
   obtain ⟨eb, heb⟩ : ∃ eb, eb = w2.heap.size := ⟨_, rfl⟩
   have hs0 : Hid ((w2.alloc (enO x)).drew.cell? ⟨pb, 3, none⟩ = some (rptr qb) ∧ (w2.alloc (enO x)).drew.cell? ⟨pb, 1, none⟩ = some (.int .i64 num) ∧ EnAt (w2.alloc (enO x)).drew w2.heap.size x) :=
    Lib.hid ⟨cellUp (cellUp k4 (new_below _ _)) (drew_b _), cellUp (cellUp k1 (new_below _ _)) (drew_b _), (hO.enAt (List.mem_cons_of_mem _ List.mem_cons_self)).1⟩
   have hks : Hid (∀ W, (W.cell? ⟨pb, 3, none⟩ = some (rptr qb) ∧ W.cell? ⟨pb, 1, none⟩ = some (.int .i64 num) ∧ EnAt W w2.heap.size x) → ((enPut W w.heap.size x).cell? ⟨pb, 3, none⟩ = some (rptr qb) ∧ (enPut W w.heap.size x).cell? ⟨pb, 1, none⟩ = some (.int .i64 num) ∧ EnAt (enPut W w.heap.size x) w2.heap.size x)) :=
    Lib.hid fun W ⟨a, b, c⟩ => ⟨cell_enPut a hn1, cell_enPut b hn1, enAt_enPut c hn2⟩
   replace hret := Lib.hid (hret.out w2.heap.size)
   replace cl := Lib.hid (fun W => cl.out w2.heap.size W qb)
   rw [← hW, ← heb] at hs0 hO
   rw [← heb] at hks hret cl
   replace hW := Lib.hid hW
   replace heb := Lib.hid heb
   clear ct1 h2 hal hfv k3 k1 k4 hne hn1 hn2
   go_upto_region 7 with fail
   rw [← hW.out, ← heb.out]
   clear hW heb
   go_region_held3 (fun X => X.cell? ⟨pb, 3, none⟩ = some (rptr qb) ∧ X.cell? ⟨pb, 1, none⟩ = some (.int .i64 num) ∧ X.cell? ⟨eb, 0, none⟩ = some (.int .i64 x.id) ∧ X.cell? ⟨eb, 1, none⟩ = some (.int .i64 x.body) ∧ X.cell? ⟨eb, 2, none⟩ = some (.int .i64 x.size) ∧ X.cell? ⟨eb, 3, none⟩ = some (tx x.exch) ∧ X.cell? ⟨eb, 4, none⟩ = some (tx x.key) ∧ X.cell? ⟨eb, 5, none⟩ = some (.int .i64 x.prio) ∧ X.cell? ⟨eb, 6, none⟩ = some (.int .i64 x.ttl) ∧ X.cell? ⟨eb, 7, none⟩ = some (.int .i64 x.til) ∧ X.cell? ⟨eb, 8, none⟩ = some (.bool x.again) ∧ X.cell? ⟨eb, 9, none⟩ = some (.int .i64 x.hops)) (first | with_reducible exact kS | with_reducible exact hs0.out | with_reducible exact hks.out _ kS)
    ((go_at_call 73; refine (cl.out _ hs0.out.1 (by assumption)).mono ?_; rintro r w'' ⟨rfl, hL, kS, ⟨⟨z0, z1, z2, z3, z4, z5, z6, z7, z8, z9⟩, zs⟩⟩))
   obtain ⟨-, -, finE, fin⟩ := hret.out _ hL
   replace finE := Lib.hid finE
   replace fin := Lib.hid (fin.sub (List.sublist_cons_self _ _))
   clear hL kS hs0 hks cl hret hO
   go_wp2_with fail
   exact bodyPost_ret (ret_entry4 (e := x) rfl rfl rfl rfl rfl finE.out rfl) rfl ⟨rfl, fin.out⟩
end
end Go.Proofs.YtknjamfjonapiaaGreatDoor
