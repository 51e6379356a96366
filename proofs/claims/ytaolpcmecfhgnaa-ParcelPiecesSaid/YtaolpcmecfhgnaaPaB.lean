/- A parcel: what comes, a method. -/
import Derived.Test.YtaolpcmecfhgnaaPaA
import Derived.Test.YtaolpcmecfhgnaaStrC
import Derived.WalkKit
import Derived.Deep.QuietTactic
import Derived.BigQuiet
import Derived.Deep.RegionHeld3
import Derived.Deep.RegionWith
import Derived.Deep.RegionLaw
import Derived.Deep.DeepCutAuto
import Derived.Deep.CutBlock
import Derived.StillTailTactics
import Derived.Lib.Hide
namespace Go.Proofs.Ytaolpcmecfhgnaa
open Go.RowKit
open Go.ChangeMaps (setBlock)
set_option linter.unusedVariables false
set_option linter.unusedSectionVars false
set_option linter.unusedSimpArgs false
set_option maxRecDepth 100000

/-- Behind a piece. -/
def ComeR (B : Nat) (w0 : World) (pb : Nat) (r : (Bool × Int) × Pcl) (F : List (Nat × Obj)) (e : Ending) (w' : World) : Prop :=
  e = .returned (.tuple #[.bool r.1.1, .int .i64 r.1.2]) ∧ PaIs B w0 w' pb r.2 F
section
variable {B : Nat} {w0 w w' W : World} {pb xb : Nat} {p : Pcl} {F F' S : List (Nat × Obj)} {x : Pie}
/-- What is at hand of the parcel and the piece. -/
structure PaOn (W : World) (pb xb : Nat) (p : Pcl) (v : Value) (x : Pie) : Prop where
  p0 : W.cell? ⟨pb, 0, none⟩ = some (.int .i64 (p.next : Nat))
  p3 : W.cell? ⟨pb, 3, none⟩ = some (.int .i64 p.size)
  p4 : W.cell? ⟨pb, 4, none⟩ = some (tx p.exch)
  p5 : W.cell? ⟨pb, 5, none⟩ = some (tx p.key)
  p6 : W.cell? ⟨pb, 6, none⟩ = some (.int .i64 p.prio)
  p7 : W.cell? ⟨pb, 7, none⟩ = some (.int .i64 p.ttl)
  p11 : W.cell? ⟨pb, 11, none⟩ = some v
  p12 : W.cell? ⟨pb, 12, none⟩ = some (.int .i64 p.bits)
  x0 : W.cell? ⟨xb, 0, none⟩ = some (.int .i64 x.sort)
  x1 : W.cell? ⟨xb, 1, none⟩ = some (tx x.exch)
  x2 : W.cell? ⟨xb, 2, none⟩ = some (tx x.key)
  x3 : W.cell? ⟨xb, 3, none⟩ = some (.int .i64 x.bits)
  x4 : W.cell? ⟨xb, 4, none⟩ = some (.int .i64 x.size)
  x5 : W.cell? ⟨xb, 5, none⟩ = some (.int .i64 x.prio)
  x6 : W.cell? ⟨xb, 6, none⟩ = some (.int .i64 x.ttl)
  x7 : W.cell? ⟨xb, 7, none⟩ = some (tx x.bytes)
  soft : ∀ i, W.frozen? ⟨pb, i, none⟩ = false
theorem PaOn.of {v : Value} {H : List (Nat × Obj)} (h : St B w0 W H) (hp : (pb, paO p v) ∈ H) (hx : (xb, pieO x) ∈ H) : PaOn W pb xb p v x :=
  ⟨h.cell hp rfl, h.cell hp rfl, h.cell hp rfl, h.cell hp rfl, h.cell hp rfl, h.cell hp rfl, h.cell hp rfl, h.cell hp rfl, h.cell hx rfl, h.cell hx rfl, h.cell hx rfl, h.cell hx rfl, h.cell hx rfl, h.cell hx rfl, h.cell hx rfl, h.cell hx rfl, fun i => St.soft h hp i⟩
/-- At a label: nothing but memory. -/
def PaJ (B : Nat) (w0 : World) (pb : Nat) (p : Pcl) (F : List (Nat × Obj)) (a : Act) (w : World) : Prop := Fr 104 [] a ∧ PaIs B w0 w pb p F

set_option maxHeartbeats 4000000 in
theorem come_no (h : PaIs B w0 w pb p F) (hn : ¬ (p.next : Int) = x.sort) : Calls Try.prog 18 #[pptr pb, pieV x] w (ComeR B w0 pb ((false, 505), p) F) := by
  obtain ⟨a, c, S, hs, hst⟩ := h
  have hst1 := hst.alloc (pieO x)
  have on := PaOn.of hst1 (List.mem_cons_of_mem _ List.mem_cons_self) List.mem_cons_self
  have fin : Hid (∀ n, PaIs B w0 ((w.alloc (pieO x)).drewN n) pb p F) := Lib.hid fun n => ⟨a, c, S, hs, (hst1.drewN n).sub (List.sublist_cons_self _ _)⟩
  have hB : (x.sort == (p.next : Int)) = false := by rw [beq_eq_false_iff_ne]; exact fun e => hn e.symm
  have k0 := on.p0
  have k1 := on.x0
  obtain ⟨xs, xe, xk, xbi, xsz, xp, xt, xby⟩ := x
  simp only at k0 k1 hB hn
  clear hst hst1 on hs hn
  generalize (p.next : Int) = nx at *
  go_enter Try.func18, Try.ntmps18
  go_wp2_with fail
  refine wp_scope_four (PaJ B w0 pb p F) (fun _ _ => False) (fun _ _ => False) (fun _ _ => False) rfl rfl rfl rfl ?_ (fun _ _ h => h.elim) (fun _ _ _ h => h.elim) (fun _ _ h => h.elim) ?_
  · rintro a' w' ⟨hfr, hP⟩
    obtain ⟨f, rfl, hl⟩ := hfr.lit
    clear hfr hl k0 k1 fin
    replace hP := Lib.hid hP
    simp only [List.range, List.range.loop, List.map]
    go_wp2_with fail
    simp only [jumps]
    go_ret2
    exact ⟨rfl, hP.out⟩
  · go_wp2_with fail
    go_quiet (fail)
    go_wp2_with fail
    refine wp_goto ?_
    exact .inl ⟨rfl, ⟨rfl, rfl, by simp⟩, fin.out _⟩

/-- A text of its own, whatever is owned. -/
theorem pclone {v : Value} {H : List (Nat × Obj)} (h : St B w0 W H) (hp : (pb, paO p v) ∈ H) (hx : (xb, pieO x) ∈ H) (l : List UInt8) (hl : l.length ≤ 140737488351232) :
    Calls Try.prog 20 #[tx l] W fun r w2 => r = .returned (tx l) ∧ St B w0 w2 H ∧ (w2.cell? ⟨xb, 1, none⟩ = some (tx x.exch) ∧ w2.cell? ⟨xb, 2, none⟩ = some (tx x.key)) ∧ (w2.cell? ⟨pb, 4, none⟩ = some (tx p.exch) ∧ w2.cell? ⟨pb, 5, none⟩ = some (tx p.key)) ∧ w2.frozen? ⟨pb, 4, none⟩ = false ∧ w2.frozen? ⟨pb, 5, none⟩ = false := by
  refine (clone_any l W hl).mono ?_
  rintro r w2 ⟨rfl, hb⟩
  have h2 := h.grow hb
  exact ⟨rfl, h2, ⟨h2.cell hx rfl, h2.cell hx rfl⟩, ⟨h2.cell hp rfl, h2.cell hp rfl⟩, St.soft h2 hp 4, St.soft h2 hp 5⟩
/-- Names stored. -/
theorem names_put {v : Value} {C : List (Nat × Obj)} (h : St B w0 W ((pb, paO p v) :: C)) (e k : List UInt8) : St B w0 ((W.setCell ⟨pb, 4, none⟩ (tx e)).setCell ⟨pb, 5, none⟩ (tx k)) ((pb, paO { p with exch := e, key := k } v) :: C) :=
  (h.set0 4 (tx e)).set0 5 (tx k)

set_option maxHeartbeats 4000000 in
theorem come_begin (h : PaIs B w0 w pb p F) (hn : p.next = 0) (hx : x.sort = 0) (h1 : x.exch.length ≤ 140737488351232) (h2 : x.key.length ≤ 140737488351232) : Calls Try.prog 18 #[pptr pb, pieV x] w (ComeR B w0 pb ((false, 0), { p with next := 1, exch := x.exch, key := x.key, bits := x.bits }) F) := by
  obtain ⟨a, c, S, hs, hst⟩ := h
  have hst1 := (hst.alloc (pieO x)).perm (List.Perm.swap _ _ _)
  have on := PaOn.of (p := p) hst1 List.mem_cons_self (List.mem_cons_of_mem _ List.mem_cons_self)
  have hst2 := Lib.hid (fun n => hst1.drewN n)
  have k0 := on.p0
  have k1 := on.x0
  have k2 := Lib.hid (fun n => (PaOn.of (p := p) (x := x) (hst1.drewN n) List.mem_cons_self (List.mem_cons_of_mem _ List.mem_cons_self)))
  rw [hn] at k0
  rw [hx] at k1
  obtain ⟨xs, xe, xk, xbi, xsz, xp, xt, xby⟩ := x
  obtain ⟨nx, pe, pk, psz, pp, pt, pby, pbi⟩ := p
  simp only at hn hx
  subst hn hx
  simp only at k0 k1 k2 hs h1 h2
  clear hst hst1 on
  replace hs := Lib.hid hs
  replace h1 := Lib.hid h1
  replace h2 := Lib.hid h2
  go_enter Try.func18, Try.ntmps18
  go_wp2_with fail
  refine wp_scope_four (fun _ _ => False) (fun _ _ => False) (fun _ _ => False) (fun _ _ => False) rfl rfl rfl rfl (fun _ _ h => h.elim) (fun _ _ h => h.elim) (fun _ _ _ h => h.elim) (fun _ _ h => h.elim) ?_
  go_wp2_with fail
  go_quiet (fail)
  have on2 := k2.out nq
  have hst3 := hst2.out nq
  clear k2 hst2 k0 k1
  obtain ⟨W, hW⟩ : ∃ W, W = World.drewN (w.alloc (pieO ⟨0, xe, xk, xbi, xsz, xp, xt, xby⟩)) nq := ⟨_, rfl⟩
  rw [← hW] at on2 hst3 ⊢
  clear hW
  have j0 := on2.x0
  clear on2
  go_upto_region 5 with fail
  clear j0
  have hc := Lib.hid (fun w' (h : St B w0 w' ((pb, paO ⟨0, pe, pk, psz, pp, pt, pby, pbi⟩ (.slice a pby.length c)) :: (w.heap.size, pieO ⟨0, xe, xk, xbi, xsz, xp, xt, xby⟩) :: (S ++ F))) => pclone h (pb := pb) (xb := w.heap.size) List.mem_cons_self (List.mem_cons_of_mem _ List.mem_cons_self))
  have hS0 : Hid (W.drew.cell? ⟨w.heap.size, 1, none⟩ = some (tx xe) ∧ W.drew.cell? ⟨w.heap.size, 2, none⟩ = some (tx xk)) := Lib.hid ⟨hst3.drew.cell (b := w.heap.size) (List.mem_cons_of_mem _ List.mem_cons_self) rfl, hst3.drew.cell (b := w.heap.size) (List.mem_cons_of_mem _ List.mem_cons_self) rfl⟩
  have hO := hst3.drew
  clear hst3
  have keep : Hid (∀ w', St B w0 w' ((pb, paO ⟨0, pe, pk, psz, pp, pt, pby, pbi⟩ (.slice a pby.length c)) :: (w.heap.size, pieO ⟨0, xe, xk, xbi, xsz, xp, xt, xby⟩) :: (S ++ F)) → ((w'.setCell ⟨pb, 4, none⟩ (tx xe)).cell? ⟨w.heap.size, 1, none⟩ = some (tx xe) ∧ (w'.setCell ⟨pb, 4, none⟩ (tx xe)).cell? ⟨w.heap.size, 2, none⟩ = some (tx xk)) ∧
      (((w'.setCell ⟨pb, 4, none⟩ (tx xe)).setCell ⟨pb, 5, none⟩ (tx xk)).cell? ⟨w.heap.size, 1, none⟩ = some (tx xe) ∧ ((w'.setCell ⟨pb, 4, none⟩ (tx xe)).setCell ⟨pb, 5, none⟩ (tx xk)).cell? ⟨w.heap.size, 2, none⟩ = some (tx xk))) := Lib.hid fun w' h => by
    have h2 := St.set0 h 4 (tx xe)
    have h3 := h2.set0 5 (tx xk)
    exact ⟨⟨h2.cell (b := w.heap.size) (List.mem_cons_of_mem _ List.mem_cons_self) rfl, h2.cell (b := w.heap.size) (List.mem_cons_of_mem _ List.mem_cons_self) rfl⟩, ⟨h3.cell (b := w.heap.size) (List.mem_cons_of_mem _ List.mem_cons_self) rfl, h3.cell (b := w.heap.size) (List.mem_cons_of_mem _ List.mem_cons_self) rfl⟩⟩
  go_region_held3 (fun wr => wr.cell? ⟨w.heap.size, 1, none⟩ = some (tx xe) ∧ wr.cell? ⟨w.heap.size, 2, none⟩ = some (tx xk)) (first | exact hS | exact hS0.out | with_reducible exact (keep.out _ hO).1 | with_reducible exact (keep.out _ hO).2 | go_keep) ((go_at_call 20; refine (hc.out _ (by assumption) _ (by first | exact h1.out | exact h2.out)).mono ?_; rintro r w'' ⟨rfl, hO, hS, e1, f4, f5⟩))
  have hN := names_put hO xe xk
  clear hS0 keep hc hO hS e1 f4 f5 h1 h2
  obtain ⟨V, hV⟩ : ∃ V, V = (w''.setCell ⟨pb, 4, none⟩ (tx xe)).setCell ⟨pb, 5, none⟩ (tx xk) := ⟨_, rfl⟩
  rw [← hV] at hN ⊢
  clear hV
  have hxe := hN.ne (b' := w.heap.size) List.mem_cons_self
  obtain ⟨j0, -, -, -, -, -, -, j12, -, -, -, jx3, -, -, -, -, js⟩ := PaOn.of (pb := pb) (xb := w.heap.size) (p := ⟨0, xe, xk, psz, pp, pt, pby, pbi⟩) (x := ⟨0, xe, xk, xbi, xsz, xp, xt, xby⟩) hN List.mem_cons_self (List.mem_cons_of_mem _ List.mem_cons_self)
  have s12 := js 12
  have s0 := js 0
  have fin : Hid (PaIs B w0 ((V.setCell ⟨pb, 12, none⟩ (.int .i64 xbi)).setCell ⟨pb, 0, none⟩ (.int .i64 1)) pb ⟨1, xe, xk, psz, pp, pt, pby, xbi⟩ F) := by
    have h3 := (hN.set0 12 (.int .i64 xbi)).set0 0 (.int .i64 1)
    exact Lib.hid ⟨a, c, S, hs.out, (h3.sub ((List.sublist_cons_self _ _).cons_cons _))⟩
  clear hN js
  go_wp2_with fail
  simp only [jumps]
  go_ret2
  exact ⟨rfl, fin.out⟩
end
end Go.Proofs.Ytaolpcmecfhgnaa
