/- The document's parcel. -/
import Derived.Test.YtaolpcmecfhgnaaPaE
namespace Go.Proofs.Ytaolpcmecfhgnaa
open Go.RowKit
open Go.ChangeMaps (setBlock)
set_option linter.unusedVariables false
set_option linter.unusedSectionVars false
set_option linter.unusedSimpArgs false
set_option maxRecDepth 100000

abbrev rpO (g hd : Bool) (p : Pcl) : Obj := .cells #[.bool g, .bool hd, .int .i64 0, .int .i64 0, .int .i64 p.size, tx p.exch, tx p.key, .int .i64 p.prio, .int .i64 p.ttl, .int .i64 0, .bool false, .int .i64 0, tx p.bytes, .int .i64 p.bits] 30
section
variable {B : Nat} {w0 w w' W : World} {b rb : Nat} {p : Pcl} {g hd : Bool} {F F' S C H : List (Nat × Obj)}
/-- A parcel stored. -/
abbrev rpPut (w : World) (b : Nat) (g hd : Bool) (p : Pcl) : World := (((((((((((((w.setCell ⟨b, 0, none⟩ (.bool g)).setCell ⟨b, 1, none⟩ (.bool hd)).setCell ⟨b, 2, none⟩ (.int .i64 0)).setCell ⟨b, 3, none⟩ (.int .i64 0)).setCell ⟨b, 4, none⟩ (.int .i64 p.size)).setCell ⟨b, 5, none⟩ (tx p.exch)).setCell ⟨b, 6, none⟩ (tx p.key)).setCell ⟨b, 7, none⟩ (.int .i64 p.prio)).setCell ⟨b, 8, none⟩ (.int .i64 p.ttl)).setCell ⟨b, 9, none⟩ (.int .i64 0)).setCell ⟨b, 10, none⟩ (.bool false)).setCell ⟨b, 11, none⟩ (.int .i64 0)).setCell ⟨b, 12, none⟩ (tx p.bytes)).setCell ⟨b, 13, none⟩ (.int .i64 p.bits)
theorem St.rpPut {p0 : Pcl} {g0 h0 : Bool} (h : St B w0 w ((b, rpO g0 h0 p0) :: C)) : St B w0 (rpPut w b g hd p) ((b, rpO g hd p) :: C) := by
  have h14 := ((((((((((((((h.set0 0 (.bool g)).set0 1 (.bool hd)).set0 2 (.int .i64 0)).set0 3 (.int .i64 0)).set0 4 (.int .i64 p.size)).set0 5 (tx p.exch)).set0 6 (tx p.key)).set0 7 (.int .i64 p.prio)).set0 8 (.int .i64 p.ttl)).set0 9 (.int .i64 0)).set0 10 (.bool false)).set0 11 (.int .i64 0)).set0 12 (tx p.bytes)).set0 13 (.int .i64 p.bits))
  simp only [List.setIfInBounds_toArray, List.set_cons_zero, List.set_cons_succ] at h14
  exact h14
structure RpC (W : World) (b : Nat) (g hd : Bool) (p : Pcl) : Prop where
  c0 : W.cell? ⟨b, 0, none⟩ = some (.bool g)
  c1 : W.cell? ⟨b, 1, none⟩ = some (.bool hd)
  c2 : W.cell? ⟨b, 2, none⟩ = some (.int .i64 0)
  c3 : W.cell? ⟨b, 3, none⟩ = some (.int .i64 0)
  c4 : W.cell? ⟨b, 4, none⟩ = some (.int .i64 p.size)
  c5 : W.cell? ⟨b, 5, none⟩ = some (tx p.exch)
  c6 : W.cell? ⟨b, 6, none⟩ = some (tx p.key)
  c7 : W.cell? ⟨b, 7, none⟩ = some (.int .i64 p.prio)
  c8 : W.cell? ⟨b, 8, none⟩ = some (.int .i64 p.ttl)
  c9 : W.cell? ⟨b, 9, none⟩ = some (.int .i64 0)
  c10 : W.cell? ⟨b, 10, none⟩ = some (.bool false)
  c11 : W.cell? ⟨b, 11, none⟩ = some (.int .i64 0)
  c12 : W.cell? ⟨b, 12, none⟩ = some (tx p.bytes)
  c13 : W.cell? ⟨b, 13, none⟩ = some (.int .i64 p.bits)
  soft : ∀ i, W.frozen? ⟨b, i, none⟩ = false
theorem RpC.of (h : St B w0 W H) (m : (b, rpO g hd p) ∈ H) : RpC W b g hd p :=
  ⟨h.cell m rfl, h.cell m rfl, h.cell m rfl, h.cell m rfl, h.cell m rfl, h.cell m rfl, h.cell m rfl, h.cell m rfl, h.cell m rfl, h.cell m rfl, h.cell m rfl, h.cell m rfl, h.cell m rfl, h.cell m rfl, fun i => St.soft h m i⟩
/-- As a parcel of the program that has come so far. -/
def RPaIs (B : Nat) (w0 w : World) (rb : Nat) (p : Pcl) (F : List (Nat × Obj)) : Prop := St B w0 w ((rb, rpO (!decide (p.next = 0)) (decide (2 ≤ p.next)) p) :: F)

set_option maxHeartbeats 1000000 in
theorem rf_whole_q (h : St B w0 w ((rb, rpO g hd p) :: F)) (hb : p.bytes.length ≤ 1000000) : Calls Try.prog 19 #[pptr rb] w fun r w' => r = .returned (.bool (hd && decide ((p.bytes.length : Int) = p.size))) ∧ ∃ n, w' = w.drewN n := by
  obtain ⟨-, c1, -, -, c4, -, -, -, -, -, -, -, c12, -, -⟩ := RpC.of h List.mem_cons_self
  have e : decide ((p.bytes.length : Int) = p.size) = ((p.bytes.length : Int) == p.size) := rfl
  rw [e]
  clear h e
  have hb0 : (0 : Int) ≤ p.bytes.length := by omega
  have hb1 : (p.bytes.length : Int) ≤ 1000000 := by omega
  clear hb
  generalize hq : ((p.bytes.length : Int) == p.size) = q at *
  cases hd with
  | false =>
    rw [Bool.false_and]
    go_enter Try.func19, Try.ntmps19
    go_wp2_with fail
    go_quiet (fail)
    go_wp2_with fail
    go_ret
    exact ⟨rfl, _, rfl⟩
  | true =>
    rw [Bool.true_and]
    go_enter Try.func19, Try.ntmps19
    go_wp2_with fail
    go_quiet (fail)
    go_wp2_with fail
    go_ret
    exact ⟨rfl, _, rfl⟩

theorem rf_whole (h : St B w0 w ((rb, rpO g hd p) :: F)) (hb : p.bytes.length ≤ 1000000) : Calls Try.prog 19 #[pptr rb] w fun r w' => r = .returned (.bool (hd && decide ((p.bytes.length : Int) = p.size))) ∧ St B w0 w' ((rb, rpO g hd p) :: F) := by
  refine (rf_whole_q h hb).mono ?_
  rintro r w' ⟨rfl, n, rfl⟩
  exact ⟨rfl, h.drewN n⟩

set_option maxHeartbeats 1000000 in
theorem rf_begin (h : RPaIs B w0 w rb p F) (ok : OkP p) (e k : List UInt8) (bi : Int) : Calls Try.prog 9 #[pptr rb, tx e, tx k, .int .i64 bi] w fun r w' => r = .returned (.int .i64 (beginP p e k bi).1) ∧ RPaIs B w0 w' rb (beginP p e k bi).2 F := by
  unfold RPaIs at h
  have c := RpC.of h List.mem_cons_self
  unfold beginP
  by_cases h0 : p.next = 0
  · rw [if_pos h0]
    obtain rfl := ok.zero h0
    obtain ⟨c0, c1, c2, c3, c4, c5, c6, c7, c8, c9, c10, c11, c12, c13, f⟩ := c
    have fin : Hid (RPaIs B w0 (rpPut w rb true false ⟨1, e, k, 0, 0, 0, [], bi⟩) rb ⟨1, e, k, 0, 0, 0, [], bi⟩ F) := Lib.hid h.rpPut
    clear h ok h0
    go_enter Try.func9, Try.ntmps9
    go_wp2_with fail
    go_ret
    exact ⟨rfl, fin.out⟩
  · rw [if_neg h0]
    have c0 := c.c0
    have e0 : (!decide (p.next = 0)) = true := by simp [h0]
    rw [e0] at c0
    have fin : Hid (RPaIs B w0 w rb p F) := Lib.hid h
    clear h ok h0 c e0
    go_enter Try.func9, Try.ntmps9
    go_wp2_with fail
    go_ret
    exact ⟨rfl, fin.out⟩
end
end Go.Proofs.Ytaolpcmecfhgnaa
