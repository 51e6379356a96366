import Derived.Test.YtknjamfjonapiaaGreatDoorY01
import Derived.Laws.CopyOwn
import Derived.Lib.AppendZerosOnto
import Derived.Lib.Overlaps
import Derived.Test.YtknjamfjonapiaaGreatDoorY04
import Derived.Maps.RangeRun
import Derived.Test.YtknjamfjonapiaaGreatDoorProg
import Derived.Test.YtknjamfjonapiaaGreatDoorRows
import Derived.Deep.QuietTactic
import Derived.BigQuiet
import Derived.Deep.RegionHeld3
import Derived.Laws.MakeOwn
import Derived.IntWalk
import Derived.Lib.Hide
namespace Go.Proofs.YtknjamfjonapiaaGreatDoor
open Go.RowKit
set_option maxRecDepth 100000
section
variable {P : Program} {B : Nat} {w0 w w' : World} {A F : List (Nat × Obj)} {T : TypeId} {size n m : Nat} {v x : Value} {xs news : List Value}
theorem take_splice {L : List Value} {p k : Nat} {c : List Value} (h : k ≤ p) (hp : p ≤ L.length) : (splice L p c).take k = L.take k := by
 unfold splice
 rw [List.take_append_of_le_length (by rw [List.length_take]; omega), List.take_take, Nat.min_eq_left h]
theorem drop_splice_ahead {L : List Value} {p k : Nat} {c : List Value} (h : k ≤ p) (hp : p ≤ L.length) : (splice L p c).drop k = splice (L.drop k) (p - k) c := by
 unfold splice
 rw [List.drop_append_of_le_length (by rw [List.length_take]; omega), List.drop_take, List.drop_drop]
 congr 3
 omega
theorem splice1 {L : List Value} {p : Nat} {c : List Value} (hl : p + c.length ≤ L.length) : (splice L p c).take (p + c.length) = L.take p ++ c := by
 unfold splice
 rw [← List.append_assoc]
 exact List.take_left' (by simp only [List.length_append, List.length_take]; omega)
theorem SlIs.block {g off cap : Nat} (h : SlIs T size (.slice (some ⟨g, off, none⟩) n cap) n xs F) : ∃ L : List Value, F = [(g, .cells L.toArray T (0, 0))] ∧ n ≤ cap ∧ cap ≤ maxLen ∧ off + cap * size ≤ L.length ∧ (L.drop off).take (n * size) = xs := by
 obtain ⟨hl, ⟨h1, _⟩ | ⟨g', off', cap', cur, h1, hF, h3, h4, h5, h6⟩⟩ := h
 ·cases h1
 ·cases h1
  exact ⟨cur.toList, by rw [hF], h3, h4, by simpa using h5, h6⟩
theorem SlIs.of {g off cap : Nat} {L : List Value} (h3 : n ≤ cap) (h4 : cap ≤ maxLen) (h5 : off + cap * size ≤ L.length) (h6 : (L.drop off).take (n * size) = xs) : SlIs T size (.slice (some ⟨g, off, none⟩) n cap) n xs [(g, .cells L.toArray T (0, 0))] := by
 refine ⟨?_, .inr ⟨g, off, cap, _, rfl, rfl, h3, h4, by simpa using h5, h6⟩⟩
 rw [← h6, List.length_take, List.length_drop]
 have : n * size ≤ cap * size := Nat.mul_le_mul_right _ h3
 omega
theorem St.setL {g : Nat} {L L' : List Value} (h : St B w0 w (A ++ [(g, .cells L.toArray T (0, 0))])) : St B w0 (w.setRow g L'.toArray) (A ++ [(g, .cells L'.toArray T (0, 0))]) := St.setRow h
theorem run_append_ty {dT sT ty ty' : TypeId} {d s : Value} {r : Result Value} (h : (Builtin.append_ #[dT, sT] ty #[d, s]).run P w = r) : (Builtin.append_ #[dT, sT] ty' #[d, s]).run P w = r := h
theorem wpList_append_go {ops : Array Oper} {rest : List Oper} {o : Oper} {a : Act} {Q : Exit → Act → World → Prop} (hgd : o.guard = none) (d s : Operand) (dT sT : TypeId)
  (ho : o.op = .call { callee := .builtin .append, args := #[d, s], argTypes := #[dT, sT] }) (vd vs : Value) (hed : a.eval d = vd) (hes : a.eval s = vs) {v' : Value} {w' : World}
  (hr : (Builtin.append_ #[dT, sT] 0 #[vd, vs]).run P w = .ok v' w') (h : wpList P ops Q rest (a.put o.dst v') w') : wpList P ops Q (o :: rest) a w := by
 refine wpList_plain hgd fun K hK => ?_
 have hr' := run_append_ty (ty' := o.type) hr
 unfold Oper.wp execOp
 simp only [ho, resolve, invoke, builtin, Sem.run_bind, Sem.run_pure, Result.andThen_ok, List.map_toArray, List.map_cons, List.map_nil, hed, hes, hr']
 exact hK _ _ h
theorem step_append_go {ops : Array Oper} {o : Oper} {a : Act} {K : Act → World → Prop} {Q : Exit → Act → World → Prop} {E : Prop} (hgd : o.guard = none) (d s : Operand) (dT sT : TypeId)
  (ho : o.op = .call { callee := .builtin .append, args := #[d, s], argTypes := #[dT, sT] }) (vd vs : Value) (hed : a.eval d = vd) (hes : a.eval s = vs) {v' : Value} {w' : World}
  (hr : (Builtin.append_ #[dT, sT] 0 #[vd, vs]).run P w = .ok v' w') (h : K (a.put o.dst v') w') : if Region.wanted o (yielded ops a.tmps) = true then Oper.wp P o a w K Q else E := by
 have hw : Region.wanted o (yielded ops a.tmps) = true := by simp [Region.wanted, hgd]
 rw [if_pos hw]
 have hr' := run_append_ty (ty' := o.type) hr
 unfold Oper.wp execOp
 simp only [ho, resolve, invoke, builtin, Sem.run_bind, Sem.run_pure, Result.andThen_ok, List.map_toArray, List.map_cons, List.map_nil, hed, hes, hr']
 exact h
theorem run_append_room_st {g off sLen sCap : Nat} {L : List Value} (t ty e : TypeId) (i : TypeInfo) (ht : P.underlying t = some (.slice e)) (hi : P.info? e = some i) (hsize : i.size = size)
  (hst : St B w0 w (A ++ [(g, .cells L.toArray e (0, 0))])) (hx : Reads w x m size news) (h1 : ∀ u ∈ news, u.oneCell' = true) (hroom : sLen + m ≤ sCap) (hfit : off + sLen * size + news.length ≤ L.length) :
  ∃ w', (Builtin.append_ #[t, t] ty #[.slice (some ⟨g, off, none⟩) sLen sCap, x]).run P w = .ok (.slice (some ⟨g, off, none⟩) (sLen + m) sCap) w' ∧ St B w0 w' (A ++ [(g, .cells (splice L (off + sLen * size) news).toArray e (0, 0))]) := by
 subst hsize
 obtain ⟨hxl, ⟨rfl, rfl⟩ | ⟨ad, c, rfl, hnews⟩⟩ := hx
 ·have hn : news = [] := List.eq_nil_of_length_eq_zero (by simpa using hxl)
  subst hn
  exact ⟨w, run_append_room_none w t ty e i ht hi _ sLen sCap hroom, by simpa [splice] using hst⟩
 ·have hb := hst.get (b := g) (o := .cells L.toArray e (0, 0)) (by simp)
  refine ⟨_, run_append_room_off (P := P) w t ty e i ht hi g off sLen sCap L.toArray hb ad m c news hxl hnews h1 hroom (by simpa using hfit), ?_⟩
  have := hst.setL (L' := splice L (off + sLen * i.size) news)
  simpa [splice] using this
theorem run_clear_ty {t ty ty' : TypeId} {d : Value} {r : Result Value} (h : (Builtin.clear_ #[t] ty #[d]).run P w = r) : (Builtin.clear_ #[t] ty' #[d]).run P w = r := h
theorem wpList_clear_go {ops : Array Oper} {rest : List Oper} {o : Oper} {a : Act} {Q : Exit → Act → World → Prop} (hgd : o.guard = none) (d : Operand) (t : TypeId)
  (ho : o.op = .call { callee := .builtin .clear, args := #[d], argTypes := #[t] }) (vd : Value) (hed : a.eval d = vd) {v' : Value} {w' : World}
  (hr : (Builtin.clear_ #[t] 0 #[vd]).run P w = .ok v' w') (h : wpList P ops Q rest (a.put o.dst v') w') : wpList P ops Q (o :: rest) a w := by
 refine wpList_plain hgd fun K hK => ?_
 have hr' := run_clear_ty (ty' := o.type) hr
 unfold Oper.wp execOp
 simp only [ho, resolve, invoke, builtin, Sem.run_bind, Sem.run_pure, Result.andThen_ok, List.map_toArray, List.map_cons, List.map_nil, hed, hr']
 exact hK _ _ h
theorem run_clear_st {g off k cap : Nat} {dp : Option Addr} {L : List Value} {z : Value} (t ty e : TypeId) (ht : P.underlying t = some (.slice e)) (hv : ∀ w, (zeroValue e).run P w = .ok z w) (hzs : z.cells.size = size) (hz1 : ∀ u ∈ z.cells.toList, u.oneCell' = true)
  (hst : St B w0 w (A ++ [(g, .cells L.toArray T (0, 0))])) (hd : 0 < k → dp = some ⟨g, off, none⟩) (hfit : off + k * size ≤ L.length) :
  ∃ (w' : World) (c : List Value), (Builtin.clear_ #[t] ty #[.slice dp k cap]).run P w = .ok (.tuple #[]) w' ∧ c.length = k * size ∧ St B w0 w' (A ++ [(g, .cells (splice L off c).toArray T (0, 0))]) := by
 have hb := hst.get (b := g) (o := .cells L.toArray T (0, 0)) (by simp)
 cases k with
 | zero =>
  refine ⟨w, [], ?_, by simp, by simpa [splice] using hst⟩
  cases dp <;> simp [Builtin.clear_, run_underlying ht]
 | succ k =>
  obtain rfl := hd (by omega)
  have hc : (Builtin.zeroCells z.cells (k + 1)).toList.length = (k + 1) * size := by simp [size_zeroCells, hzs]
  have hsto := run_storeCells_at P g off T (Builtin.zeroCells z.cells (k + 1)).toList 0 L.toArray w hb (by simpa [size_zeroCells, hzs] using hfit) (by
   intro u hu
   simp only [Builtin.zeroCells, Array.toList_map, List.mem_map] at hu
   obtain ⟨j, hj, rfl⟩ := hu
   have hj2 : j < (k + 1) * z.cells.size := by simpa using hj
   have hpos : 0 < z.cells.size := by
    rcases Nat.eq_zero_or_pos z.cells.size with h | h
    ·rw [h] at hj2; omega
    ·exact h
   have hlt : j % z.cells.size < z.cells.size := Nat.mod_lt _ hpos
   refine hz1 _ ?_
   rw [getElem!_pos z.cells _ hlt]
   simp)
  simp only [Nat.add_zero] at hsto
  refine ⟨_, (Builtin.zeroCells z.cells (k + 1)).toList, ?_, hc, hst.setL⟩
  simp [Builtin.clear_, run_underlying ht, hv, hsto, splice]
end
end Go.Proofs.YtknjamfjonapiaaGreatDoor
namespace Go.Proofs.YtknjamfjonapiaaGreatDoor
open Go.RowKit
set_option linter.unusedVariables false
structure Ap (P : Program) (ts e : TypeId) (size bytes : Nat) : Prop where
 ty : P.underlying ts = some (.slice e)
 info : ∃ i z, P.info? e = some i ∧ i.zero = some z ∧ i.size = size ∧ i.bytes = bytes ∧ z.cells.size = size
structure AppRun (P : Program) (T : TypeId) (x y : Value) (w : World) (v : Value) (w' : World) : Prop where
 run : (Builtin.append_ #[T, T] 0 #[x, y]).run P w = .ok v w'
theorem step_app {P : Program} {w w' : World} {ops : Array Oper} {o : Oper} {a : Act} {K : Act → World → Prop} {Q : Exit → Act → World → Prop} {E : Prop} {x y v' : Value} (d s : Operand) (T : TypeId)
  (hr : AppRun P T x y w v' w') (hgd : o.guard = none) (ho : o.op = .call { callee := .builtin .append, args := #[d, s], argTypes := #[T, T] }) (hed : a.eval d = x) (hes : a.eval s = y)
  (h : K (a.put o.dst v') w') : if Region.wanted o (yielded ops a.tmps) = true then Oper.wp P o a w K Q else E :=
 step_append_go hgd d s T T ho x y hed hes hr.run h
section
variable {P : Program} {B : Nat} {w0 w : World} {A F : List (Nat × Obj)} {ts e : TypeId} {size bytes n m : Nat} {v x : Value} {xs news : List Value}
theorem Ap.append (hA : Ap P ts e size bytes) (hs : SlIs e size v n xs F) (hst : St B w0 w (A ++ F)) (hx : Reads w x m size news) (h1 : ∀ u ∈ news, u.oneCell' = true) (h63 : n + m ≤ maxLen) (hb : (n + m) * bytes ≤ 140737488355328) :
  ∃ a c W F', (Builtin.append_ #[ts, ts] 0 #[v, x]).run P w = .ok (.slice a (n + m) c) W ∧ SlIs e size (.slice a (n + m) c) (n + m) (xs ++ news) F' ∧ St B w0 W (A ++ F') := by
 obtain ⟨i, z, hi, hz, hs1, hs2, hs3⟩ := hA.info
 obtain ⟨v', W, F', h2, h3, h4⟩ := run_append_sl ts 0 e i z size bytes hA.ty hi hz hs1 hs2 hs3 hs hst hx h1 h63 hb
 obtain ⟨a, c, rfl, -⟩ := h3.form
 exact ⟨a, c, W, F', h2, h3, h4⟩
theorem Ap.copy (hA : Ap P ts e size bytes) (hst : St B w0 w A) (hx : Reads w x m size news) (h1 : ∀ u ∈ news, u.oneCell' = true) (h63 : m ≤ maxLen) (hb : m * bytes ≤ 140737488355328) :
  ∃ a c W F', (Builtin.append_ #[ts, ts] 0 #[.slice none 0 0, x]).run P w = .ok (.slice a m c) W ∧ SlIs e size (.slice a m c) m news F' ∧ St B w0 W (A ++ F') := by
 obtain ⟨a, c, W, F', h2, h3, h4⟩ := hA.append (SlIs.nil (T := e) (size := size)) (A := A) (by rw [List.append_nil]; exact hst) hx h1 (by omega) (by rw [Nat.zero_add]; exact hb)
 rw [Nat.zero_add] at h2 h3
 rw [List.nil_append] at h3
 exact ⟨a, c, W, F', h2, h3, h4⟩
theorem Ap.piece (hA : Ap P ts e size bytes) (h : SlIs e size v n xs F) (k : Nat) (hk : k ≤ n) :
  ∃ a1 c1 a2 c2, SlIs e size (.slice a1 k c1) k (xs.take (k * size)) F ∧ SlIs e size (.slice a2 (n - k) c2) (n - k) (xs.drop (k * size)) F ∧
   (∀ w, (Instr.slice ts v none (some (.int .i64 k)) none).run P w = .ok (.slice a1 k c1) w) ∧ (∀ w, (Instr.slice ts v (some (.int .i64 k)) none none).run P w = .ok (.slice a2 (n - k) c2) w) := by
 obtain ⟨i, z, hi, hz, hs1, hs2, hs3⟩ := hA.info
 obtain ⟨v1, h1, -, -, r1⟩ := run_piece hA.ty hi hs1 h 0 k (by omega) hk
 obtain ⟨v2, h2, -, r2, -⟩ := run_piece hA.ty hi hs1 h k n hk (by omega)
 obtain ⟨a1, c1, rfl, -⟩ := h1.form
 obtain ⟨a2, c2, rfl, -⟩ := h2.form
 rw [Nat.zero_mul, List.drop_zero, Nat.sub_zero] at h1
 rw [List.take_of_length_le (by
  rw [List.length_drop, h.len]
  have : (n - k) * size = n * size - k * size := Nat.sub_mul _ _ _
  omega)] at h2
 rw [Nat.sub_zero] at r1
 exact ⟨a1, c1, a2, c2, h1, h2, fun w => r1 rfl w, fun w => r2 rfl w⟩
end
end Go.Proofs.YtknjamfjonapiaaGreatDoor
namespace Go.Proofs.YtknjamfjonapiaaGreatDoor
open Go.RowKit
set_option linter.unusedVariables false
set_option linter.unusedSectionVars false
def ecells (e : Ent) : List Value := [.int .i64 e.id, .int .i64 e.body, .int .i64 e.size, tx e.exch, tx e.key, .int .i64 e.prio, .int .i64 e.ttl, .int .i64 e.til, .bool e.again, .int .i64 e.hops]
def entsV (L : List Ent) : List Value := L.flatMap ecells
theorem entsV_cons (e : Ent) (L : List Ent) : entsV (e :: L) = ecells e ++ entsV L := rfl
theorem entsV_app (L M : List Ent) : entsV (L ++ M) = entsV L ++ entsV M := by simp [entsV]
theorem ecells_len (e : Ent) : (ecells e).length = 10 := rfl
theorem entsV_len : ∀ (L : List Ent), (entsV L).length = L.length * 10
 | [] => rfl
 | e :: L => by rw [entsV_cons, List.length_append, ecells_len, entsV_len L, List.length_cons]; omega
theorem entsV_at : ∀ {L : List Ent} {i : Nat} {e : Ent}, L[i]? = some e → ∀ {k : Nat} {v : Value}, (ecells e)[k]? = some v → (entsV L)[i * 10 + k]? = some v
 | [], _, _, h, _, _, _ => by simp at h
 | f :: L, 0, e, h, k, v, hk => by
  simp at h
  subst h
  have := (List.getElem?_eq_some_iff.1 hk).1
  rw [entsV_cons, Nat.zero_mul, Nat.zero_add, List.getElem?_append_left this]
  exact hk
 | f :: L, i + 1, e, h, k, v, hk => by
  rw [entsV_cons, List.getElem?_append_right (by rw [ecells_len]; omega), ecells_len, show (i + 1) * 10 + k - 10 = i * 10 + k by omega]
  exact entsV_at (by simpa using h) hk
theorem ecells_one (e : Ent) : ∀ u ∈ ecells e, u.oneCell' = true := fun u hu => by
 unfold ecells at hu
 simp only [List.mem_cons, List.not_mem_nil, or_false] at hu
 rcases hu with rfl | rfl | rfl | rfl | rfl | rfl | rfl | rfl | rfl | rfl <;> rfl
theorem entsV_one (L : List Ent) : ∀ u ∈ entsV L, u.oneCell' = true := fun u hu => by
 obtain ⟨e, -, h⟩ := List.mem_flatMap.1 hu
 exact ecells_one e u h
theorem entsV_drop (L : List Ent) (k : Nat) (h : k ≤ L.length) : entsV (L.drop k) = (entsV L).drop (k * 10) := by
 have h1 := congrArg entsV (List.take_append_drop k L)
 rw [entsV_app] at h1
 have l := entsV_len (L.take k)
 rw [List.length_take] at l
 exact (show entsV (L.drop k) = (entsV (L.take k) ++ entsV (L.drop k)).drop (k * 10) by
  rw [List.drop_append_of_le_length (by omega), List.drop_of_length_le (l := entsV (L.take k)) (by omega), List.nil_append]).trans (by rw [h1])
abbrev EnRow (w : World) (b o : Nat) (e : Ent) : Prop := w.cell? ⟨b, o, none⟩ = some (.int .i64 e.id) ∧ w.cell? ⟨b, o + 1, none⟩ = some (.int .i64 e.body) ∧ w.cell? ⟨b, o + 2, none⟩ = some (.int .i64 e.size) ∧ w.cell? ⟨b, o + 3, none⟩ = some (tx e.exch) ∧ w.cell? ⟨b, o + 4, none⟩ = some (tx e.key) ∧
 w.cell? ⟨b, o + 5, none⟩ = some (.int .i64 e.prio) ∧ w.cell? ⟨b, o + 6, none⟩ = some (.int .i64 e.ttl) ∧ w.cell? ⟨b, o + 7, none⟩ = some (.int .i64 e.til) ∧ w.cell? ⟨b, o + 8, none⟩ = some (.bool e.again) ∧ w.cell? ⟨b, o + 9, none⟩ = some (.int .i64 e.hops)
theorem EnRow.below {w w' : World} {b o : Nat} {e : Ent} (h : EnRow w b o e) (hb : Below w.heap.size w w') : EnRow w' b o e := by
 obtain ⟨h0, h1, h2, h3, h4, h5, h6, h7, h8, h9⟩ := h
 exact ⟨cellUp h0 hb, cellUp h1 hb, cellUp h2 hb, cellUp h3 hb, cellUp h4 hb, cellUp h5 hb, cellUp h6 hb, cellUp h7 hb, cellUp h8 hb, cellUp h9 hb⟩
def ReadEs (w : World) (a : Option Addr) (L : List Ent) : Prop := ∀ i e, L[i]? = some e → ∃ b off, a = some ⟨b, off, none⟩ ∧ EnRow w b (off + i * 10) e
theorem ReadEs.below {w w' : World} {a : Option Addr} {L : List Ent} (h : ReadEs w a L) (hb : Below w.heap.size w w') : ReadEs w' a L := fun i e hi => by
 obtain ⟨b, off, ha, hr⟩ := h i e hi
 exact ⟨b, off, ha, hr.below hb⟩
theorem ReadEs.nil (w : World) (a : Option Addr) : ReadEs w a [] := fun i e hi => by simp at hi
theorem apE : Ap Tryz.prog 46 51 10 96 where
 ty := by kernel_rfl
 info := by
  have h : (Tryz.prog.info? 51).map (fun i => (i.zero.map fun z => z.cells.size, i.size, i.bytes)) = some (some 10, 10, 96) := by kernel_rfl
  rw [Option.map_eq_some_iff] at h
  obtain ⟨i, h1, h2⟩ := h
  simp only [Prod.mk.injEq, Option.map_eq_some_iff] at h2
  obtain ⟨⟨z, h3, h4⟩, h5, h6⟩ := h2
  exact ⟨i, z, h1, h3, h5, h6, h4⟩
abbrev EnsIs (v : Value) (L : List Ent) (S : List (Nat × Obj)) : Prop := SlIs 51 10 v L.length (entsV L) S
theorem EnsIs.nil : EnsIs (.slice none 0 0) [] [] := SlIs.nil
section
variable {B : Nat} {w0 w : World} {S X Y F : List (Nat × Obj)} {a : Option Addr} {c c' k : Nat} {L M : List Ent} {v : Value}
theorem EnsIs.form (hs : EnsIs v L S) : ∃ a c, v = .slice a L.length c := by
 obtain ⟨a, c, e, -⟩ := SlIs.form hs
 exact ⟨a, c, e⟩
theorem EnsIs.read (hs : EnsIs (.slice a L.length c) L S) (hst : St B w0 w (X ++ S)) : ReadEs w a L := fun i e hi => by
 obtain ⟨a', c', e1, -, -, h⟩ := SlIs.form hs
 cases e1
 obtain ⟨g, off, rfl⟩ := h i (List.getElem?_eq_some_iff.1 hi).1
 refine ⟨g, off, rfl, SlIs.cellAt hs hst (entsV_at hi (k := 0) rfl), SlIs.cellAt hs hst (entsV_at hi (k := 1) rfl), SlIs.cellAt hs hst (entsV_at hi (k := 2) rfl), SlIs.cellAt hs hst (entsV_at hi (k := 3) rfl), SlIs.cellAt hs hst (entsV_at hi (k := 4) rfl),
  SlIs.cellAt hs hst (entsV_at hi (k := 5) rfl), SlIs.cellAt hs hst (entsV_at hi (k := 6) rfl), SlIs.cellAt hs hst (entsV_at hi (k := 7) rfl), SlIs.cellAt hs hst (entsV_at hi (k := 8) rfl), SlIs.cellAt hs hst (entsV_at hi (k := 9) rfl)⟩
theorem ens_push (hs : EnsIs (.slice a L.length c) L S) (hst : St B w0 w (X ++ S)) (e : Ent) (hl : L.length ≤ 100000) :
  ∃ a' c' W S', (Builtin.append_ #[46, 46] 0 #[.slice a L.length c, .slice (some ⟨w.heap.size, 0, none⟩) 1 1]).run Tryz.prog (w.alloc (enO e)) = .ok (.slice a' (L ++ [e]).length c') W ∧
   EnsIs (.slice a' (L ++ [e]).length c') (L ++ [e]) S' ∧ St B w0 W (X ++ S') := by
 have hst1 := hst.alloc (enO e)
 have hb := hst1.get (b := w.heap.size) (o := enO e) List.mem_cons_self
 obtain ⟨a', c', W, S', q1, q2, q3⟩ := apE.append (A := (w.heap.size, enO e) :: X) hs hst1 (Reads.block (cs := ecells e) (n := 1) (size := 10) hb rfl 1) (ecells_one _) (by unfold maxLen; omega) (by omega)
 have e1 : L.length + 1 = (L ++ [e]).length := by rw [List.length_append]; rfl
 rw [e1] at q1 q2
 rw [show entsV L ++ ecells e = entsV (L ++ [e]) by simp [entsV]] at q2
 exact ⟨a', c', W, S', q1, q2, q3.sub (List.sublist_cons_self _ _)⟩
theorem ens_app {a2 : Option Addr} {c2 : Nat} (hs : EnsIs (.slice a L.length c) L S) (hst : St B w0 w (X ++ S)) (h2 : EnsIs (.slice a2 M.length c2) M Y) (hst2 : St B w0 w (F ++ Y)) (hl : L.length + M.length ≤ 100000) :
  ∃ a' c' W S', (Builtin.append_ #[46, 46] 0 #[.slice a L.length c, .slice a2 M.length c2]).run Tryz.prog w = .ok (.slice a' (L ++ M).length c') W ∧
   EnsIs (.slice a' (L ++ M).length c') (L ++ M) S' ∧ St B w0 W (X ++ S') := by
 obtain ⟨a', c', W, S', q1, q2, q3⟩ := apE.append (A := X) hs hst (SlIs.reads (A := F) h2 hst2) (entsV_one _) (by unfold maxLen; omega) (by omega)
 have e1 : L.length + M.length = (L ++ M).length := by rw [List.length_append]
 rw [e1] at q1 q2
 rw [← entsV_app] at q2
 exact ⟨a', c', W, S', q1, q2, q3⟩
end
end Go.Proofs.YtknjamfjonapiaaGreatDoor
namespace Go.Proofs.YtknjamfjonapiaaGreatDoor
open Go.RowKit
open Go.ChangeMaps (setBlock)
set_option linter.unusedVariables false
set_option linter.unusedSectionVars false
set_option linter.unusedSimpArgs false
abbrev MapRow (α : Type) := α × Value × Nat
theorem nodup_len {α : Type} {l m : List α} (hn : l.Nodup) (hs : ∀ x ∈ l, x ∈ m) : l.length ≤ m.length := by
 classical
 induction l generalizing m with
 | nil => exact Nat.zero_le _
 | cons x r ih =>
  have hx := hs x List.mem_cons_self
  obtain ⟨h1, h2⟩ := List.nodup_cons.1 hn
  have h3 := ih (m := m.erase x) h2 fun y hy => (List.mem_erase_of_ne fun e : y = x => h1 (by rw [← e]; exact hy)).2 (hs y (List.mem_cons_of_mem _ hy))
  have h4 := List.length_erase_of_mem hx
  have h5 := List.length_pos_of_mem hx
  rw [List.length_cons]
  omega
section
variable {α : Type}
def entE (enc : α → Value) (x : MapRow α) : MapEntry := { key := enc x.1, val := x.2.1, born := x.2.2 }
def entsE (enc : α → Value) (l : List (MapRow α)) : Array MapEntry := (l.map (entE enc)).toArray
variable [DecidableEq α]
def seek (l : List (MapRow α)) (k : α) : Option (MapRow α) := l.find? (fun x => decide (x.1 = k))
def spot (l : List (MapRow α)) (k : α) (i : Nat) : Option (Nat × Value) := (l.findIdx? (fun x => decide (x.1 = k))).bind fun j => (l[j]?).map fun x => (i + j, x.2.1)
theorem spot_nil (k : α) (i : Nat) : spot ([] : List (MapRow α)) k i = none := rfl
theorem spot_hit (l : List (MapRow α)) (x : MapRow α) (i : Nat) : spot (x :: l) x.1 i = some (i, x.2.1) := by simp [spot, List.findIdx?_cons]
theorem spot_miss {l : List (MapRow α)} {x : MapRow α} {k : α} (h : x.1 ≠ k) (i : Nat) : spot (x :: l) k i = spot l k (i + 1) := by
 have h2 : decide (x.1 = k) = false := by simpa using h
 simp only [spot, List.findIdx?_cons, h2]
 cases hf : l.findIdx? (fun x => decide (x.1 = k)) with
 | none => simp
 | some j => simp [Nat.add_assoc, Nat.add_comm 1 j]
theorem spot_seek (l : List (MapRow α)) (k : α) (i : Nat) : (spot l k i).map (·.2) = (seek l k).map (·.2.1) := by
 induction l generalizing i with
 | nil => rfl
 | cons x l ih =>
  by_cases h : x.1 = k
  ·subst h
   rw [spot_hit]
   simp [seek]
  ·rw [spot_miss h, ih]
   have h2 : decide (x.1 = k) = false := by simpa using h
   simp [seek, List.find?_cons, h2]
structure KeyBy (P : Program) (K : TypeId) (enc : α → Value) (ok : World → α → Prop) : Prop where
 check : ∀ em n k w, (Instr.checkKey em (n + 1) K (enc k)).run P w = .ok () w
 find : ∀ (l : List (MapRow α)) k w, ok w k → (∀ x ∈ l, ok w x.1) → (Instr.findKey K (enc k) (l.map (entE enc))).run P w = .ok (spot l k 0) w
 same : ∀ k, Instr.sameBits 10000 (enc k) (enc k) = true
theorem findNow_by {d : TypeDesc} {enc : α → Value} (h : ∀ a b, Instr.sameNow d (enc a) (enc b) = some (decide (b = a))) (k : α) : ∀ (l : List (MapRow α)) (i : Nat),
  Instr.findNow d (enc k) (l.map (entE enc)) i = some (spot l k i)
 | [], i => rfl
 | x :: l, i => by
  simp only [List.map_cons, Instr.findNow, entE, h]
  by_cases hx : x.1 = k
  ·subst hx
   rw [spot_hit]
   simp
  ·have h2 : decide (x.1 = k) = false := by simpa using hx
   rw [h2]
   simp only
   rw [spot_miss hx]
   exact findNow_by h k l (i + 1)
theorem keyBy_now {P : Program} {K : TypeId} {d : TypeDesc} {enc : α → Value} (hK : P.underlying K = some d) (hc : ∀ em n k w, (Instr.checkKey em (n + 1) K (enc k)).run P w = .ok () w)
  (h : ∀ a b, Instr.sameNow d (enc a) (enc b) = some (decide (b = a))) (hs : ∀ k, Instr.sameBits 10000 (enc k) (enc k) = true) : KeyBy P K enc (fun _ _ => True) :=
 ⟨hc, fun l k w _ _ => by
  simp only [Instr.findKey]
  simp [run_underlying hK, findNow_by h k l 0], hs⟩
section
variable {P : Program} {T K E : TypeId} {w : World} {b : Nat} {l : List (MapRow α)} {clk : Nat} {enc : α → Value} {ok : World → α → Prop}
theorem run_lookE {z : Value} {c : Bool} (kb : KeyBy P K enc ok) (hT : P.underlying T = some (.map K E)) (hz : (zeroValue E).run P w = .ok z w) (hb : w.heap[b]? = some (.map (entsE enc l) clk)) {k : α} (h1 : ok w k) (h2 : ∀ x ∈ l, ok w x.1) :
  (Instr.lookup T (.map (some b)) (enc k) c).run P w = .ok (if c then .tuple #[((seek l k).map (·.2.1)).getD z, .bool (seek l k).isSome] else ((seek l k).map (·.2.1)).getD z) w := by
 have hf := spot_seek l k 0
 simp only [Instr.lookup]
 simp only [Sem.run_bind, run_underlying hT, MapKept.run_getObj_map hb, Result.andThen, kb.check, entsE, kb.find l k w h1 h2, Sem.run_pure]
 cases h1 : spot l k 0 with
 | none =>
  rw [h1] at hf
  cases h2 : seek l k with
  | none => cases c <;> simp [hz, Result.andThen]
  | some x => rw [h2] at hf; simp at hf
 | some y =>
  rw [h1] at hf
  cases h2 : seek l k with
  | none => rw [h2] at hf; simp at hf
  | some x =>
   rw [h2] at hf
   simp at hf
   cases c <;> simp [hf]
theorem run_lookE_nil {z : Value} {c : Bool} (kb : KeyBy P K enc ok) (hT : P.underlying T = some (.map K E)) (hz : (zeroValue E).run P w = .ok z w) {k : α} (h1 : ok w k) :
  (Instr.lookup T (.map none) (enc k) c).run P w = .ok (if c then .tuple #[z, .bool false] else z) w := by
 have hf := kb.find [] k w h1 (by simp)
 simp at hf
 simp only [Instr.lookup]
 cases c <;> simp [run_underlying hT, Result.andThen, kb.check, hf, hz, spot_nil]
theorem run_mapE_new (kb : KeyBy P K enc ok) (hT : P.underlying T = some (.map K E)) (hb : w.heap[b]? = some (.map (entsE enc l) clk)) {k : α} (h1 : ok w k) (h2 : ∀ x ∈ l, ok w x.1) (v : Value) (hn : seek l k = none) :
  (Instr.mapUpdate T (.map (some b)) (enc k) v).run P w = .ok () (setBlock w b (.map (entsE enc (l ++ [(k, v, clk)])) (clk + 1))) := by
 have hf := spot_seek l k 0
 rw [hn] at hf
 simp only [Instr.mapUpdate]
 simp only [Sem.run_bind, run_underlying hT, MapKept.run_getObj_map hb, Result.andThen, kb.check, entsE, kb.find l k w h1 h2]
 cases h1 : spot l k 0 with
 | some y => rw [h1] at hf; simp at hf
 | none =>
  simp [Sem.run, setObj, hb, setBlock, entE, entsE]
def putE (l : List (MapRow α)) (k : α) (v : Value) : List (MapRow α) := match l.findIdx? (fun x => decide (x.1 = k)) with
 | some j => l.modify j fun x => (k, v, x.2.2)
 | none => l
theorem run_mapE_old (kb : KeyBy P K enc ok) (hT : P.underlying T = some (.map K E)) (hb : w.heap[b]? = some (.map (entsE enc l) clk)) {k : α} (h1 : ok w k) (h2 : ∀ x ∈ l, ok w x.1) (v : Value) {y : MapRow α} (hn : seek l k = some y) :
  (Instr.mapUpdate T (.map (some b)) (enc k) v).run P w = .ok () (setBlock w b (.map (entsE enc (putE l k v)) clk)) := by
 simp only [Instr.mapUpdate]
 simp only [Sem.run_bind, run_underlying hT, MapKept.run_getObj_map hb, Result.andThen, kb.check, entsE, kb.find l k w h1 h2]
 unfold seek at hn
 have hj : ∃ j, l.findIdx? (fun x => decide (x.1 = k)) = some j := by
  cases hf : l.findIdx? (fun x => decide (x.1 = k)) with
  | some j => exact ⟨j, rfl⟩
  | none =>
   rw [List.findIdx?_eq_none_iff] at hf
   have := hf y (List.mem_of_find?_eq_some hn)
   have h3 := List.find?_some hn
   simp_all
 obtain ⟨j, hj⟩ := hj
 obtain ⟨hlt, hp, -⟩ := List.findIdx?_eq_some_iff_getElem.1 hj
 have hk : l[j].1 = k := by simpa using hp
 have hs : spot l k 0 = some (j, l[j].2.1) := by simp [spot, hj, hlt]
 rw [hs]
 have hkk : (((List.map (entE enc) l).toArray[j]?).map (·.key)).getD (enc k) = enc k := by simp [hlt, entE, hk]
 have hmod : (List.map (entE enc) l).toArray.modify j (fun e => { e with key := enc k, val := v }) = (List.map (entE enc) (l.modify j fun x => (k, v, x.2.2))).toArray := by
  apply Array.ext'
  simp only [Array.toList_modify]
  apply List.ext_getElem?
  intro i
  simp only [List.getElem?_modify, List.getElem?_map]
  cases l[i]? with
  | none => simp
  | some x => by_cases hi : j = i <;> simp [hi, entE]
 simp only [Sem.run_bind, hkk, Instr.keyThatStays, kb.same, if_true, Sem.run_pure, Result.andThen]
 simp only [putE, hj]
 rw [← hmod]
 simp [Sem.run, setObj, hb, setBlock]
theorem run_delE {ty : TypeId} (kb : KeyBy P K enc ok) (hT : P.underlying T = some (.map K E)) (hb : w.heap[b]? = some (.map (entsE enc l) clk)) {k : α} (h1 : ok w k) (h2 : ∀ x ∈ l, ok w x.1) :
  (Builtin.delete_ #[T, K] ty #[.map (some b), enc k]).run P w = .ok (.tuple #[]) (setBlock w b (.map (entsE enc (l.eraseP (fun x => decide (x.1 = k)))) clk)) := by
 have h0 : (Builtin.delete_ #[T, K] ty #[.map (some b), enc k]) = (do
  let .map keyType _ ← underlying T | stuck "delete: map type expected"
  let .map es clock ← getObj b | stuck "delete: map expected"
  Instr.checkKey es.isEmpty 10000 keyType (enc k)
  match ← Instr.findKey keyType (enc k) es.toList with
  | some (i, _) => setObj b (.map (es.eraseIdxIfInBounds i) clock)
  | none => setObj b (.map es clock)
  pure (.tuple #[])) := rfl
 rw [h0]
 simp only [Sem.run_bind, run_underlying hT, MapKept.run_getObj_map hb, Result.andThen, kb.check, entsE, kb.find l k w h1 h2]
 cases hj : l.findIdx? (fun x => decide (x.1 = k)) with
 | none =>
  have h2 : l.eraseP (fun x => decide (x.1 = k)) = l := List.eraseP_of_forall_not (by simpa [List.findIdx?_eq_none_iff] using hj)
  simp [spot, hj, Sem.run, setObj, hb, setBlock, h2, Result.andThen, entsE]
 | some j =>
  have hlt : j < l.length := (List.findIdx?_eq_some_iff_getElem.1 hj).1
  have h2 : l.eraseP (fun x => decide (x.1 = k)) = l.eraseIdx j := by rw [List.eraseP_eq_eraseIdx, hj]
  simp [spot, hj, hlt, Sem.run, setObj, hb, setBlock, h2, Result.andThen, Array.eraseIdxIfInBounds, ChangeMaps.map_eraseIdx, entsE]
theorem wpList_delE {ops : Array Oper} {rest : List Oper} {o : Oper} {a : Act} {Q : Exit → Act → World → Prop} (hg : o.guard = none) (x y : Operand)
  (hop : o.op = Op.call { callee := Callee.builtin Builtin.delete, args := #[x, y], argTypes := #[T, K] })
  (kb : KeyBy P K enc ok) (hT : P.underlying T = some (.map K E)) (hx : a.eval x = .map (some b)) (hb : w.heap[b]? = some (.map (entsE enc l) clk)) {k : α} (h1 : ok w k) (h2 : ∀ x ∈ l, ok w x.1) (hy : a.eval y = enc k)
  (h : ∀ w', Hid (w' = setBlock w b (.map (entsE enc (l.eraseP (fun x => decide (x.1 = k)))) clk)) → wpList P ops Q rest (a.put o.dst (.tuple #[])) w') :
  wpList P ops Q (o :: rest) a w := by
 refine wpList_plain hg fun K' hK' => ?_
 have hrun := run_delE (ty := o.type) kb hT hb h1 h2
 unfold Oper.wp
 simp [execOp, hop, resolve, invoke, builtin, hx, hy, hrun, Result.andThen]
 exact hK' _ _ (h _ rfl)
theorem run_lenE {ty : TypeId} (hT : P.underlying T = some (.map K E)) (hb : w.heap[b]? = some (.map (entsE enc l) clk)) :
  (Builtin.len_ #[T] ty #[.map (some b)]).run P w = .ok (.int .i64 l.length) w := by
 simp [Builtin.len_, run_underlying hT, MapKept.run_getObj_map hb, goInt, Result.andThen, entsE]
theorem run_lenE_nil {ty : TypeId} (hT : P.underlying T = some (.map K E)) :
  (Builtin.len_ #[T] ty #[.map none]).run P w = .ok (.int .i64 0) w := by
 simp [Builtin.len_, run_underlying hT, goInt, Result.andThen]
end
section
variable {P : Program} {w : World} {b r : Nat} {l : List (MapRow α)} {clk : Nat} {enc : α → Value}
def IterAt (w : World) (b r : Nat) (enc : α → Value) (l : List (MapRow α)) (clk : Nat) (done : List (MapRow α)) : Prop :=
 w.heap[b]? = some (.map (entsE enc l) clk) ∧ ∃ seen : Array Nat, w.heap[r]? = some (.mapIter (some b) clk seen clk) ∧ done.Nodup ∧ (∀ e ∈ done, e ∈ l) ∧ ∀ e ∈ l, (e ∈ done ↔ e.2.2 ∈ seen)
def Born (l : List (MapRow α)) (clk : Nat) : Prop := (l.map (·.2.2)).Nodup ∧ ∀ e ∈ l, e.2.2 < clk
theorem Born.inj (h : Born l clk) {x y : MapRow α} (hx : x ∈ l) (hy : y ∈ l) (e : x.2.2 = y.2.2) : x = y := by
 obtain ⟨i, hi⟩ := List.getElem?_of_mem hx
 obtain ⟨j, hj⟩ := List.getElem?_of_mem hy
 have hil := (List.getElem?_eq_some_iff.1 hi).1
 have : i = j := (List.getElem?_inj (by simpa using hil) h.1).1 (by simp [hi, hj, e])
 subst this
 rw [hi] at hj; cases hj; rfl
theorem IterAt.ne {done : List (MapRow α)} (h : IterAt w b r enc l clk done) : r ≠ b := by
 obtain ⟨h1, seen, h2, -⟩ := h
 rintro rfl
 rw [h1] at h2
 cases h2
theorem IterAt.kept {done : List (MapRow α)} {w' : World} (h : IterAt w b r enc l clk done) (h1 : w'.heap[b]? = w.heap[b]?) (h2 : w'.heap[r]? = w.heap[r]?) : IterAt w' b r enc l clk done := by
 obtain ⟨g1, seen, g2, g3⟩ := h
 exact ⟨h1.trans g1, seen, h2.trans g2, g3⟩
theorem IterAt.next {done : List (MapRow α)} (h : IterAt w b r enc l clk done) (hB : Born l clk) (hn : l.Nodup) (ty : TypeId) :
  (done.Perm l ∧ (Instr.next (.pointer (some ⟨r, 0, none⟩)) false ty).run P w = .ok (.tuple #[.bool false]) w) ∨
  ∃ e, e ∈ l ∧ e ∉ done ∧ ∃ w', (Instr.next (.pointer (some ⟨r, 0, none⟩)) false ty).run P w = .ok (.tuple #[.bool true, enc e.1, e.2.1]) w' ∧
   IterAt w' b r enc l clk (done ++ [e]) ∧ (∀ k, k ≠ r → w'.heap[k]? = w.heap[k]?) ∧ w'.heap.size = w.heap.size ∧ w'.os = w.os ∧ w'.tape = w.tape ∧ w'.output = w.output ∧
   (Instr.entry (.pointer (some ⟨r, 0, none⟩))).run P w' = .ok (.tuple #[enc e.1, e.2.1]) w' := by
 have hne := h.ne
 obtain ⟨h1, seen, h2, h3, h4, h5⟩ := h
 have hold : ∀ x ∈ (entsE enc l).toList, x.born < clk := by
  intro x hx
  simp only [entsE, List.mem_map] at hx
  obtain ⟨e, he, rfl⟩ := hx
  exact hB.2 e he
 rcases run_next_at (P := P) w ty r b clk clk seen (entsE enc l) clk h2 h1 hold (Nat.le_refl _) with ⟨h0, hrun⟩ | ⟨x, hx, w1, hal, hrun⟩
 ·refine .inl ⟨(List.perm_ext_iff_of_nodup h3 hn).2 fun e => ⟨h4 e, fun he => (h5 e he).2 ?_⟩, hrun⟩
  unfold leftOf at h0
  rw [Array.size_eq_zero_iff, Array.filter_eq_empty_iff] at h0
  have := h0 (entE enc e) (by simp only [entsE, List.mem_toArray, List.mem_map]; exact ⟨e, he, rfl⟩)
  simpa [entE] using this
 ·unfold leftOf at hx
  simp only [Array.toList_filter, List.mem_filter] at hx
  obtain ⟨hx1, hx2⟩ := hx
  simp only [entsE, List.mem_map] at hx1
  obtain ⟨e, he, rfl⟩ := hx1
  have hd : e ∉ done := fun hd => by
   have := (h5 e he).1 hd
   simp [entE] at hx2
   exact hx2 this
  have hr1 : w1.heap[r]? = some (.mapIter (some b) clk seen clk) := by rcases hal with rfl | rfl <;> exact h2
  have hlt := (Array.getElem?_eq_some_iff.1 hr1).1
  have hset1 : (setBlock w1 r (.mapIter (some b) clk (seen.push (entE enc e).born) clk)).heap[r]? = some (.mapIter (some b) clk (seen.push (entE enc e).born) clk) := by simp [setBlock, hlt]
  have hset2 : ∀ k, k ≠ r → (setBlock w1 r (.mapIter (some b) clk (seen.push (entE enc e).born) clk)).heap[k]? = w.heap[k]? := fun k hk => by
   simp only [setBlock]
   rw [Array.getElem?_setIfInBounds_ne (Ne.symm hk)]
   rcases hal with rfl | rfl <;> rfl
  have hb1 : (setBlock w1 r (.mapIter (some b) clk (seen.push (entE enc e).born) clk)).heap[b]? = some (.map (entsE enc l) clk) := (hset2 b (Ne.symm hne)).trans h1
  refine .inr ⟨e, he, hd, _, hrun, ⟨hb1, _, hset1, ?_, ?_, ?_⟩, hset2, ?_, ?_, ?_, ?_, ?_⟩
  ·rw [List.nodup_append]
   exact ⟨h3, by simp, by rintro a ha b hb rfl; rw [List.mem_singleton] at hb; subst hb; exact hd ha⟩
  ·intro y hy
   rcases List.mem_append.1 hy with hy | hy
   ·exact h4 y hy
   ·rw [List.mem_singleton] at hy; subst hy; exact he
  ·intro y hy
   rw [List.mem_append, List.mem_singleton, h5 y hy, Array.mem_push]
   exact or_congr Iff.rfl ⟨fun e => by rw [e]; rfl, fun e1 => hB.inj hy he e1⟩
  ·rcases hal with rfl | rfl <;> simp [setBlock]
  ·rcases hal with rfl | rfl <;> rfl
  ·rcases hal with rfl | rfl <;> rfl
  ·rcases hal with rfl | rfl <;> rfl
  ·refine run_entry_at (e := entE enc e) _ r b clk seen (entsE enc l) clk hset1 hb1 ?_ ?_
   ·simp only [entsE, List.mem_map]
    exact ⟨e, he, rfl⟩
   ·have : (entsE enc l).toList.map (·.born) = l.map (·.2.2) := by simp [entsE, entE, Function.comp_def]
    rw [this]
    exact hB.1
end
end
end Go.Proofs.YtknjamfjonapiaaGreatDoor
namespace Go.Proofs.YtknjamfjonapiaaGreatDoor
open Go.RowKit
open Go.ChangeMaps (setBlock)
set_option linter.unusedVariables false
set_option linter.unusedSectionVars false
set_option linter.unusedSimpArgs false
set_option maxRecDepth 100000
section
variable {α : Type} [DecidableEq α]
theorem seek_none {l : List (MapRow α)} {k : α} : seek l k = none ↔ k ∉ l.map (·.1) := by
 unfold seek
 rw [List.find?_eq_none]
 simp only [decide_eq_true_eq, List.mem_map, not_exists, not_and]
theorem seek_mem {l : List (MapRow α)} {k : α} {e : MapRow α} (h : seek l k = some e) : e ∈ l ∧ e.1 = k := by
 unfold seek at h
 exact ⟨List.mem_of_find?_eq_some h, by simpa using List.find?_some h⟩
theorem seek_some {l : List (MapRow α)} {e : MapRow α} (hn : (l.map (·.1)).Nodup) (h : e ∈ l) : seek l e.1 = some e := by
 cases hs : seek l e.1 with
 | none => exact absurd (List.mem_map_of_mem h) (seek_none.1 hs)
 | some x =>
  obtain ⟨h1, h2⟩ := seek_mem hs
  obtain ⟨i, hi⟩ := List.getElem?_of_mem h
  obtain ⟨j, hj⟩ := List.getElem?_of_mem h1
  have hil := (List.getElem?_eq_some_iff.1 hi).1
  have : i = j := (List.getElem?_inj (by simpa using hil) hn).1 (by simp [hi, hj, h2])
  subst this
  rw [hi] at hj; cases hj; rfl
theorem seek_isSome {l : List (MapRow α)} {k : α} : (seek l k).isSome = decide (k ∈ l.map (·.1)) := by
 cases hs : seek l k with
 | none => simpa using seek_none.1 hs
 | some e =>
  obtain ⟨h1, h2⟩ := seek_mem hs
  have : k ∈ l.map (·.1) := h2 ▸ List.mem_map_of_mem h1
  simp only [Option.isSome_some, true_eq_decide_iff]
  exact this
def restE (es : List (MapRow α)) (k : α) : List (MapRow α) := es.eraseP (fun x => decide (x.1 = k))
theorem rest_sub (es : List (MapRow α)) (k : α) : (restE es k).Sublist es := List.eraseP_sublist
theorem rest_eq {es : List (MapRow α)} (hn : (es.map (·.1)).Nodup) (k : α) : restE es k = es.filter fun x => decide (x.1 ≠ k) := by
 unfold restE
 induction es with
 | nil => rfl
 | cons x es ih =>
  rw [List.map_cons, List.nodup_cons] at hn
  by_cases hx : x.1 = k
  ·rw [List.eraseP_cons_of_pos (by simpa using hx), List.filter_cons_of_neg (by simpa using hx)]
   refine (List.filter_eq_self.2 fun y hy => ?_).symm
   have : y.1 ≠ k := fun e => hn.1 (hx ▸ e ▸ List.mem_map_of_mem hy)
   simpa using this
  ·rw [List.eraseP_cons_of_neg (by simpa using hx), List.filter_cons_of_pos (by simpa using hx), ih hn.2]
end
abbrev encI : Int → Value := fun k => .int .i64 k
theorem uInt12 : Tryz.prog.underlying 3 = some (.int .i64) := by kernel_rfl
theorem keyI : KeyBy Tryz.prog 3 encI (fun _ _ => True) := keyBy_now uInt12 (fun em n k w => by simp [Instr.checkKey, run_underlying uInt12])
 (fun a b => by
  have h : Instr.sameNow (.int .i64) (encI a) (encI b) = some (a == b) := rfl
  rw [h, Option.some.injEq, Bool.eq_iff_iff, beq_iff_eq, decide_eq_true_iff]
  exact eq_comm) (fun k => by
  have h : Instr.sameBits 10000 (encI k) (encI k) = (IntKind.i64 == IntKind.i64 && k == k) := rfl
  rw [h, beq_self_eq_true k]
  rfl)
end Go.Proofs.YtknjamfjonapiaaGreatDoor
namespace Go.Proofs.YtknjamfjonapiaaGreatDoor
open Go.RowKit
set_option maxRecDepth 100000
structure RG where
 cb : Option Nat
 cs : List Int
 first : Nat
 count : Nat
def ints (l : List Int) : List Value := l.map (Value.int .i64)
theorem ints_len (l : List Int) : (ints l).length = l.length := by simp [ints]
theorem ints_set (l : List Int) (i : Nat) (n : Int) : (ints l).set i (.int .i64 n) = ints (l.set i n) := by simp [ints, List.map_set]
theorem ints_at {l : List Int} {i : Nat} {n : Int} (h : l[i]? = some n) : (ints l)[i]? = some (.int .i64 n) := by simp [ints, h]
def RG.sl (g : RG) : Value := match g.cb with | none => .slice none 0 0 | some b => .slice (some ⟨b, 0, none⟩) g.cs.length g.cs.length
def RG.obj (g : RG) : Obj := .cells #[g.sl, .int .i64 g.first, .int .i64 g.count] 305
def intsObj (l : List Int) : Obj := .cells (ints l).toArray 3
def RG.cellsH (g : RG) : List (Nat × Obj) := match g.cb with | none => [] | some b => [(b, intsObj g.cs)]
def RG.place (g : RG) (i : Nat) : Nat := (g.first + i) % g.cs.length
def RG.row (g : RG) : List Int := (List.range g.count).map fun i => g.cs.getD (g.place i) 0
structure RG.Wf (g : RG) : Prop where
 bare : g.cb = none → g.cs = []
 first : g.first < g.cs.length ∨ g.first = 0 ∧ g.cs = []
 count : g.count ≤ g.cs.length
 top : g.cs.length ≤ 1073741824
theorem RG.row_len (g : RG) : g.row.length = g.count := by simp [RG.row]
theorem RG.row_at {g : RG} {i : Nat} (h : i < g.count) : g.row[i]? = some (g.cs.getD (g.place i) 0) := by simp [RG.row, h]
theorem RG.place_lt {g : RG} (h : 0 < g.cs.length) (i : Nat) : g.place i < g.cs.length := Nat.mod_lt _ h
theorem RG.place_of {g : RG} {i : Nat} (h1 : g.first < g.cs.length) (h2 : i < g.cs.length) : g.place i = if g.first + i < g.cs.length then g.first + i else g.first + i - g.cs.length := by
 unfold RG.place
 split
 ·exact Nat.mod_eq_of_lt (by assumption)
 ·rw [Nat.mod_eq_sub_mod (by omega), Nat.mod_eq_of_lt (by omega)]
theorem RG.place_inj {g : RG} {i j : Nat} (h1 : g.first < g.cs.length) (h2 : i < g.cs.length) (h3 : j < g.cs.length) (h : g.place i = g.place j) : i = j := by
 rw [RG.place_of h1 h2, RG.place_of h1 h3] at h
 split at h <;> split at h <;> omega
theorem RG.Wf.pos {g : RG} (h : g.Wf) {i : Nat} (hi : i < g.cs.length) : g.first < g.cs.length := by
 rcases h.first with h | ⟨_, h⟩
 ·exact h
 ·rw [h] at hi; simp at hi
def RG.pushed (g : RG) (n : Int) : RG := { g with cs := g.cs.set (g.place g.count) n, count := g.count + 1 }
theorem RG.pushed_row {g : RG} (wf : g.Wf) (h : g.count < g.cs.length) (n : Int) : (g.pushed n).row = g.row ++ [n] := by
 have hp := wf.pos h
 apply List.ext_getElem?
 intro i
 by_cases hi : i < g.count
 ·rw [RG.row_at (g := g.pushed n) (show i < g.count + 1 by omega), List.getElem?_append_left (by rw [RG.row_len]; exact hi), RG.row_at hi]
  have e : (g.pushed n).place i = g.place i := by simp [RG.place, RG.pushed]
  have hne : g.place g.count ≠ g.place i := fun e => by have := RG.place_inj hp h (by omega) e; omega
  rw [e]
  simp only [RG.pushed, List.getD_eq_getElem?_getD, List.getElem?_set_ne hne]
 ·by_cases hi2 : i = g.count
  ·subst hi2
   rw [RG.row_at (g := g.pushed n) (show g.count < g.count + 1 by omega), List.getElem?_append_right (by rw [RG.row_len]; omega), RG.row_len, Nat.sub_self]
   have e : (g.pushed n).place g.count = g.place g.count := by simp [RG.place, RG.pushed]
   rw [e]
   have hl : g.place g.count < g.cs.length := RG.place_lt (by omega) _
   simp only [RG.pushed, List.getD_eq_getElem?_getD, List.getElem?_set_self hl]
   rfl
  ·rw [List.getElem?_eq_none (by rw [RG.row_len]; simp only [RG.pushed]; omega), List.getElem?_eq_none (by rw [List.length_append, RG.row_len]; simp; omega)]
theorem RG.pushed_wf {g : RG} (wf : g.Wf) (h : g.count < g.cs.length) (n : Int) : (g.pushed n).Wf :=
 ⟨fun e => by simp [RG.pushed, wf.bare e], by simp only [RG.pushed, List.length_set]; exact .inl (wf.pos h), by simp only [RG.pushed, List.length_set]; omega, by simp only [RG.pushed, List.length_set]; exact wf.top⟩
def RG.ahead (g : RG) : Nat := g.place (g.cs.length - 1)
def RG.unshifted (g : RG) (n : Int) : RG := { g with cs := g.cs.set g.ahead n, first := g.ahead, count := g.count + 1 }
theorem RG.unshifted_row {g : RG} (wf : g.Wf) (h : g.count < g.cs.length) (n : Int) : (g.unshifted n).row = n :: g.row := by
 have hp := wf.pos h
 have ha : g.ahead = if g.first = 0 then g.cs.length - 1 else g.first - 1 := by
  unfold RG.ahead
  rw [RG.place_of hp (by omega)]
  split <;> split <;> omega
 have hal : g.ahead < g.cs.length := RG.place_lt (by omega) _
 apply List.ext_getElem?
 intro i
 have hq : ∀ j, j < g.cs.length → (g.unshifted n).place j = if g.ahead + j < g.cs.length then g.ahead + j else g.ahead + j - g.cs.length := by
  intro j hj
  have := RG.place_of (g := g.unshifted n) (i := j) (by simpa [RG.unshifted] using hal) (by simpa [RG.unshifted] using hj)
  simpa [RG.unshifted] using this
 cases i with
 | zero =>
  rw [RG.row_at (g := g.unshifted n) (show 0 < g.count + 1 by omega), hq 0 (by omega), if_pos (by omega)]
  simp only [RG.unshifted, List.getD_eq_getElem?_getD, Nat.add_zero, List.getElem?_set_self hal]
  rfl
 | succ i =>
  by_cases hi : i < g.count
  ·rw [RG.row_at (g := g.unshifted n) (show i + 1 < g.count + 1 by omega), List.getElem?_cons_succ, RG.row_at hi, hq (i + 1) (by omega)]
   have e : (if g.ahead + (i + 1) < g.cs.length then g.ahead + (i + 1) else g.ahead + (i + 1) - g.cs.length) = g.place i := by
    rw [RG.place_of hp (by omega), ha]
    repeat' split
    all_goals omega
   rw [e]
   have hne : g.ahead ≠ g.place i := fun e => by have := RG.place_inj hp (i := g.cs.length - 1) (by omega) (show i < _ by omega) e; omega
   simp only [RG.unshifted, List.getD_eq_getElem?_getD, List.getElem?_set_ne hne]
  ·rw [List.getElem?_eq_none (by rw [RG.row_len]; simp only [RG.unshifted]; omega), List.getElem?_eq_none (by rw [List.length_cons, RG.row_len]; omega)]
theorem RG.unshifted_wf {g : RG} (wf : g.Wf) (h : g.count < g.cs.length) (n : Int) : (g.unshifted n).Wf :=
 ⟨fun e => by simp [RG.unshifted, wf.bare e], by simp only [RG.unshifted, List.length_set]; exact .inl (RG.place_lt (by omega) _), by simp only [RG.unshifted, List.length_set]; omega, by simp only [RG.unshifted, List.length_set]; exact wf.top⟩
def RG.popped (g : RG) : RG := { g with count := g.count - 1 }
theorem RG.popped_row (g : RG) : g.popped.row = g.row.dropLast := by
 cases hc : g.count with
 | zero => simp [RG.popped, RG.row, hc]
 | succ k =>
  have e : g.row = g.popped.row ++ [g.cs.getD (g.place k) 0] := by
   unfold RG.row
   rw [hc, List.range_succ, List.map_append]
   simp [RG.popped, hc, RG.place]
  rw [e, List.dropLast_concat]
theorem RG.popped_wf {g : RG} (wf : g.Wf) : g.popped.Wf := ⟨wf.bare, wf.first, by have := wf.count; simp only [RG.popped]; omega, wf.top⟩
def RG.shifted (g : RG) : RG := { g with first := g.place 1, count := g.count - 1 }
theorem RG.shifted_row {g : RG} (wf : g.Wf) (h : 0 < g.count) : g.shifted.row = g.row.tail := by
 have hc := wf.count
 have hp := wf.pos (i := 0) (by omega)
 apply List.ext_getElem?
 intro i
 rw [List.getElem?_tail]
 by_cases hi : i + 1 < g.count
 ·rw [RG.row_at (g := g.shifted) (show i < g.count - 1 by omega), RG.row_at hi]
  have e : g.shifted.place i = g.place (i + 1) := by
   simp only [RG.shifted, RG.place]
   rw [Nat.mod_add_mod, Nat.add_assoc, Nat.add_comm 1 i]
  rw [e]
  rfl
 ·rw [List.getElem?_eq_none (by rw [RG.row_len]; simp only [RG.shifted]; omega), List.getElem?_eq_none (by rw [RG.row_len]; omega)]
theorem RG.shifted_wf {g : RG} (wf : g.Wf) (h : 0 < g.count) : g.shifted.Wf := by
 have hc := wf.count
 exact ⟨wf.bare, .inl (RG.place_lt (g := g) (by omega) _), by simp only [RG.shifted]; omega, wf.top⟩
def RG.laid (g : RG) (size : Nat) : List Int := g.row ++ List.replicate (size - g.count) 0
theorem RG.laid_len {g : RG} {size : Nat} (h : g.count ≤ size) : (g.laid size).length = size := by
 rw [RG.laid, List.length_append, RG.row_len, List.length_replicate]; omega
def RG.moved (g : RG) (b size : Nat) : RG := ⟨some b, g.laid size, 0, g.count⟩
theorem RG.moved_row {g : RG} {b size : Nat} (h : g.count ≤ size) : (g.moved b size).row = g.row := by
 apply List.ext_getElem?
 intro i
 by_cases hi : i < g.count
 ·rw [RG.row_at (g := g.moved b size) (show i < g.count from hi)]
  have e : (g.moved b size).place i = i := by
   simp only [RG.place, RG.moved, RG.laid_len h, Nat.zero_add]
   exact Nat.mod_eq_of_lt (by omega)
  rw [e]
  simp only [RG.moved, RG.laid, List.getD_eq_getElem?_getD]
  rw [List.getElem?_append_left (by rw [RG.row_len]; exact hi), RG.row_at hi]
  rfl
 ·rw [List.getElem?_eq_none (by rw [RG.row_len]; simp only [RG.moved]; omega), List.getElem?_eq_none (by rw [RG.row_len]; omega)]
theorem RG.moved_wf {g : RG} {b size : Nat} (h : g.count ≤ size) (h2 : size ≤ 1073741824) : (g.moved b size).Wf :=
 ⟨fun e => by simp [RG.moved] at e, by
  have := RG.laid_len h
  simp only [RG.moved]
  rcases Nat.eq_zero_or_pos size with h0 | h0
  ·right
   exact ⟨trivial, List.eq_nil_of_length_eq_zero (by omega)⟩
  ·left
   omega, by simp only [RG.moved, RG.laid_len h]; exact h, by simp only [RG.moved, RG.laid_len h]; exact h2⟩
def RG.part (g : RG) (size k : Nat) : List Int := g.row.take k ++ List.replicate (size - k) 0
theorem RG.part_zero (g : RG) (size : Nat) : g.part size 0 = List.replicate size 0 := by simp [RG.part]
theorem RG.part_all (g : RG) (size : Nat) : g.part size g.count = g.laid size := by
 unfold RG.part RG.laid
 rw [List.take_of_length_le (by rw [RG.row_len]; exact Nat.le_refl _)]
theorem RG.part_len {g : RG} {size k : Nat} (h : k ≤ g.count) (h2 : g.count ≤ size) : (g.part size k).length = size := by
 simp only [RG.part, List.length_append, List.length_take, RG.row_len, List.length_replicate]; omega
theorem RG.part_set {g : RG} {size k : Nat} (h : k < g.count) (h2 : g.count ≤ size) : (g.part size k).set k (g.cs.getD (g.place k) 0) = g.part size (k + 1) := by
 unfold RG.part
 have hl : (g.row.take k).length = k := by rw [List.length_take, RG.row_len]; omega
 have e : List.replicate (size - k) (0 : Int) = 0 :: List.replicate (size - (k + 1)) 0 := by
  rw [show size - k = (size - (k + 1)) + 1 by omega, List.replicate_succ]
 rw [List.set_append_right _ _ (by omega), hl, Nat.sub_self, e, List.set_cons_zero, List.take_add_one, RG.row_at h]
 simp
end Go.Proofs.YtknjamfjonapiaaGreatDoor
namespace Go.Proofs.YtknjamfjonapiaaGreatDoor
open Go.RowKit
set_option maxRecDepth 100000
abbrev rptr (b : Nat) : Value := .pointer (some ⟨b, 0, none⟩)
theorem uIntsR : Tryz.prog.underlying 259 = some (.slice 3) := by kernel_rfl
theorem infIntR : (Tryz.prog.info? 3).map (fun i => (i.zero, i.size, i.bytes)) = some (some (.int .i64 0), 1, 8) := by kernel_rfl
section
variable {B : Nat} {w0 w : World} {rb : Nat} {g : RG} {F : List (Nat × Obj)}
def RingAt (B : Nat) (w0 w : World) (rb : Nat) (g : RG) (F : List (Nat × Obj)) : Prop := St B w0 w ((rb, g.obj) :: (g.cellsH ++ F))
theorem RingAt.c0 (h : RingAt B w0 w rb g F) : w.cell? ⟨rb, 0, none⟩ = some g.sl := h.cell List.mem_cons_self rfl
theorem RingAt.c1 (h : RingAt B w0 w rb g F) : w.cell? ⟨rb, 1, none⟩ = some (.int .i64 g.first) := h.cell List.mem_cons_self rfl
theorem RingAt.c2 (h : RingAt B w0 w rb g F) : w.cell? ⟨rb, 2, none⟩ = some (.int .i64 g.count) := h.cell List.mem_cons_self rfl
theorem RingAt.soft (h : RingAt B w0 w rb g F) (i : Nat) : w.frozen? ⟨rb, i, none⟩ = false := St.soft h List.mem_cons_self i
theorem RingAt.drewN (h : RingAt B w0 w rb g F) (n : Nat) : RingAt B w0 (w.drewN n) rb g F := St.drewN h n
theorem RG.Wf.block (wf : g.Wf) (h : 0 < g.cs.length) : ∃ b, g.cb = some b ∧ g.sl = .slice (some ⟨b, 0, none⟩) g.cs.length g.cs.length ∧ g.cellsH = [(b, intsObj g.cs)] := by
 cases hb : g.cb with
 | none => rw [wf.bare hb] at h; simp at h
 | some b => exact ⟨b, rfl, by simp [RG.sl, hb], by simp [RG.cellsH, hb]⟩
theorem RG.Wf.header (wf : g.Wf) : ∃ a, g.sl = .slice a g.cs.length g.cs.length := by
 cases hb : g.cb with
 | none => exact ⟨none, by simp [RG.sl, hb, wf.bare hb]⟩
 | some b => exact ⟨_, by simp [RG.sl, hb]; rfl⟩
theorem RingAt.elem (h : RingAt B w0 w rb g F) {b : Nat} (hb : g.cellsH = [(b, intsObj g.cs)]) {i : Nat} (hi : i < g.cs.length) : w.cell? ⟨b, i, none⟩ = some (.int .i64 (g.cs.getD i 0)) := by
 unfold RingAt at h
 rw [hb] at h
 refine h.cell (b := b) (c := (ints g.cs).toArray) (T := 3) (fr := (0, 0)) (by simp [intsObj]) (i := i) ?_
 rw [List.getElem?_toArray]
 exact ints_at (by simp [List.getD_eq_getElem?_getD, hi])
theorem RingAt.front {x : Nat × Obj} (h : St B w0 w (x :: (rb, g.obj) :: (g.cellsH ++ F))) : RingAt B w0 w rb g (x :: F) :=
 h.perm ((List.Perm.swap _ _ _).trans (.cons _ List.perm_middle.symm))
set_option maxHeartbeats 400000 in
theorem cellOf_any (h : RingAt B w0 w rb g F) (wf : g.Wf) (hp : 0 < g.cs.length) (i : Int) (h0 : 0 ≤ i) (h1 : i ≤ 1073741824) :
  Calls Tryz.prog 270 #[rptr rb, .int .i64 i] w fun e w' => e = .returned (.int .i64 (g.place i.toNat)) ∧ ∃ n, w' = w.drewN n := by
 obtain ⟨k, rfl⟩ : ∃ k : Nat, i = k := ⟨i.toNat, by omega⟩
 have c0 := h.c0
 have c1 := h.c1
 obtain ⟨a, ha⟩ := wf.header
 rw [ha] at c0
 have ht := wf.top
 have hf : (g.first : Int) ≤ 1073741824 := by rcases wf.first with h | ⟨h, _⟩ <;> omega
 have hN : (g.cs.length : Int) ≤ 1073741824 := by omega
 have hN0 : (0 : Int) < g.cs.length := by omega
 have hk1 : (k : Int) ≤ 1073741824 := h1
 have hk0 : (0 : Int) ≤ k := by omega
 have hf0 : (0 : Int) ≤ g.first := by omega
 have e : ((g.place k : Nat) : Int) = ((g.first : Int) + k) % g.cs.length := by simp [RG.place]
 have hne : ((g.cs.length : Int) == 0) = false := by rw [beq_eq_false_iff_ne]; omega
 rw [Int.toNat_natCast, e]
 clear e h wf ht ha hp h0 h1
 generalize g.cs.length = N at *
 generalize g.first = f at *
 go_enter Tryz.func270, Tryz.ntmps270
 go_wp2_with fail
 go_quiet (fail)
 go_wp2_with fail
 go_ret
 exact ⟨rfl, _, rfl⟩
set_option maxHeartbeats 400000 in
theorem rlen_any (h : RingAt B w0 w rb g F) : Calls Tryz.prog 252 #[rptr rb] w fun e w' => e = .returned (.int .i64 g.count) ∧ w = w' := by
 have h0 := h.c2
 clear h
 go_enter Tryz.func252, Tryz.ntmps252
 go_wp2
 go_ret
 exact ⟨rfl, rfl⟩
set_option maxHeartbeats 400000 in
theorem at_none (h : RingAt B w0 w rb g F) (i : Int) (hi : i < 0 ∨ (g.count : Int) ≤ i) : Calls Tryz.prog 279 #[rptr rb, .int .i64 i] w fun e w' => e = .returned (.tuple #[.int .i64 0, .bool false]) ∧ ∃ n, w' = w.drewN n := by
 have h0 := h.c2
 clear h
 rcases hi with hi | hi
 ·go_enter Tryz.func279, Tryz.ntmps279
  go_wp2_with fail
  go_ret2
  exact ⟨rfl, 0, rfl⟩
 ·by_cases hz : i < 0
  ·go_enter Tryz.func279, Tryz.ntmps279
   go_wp2_with fail
   go_ret2
   exact ⟨rfl, 0, rfl⟩
  ·have hz' : 0 ≤ i := by omega
   clear hz
   go_enter Tryz.func279, Tryz.ntmps279
   go_wp2_with fail
   go_ret2
   exact ⟨rfl, 0, rfl⟩
set_option maxHeartbeats 400000 in
theorem at_some (h : RingAt B w0 w rb g F) (wf : g.Wf) {i : Nat} (hi : i < g.count) : Calls Tryz.prog 279 #[rptr rb, .int .i64 i] w fun e w' => e = .returned (.tuple #[.int .i64 (g.cs.getD (g.place i) 0), .bool true]) ∧ ∃ n, w' = w.drewN n := by
 have hc := wf.count
 have ht := wf.top
 have hp : 0 < g.cs.length := by omega
 have hpl := RG.place_lt hp i
 obtain ⟨b, hb, hsl, hH⟩ := wf.block hp
 have c0 := h.c0
 have c2 := h.c2
 have ce := h.elem hH hpl
 have cc : Hid (∀ n, Calls Tryz.prog 270 #[rptr rb, .int .i64 i] (w.drewN n) fun e w' => e = .returned (.int .i64 (g.place i)) ∧ ∃ m, w' = (w.drewN n).drewN m) := fun n => by
  have := cellOf_any (h.drewN n) wf hp i (by omega) (by omega)
  rw [Int.toNat_natCast] at this
  exact this
 rw [hsl] at c0
 have hi0 : (0 : Int) ≤ i := by omega
 have hi1 : (i : Int) < g.count := by omega
 have hq0 : (0 : Int) ≤ g.place i := by omega
 have hq1 : (g.place i : Int) < g.cs.length := by omega
 generalize g.cs.getD (g.place i) 0 = x at *
 generalize g.place i = q at *
 clear h hb hsl hH hc ht hp hpl wf hi
 go_enter Tryz.func279, Tryz.ntmps279
 go_wp2_with fail
 go_quiet ((go_at_call 270; exact Calls.quiet_of (cc.out _)))
 go_wp2_with fail
 go_ret2
 exact ⟨rfl, _, rfl⟩
theorem mk_ints (w : World) (k : Int) (h0 : 0 ≤ k) (h1 : k ≤ 1073741824) :
  (Instr.makeSlice 259 (.int .i64 k) (.int .i64 k)).run Tryz.prog w = .ok (.slice (some ⟨w.heap.size, 0, none⟩) k.toNat k.toNat) (w.alloc (intsObj (List.replicate k.toNat 0))) := by
 obtain ⟨i0, hi, hz0, hz1, hz2⟩ := info_parts infIntR
 have h := run_make (P := Tryz.prog) w 259 3 i0 (.int .i64 0) uIntsR hi hz0 .i64 .i64 k k h0 (Int.le_refl _) (by rw [hz2]; omega) (by omega)
 rw [h]
 congr 2
 unfold intsObj
 congr 1
 apply Array.toList_inj.1
 rw [hz1, Nat.mul_one, show (Value.int .i64 0).cells = #[Value.int .i64 0] from rfl, toList_madeCells_one]
 simp [ints]
set_option maxHeartbeats 1000000 in
theorem laidOut_any (h : RingAt B w0 w rb g F) (wf : g.Wf) (size : Nat) (hs : g.count ≤ size) (hs1 : size ≤ 1073741824) :
  Calls Tryz.prog 236 #[rptr rb, .int .i64 size] w fun e w' => e = .returned (.slice (some ⟨w.heap.size, 0, none⟩) size size) ∧ St B w0 w' ((w.heap.size, intsObj (g.laid size)) :: (rb, g.obj) :: (g.cellsH ++ F)) := by
 have hmk := mk_ints w size (by omega) (by omega)
 rw [Int.toNat_natCast] at hmk
 have h1 : St B w0 (w.alloc (intsObj (List.replicate size 0))) ((w.heap.size, intsObj (g.part size 0)) :: (rb, g.obj) :: (g.cellsH ++ F)) := by
  rw [RG.part_zero]
  exact h.alloc _
 have h1 := Lib.hid h1
 clear h
 go_enter Tryz.func236, Tryz.ntmps236
 go_wp2_with fail
 refine wp_scope_label 0 (fun a' w' => ∃ k : Nat, k ≤ g.count ∧ Fr 30 [(0, rptr rb), (5, .slice (some ⟨w.heap.size, 0, none⟩) size size), (6, .int .i64 k)] a' ∧ St B w0 w' ((w.heap.size, intsObj (g.part size k)) :: (rb, g.obj) :: (g.cellsH ++ F)))
  (fun a' _ => g.count - (intOf (a'.tmps.getD 6 undef)).toNat) rfl ?_ ?_
 ·rintro a' w' ⟨k, hk, hf, hw⟩
  obtain ⟨f, rfl, hl⟩ := hf.lit
  clear hf
  simp only [List.mem_cons, List.not_mem_nil, or_false, forall_eq_or_imp, forall_eq] at hl
  obtain ⟨f0, f5, f6⟩ := hl
  simp only [List.range, List.range.loop, List.map, f0, f5, f6]
  clear f0 f5 f6 h1 hmk
  have hr := RingAt.front hw
  have c2 := hr.c2
  by_cases hlt : k < g.count
  ·have hc := wf.count
   have ht := wf.top
   have hp : 0 < g.cs.length := by omega
   have hpl := RG.place_lt hp k
   obtain ⟨b, hb, hsl, hH⟩ := wf.block hp
   have c0 := hr.c0
   have ce := hr.elem hH hpl
   have cc : Hid (∀ n, Calls Tryz.prog 270 #[rptr rb, .int .i64 k] (w'.drewN n) fun e w'' => e = .returned (.int .i64 (g.place k)) ∧ ∃ m, w'' = (w'.drewN n).drewN m) := fun n => by
    have := cellOf_any (hr.drewN n) wf hp k (by omega) (by omega)
    rw [Int.toNat_natCast] at this
    exact this
   rw [hsl] at c0
   have hi0 : (0 : Int) ≤ k := by omega
   have hi1 : (k : Int) < g.count := by omega
   have hi2 : (k : Int) < size := by omega
   have hq0 : (0 : Int) ≤ g.place k := by omega
   have hq1 : (g.place k : Int) < g.cs.length := by omega
   have hset := Lib.hid (RG.part_set hlt hs)
   have hk2 : k < (ints (g.part size k)).length := by rw [ints_len, RG.part_len hk hs]; omega
   have sc : w'.cell? ⟨w.heap.size, k, none⟩ = some ((ints (g.part size k))[k]) := hw.cell (b := w.heap.size) (c := (ints (g.part size k)).toArray) (T := 3) (fr := (0, 0)) List.mem_cons_self (i := k) (by simp [hk2])
   have sf := St.soft (b := w.heap.size) (c := (ints (g.part size k)).toArray) (T := 3) hw List.mem_cons_self k
   have hst : Hid (∀ n, St B w0 ((w'.drewN n).setCell ⟨w.heap.size, k, none⟩ (.int .i64 (g.cs.getD (g.place k) 0))) ((w.heap.size, intsObj (g.part size (k + 1))) :: (rb, g.obj) :: (g.cellsH ++ F))) := fun n => by
    have := (hw.drewN n).set0 k (.int .i64 (g.cs.getD (g.place k) 0))
    rw [List.setIfInBounds_toArray, ints_set, RG.part_set hlt hs] at this
    exact this
   have hkeep : Hid (∀ n, ((w'.drewN n).setCell ⟨w.heap.size, k, none⟩ (.int .i64 (g.cs.getD (g.place k) 0))).cell? ⟨rb, 0, none⟩ = some (.slice (some ⟨b, 0, none⟩) g.cs.length g.cs.length) ∧
     ((w'.drewN n).setCell ⟨w.heap.size, k, none⟩ (.int .i64 (g.cs.getD (g.place k) 0))).cell? ⟨b, g.place k, none⟩ = some (.int .i64 (g.cs.getD (g.place k) 0))) := fun n => by
    have hr2 := RingAt.front (hst.out n)
    have e0 := hr2.c0
    rw [hsl] at e0
    exact ⟨e0, hr2.elem hH hpl⟩
   generalize (ints (g.part size k))[k] = u at *
   generalize g.cs.getD (g.place k) 0 = x at *
   generalize g.place k = q at *
   clear hr hb hsl hH hc ht hp hpl wf hw hk2 hset
   go_wp2_with fail
   go_region_held3 (fun w'' => w''.cell? ⟨rb, 0, none⟩ = some (.slice (some ⟨b, 0, none⟩) g.cs.length g.cs.length) ∧ w''.cell? ⟨b, q, none⟩ = some (.int .i64 x)) (first | exact hkeep.out _ | go_keep) ((go_at_call 270; refine (cc.out _).mono ?_; rintro e w'' ⟨rfl, m, rfl⟩))
   go_wp2_with fail
   refine wp_goto ?_
   refine ⟨rfl, ⟨k + 1, by omega, ⟨rfl, rfl, by simp⟩, hst.out _⟩, ?_⟩
   simp [intOf]
   omega
  ·have hkc : k = g.count := by omega
   subst hkc
   rw [RG.part_all] at hw
   have hw := Lib.hid hw
   clear hr
   go_wp2_with fail
   simp only [Exit.jump]
   go_ret
   exact ⟨rfl, hw.out⟩
 ·intro H
  go_wp2_with fail
  refine wp_label ?_
  go_step
  go_step
  exact H _ _ ⟨0, Nat.zero_le _, ⟨rfl, rfl, by simp⟩, h1.out⟩
end
end Go.Proofs.YtknjamfjonapiaaGreatDoor
