/- A parcel: plain data, and in memory. -/
import Derived.Test.YtaolpcmecfhgnaaEnE
import Derived.Test.YtaolpcmecfhgnaaSlStr
import Derived.Test.YtaolpcmecfhgnaaEdit
import Derived.Test.YtaolpcmecfhgnaaGoto
namespace Go.Proofs.Ytaolpcmecfhgnaa
open Go.RowKit
open Go.ChangeMaps (setBlock)
set_option linter.unusedVariables false
set_option linter.unusedSectionVars false
set_option linter.unusedSimpArgs false
set_option maxRecDepth 100000

/-! ### plain -/
structure Pcl where
  next : Nat
  exch : List UInt8
  key : List UInt8
  size : Int
  prio : Int
  ttl : Int
  bytes : List UInt8
  bits : Int
abbrev z0P : Pcl := ⟨0, [], [], 0, 0, 0, [], 0⟩
abbrev parE (p : Pcl) : Ent := ⟨0, 0, p.size, p.exch, p.key, p.prio, p.ttl, 0, false, 0⟩
/-- Which parcels there are. -/
structure OkP (p : Pcl) : Prop where
  most : p.next ≤ 3
  zero : p.next = 0 → p = z0P
  one : p.next = 1 → p.size = 0 ∧ p.prio = 0 ∧ p.ttl = 0 ∧ p.bytes = []
  two : p.next = 2 → ¬ (p.bytes.length : Int) = p.size
  three : p.next = 3 → (p.bytes.length : Int) = p.size
def weighP (p : Pcl) : (Bool × Int) × Pcl := if (p.bytes.length : Int) = p.size then ((true, 0), { p with next := 3 }) else ((false, 0), { p with next := 2 })
def beginP (p : Pcl) (e k : List UInt8) (b : Int) : Int × Pcl := if p.next = 0 then (0, { p with next := 1, exch := e, key := k, bits := b }) else (505, p)
def headP (p : Pcl) (s r t : Int) : (Bool × Int) × Pcl := if p.next = 1 then weighP { p with size := s, prio := r, ttl := t } else ((false, 505), p)
def bodyP (p : Pcl) (b : List UInt8) : (Bool × Int) × Pcl := if p.next = 2 ∧ (p.bytes.length : Int) + b.length ≤ p.size then weighP { p with bytes := p.bytes ++ b } else ((false, 505), p)
def takeP (p : Pcl) : (Ent × List UInt8 × Int) × Pcl := if p.next = 3 then ((parE p, p.bytes, p.bits), z0P) else ((z0E, [], 0), p)
theorem OkP.new : OkP z0P := ⟨by decide, fun _ => rfl, (fun h => by cases h), (fun h => by cases h), (fun h => by cases h)⟩
section
variable {p : Pcl} {e k b : List UInt8} {s r t : Int}
theorem OkP.weigh (p : Pcl) : OkP (weighP p).2 := by
  unfold weighP
  split
  · exact ⟨by simp, fun h => by simp at h, fun h => by simp at h, fun h => by simp at h, fun _ => by assumption⟩
  · exact ⟨by simp, fun h => by simp at h, fun h => by simp at h, fun _ => by assumption, fun h => by simp at h⟩
theorem OkP.begin (h : OkP p) : OkP (beginP p e k s).2 := by
  unfold beginP
  split
  · rename_i h0
    obtain rfl := h.zero h0
    exact ⟨by simp, fun h => by simp at h, fun _ => ⟨rfl, rfl, rfl, rfl⟩, fun h => by simp at h, fun h => by simp at h⟩
  · exact h
theorem OkP.head (h : OkP p) : OkP (headP p s r t).2 := by
  unfold headP
  split
  · exact OkP.weigh _
  · exact h
theorem OkP.body (h : OkP p) : OkP (bodyP p b).2 := by
  unfold bodyP
  split
  · exact OkP.weigh _
  · exact h
theorem OkP.take (h : OkP p) : OkP (takeP p).2 := by
  unfold takeP
  split
  · exact OkP.new
  · exact h
theorem weigh_len (p : Pcl) : (weighP p).2.bytes = p.bytes := by unfold weighP; split <;> rfl
theorem begin_len (p : Pcl) : (beginP p e k s).2.bytes = p.bytes := by unfold beginP; split <;> rfl
theorem head_len (p : Pcl) : (headP p s r t).2.bytes = p.bytes := by unfold headP; split <;> simp [weigh_len]
theorem body_len (p : Pcl) : (bodyP p b).2.bytes.length ≤ p.bytes.length + b.length := by unfold bodyP; split <;> simp [weigh_len]
theorem take_len (p : Pcl) : (takeP p).2.bytes.length ≤ p.bytes.length := by unfold takeP; split <;> simp
end

/-! ### in memory -/
theorem infU8P : (Try.prog.info? 5).map (fun i => (i.zero, i.size, i.bytes)) = some (some (.int .u8 0), 1, 1) := by kernel_rfl
abbrev pptr (b : Nat) : Value := .pointer (some ⟨b, 0, none⟩)
abbrev paO (p : Pcl) (v : Value) : Obj := .cells #[.int .i64 (p.next : Nat), .int .i64 0, .int .i64 0, .int .i64 p.size, tx p.exch, tx p.key, .int .i64 p.prio, .int .i64 p.ttl, .int .i64 0, .bool false, .int .i64 0, v, .int .i64 p.bits] 52
/-- A piece: its sort, and what one of that sort tells. -/
structure Pie where
  sort : Int
  exch : List UInt8
  key : List UInt8
  bits : Int
  size : Int
  prio : Int
  ttl : Int
  bytes : List UInt8
abbrev pieV (x : Pie) : Value := .agg #[.int .i64 x.sort, tx x.exch, tx x.key, .int .i64 x.bits, .int .i64 x.size, .int .i64 x.prio, .int .i64 x.ttl, tx x.bytes]
abbrev pieO (x : Pie) : Obj := .cells #[.int .i64 x.sort, tx x.exch, tx x.key, .int .i64 x.bits, .int .i64 x.size, .int .i64 x.prio, .int .i64 x.ttl, tx x.bytes] 55
def PaIs (B : Nat) (w0 w : World) (pb : Nat) (p : Pcl) (F : List (Nat × Obj)) : Prop :=
  ∃ a c S, SlIs 5 1 (.slice a p.bytes.length c) p.bytes.length (Lib.byteCells p.bytes) S ∧ St B w0 w ((pb, paO p (.slice a p.bytes.length c)) :: (S ++ F))
section
variable {B : Nat} {w0 w w' : World} {pb : Nat} {p : Pcl} {F F' S : List (Nat × Obj)}
theorem PaIs.beside (h : PaIs B w0 w pb p F) : ∃ Z, St B w0 w (Z ++ F) ∧ ∀ w' F', St B w0 w' (Z ++ F') → PaIs B w0 w' pb p F' := by
  obtain ⟨a, c, S, h1, h2⟩ := h
  have e : ∀ F : List (Nat × Obj), (pb, paO p (.slice a p.bytes.length c)) :: (S ++ F) = ((pb, paO p (.slice a p.bytes.length c)) :: S) ++ F := fun F => by simp
  rw [e] at h2
  exact ⟨_, h2, fun w' F' h => ⟨a, c, S, h1, by rw [e]; exact h⟩⟩
theorem PaIs.below (h : PaIs B w0 w pb p F) : Below B w0 w := by
  obtain ⟨Z, z, -⟩ := h.beside
  exact z.below
theorem PaIs.grow (h : PaIs B w0 w pb p F) (hb : Below w.heap.size w w') : PaIs B w0 w' pb p F := by
  obtain ⟨Z, z, k⟩ := h.beside
  exact k _ _ (z.grow hb)
theorem PaIs.permF (h : PaIs B w0 w pb p F) (hp : F.Perm F') : PaIs B w0 w pb p F' := by
  obtain ⟨Z, z, k⟩ := h.beside
  exact k _ _ (z.perm (hp.append_left Z))
theorem PaIs.sub (h : PaIs B w0 w pb p F) (hp : F'.Sublist F) : PaIs B w0 w pb p F' := by
  obtain ⟨Z, z, k⟩ := h.beside
  exact k _ _ (z.sub ((List.Sublist.refl Z).append hp))
theorem PaIs.alloc (h : PaIs B w0 w pb p F) (o : Obj) : PaIs B w0 (w.alloc o) pb p ((w.heap.size, o) :: F) := by
  obtain ⟨Z, z, k⟩ := h.beside
  exact k _ _ ((z.alloc o).perm List.perm_middle.symm)
theorem PaIs.cell {t : Nat} {c : Array Value} {T : TypeId} (h : PaIs B w0 w pb p F) (hm : (t, .cells c T) ∈ F) {i : Nat} {v : Value} (hi : c[i]? = some v) : w.cell? ⟨t, i, none⟩ = some v := by
  obtain ⟨Z, z, -⟩ := h.beside
  exact z.cell (b := t) (List.mem_append_right _ hm) hi
theorem PaIs.new (h : St B w0 w F) : PaIs B w0 (w.alloc (paO z0P (.slice none 0 0))) w.heap.size z0P F := ⟨none, 0, [], SlIs.nil, h.alloc _⟩
end

/-! ### a scope with four labels that are jumped forward to: 0 the last one, 3 ahead of it -/
def four (J0 J1 J2 J3 : Act → World → Prop) (l : Nat) (a : Act) (w : World) : Prop := (l = 0 ∧ J0 a w) ∨ (l = 1 ∧ J1 a w) ∨ (l = 2 ∧ J2 a w) ∨ (l = 3 ∧ J3 a w)
theorem wp_scope_four {P : Program} {a : Act} {w : World} {Q : Exit → Act → World → Prop} {c X0 X1 X2 X3 : Code} (J0 J1 J2 J3 : Act → World → Prop)
    (h0 : findLabel c 0 = some (.seq .skip X0)) (h1 : findLabel c 1 = some (.seq .skip X1)) (h2 : findLabel c 2 = some (.seq .skip X2)) (h3 : findLabel c 3 = some (.seq .skip X3))
    (pass0 : ∀ a w, J0 a w → X0.wp P (jumps (fun _ _ _ => False) Q) a w) (pass3 : ∀ a w, J3 a w → X3.wp P (jumps (fun l a w => l = 0 ∧ J0 a w) Q) a w)
    (pass2 : (∀ a w, J3 a w → X3.wp P (jumps (four J0 (fun _ _ => False) (fun _ _ => False) J3) Q) a w) → ∀ a w, J2 a w → X2.wp P (jumps (four J0 (fun _ _ => False) (fun _ _ => False) J3) Q) a w) (pass1 : ∀ a w, J1 a w → X1.wp P (jumps (four J0 (fun _ _ => False) (fun _ _ => False) J3) Q) a w)
    (first : c.wp P (jumps (four J0 J1 J2 J3) Q) a w) : (Code.scope c).wp P Q a w := by
  refine wp_scope_gotos (fun l => if l = 0 then X0 else if l = 1 then X1 else if l = 2 then X2 else X3) (fun l n a w => (l = 0 ∧ n = 0 ∧ J0 a w) ∨ (l = 1 ∧ n = 2 ∧ J1 a w) ∨ (l = 2 ∧ n = 2 ∧ J2 a w) ∨ (l = 3 ∧ n = 1 ∧ J3 a w)) ?_ ?_ ?_
  · rintro l n a w (⟨rfl, _⟩ | ⟨rfl, _⟩ | ⟨rfl, _⟩ | ⟨rfl, _⟩)
    · exact h0
    · exact h1
    · exact h2
    · exact h3
  · refine Code.wp_mono (jumps_mono ?_) first
    rintro l a' w' (⟨rfl, h⟩ | ⟨rfl, h⟩ | ⟨rfl, h⟩ | ⟨rfl, h⟩)
    · exact ⟨0, .inl ⟨rfl, rfl, h⟩⟩
    · exact ⟨2, .inr (.inl ⟨rfl, rfl, h⟩)⟩
    · exact ⟨2, .inr (.inr (.inl ⟨rfl, rfl, h⟩))⟩
    · exact ⟨1, .inr (.inr (.inr ⟨rfl, rfl, h⟩))⟩
  · have up : ∀ l a' w', four J0 (fun _ _ => False) (fun _ _ => False) J3 l a' w' → ∃ m, m < 2 ∧ ((l = 0 ∧ m = 0 ∧ J0 a' w') ∨ (l = 1 ∧ m = 2 ∧ J1 a' w') ∨ (l = 2 ∧ m = 2 ∧ J2 a' w') ∨ (l = 3 ∧ m = 1 ∧ J3 a' w')) := by
      rintro l a' w' (⟨rfl, h⟩ | ⟨rfl, h⟩ | ⟨rfl, h⟩ | ⟨rfl, h⟩)
      · exact ⟨0, by decide, .inl ⟨rfl, rfl, h⟩⟩
      · exact h.elim
      · exact h.elim
      · exact ⟨1, by decide, .inr (.inr (.inr ⟨rfl, rfl, h⟩))⟩
    rintro l n a w (⟨rfl, rfl, h⟩ | ⟨rfl, rfl, h⟩ | ⟨rfl, rfl, h⟩ | ⟨rfl, rfl, h⟩)
    · exact Code.wp_mono (jumps_mono fun _ _ _ h => h.elim) (pass0 a w h)
    · exact Code.wp_mono (jumps_mono up) (pass1 a w h)
    · exact Code.wp_mono (jumps_mono up) (pass2 (fun a w h => Code.wp_mono (jumps_mono fun l a w h => .inl h) (pass3 a w h)) a w h)
    · exact Code.wp_mono (jumps_mono fun l a w h => ⟨0, by decide, .inl ⟨h.1, rfl, h.2⟩⟩) (pass3 a w h)
end Go.Proofs.Ytaolpcmecfhgnaa
