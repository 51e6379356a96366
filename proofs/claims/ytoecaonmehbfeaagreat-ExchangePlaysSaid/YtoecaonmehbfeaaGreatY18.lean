/- The steps that came in; both exchanges side by side, ExchangePlays. -/
import Derived.Test.YtoecaonmehbfeaaGreatY16
import Derived.Test.YtoecaonmehbfeaaGreatY17
import Derived.Test.YtoecaonmehbfeaaGreatY02
import Derived.Deep.RegionHeld3
import Derived.Deep.DeepCutAuto
import Derived.Deep.CutBlock
/- The steps that came in; both exchanges side by side. -/
namespace Go.Proofs.YtoecaonmehbfeaaGreat
open Go.RowKit
set_option linter.unusedVariables false
set_option maxRecDepth 100000

/-- A step: what, kind, bits, the binding. -/
abbrev Stp := Int × Int × Int × Bnd
/-- The slice at a with len elements reads as these steps. -/
structure Stp13 (w : World) (a : Option Addr) (len : Nat) (G : List Stp) : Prop where
  size : G.length = len
  at_ : ∀ (i : Nat) s, G[i]? = some s → FitB s.2.2.2 ∧ ∃ b off, a = some ⟨b, off, none⟩ ∧ w.cell? ⟨b, off + i * 6, none⟩ = some (.int .i64 s.1) ∧ w.cell? ⟨b, off + i * 6 + 1, none⟩ = some (.int .i64 s.2.1) ∧ w.cell? ⟨b, off + i * 6 + 2, none⟩ = some (.int .i64 s.2.2.1) ∧
    w.cell? ⟨b, off + i * 6 + 3, none⟩ = some (tx s.2.2.2.1) ∧ w.cell? ⟨b, off + i * 6 + 4, none⟩ = some (tx s.2.2.2.2.1) ∧ w.cell? ⟨b, off + i * 6 + 5, none⟩ = some (tx s.2.2.2.2.2)
theorem Stp13.below {w w' : World} {a : Option Addr} {len : Nat} {G : List Stp} (h : Stp13 w a len G) (hb : Below w.heap.size w w') : Stp13 w' a len G :=
  ⟨h.size, fun i s hs => by
    obtain ⟨h1, b, off, e, c0, c1, c2, c3, c4, c5⟩ := h.at_ i s hs
    exact ⟨h1, b, off, e, cellOn (c := (b, _)) c0 hb, cellOn (c := (b, _)) c1 hb, cellOn (c := (b, _)) c2 hb, cellOn (c := (b, _)) c3 hb, cellOn (c := (b, _)) c4 hb, cellOn (c := (b, _)) c5 hb⟩⟩
theorem step13_of {w : World} {cs : List Value} (h : ReadS Tryz.prog w 36 cs) : ∃ n k t : Int, ∃ b : Bnd, cs = [.int .i64 n, .int .i64 k, .int .i64 t, tx b.1, tx b.2.1, tx b.2.2] ∧ FitB b := by
  have hu : Tryz.prog.underlying 36 = some (.struct (Tryz.prog.fieldsOf 36)) := by kernel_rfl
  have hv : Tryz.prog.underlying 34 = some (.struct (Tryz.prog.fieldsOf 34)) := by kernel_rfl
  obtain ⟨h1, h2⟩ := h.struct hu
  rw [show Tryz.prog.cellsOf 36 = 6 by kernel_rfl] at h1
  have hi : Tryz.prog.cellsOf 3 = 1 := by kernel_rfl
  have hb : Tryz.prog.cellsOf 34 = 3 := by kernel_rfl
  have hs : Tryz.prog.cellsOf 9 = 1 := by kernel_rfl
  have uInt : Tryz.prog.underlying 3 = some (.int .i64) := by kernel_rfl
  have f0 : ((Tryz.prog.fieldsOf 36)[0]?).map (fun f => (f.type, f.offset)) = some (3, 0) := by kernel_rfl
  have f1 : ((Tryz.prog.fieldsOf 36)[1]?).map (fun f => (f.type, f.offset)) = some (3, 1) := by kernel_rfl
  have f2 : ((Tryz.prog.fieldsOf 36)[2]?).map (fun f => (f.type, f.offset)) = some (3, 2) := by kernel_rfl
  have f3 : ((Tryz.prog.fieldsOf 36)[3]?).map (fun f => (f.type, f.offset)) = some (34, 3) := by kernel_rfl
  have g0 : ((Tryz.prog.fieldsOf 34)[0]?).map (fun f => (f.type, f.offset)) = some (9, 0) := by kernel_rfl
  have g1 : ((Tryz.prog.fieldsOf 34)[1]?).map (fun f => (f.type, f.offset)) = some (9, 1) := by kernel_rfl
  have g2 : ((Tryz.prog.fieldsOf 34)[2]?).map (fun f => (f.type, f.offset)) = some (9, 2) := by kernel_rfl
  simp only [Option.map_eq_some_iff, Prod.mk.injEq] at f0 f1 f2 f3 g0 g1 g2
  obtain ⟨x0, e0, t0, o0⟩ := f0
  obtain ⟨x1, e1, t1, o1⟩ := f1
  obtain ⟨x2, e2, t2, o2⟩ := f2
  obtain ⟨x3, e3, t3, o3⟩ := f3
  obtain ⟨y0, k0, s0, p0⟩ := g0
  obtain ⟨y1, k1, s1, p1⟩ := g1
  obtain ⟨y2, k2, s2, p2⟩ := g2
  have r0 := h2 0 x0 e0
  have r1 := h2 1 x1 e1
  have r2 := h2 2 x2 e2
  have r3 := h2 3 x3 e3
  rw [t0, o0, hi] at r0
  rw [t1, o1, hi] at r1
  rw [t2, o2, hi] at r2
  rw [t3, o3, hb] at r3
  obtain ⟨m1, m2⟩ := r3.struct hv
  have q0 := m2 0 y0 k0
  have q1 := m2 1 y1 k1
  have q2 := m2 2 y2 k2
  rw [s0, p0, hs] at q0
  rw [s1, p1, hs] at q1
  rw [s2, p2, hs] at q2
  obtain ⟨n, c0, -⟩ := r0.read.int uInt
  obtain ⟨k, c1, -⟩ := r1.read.int uInt
  obtain ⟨t, c2, -⟩ := r2.read.int uInt
  obtain ⟨a, c3, l1⟩ := q0.string uStr6
  obtain ⟨b, c4, l2⟩ := q1.string uStr6
  obtain ⟨c, c5, l3⟩ := q2.string uStr6
  obtain ⟨z0, z1, z2, z3, z4, z5, rfl⟩ : ∃ z0 z1 z2 z3 z4 z5, cs = [z0, z1, z2, z3, z4, z5] := by
    match cs, h1 with
    | [z0, z1, z2, z3, z4, z5], _ => exact ⟨z0, z1, z2, z3, z4, z5, rfl⟩
  simp at c0 c1 c2 c3 c4 c5
  subst c0 c1 c2 c3 c4 c5
  exact ⟨n, k, t, (a.data.toList, b.data.toList, c.data.toList), rfl, l1, l2, l3⟩
theorem Stp13.of {w : World} {a : Option Addr} {len : Nat} {rd : Nat → List Value} (h : RowsS Tryz.prog w 36 a len rd) : ∃ G, Stp13 w a len G := by
  have hco : Tryz.prog.cellsOf 36 = 6 := by kernel_rfl
  have key : ∀ i, ∃ s : Stp, i < len → rd i = [.int .i64 s.1, .int .i64 s.2.1, .int .i64 s.2.2.1, tx s.2.2.2.1, tx s.2.2.2.2.1, tx s.2.2.2.2.2] ∧ FitB s.2.2.2 := by
    intro i
    by_cases hi : i < len
    · obtain ⟨n, k, t, b, h1, h2⟩ := step13_of (h.at_ i hi).1
      exact ⟨(n, k, t, b), fun _ => ⟨h1, h2⟩⟩
    · exact ⟨(0, 0, 0, [], [], []), fun h => absurd h hi⟩
  refine ⟨(List.range len).map fun i => (key i).choose, by simp, fun i s hs => ?_⟩
  have hi : i < len := by
    have := (List.getElem?_eq_some_iff.1 hs).1
    simpa using this
  rw [List.getElem?_map, List.getElem?_range hi, Option.map_some, Option.some.injEq] at hs
  obtain ⟨h1, h2⟩ := (key i).choose_spec hi
  rw [hs] at h1 h2
  obtain ⟨_, _, b, off, ha, hc⟩ := h.at_ i hi
  rw [hco] at hc
  refine ⟨h2, b, off, ha, ?_, ?_, ?_, ?_, ?_, ?_⟩
  · exact hc 0 _ (by rw [h1]; rfl)
  · exact hc 1 _ (by rw [h1]; rfl)
  · exact hc 2 _ (by rw [h1]; rfl)
  · exact hc 3 _ (by rw [h1]; rfl)
  · exact hc 4 _ (by rw [h1]; rfl)
  · exact hc 5 _ (by rw [h1]; rfl)

section
variable {B : Nat} {w0 w w' : World} {F F' T R Q S E E' : List (Nat × Obj)} {rb xb i g c c' : Nat} {A A' A2 : List Bnd} {P P' P2 : List Plc} {v tv u lv : Value} {n x key : List UInt8} {l : List (List UInt8)} {b : Bnd} {p : Plc} {kd bt z : Int} {ok : Bool}

/-- The program's exchanges at xb, the document's at rb, beside them E. -/
def TwoX (B : Nat) (w0 w : World) (xb rb : Nat) (P : List Plc) (A : List Bnd) (P2 : List Plc) (A2 : List Bnd) (c : Nat) (E : List (Nat × Obj)) : Prop :=
  ∃ lv tv R Q, ExsIs lv P2 R ∧ BnsIs tv A2 Q ∧ ExIs B w0 w xb P A ((rb, .cells #[lv, tv] 32) :: (Q ++ E) ++ R) c
theorem TwoX.below (h : TwoX B w0 w xb rb P A P2 A2 c E) : Below B w0 w := by
  obtain ⟨lv, tv, R, Q, -, -, h⟩ := h
  exact h.below
theorem TwoX.fine (h : TwoX B w0 w xb rb P A P2 A2 c E) : FineX P A := by
  obtain ⟨lv, tv, R, Q, -, -, h⟩ := h
  exact h.fine
theorem TwoX.grow (h : TwoX B w0 w xb rb P A P2 A2 c E) (hb : Below w.heap.size w w') : TwoX B w0 w' xb rb P A P2 A2 c E := by
  obtain ⟨lv, tv, R, Q, h1, h2, h⟩ := h
  exact ⟨lv, tv, R, Q, h1, h2, h.grow hb⟩
theorem TwoX.sub (h : TwoX B w0 w xb rb P A P2 A2 c E) (hs : E'.Sublist E) : TwoX B w0 w xb rb P A P2 A2 c E' := by
  obtain ⟨lv, tv, R, Q, h1, h2, h⟩ := h
  exact ⟨lv, tv, R, Q, h1, h2, h.sub ((((List.Sublist.refl Q).append hs).cons_cons _).append (List.Sublist.refl R))⟩
theorem TwoX.cell (h : TwoX B w0 w xb rb P A P2 A2 c E) {cs : Array Value} {U : TypeId} {g : Nat} (hm : (g, .cells cs U) ∈ E) {i : Nat} {u : Value} (hi : cs[i]? = some u) : w.cell? ⟨g, i, none⟩ = some u := by
  obtain ⟨lv, tv, R, Q, h1, h2, h⟩ := h
  exact h.cell (List.mem_append_left _ (List.mem_cons_of_mem _ (List.mem_append_right _ hm))) hi
theorem TwoX.px (h : TwoX B w0 w xb rb P A P2 A2 c E) : ∃ F, ExIs B w0 w xb P A F c ∧ ∀ w' P' A' c' S, ExIs B w0 w' xb P' A' (S ++ F) c' → TwoX B w0 w' xb rb P' A' P2 A2 c' (S ++ E) := by
  obtain ⟨lv, tv, R, Q, h1, h2, h⟩ := h
  refine ⟨_, h, fun w' P' A' c' S h3 => ⟨lv, tv, R, Q, h1, h2, h3.permF ?_⟩⟩
  refine perm_by fun a => ?_
  simp only [List.count_append, List.count_cons, List.append_assoc, List.cons_append]
  omega
theorem TwoX.alloc (h : TwoX B w0 w xb rb P A P2 A2 c E) (o : Obj) : TwoX B w0 (w.alloc o) xb rb P A P2 A2 c ((w.heap.size, o) :: E) := by
  obtain ⟨F, h1, back⟩ := h.px
  exact back _ _ _ _ [(w.heap.size, o)] (h1.alloc o)
theorem TwoX.rx (h : TwoX B w0 w xb rb P A P2 A2 c E) : ∃ O, RxIs B w0 w rb P2 A2 (O ++ E) ∧ ∀ w' P' A' E', RxIs B w0 w' rb P' A' (O ++ E') → TwoX B w0 w' xb rb P A P' A' c E' := by
  obtain ⟨lv, tv, R, Q, h1, h2, h⟩ := h
  obtain ⟨O, h3, back⟩ := h.beside
  refine ⟨O, RxIs.shut h1 h2 (h3.perm ?_), fun w' P' A' E' h4 => ?_⟩
  · refine perm_by fun a => ?_
    simp only [List.count_append, List.count_cons, List.append_assoc, List.cons_append]
    omega
  · obtain ⟨lv', tv', R', Q', g1, g2, g3⟩ := h4.open
    refine ⟨lv', tv', R', Q', g1, g2, back _ _ (g3.perm ?_)⟩
    refine perm_by fun a => ?_
    simp only [List.count_append, List.count_cons, List.append_assoc, List.cons_append]
    omega
theorem TwoX.back0 {F : List (Nat × Obj)} (back : ∀ w' P' A' c' S, ExIs B w0 w' xb P' A' (S ++ F) c' → TwoX B w0 w' xb rb P' A' P2 A2 c' (S ++ E)) (h : ExIs B w0 w' xb P' A' F c') : TwoX B w0 w' xb rb P' A' P2 A2 c' E := back w' P' A' c' [] h

/-! ### each step, the program's and the document's -/
theorem two_decl (h : TwoX B w0 w xb rb P A P2 A2 c E) (hc : 1 ≤ c) (e : declX P n kd (autoB bt) = (P', z)) : Calls Tryz.prog 8 #[bpt xb, tx n, .int .i64 kd, .int .i64 bt] w fun e w' => e = .returned (.int .i64 z) ∧ TwoX B w0 w' xb rb P' A P2 A2 c E := by
  obtain ⟨F, h1, back⟩ := h.px
  exact (decl_is h1 hc e).mono fun e w' h2 => ⟨h2.1, TwoX.back0 back h2.2⟩
theorem two_rdecl (h : TwoX B w0 w xb rb P A P2 A2 c E) (few : P2.length ≤ 8) (hl : n.length ≤ maxLen) (e : declX P2 n kd (autoB bt) = (P', z)) : Calls Tryz.prog 9 #[bpt rb, tx n, .int .i64 kd, .int .i64 bt] w fun e w' => e = .returned (.int .i64 z) ∧ TwoX B w0 w' xb rb P A P' A2 c E := by
  obtain ⟨O, h1, back⟩ := h.rx
  exact (rdeclare_is h1 few hl e).mono fun e w' h2 => ⟨h2.1, back _ _ _ _ h2.2⟩
theorem two_del (h : TwoX B w0 w xb rb P A P2 A2 c E) (e : delX P A n (unuB bt) = (P', A', z)) : Calls Tryz.prog 10 #[bpt xb, tx n, .int .i64 bt] w fun e w' => e = .returned (.int .i64 z) ∧ TwoX B w0 w' xb rb P' A' P2 A2 c E := by
  obtain ⟨F, h1, back⟩ := h.px
  exact (del_is h1 e).mono fun e w' h2 => ⟨h2.1, TwoX.back0 back h2.2⟩
theorem two_rdel (h : TwoX B w0 w xb rb P A P2 A2 c E) (hF : FineX P2 A2) (e : delX P2 A2 n (unuB bt) = (P', A', z)) : Calls Tryz.prog 11 #[bpt rb, tx n, .int .i64 bt] w fun e w' => e = .returned (.int .i64 z) ∧ TwoX B w0 w' xb rb P A P' A' c E := by
  obtain ⟨O, h1, back⟩ := h.rx
  exact (rdelete_is h1 hF n bt e).mono fun e w' h2 => ⟨h2.1, back _ _ _ _ h2.2⟩
theorem two_bind {b1 b2 b3 : List UInt8} (h : TwoX B w0 w xb rb P A P2 A2 c E) (hb : FitB (b1, b2, b3)) (hc : c ≤ 100000) (e : bindX P A (b1, b2, b3) = (A', z)) : Calls Tryz.prog 12 #[bpt xb, .agg #[tx b1, tx b2, tx b3]] w fun e w' => e = .returned (.int .i64 z) ∧ TwoX B w0 w' xb rb P A' P2 A2 (c + 50) E := by
  obtain ⟨F, h1, back⟩ := h.px
  exact (bind_is h1 hb hc e).mono fun e w' h2 => ⟨h2.1, TwoX.back0 back h2.2⟩
theorem two_rbind {b1 b2 b3 : List UInt8} (h : TwoX B w0 w xb rb P A P2 A2 c E) (hF : FineX P2 A2) (e : bindX P2 A2 (b1, b2, b3) = (A', z)) : Calls Tryz.prog 13 #[bpt rb, .agg #[tx b1, tx b2, tx b3]] w fun e w' => e = .returned (.int .i64 z) ∧ TwoX B w0 w' xb rb P A P2 A' c E := by
  obtain ⟨O, h1, back⟩ := h.rx
  have := rbind_is h1 hF (b1, b2, b3)
  rw [e] at this
  exact this.mono fun e w' h2 => ⟨h2.1, back _ _ _ _ h2.2⟩
theorem two_unb {b1 b2 b3 : List UInt8} (h : TwoX B w0 w xb rb P A P2 A2 c E) (hc : c ≤ 100000) (e : unbX P A (b1, b2, b3) = (P', A', z)) : Calls Tryz.prog 14 #[bpt xb, .agg #[tx b1, tx b2, tx b3]] w fun e w' => e = .returned (.int .i64 z) ∧ TwoX B w0 w' xb rb P' A' P2 A2 c E := by
  obtain ⟨F, h1, back⟩ := h.px
  exact (unb_is h1 hc e).mono fun e w' h2 => ⟨h2.1, TwoX.back0 back h2.2⟩
theorem two_runb {b1 b2 b3 : List UInt8} (h : TwoX B w0 w xb rb P A P2 A2 c E) (hF : FineX P2 A2) (e : unbX P2 A2 (b1, b2, b3) = (P', A', z)) : Calls Tryz.prog 15 #[bpt rb, .agg #[tx b1, tx b2, tx b3]] w fun e w' => e = .returned (.int .i64 z) ∧ TwoX B w0 w' xb rb P A P' A' c E := by
  obtain ⟨O, h1, back⟩ := h.rx
  have := runbind_is h1 hF (b1, b2, b3)
  rw [e] at this
  exact this.mono fun e w' h2 => ⟨h2.1, back _ _ _ _ h2.2⟩
theorem two_dropq (h : TwoX B w0 w xb rb P A P2 A2 c E) (hc : c ≤ 100000) (e : dropqX P A x = (P', A')) : Calls Tryz.prog 16 #[bpt xb, tx x] w fun e w' => e = .returned (.tuple #[]) ∧ TwoX B w0 w' xb rb P' A' P2 A2 c E := by
  obtain ⟨F, h1, back⟩ := h.px
  exact (dropq_is h1 hc e).mono fun e w' h2 => ⟨h2.1, TwoX.back0 back h2.2⟩
theorem two_rdropq (h : TwoX B w0 w xb rb P A P2 A2 c E) (hF : FineX P2 A2) (e : dropqX P2 A2 x = (P', A')) : Calls Tryz.prog 17 #[bpt rb, tx x] w fun e w' => e = .returned (.tuple #[]) ∧ TwoX B w0 w' xb rb P A P' A' c E := by
  obtain ⟨O, h1, back⟩ := h.rx
  have := rdropq_is h1 hF x
  rw [e] at this
  exact this.mono fun e w' h2 => ⟨h2.1, back _ _ _ _ h2.2⟩

/-! ### what is asked behind each step -/
theorem two_rou (h : TwoX B w0 w xb rb P A P2 A2 c E) (hk : key.length ≤ 1000) (hc : c ≤ 100000) (e : routeX P A n key = (l, ok)) (hl : ∀ x ∈ l, x.length ≤ maxLen) : Calls Tryz.prog 18 #[bpt xb, tx n, tx key] w fun e w' => ∃ a cap, e = .returned (.tuple #[.slice a l.length cap, .bool ok]) ∧ ReadTs w' (.slice a l.length cap) l ∧ TwoX B w0 w' xb rb P A P2 A2 c E := by
  obtain ⟨F, h1, back⟩ := h.px
  refine (rou_is h1 hk hc e).mono ?_
  rintro e w' ⟨a, cap, S, rfl, hu, h2⟩
  exact ⟨a, cap, rfl, h2.texts hu List.perm_append_comm hl, (back _ _ _ _ _ h2).sub (List.sublist_append_right _ _)⟩
theorem two_rrou (h : TwoX B w0 w xb rb P A P2 A2 c E) (hF : FineX P2 A2) (hk : key.length ≤ 1000) (e : routeX P2 A2 n key = (l, ok)) (hl : ∀ x ∈ l, x.length ≤ maxLen) : Calls Tryz.prog 19 #[bpt rb, tx n, tx key] w fun e w' => ∃ a cap, e = .returned (.tuple #[.slice a l.length cap, .bool ok]) ∧ ReadTs w' (.slice a l.length cap) l ∧ Below w.heap.size w w' := by
  obtain ⟨O, h1, back⟩ := h.rx
  have := rroute_is h1 hF n key hk
  rw [e] at this
  refine this.mono ?_
  rintro e w' ⟨a, cap, S, rfl, hu, h2⟩
  exact ⟨a, cap, rfl, hu.read (X := []) h2 hl, h2.below⟩
theorem two_names (h : TwoX B w0 w xb rb P A P2 A2 c E) : Calls Tryz.prog 21 #[bpt xb] w fun e w' => ∃ u, e = .returned u ∧ ReadTs w' u (P.map (·.1)) ∧ TwoX B w0 w' xb rb P A P2 A2 c E := by
  obtain ⟨F, h1, back⟩ := h.px
  have hf := h1.fine
  refine (names_is h1).mono ?_
  rintro e w' ⟨u, S, rfl, hu, h2⟩
  refine ⟨u, rfl, h2.texts hu List.perm_append_comm (fun x hx => ?_), (back _ _ _ _ _ h2).sub (List.sublist_append_right _ _)⟩
  obtain ⟨p, hp, rfl⟩ := List.mem_map.1 hx
  have := (hf.each p hp).2.1
  unfold maxLen
  omega
theorem two_rnames (h : TwoX B w0 w xb rb P A P2 A2 c E) (hF : FineX P2 A2) : Calls Tryz.prog 22 #[bpt rb] w fun e w' => ∃ u, e = .returned u ∧ ReadTs w' u (P2.map (·.1)) ∧ Below w.heap.size w w' := by
  obtain ⟨O, h1, back⟩ := h.rx
  refine (rnames_is h1 hF.few).mono ?_
  rintro e w' ⟨u, S, rfl, hu, h2⟩
  refine ⟨u, rfl, hu.read (X := []) h2 (fun x hx => ?_), h2.below⟩
  obtain ⟨p, hp, rfl⟩ := List.mem_map.1 hx
  have := (hF.each p hp).2.1
  unfold maxLen
  omega
theorem two_has (h : TwoX B w0 w xb rb P A P2 A2 c E) (n : List UInt8) : Calls Tryz.prog 23 #[bpt xb, tx n] w fun e w' => e = .returned (.bool (hasX P n)) ∧ w' = w := by
  obtain ⟨F, h1, back⟩ := h.px
  exact has_is h1 n
theorem two_rhas (h : TwoX B w0 w xb rb P A P2 A2 c E) (few : P2.length ≤ 8) (n : List UInt8) : Calls Tryz.prog 24 #[bpt rb, tx n] w fun e w' => e = .returned (.bool (hasX P2 n)) ∧ w' = w := by
  obtain ⟨O, h1, back⟩ := h.rx
  exact rhas_is h1 few n
theorem two_of (h : TwoX B w0 w xb rb P A P2 A2 c E) (n : List UInt8) : Calls Tryz.prog 26 #[bpt xb, tx n] w fun e w' => ∃ u, e = .returned u ∧ ReadBs w' u (ofB A n) ∧ TwoX B w0 w' xb rb P A P2 A2 c E := by
  obtain ⟨F, h1, back⟩ := h.px
  refine (exof_is h1 n).mono ?_
  rintro e w' ⟨u, S, rfl, hu, h2⟩
  obtain ⟨O, h3, -⟩ := h2.beside
  refine ⟨u, rfl, hu.read (A := O ++ F) (h3.perm ?_), (back _ _ _ _ _ h2).sub (List.sublist_append_right _ _)⟩
  refine perm_by fun a => ?_
  simp only [List.count_append]
  omega
theorem two_rof (h : TwoX B w0 w xb rb P A P2 A2 c E) (few : A2.length ≤ 40) (n : List UInt8) : Calls Tryz.prog 27 #[.pointer (some ⟨rb, 1, none⟩), tx n] w fun e w' => ∃ u, e = .returned u ∧ ReadBs w' u (ofB A2 n) ∧ Below w.heap.size w w' := by
  obtain ⟨O, h1, back⟩ := h.rx
  exact rof_is h1 few n
theorem routeX_small (hF : FineX P A) (hk : key.length ≤ maxLen) : ∀ x ∈ (routeX P A n key).1, x.length ≤ maxLen := by
  intro x hx
  unfold routeX at hx
  split at hx
  · simp at hx
    subst hx
    exact hk
  · split at hx
    · simp at hx
    · unfold routeL at hx
      rcases (onceL_mem _ _ _).1 hx with h' | h'
      · simp at h'
      · obtain ⟨b, hb, rfl⟩ := List.mem_map.1 h'
        exact (hF.rows.fit b (List.mem_filter.1 (List.mem_filter.1 hb).1).1).max.2.1
theorem routeX_len (hF : FineX P A) (n key : List UInt8) : (routeX P A n key).1.length ≤ 40 := by
  unfold routeX
  split
  · simp
  · split
    · simp
    · rename_i p hp
      show (routeL p.2.1 A n key).length ≤ 40
      unfold routeL
      have h1 := onceL_len [] (((ofB A n).filter (fitsK p.2.1 key)).map (·.2.1))
      rw [List.length_map, List.length_nil] at h1
      have h2 := List.length_filter_le (fitsK p.2.1 key) (ofB A n)
      have h3 := List.length_filter_le (fun b : Bnd => b.1 == n) A
      have h4 := hF.rows.few
      unfold ofB at *
      omega
end
end Go.Proofs.YtoecaonmehbfeaaGreat

/- ExchangePlays. -/
namespace Go.Proofs.YtoecaonmehbfeaaGreat
open Go.RowKit
set_option linter.unusedVariables false

abbrev stX (n k t : Int) (b1 b2 b3 : List UInt8) : Obj := .cells #[.int .i64 n, .int .i64 k, .int .i64 t, tx b1, tx b2, tx b3] 36
section
variable {w0 w w' : World} {xb rb qb : Nat}

/-- What holds behind so many steps, beside what is held. -/
def Pl13 (w0 : World) (xb rb : Nat) (i : Nat) (E : List (Nat × Obj)) (w : World) : Prop := ∃ P A c, 1 ≤ c ∧ c ≤ 1 + 50 * i ∧ TwoX w0.heap.size w0 w xb rb P A P A c E

set_option maxHeartbeats 32000000 in
set_option maxRecDepth 100000 in
theorem plays13_walk {a0 : Option Addr} {n cap : Nat} {G : List Stp} {ex key : List UInt8} {w : World} (hG : Stp13 w a0 n G) :
    Calls Tryz.prog 3 #[.slice a0 n cap, tx ex, tx key] w fun e w' => e = .returned (.bool true) ∧ Below w.heap.size w w' := by
  have c1 := Lib.hid (known13_true w)
  by_cases h60 : 60 < n
  · have h60' : (60 : Int) < n := by omega
    clear hG
    go_enter Tryz.func3, Tryz.ntmps3
    go_wp2_with fail
    refine c1.out.mono ?_
    rintro e w1 ⟨rfl, hb⟩
    replace hb := Lib.hid hb
    go_wp2_with fail
    go_ret
    exact ⟨rfl, hb.out⟩
  have h60' : ¬ (60 : Int) < n := by omega
  by_cases hk60 : 60 < key.length
  · have hk60' : (60 : Int) < key.length := by omega
    clear hG
    go_enter Tryz.func3, Tryz.ntmps3
    go_wp2_with fail
    refine c1.out.mono ?_
    rintro e w1 ⟨rfl, hb⟩
    replace hb := Lib.hid hb
    go_wp2_with fail
    go_ret
    exact ⟨rfl, hb.out⟩
  have hk60' : ¬ (60 : Int) < key.length := by omega
  have hGl := hG.size
  have hn60 : n ≤ 60 := by omega
  have hkl : key.length ≤ 60 := by omega
  clear h60 hk60
  replace hG := Lib.hid hG
  go_enter Tryz.func3, Tryz.ntmps3
  go_wp2_with fail
  refine c1.out.mono ?_
  rintro e w1 ⟨rfl, hb⟩
  have c2 := Lib.hid (xnew_any ((St.start w).grow hb))
  clear c1 hb
  go_wp2_with fail
  refine c2.out.mono ?_
  rintro e w2 ⟨rfl, h⟩
  generalize w1.heap.size = xb at *
  have h0 : Hid (Pl13 w xb w2.heap.size 0 [] (w2.alloc (.cells #[.slice none 0 0, .slice none 0 0] 32))) := Lib.hid ⟨[], [], 1, by omega, by omega, .slice none 0 0, .slice none 0 0, [], [], SlIs.nil, BnsIs.nil, h.alloc _⟩
  clear c2 h
  go_wp2_with fail
  generalize w2.heap.size = rb at *
  go_loopg [9] n (fun g v9 wr => ∃ i : Nat, v9 = .int .i64 i ∧ i + g = n ∧ Hid (Pl13 w xb rb i [] wr))
  case atStart => exact ⟨0, rfl, by omega, h0⟩
  case round =>
    clear h0
    obtain ⟨i, rfl, hi, hP⟩ := hrel
    obtain ⟨P, A, c, hc1, hc2, hT⟩ := hP.out
    have hF := hT.fine
    have hi0 : (0 : Int) ≤ i := by omega
    by_cases hlt : i < n
    · have hi1 : (i : Int) < n := by omega
      have hx : G[i]? = some G[i] := List.getElem?_eq_getElem (by omega)
      generalize G[i] = s at hx
      obtain ⟨hfit, ba, oa, rfl, k0, k1, k2, k3, k4, k5⟩ := (hG.out.below hT.below).at_ i s hx
      obtain ⟨what, kd, bt, b1, b2, b3⟩ := s
      simp only at hfit k0 k1 k2 k3 k4 k5
      have h1 := hT.alloc (stX what kd bt b1 b2 b3)
      by_cases hb60 : 60 < b3.length
      · have hb60' : (60 : Int) < b3.length := by omega
        have fin := Lib.hid h1.below
        have x5 := h1.cell (g := wr.heap.size) (i := 5) List.mem_cons_self rfl
        clear hx hP hT hF hfit h1
        go_wp2_with fail
        go_ret
        exact ⟨rfl, fin.out⟩
      have hb60' : ¬ (60 : Int) < b3.length := by omega
      have x0 := h1.cell (g := wr.heap.size) (i := 0) List.mem_cons_self rfl
      have x1 := h1.cell (g := wr.heap.size) (i := 1) List.mem_cons_self rfl
      have x2 := h1.cell (g := wr.heap.size) (i := 2) List.mem_cons_self rfl
      have x3 := h1.cell (g := wr.heap.size) (i := 3) List.mem_cons_self rfl
      have x4 := h1.cell (g := wr.heap.size) (i := 4) List.mem_cons_self rfl
      have x5 := h1.cell (g := wr.heap.size) (i := 5) List.mem_cons_self rfl
      clear hx hP hT
      go_upto_block 2 with fail
      clear k0 k1 k2 k3 k4 k5
      generalize wr.heap.size = qb at *
      obtain ⟨W1, hW1⟩ : ∃ W1, W1 = wr.alloc (.cells #[.int .i64 what, .int .i64 kd, .int .i64 bt, tx b1, tx b2, tx b3] 36) := ⟨_, rfl⟩
      have h1' : TwoX w.heap.size w W1 xb rb P A P A c [(qb, stX what kd bt b1 b2 b3)] := by rw [hW1]; exact h1
      have y0 : W1.cell? ⟨qb, 0, none⟩ = some (.int .i64 what) := by rw [hW1]; exact x0
      have y1 : W1.cell? ⟨qb, 1, none⟩ = some (.int .i64 kd) := by rw [hW1]; exact x1
      have y2 : W1.cell? ⟨qb, 2, none⟩ = some (.int .i64 bt) := by rw [hW1]; exact x2
      have y3 : W1.cell? ⟨qb, 3, none⟩ = some (tx b1) := by rw [hW1]; exact x3
      have y4 : W1.cell? ⟨qb, 4, none⟩ = some (tx b2) := by rw [hW1]; exact x4
      have y5 : W1.cell? ⟨qb, 5, none⟩ = some (tx b3) := by rw [hW1]; exact x5
      rw [← hW1]
      clear hW1 h1 x0 x1 x2 x3 x4 x5
      have few := hF.few
      have hb1 := hfit.max.1
      have hdr : Below W1.heap.size W1 W1.drew := (Below.refl _ W1).drew
      have hT0 := h1'.grow hdr
      have hcM : c ≤ 100000 := by omega
      clear hdr
      go_cut [11, 12] (fun v11 v12 wx => ∃ z : Int, v11 = .int .i64 z ∧ v12 = .int .i64 z ∧ Hid (Pl13 w xb rb (i + 1) [(qb, stX what kd bt b1 b2 b3)] wx))
      case first =>
        by_cases hw1 : what ≤ 1
        · skip
          obtain ⟨P', z, ea⟩ : ∃ P' z, declX P b1 kd (autoB bt) = (P', z) := ⟨_, _, rfl⟩
          have hF2 := hF.decl b1 kd (autoB bt)
          rw [ea] at hF2
          simp only at hF2
          have cd : Hid (∀ w9, TwoX w.heap.size w w9 xb rb P A P A c [(qb, stX what kd bt b1 b2 b3)] → Calls Tryz.prog 8 #[bpt xb, tx b1, .int .i64 kd, .int .i64 bt] w9 fun e w' => e = .returned (.int .i64 z) ∧ TwoX w.heap.size w w' xb rb P' A P A c [(qb, stX what kd bt b1 b2 b3)] ∧ (w'.cell? ⟨qb, 1, none⟩ = some (.int .i64 kd) ∧ w'.cell? ⟨qb, 2, none⟩ = some (.int .i64 bt) ∧ w'.cell? ⟨qb, 3, none⟩ = some (tx b1))) := Lib.hid fun w9 h9 =>
            (two_decl h9 hc1 ea).mono fun e w' h2 => ⟨h2.1, h2.2, ⟨h2.2.cell (g := qb) (i := 1) List.mem_cons_self rfl, h2.2.cell (g := qb) (i := 2) List.mem_cons_self rfl, h2.2.cell (g := qb) (i := 3) List.mem_cons_self rfl⟩⟩
          have cr : Hid (∀ w9, TwoX w.heap.size w w9 xb rb P' A P A c [(qb, stX what kd bt b1 b2 b3)] → Calls Tryz.prog 9 #[bpt rb, tx b1, .int .i64 kd, .int .i64 bt] w9 fun e w' => e = .returned (.int .i64 z) ∧ TwoX w.heap.size w w' xb rb P' A P' A c [(qb, stX what kd bt b1 b2 b3)] ∧ (w'.cell? ⟨qb, 1, none⟩ = some (.int .i64 kd) ∧ w'.cell? ⟨qb, 2, none⟩ = some (.int .i64 bt) ∧ w'.cell? ⟨qb, 3, none⟩ = some (tx b1))) := Lib.hid fun w9 h9 =>
            (two_rdecl h9 few hb1 ea).mono fun e w' h2 => ⟨h2.1, h2.2, ⟨h2.2.cell (g := qb) (i := 1) List.mem_cons_self rfl, h2.2.cell (g := qb) (i := 2) List.mem_cons_self rfl, h2.2.cell (g := qb) (i := 3) List.mem_cons_self rfl⟩⟩
          have hs0 : Hid (W1.drew.cell? ⟨qb, 1, none⟩ = some (.int .i64 kd) ∧ W1.drew.cell? ⟨qb, 2, none⟩ = some (.int .i64 bt) ∧ W1.drew.cell? ⟨qb, 3, none⟩ = some (tx b1)) := Lib.hid ⟨y1, y2, y3⟩
          have fin : Hid (∀ w9, TwoX w.heap.size w w9 xb rb P' A P' A c [(qb, stX what kd bt b1 b2 b3)] → Pl13 w xb rb (i + 1) [(qb, stX what kd bt b1 b2 b3)] w9) := Lib.hid fun w9 h9 => ⟨P', A, c, by omega, by omega, h9⟩
          clear ea hF2 hF hfit h1' hc1 hc2 hcM few
          go_wp2_with fail
          go_region_held3 (fun x => x.cell? ⟨qb, 1, none⟩ = some (.int .i64 kd) ∧ x.cell? ⟨qb, 2, none⟩ = some (.int .i64 bt) ∧ x.cell? ⟨qb, 3, none⟩ = some (tx b1)) (first | exact kS | exact hs0.out) (first
            | (go_at_call 8; refine (cd.out _ (by assumption)).mono ?_; rintro e w'' ⟨rfl, hT2, kS⟩)
            | (go_at_call 9; refine (cr.out _ (by assumption)).mono ?_; rintro e w'' ⟨rfl, hT3, kS⟩))
          have fin3 := Lib.hid (fin.out _ hT3)
          clear cd cr fin hT0 hT2 hT3
          go_wp2_with fail
          all_goals
            go_meet
            case rel => exact ⟨z, rfl, rfl, fin3⟩
        by_cases hw2 : what = 2
        · subst hw2
          obtain ⟨P', A', z, ea⟩ : ∃ P' A' z, delX P A b1 (unuB bt) = (P', A', z) := ⟨_, _, _, rfl⟩
          have hF2 := hF.del b1 (unuB bt)
          rw [ea] at hF2
          simp only at hF2
          have cd : Hid (∀ w9, TwoX w.heap.size w w9 xb rb P A P A c [(qb, stX 2 kd bt b1 b2 b3)] → Calls Tryz.prog 10 #[bpt xb, tx b1, .int .i64 bt] w9 fun e w' => e = .returned (.int .i64 z) ∧ TwoX w.heap.size w w' xb rb P' A' P A c [(qb, stX 2 kd bt b1 b2 b3)] ∧ (w'.cell? ⟨qb, 2, none⟩ = some (.int .i64 bt) ∧ w'.cell? ⟨qb, 3, none⟩ = some (tx b1))) := Lib.hid fun w9 h9 =>
            (two_del h9 ea).mono fun e w' h2 => ⟨h2.1, h2.2, ⟨h2.2.cell (g := qb) (i := 2) List.mem_cons_self rfl, h2.2.cell (g := qb) (i := 3) List.mem_cons_self rfl⟩⟩
          have cr : Hid (∀ w9, TwoX w.heap.size w w9 xb rb P' A' P A c [(qb, stX 2 kd bt b1 b2 b3)] → Calls Tryz.prog 11 #[bpt rb, tx b1, .int .i64 bt] w9 fun e w' => e = .returned (.int .i64 z) ∧ TwoX w.heap.size w w' xb rb P' A' P' A' c [(qb, stX 2 kd bt b1 b2 b3)] ∧ (w'.cell? ⟨qb, 2, none⟩ = some (.int .i64 bt) ∧ w'.cell? ⟨qb, 3, none⟩ = some (tx b1))) := Lib.hid fun w9 h9 =>
            (two_rdel h9 hF ea).mono fun e w' h2 => ⟨h2.1, h2.2, ⟨h2.2.cell (g := qb) (i := 2) List.mem_cons_self rfl, h2.2.cell (g := qb) (i := 3) List.mem_cons_self rfl⟩⟩
          have hs0 : Hid (W1.drew.cell? ⟨qb, 2, none⟩ = some (.int .i64 bt) ∧ W1.drew.cell? ⟨qb, 3, none⟩ = some (tx b1)) := Lib.hid ⟨y2, y3⟩
          have fin : Hid (∀ w9, TwoX w.heap.size w w9 xb rb P' A' P' A' c [(qb, stX 2 kd bt b1 b2 b3)] → Pl13 w xb rb (i + 1) [(qb, stX 2 kd bt b1 b2 b3)] w9) := Lib.hid fun w9 h9 => ⟨P', A', c, by omega, by omega, h9⟩
          clear ea hF2 hF hfit h1' hc1 hc2 hcM few
          go_wp2_with fail
          go_region_held3 (fun x => x.cell? ⟨qb, 2, none⟩ = some (.int .i64 bt) ∧ x.cell? ⟨qb, 3, none⟩ = some (tx b1)) (first | exact kS | exact hs0.out) (first
            | (go_at_call 10; refine (cd.out _ (by assumption)).mono ?_; rintro e w'' ⟨rfl, hT2, kS⟩)
            | (go_at_call 11; refine (cr.out _ (by assumption)).mono ?_; rintro e w'' ⟨rfl, hT3, kS⟩))
          have fin3 := Lib.hid (fin.out _ hT3)
          clear cd cr fin hT0 hT2 hT3
          go_wp2_with fail
          all_goals
            go_meet
            case rel => exact ⟨z, rfl, rfl, fin3⟩
        have n2 : (what == 2) = false := by rw [beq_eq_false_iff_ne]; exact hw2
        by_cases hw6 : what ≤ 6
        · skip
          obtain ⟨A', z, ea⟩ : ∃ A' z, bindX P A (b1, b2, b3) = (A', z) := ⟨_, _, rfl⟩
          have hF2 := hF.bind hfit
          rw [ea] at hF2
          simp only at hF2
          have cd : Hid (∀ w9, TwoX w.heap.size w w9 xb rb P A P A c [(qb, stX what kd bt b1 b2 b3)] → Calls Tryz.prog 12 #[bpt xb, .agg #[tx b1, tx b2, tx b3]] w9 fun e w' => e = .returned (.int .i64 z) ∧ TwoX w.heap.size w w' xb rb P A' P A (c + 50) [(qb, stX what kd bt b1 b2 b3)] ∧ (w'.cell? ⟨qb, 3, none⟩ = some (tx b1) ∧ w'.cell? ⟨qb, 4, none⟩ = some (tx b2) ∧ w'.cell? ⟨qb, 5, none⟩ = some (tx b3))) := Lib.hid fun w9 h9 =>
            (two_bind h9 hfit hcM ea).mono fun e w' h2 => ⟨h2.1, h2.2, ⟨h2.2.cell (g := qb) (i := 3) List.mem_cons_self rfl, h2.2.cell (g := qb) (i := 4) List.mem_cons_self rfl, h2.2.cell (g := qb) (i := 5) List.mem_cons_self rfl⟩⟩
          have cr : Hid (∀ w9, TwoX w.heap.size w w9 xb rb P A' P A (c + 50) [(qb, stX what kd bt b1 b2 b3)] → Calls Tryz.prog 13 #[bpt rb, .agg #[tx b1, tx b2, tx b3]] w9 fun e w' => e = .returned (.int .i64 z) ∧ TwoX w.heap.size w w' xb rb P A' P A' (c + 50) [(qb, stX what kd bt b1 b2 b3)] ∧ (w'.cell? ⟨qb, 3, none⟩ = some (tx b1) ∧ w'.cell? ⟨qb, 4, none⟩ = some (tx b2) ∧ w'.cell? ⟨qb, 5, none⟩ = some (tx b3))) := Lib.hid fun w9 h9 =>
            (two_rbind h9 hF ea).mono fun e w' h2 => ⟨h2.1, h2.2, ⟨h2.2.cell (g := qb) (i := 3) List.mem_cons_self rfl, h2.2.cell (g := qb) (i := 4) List.mem_cons_self rfl, h2.2.cell (g := qb) (i := 5) List.mem_cons_self rfl⟩⟩
          have hs0 : Hid (W1.drew.cell? ⟨qb, 3, none⟩ = some (tx b1) ∧ W1.drew.cell? ⟨qb, 4, none⟩ = some (tx b2) ∧ W1.drew.cell? ⟨qb, 5, none⟩ = some (tx b3)) := Lib.hid ⟨y3, y4, y5⟩
          have fin : Hid (∀ w9, TwoX w.heap.size w w9 xb rb P A' P A' (c + 50) [(qb, stX what kd bt b1 b2 b3)] → Pl13 w xb rb (i + 1) [(qb, stX what kd bt b1 b2 b3)] w9) := Lib.hid fun w9 h9 => ⟨P, A', (c + 50), by omega, by omega, h9⟩
          clear ea hF2 hF hfit h1' hc1 hc2 hcM few
          go_wp2_with fail
          go_region_held3 (fun x => x.cell? ⟨qb, 3, none⟩ = some (tx b1) ∧ x.cell? ⟨qb, 4, none⟩ = some (tx b2) ∧ x.cell? ⟨qb, 5, none⟩ = some (tx b3)) (first | exact kS | exact hs0.out) (first
            | (go_at_call 12; refine (cd.out _ (by assumption)).mono ?_; rintro e w'' ⟨rfl, hT2, kS⟩)
            | (go_at_call 13; refine (cr.out _ (by assumption)).mono ?_; rintro e w'' ⟨rfl, hT3, kS⟩))
          have fin3 := Lib.hid (fin.out _ hT3)
          clear cd cr fin hT0 hT2 hT3
          go_wp2_with fail
          all_goals
            go_meet
            case rel => exact ⟨z, rfl, rfl, fin3⟩
        by_cases hw7 : what = 7
        · subst hw7
          obtain ⟨P', A', z, ea⟩ : ∃ P' A' z, unbX P A (b1, b2, b3) = (P', A', z) := ⟨_, _, _, rfl⟩
          have hF2 := hF.unb (b1, b2, b3)
          rw [ea] at hF2
          simp only at hF2
          have cd : Hid (∀ w9, TwoX w.heap.size w w9 xb rb P A P A c [(qb, stX 7 kd bt b1 b2 b3)] → Calls Tryz.prog 14 #[bpt xb, .agg #[tx b1, tx b2, tx b3]] w9 fun e w' => e = .returned (.int .i64 z) ∧ TwoX w.heap.size w w' xb rb P' A' P A c [(qb, stX 7 kd bt b1 b2 b3)] ∧ (w'.cell? ⟨qb, 3, none⟩ = some (tx b1) ∧ w'.cell? ⟨qb, 4, none⟩ = some (tx b2) ∧ w'.cell? ⟨qb, 5, none⟩ = some (tx b3))) := Lib.hid fun w9 h9 =>
            (two_unb h9 hcM ea).mono fun e w' h2 => ⟨h2.1, h2.2, ⟨h2.2.cell (g := qb) (i := 3) List.mem_cons_self rfl, h2.2.cell (g := qb) (i := 4) List.mem_cons_self rfl, h2.2.cell (g := qb) (i := 5) List.mem_cons_self rfl⟩⟩
          have cr : Hid (∀ w9, TwoX w.heap.size w w9 xb rb P' A' P A c [(qb, stX 7 kd bt b1 b2 b3)] → Calls Tryz.prog 15 #[bpt rb, .agg #[tx b1, tx b2, tx b3]] w9 fun e w' => e = .returned (.int .i64 z) ∧ TwoX w.heap.size w w' xb rb P' A' P' A' c [(qb, stX 7 kd bt b1 b2 b3)] ∧ (w'.cell? ⟨qb, 3, none⟩ = some (tx b1) ∧ w'.cell? ⟨qb, 4, none⟩ = some (tx b2) ∧ w'.cell? ⟨qb, 5, none⟩ = some (tx b3))) := Lib.hid fun w9 h9 =>
            (two_runb h9 hF ea).mono fun e w' h2 => ⟨h2.1, h2.2, ⟨h2.2.cell (g := qb) (i := 3) List.mem_cons_self rfl, h2.2.cell (g := qb) (i := 4) List.mem_cons_self rfl, h2.2.cell (g := qb) (i := 5) List.mem_cons_self rfl⟩⟩
          have hs0 : Hid (W1.drew.cell? ⟨qb, 3, none⟩ = some (tx b1) ∧ W1.drew.cell? ⟨qb, 4, none⟩ = some (tx b2) ∧ W1.drew.cell? ⟨qb, 5, none⟩ = some (tx b3)) := Lib.hid ⟨y3, y4, y5⟩
          have fin : Hid (∀ w9, TwoX w.heap.size w w9 xb rb P' A' P' A' c [(qb, stX 7 kd bt b1 b2 b3)] → Pl13 w xb rb (i + 1) [(qb, stX 7 kd bt b1 b2 b3)] w9) := Lib.hid fun w9 h9 => ⟨P', A', c, by omega, by omega, h9⟩
          clear ea hF2 hF hfit h1' hc1 hc2 hcM few
          go_wp2_with fail
          go_region_held3 (fun x => x.cell? ⟨qb, 3, none⟩ = some (tx b1) ∧ x.cell? ⟨qb, 4, none⟩ = some (tx b2) ∧ x.cell? ⟨qb, 5, none⟩ = some (tx b3)) (first | exact kS | exact hs0.out) (first
            | (go_at_call 14; refine (cd.out _ (by assumption)).mono ?_; rintro e w'' ⟨rfl, hT2, kS⟩)
            | (go_at_call 15; refine (cr.out _ (by assumption)).mono ?_; rintro e w'' ⟨rfl, hT3, kS⟩))
          have fin3 := Lib.hid (fin.out _ hT3)
          clear cd cr fin hT0 hT2 hT3
          go_wp2_with fail
          all_goals
            go_meet
            case rel => exact ⟨z, rfl, rfl, fin3⟩
        have n7 : (what == 7) = false := by rw [beq_eq_false_iff_ne]; exact hw7
        obtain ⟨P', A', ea⟩ : ∃ P' A', dropqX P A b2 = (P', A') := ⟨_, _, rfl⟩
        have ca := Lib.hid (two_dropq h1' hcM ea)
        have cr := Lib.hid (fun (w9 : World) (h9 : TwoX w.heap.size w w9 xb rb P' A' P A c [(qb, stX what kd bt b1 b2 b3)]) => (⟨two_rdropq h9 hF ea, h9.cell (g := qb) (i := 4) List.mem_cons_self rfl⟩ : _ ∧ w9.cell? ⟨qb, 4, none⟩ = some (tx b2)))
        have fin : Hid (∀ w9, TwoX w.heap.size w w9 xb rb P' A' P' A' c [(qb, stX what kd bt b1 b2 b3)] → Pl13 w xb rb (i + 1) [(qb, stX what kd bt b1 b2 b3)] w9) := Lib.hid fun w9 h9 => ⟨P', A', c, by omega, by omega, h9⟩
        clear ea hF hfit h1' hT0 hc1 hc2 hcM few hw2 hw7
        go_wp2_with fail
        refine ca.out.mono ?_
        rintro e w3 ⟨rfl, h3⟩
        obtain ⟨cl, z4⟩ := cr.out _ h3
        replace cl := Lib.hid cl
        clear h3 ca cr
        go_wp2_with fail
        refine cl.out.mono ?_
        rintro e w4 ⟨rfl, h4⟩
        have fin4 := Lib.hid (fin.out _ h4)
        clear h4 cl fin
        go_wp2_with fail
        all_goals
          go_meet
          case rel => exact ⟨0, rfl, rfl, fin4⟩
      case rest =>
        obtain ⟨z, rfl, rfl, hP⟩ := hcut
        clear h1' hT0 y0 y1 y2 y3 y4 y5 hF hfit few hb1 hc1 hc2 hcM
        obtain ⟨P, A, c, hc1, hc2, hT⟩ := hP.out
        have hF := hT.fine
        obtain ⟨l, ok, er⟩ : ∃ l ok, routeX P A ex key = (l, ok) := ⟨_, _, rfl⟩
        have hsm := routeX_small (n := ex) (key := key) hF (by unfold maxLen; omega)
        have hll := routeX_len hF ex key
        rw [er] at hsm hll
        simp only at hsm hll
        have k1 := Lib.hid (two_rou hT (by omega) (by omega) er hsm)
        have k2 : Hid (∀ w4 u1, ReadTs w4 u1 l → TwoX w.heap.size w w4 xb rb P A P A c [(qb, stX what kd bt b1 b2 b3)] → Calls Tryz.prog 19 #[bpt rb, tx ex, tx key] w4 fun e w' => ∃ a cap, e = .returned (.tuple #[.slice a l.length cap, .bool ok]) ∧ ReadTs w' (.slice a l.length cap) l ∧ ReadTs w' u1 l ∧ TwoX w.heap.size w w' xb rb P A P A c [(qb, stX what kd bt b1 b2 b3)]) := Lib.hid fun w4 u1 hu h4 => by
          refine (two_rrou h4 hF (by omega) er hsm).mono ?_
          rintro e w' ⟨a, cap, rfl, hr, hb⟩
          exact ⟨a, cap, rfl, hr, hu.below hb, h4.grow hb⟩
        have cell0 : Hid (∀ w9, TwoX w.heap.size w w9 xb rb P A P A c [(qb, stX what kd bt b1 b2 b3)] → w9.cell? ⟨qb, 0, none⟩ = some (.int .i64 what)) := Lib.hid fun w9 h9 => h9.cell (g := qb) (i := 0) List.mem_cons_self rfl
        have kst1 : Hid (∀ w9 u z, ReadTs w9 u l → ReadTs w9 z l → TwoX w.heap.size w w9 xb rb P A P A c [(qb, stX what kd bt b1 b2 b3)] → Calls Tryz.prog 20 #[u, z] w9 fun e w' => e = .returned (.bool true) ∧ TwoX w.heap.size w w' xb rb P A P A c [(qb, stX what kd bt b1 b2 b3)] ∧ w'.cell? ⟨qb, 0, none⟩ = some (.int .i64 what)) := Lib.hid fun w9 u z hu hz h9 => by
          refine (sameTexts_true hu hz (by omega)).mono ?_
          rintro e w' ⟨rfl, hb⟩
          exact ⟨rfl, h9.grow hb, cell0.out _ (h9.grow hb)⟩
        have knm : Hid (∀ w9, TwoX w.heap.size w w9 xb rb P A P A c [(qb, stX what kd bt b1 b2 b3)] → Calls Tryz.prog 21 #[bpt xb] w9 fun e w' => ∃ u, e = .returned u ∧ ReadTs w' u (P.map (·.1)) ∧ TwoX w.heap.size w w' xb rb P A P A c [(qb, stX what kd bt b1 b2 b3)] ∧ w'.cell? ⟨qb, 0, none⟩ = some (.int .i64 what)) := Lib.hid fun w9 h9 => by
          refine (two_names h9).mono ?_
          rintro e w' ⟨u, rfl, hu, h10⟩
          exact ⟨u, rfl, hu, h10, cell0.out _ h10⟩
        have krn : Hid (∀ w9 u, ReadTs w9 u (P.map (·.1)) → TwoX w.heap.size w w9 xb rb P A P A c [(qb, stX what kd bt b1 b2 b3)] → Calls Tryz.prog 22 #[bpt rb] w9 fun e w' => ∃ z, e = .returned z ∧ ReadTs w' z (P.map (·.1)) ∧ ReadTs w' u (P.map (·.1)) ∧ TwoX w.heap.size w w' xb rb P A P A c [(qb, stX what kd bt b1 b2 b3)] ∧ w'.cell? ⟨qb, 0, none⟩ = some (.int .i64 what)) := Lib.hid fun w9 u hu h9 => by
          refine (two_rnames h9 hF).mono ?_
          rintro e w' ⟨z, rfl, hz, hb⟩
          exact ⟨z, rfl, hz, hu.below hb, h9.grow hb, cell0.out _ (h9.grow hb)⟩
        have kst2 : Hid (∀ w9 u z, ReadTs w9 u (P.map (·.1)) → ReadTs w9 z (P.map (·.1)) → TwoX w.heap.size w w9 xb rb P A P A c [(qb, stX what kd bt b1 b2 b3)] → Calls Tryz.prog 20 #[u, z] w9 fun e w' => e = .returned (.bool true) ∧ TwoX w.heap.size w w' xb rb P A P A c [(qb, stX what kd bt b1 b2 b3)] ∧ w'.cell? ⟨qb, 0, none⟩ = some (.int .i64 what)) := Lib.hid fun w9 u z hu hz h9 => by
          refine (sameTexts_true hu hz (by rw [List.length_map]; have := hF.few; omega)).mono ?_
          rintro e w' ⟨rfl, hb⟩
          exact ⟨rfl, h9.grow hb, cell0.out _ (h9.grow hb)⟩
        have khs : Hid (∀ w9, TwoX w.heap.size w w9 xb rb P A P A c [(qb, stX what kd bt b1 b2 b3)] → Calls Tryz.prog 23 #[bpt xb, tx ex] w9 fun e w' => e = .returned (.bool (hasX P ex)) ∧ TwoX w.heap.size w w' xb rb P A P A c [(qb, stX what kd bt b1 b2 b3)] ∧ w'.cell? ⟨qb, 0, none⟩ = some (.int .i64 what)) := Lib.hid fun w9 h9 => by
          refine (two_has h9 ex).mono ?_
          rintro e w' ⟨rfl, rfl⟩
          exact ⟨rfl, h9, cell0.out _ h9⟩
        have krh : Hid (∀ w9, TwoX w.heap.size w w9 xb rb P A P A c [(qb, stX what kd bt b1 b2 b3)] → Calls Tryz.prog 24 #[bpt rb, tx ex] w9 fun e w' => e = .returned (.bool (hasX P ex)) ∧ TwoX w.heap.size w w' xb rb P A P A c [(qb, stX what kd bt b1 b2 b3)] ∧ w'.cell? ⟨qb, 0, none⟩ = some (.int .i64 what)) := Lib.hid fun w9 h9 => by
          refine (two_rhas h9 hF.few ex).mono ?_
          rintro e w' ⟨rfl, rfl⟩
          exact ⟨rfl, h9, cell0.out _ h9⟩
        have kof : Hid (∀ w9, TwoX w.heap.size w w9 xb rb P A P A c [(qb, stX what kd bt b1 b2 b3)] → Calls Tryz.prog 26 #[bpt xb, tx ex] w9 fun e w' => ∃ u, e = .returned u ∧ ReadBs w' u (ofB A ex) ∧ TwoX w.heap.size w w' xb rb P A P A c [(qb, stX what kd bt b1 b2 b3)] ∧ w'.cell? ⟨qb, 0, none⟩ = some (.int .i64 what)) := Lib.hid fun w9 h9 => by
          refine (two_of h9 ex).mono ?_
          rintro e w' ⟨u, rfl, hu, h10⟩
          exact ⟨u, rfl, hu, h10, cell0.out _ h10⟩
        have krf : Hid (∀ w9 u, ReadBs w9 u (ofB A ex) → TwoX w.heap.size w w9 xb rb P A P A c [(qb, stX what kd bt b1 b2 b3)] → Calls Tryz.prog 27 #[.pointer (some ⟨rb, 1, none⟩), tx ex] w9 fun e w' => ∃ z, e = .returned z ∧ ReadBs w' z (ofB A ex) ∧ ReadBs w' u (ofB A ex) ∧ TwoX w.heap.size w w' xb rb P A P A c [(qb, stX what kd bt b1 b2 b3)] ∧ w'.cell? ⟨qb, 0, none⟩ = some (.int .i64 what)) := Lib.hid fun w9 u hu h9 => by
          refine (two_rof h9 hF.rows.few ex).mono ?_
          rintro e w' ⟨z, rfl, hz, hb⟩
          exact ⟨z, rfl, hz, hu.below hb, h9.grow hb, cell0.out _ (h9.grow hb)⟩
        have ksb : Hid (∀ w9 u z, ReadBs w9 u (ofB A ex) → ReadBs w9 z (ofB A ex) → TwoX w.heap.size w w9 xb rb P A P A c [(qb, stX what kd bt b1 b2 b3)] → Calls Tryz.prog 25 #[u, z] w9 fun e w' => e = .returned (.bool true) ∧ TwoX w.heap.size w w' xb rb P A P A c [(qb, stX what kd bt b1 b2 b3)] ∧ w'.cell? ⟨qb, 0, none⟩ = some (.int .i64 what)) := Lib.hid fun w9 u z hu hz h9 => by
          refine (sameB_true hu hz ?_).mono ?_
          · have h1 := List.length_filter_le (fun b : Bnd => b.1 == ex) A
            have h2 := hF.rows.few
            unfold ofB
            omega
          · rintro e w' ⟨rfl, hb⟩
            exact ⟨rfl, h9.grow hb, cell0.out _ (h9.grow hb)⟩
        have kki : Hid (∀ w9, TwoX w.heap.size w w9 xb rb P A P A c [(qb, stX what kd bt b1 b2 b3)] → Calls Tryz.prog 28 #[tx key] w9 fun e w' => e = .returned (.int .i64 (kindL key)) ∧ TwoX w.heap.size w w' xb rb P A P A c [(qb, stX what kd bt b1 b2 b3)] ∧ w'.cell? ⟨qb, 0, none⟩ = some (.int .i64 what)) := Lib.hid fun w9 h9 => by
          refine (kind_any key w9).mono ?_
          rintro e w' ⟨rfl, rfl⟩
          exact ⟨rfl, h9, cell0.out _ h9⟩
        have krk : Hid (∀ w9, TwoX w.heap.size w w9 xb rb P A P A c [(qb, stX what kd bt b1 b2 b3)] → Calls Tryz.prog 29 #[tx key] w9 fun e w' => e = .returned (.int .i64 (kindL key)) ∧ TwoX w.heap.size w w' xb rb P A P A c [(qb, stX what kd bt b1 b2 b3)] ∧ w'.cell? ⟨qb, 0, none⟩ = some (.int .i64 what)) := Lib.hid fun w9 h9 => by
          refine (rkind_any key w9).mono ?_
          rintro e w' ⟨rfl, rfl⟩
          exact ⟨rfl, h9, cell0.out _ h9⟩
        have fin : Hid (∀ w9, TwoX w.heap.size w w9 xb rb P A P A c [(qb, stX what kd bt b1 b2 b3)] → Pl13 w xb rb (i + 1) [] w9) := Lib.hid fun w9 h9 => ⟨P, A, c, hc1, hc2, h9.sub (List.nil_sublist _)⟩
        have dw : Hid (∀ (w5 : World) a1 n1 c1 a2 n2 c2, ReadTs w5 (.slice a1 n1 c1) l → ReadTs w5 (.slice a2 n2 c2) l → TwoX w.heap.size w w5 xb rb P A P A c [(qb, stX what kd bt b1 b2 b3)] → ReadTs w5.drew (.slice a1 n1 c1) l ∧ ReadTs w5.drew (.slice a2 n2 c2) l ∧ TwoX w.heap.size w w5.drew xb rb P A P A c [(qb, stX what kd bt b1 b2 b3)]) := Lib.hid fun w5 a1 n1 c1 a2 n2 c2 r1 r2 h5 =>
          ⟨r1.below (Below.refl _ w5).drew, r2.below (Below.refl _ w5).drew, h5.grow (Below.refl _ w5).drew⟩
        generalize hasX P ex = hb at *
        generalize kindL key = kk at *
        clear hP hT hF er hsm hll hc1 hc2
        go_wp2_with fail
        refine k1.out.mono ?_
        rintro e w4 ⟨au, cu, rfl, hu, h4⟩
        replace k2 := Lib.hid (k2.out _ _ hu h4)
        clear k1 hu h4
        go_wp2_with fail
        refine k2.out.mono ?_
        rintro e w5 ⟨av, cv, rfl, hv, hu, h5⟩
        obtain ⟨rv, ru, hT5⟩ := dw.out _ _ _ _ _ _ _ hv hu h5
        have hs0 : Hid (w5.drew.cell? ⟨qb, 0, none⟩ = some (.int .i64 what)) := Lib.hid (cell0.out _ hT5)
        generalize l.length = q0 at *
        clear k2 hv hu h5 dw cell0
        go_wp2_with fail
        go_region_held3 (fun x => x.cell? ⟨qb, 0, none⟩ = some (.int .i64 what)) (first | exact kS | exact hs0.out) (first
          | (go_at_call 20; refine (kst2.out _ _ _ rn2 rm (by assumption)).mono ?_; rintro e w'' ⟨rfl, hD4, kS⟩)
          | (go_at_call 20; refine (kst1.out _ _ _ ru rv (by assumption)).mono ?_; rintro e w'' ⟨rfl, hD1, kS⟩)
          | (go_at_call 21; refine (knm.out _ (by assumption)).mono ?_; rintro e w'' ⟨un, rfl, rn, hD2, kS⟩)
          | (go_at_call 22; refine (krn.out _ _ rn (by assumption)).mono ?_; rintro e w'' ⟨um, rfl, rm, rn2, hD3, kS⟩)
          | (go_at_call 23; refine (khs.out _ (by assumption)).mono ?_; rintro e w'' ⟨rfl, hD5, kS⟩)
          | (go_at_call 24; refine (krh.out _ (by assumption)).mono ?_; rintro e w'' ⟨rfl, hD6, kS⟩)
          | (go_at_call 26; refine (kof.out _ (by assumption)).mono ?_; rintro e w'' ⟨uo, rfl, ro, hD7, kS⟩)
          | (go_at_call 27; refine (krf.out _ _ ro (by assumption)).mono ?_; rintro e w'' ⟨up, rfl, rp, ro2, hD8, kS⟩)
          | (go_at_call 25; refine (ksb.out _ _ _ ro2 rp (by assumption)).mono ?_; rintro e w'' ⟨rfl, hD9, kS⟩)
          | (go_at_call 28; refine (kki.out _ (by assumption)).mono ?_; rintro e w'' ⟨rfl, hD10, kS⟩)
          | (go_at_call 29; refine (krk.out _ (by assumption)).mono ?_; rintro e w'' ⟨rfl, hD11, kS⟩))
        have fin5 := Lib.hid (fin.out _ hD11)
        clear kst1 knm krn kst2 khs krh kof krf ksb kki krk fin
        go_wp2_with fail
        go_roundg (n - (i + 1))
        case measure => omega
        case rel => exact ⟨i + 1, by go_num, by omega, fin5⟩
    · have fin := Lib.hid hT.below
      clear hP hT hF
      go_wp2_with fail
      go_ret
      exact ⟨rfl, fin.out⟩
end
theorem plays13_row {a0 : Option Addr} {n cap : Nat} {s1 s2 : ByteArray} {w : World} (r0 : ReadS Tryz.prog w 22 [.slice a0 n cap]) :
    Calls Tryz.prog 3 #[.slice a0 n cap, .string s1, .string s2] w fun e w' => e = .returned (.bool true) ∧ Below w.heap.size w w' := by
  obtain ⟨rd, hr⟩ := r0.slice (by kernel_rfl : Tryz.prog.underlying 22 = some (.slice 36)) (by decide +kernel)
  obtain ⟨G, hG⟩ := Stp13.of hr
  obtain ⟨⟨l⟩⟩ := s1
  obtain ⟨⟨m⟩⟩ := s2
  exact plays13_walk hG
end Go.Proofs.YtoecaonmehbfeaaGreat
