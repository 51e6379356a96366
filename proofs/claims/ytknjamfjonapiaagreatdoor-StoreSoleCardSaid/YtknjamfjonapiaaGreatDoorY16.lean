/- namespace Go.Proofs.YtknjamfjonapiaaGreatDoor, namespace Go.Proofs.YtknjamfjonapiaaGreatDoor, namespace Go.Proofs.YtknjamfjonapiaaGreatDoor, namespace Go.Proofs.YtknjamfjonapiaaGreatDoor, namespace Go.Proofs.YtknjamfjonapiaaGreatDoor, namespace Go.Proofs.YtknjamfjonapiaaGreatDoor, namespace Go.Proofs.YtknjamfjonapiaaGreatDoor, namespace Go.Proofs.YtknjamfjonapiaaGreatDoor, namespace Go.Proofs.YtknjamfjonapiaaGreatDoor, namespace Go.Proofs.YtknjamfjonapiaaGreatDoor, namespace Go.Proofs.YtknjamfjonapiaaGreatDoor, namespace Go.Proofs.YtknjamfjonapiaaGreatDoor. -/
import Derived.Test.YtknjamfjonapiaaGreatDoorY15
import Derived.Deep.RegionWith
import Derived.Deep.RegionLaw
import Derived.StillTailTactics
import Derived.Deep.DeepCutAuto
import Derived.Deep.CutBlock
import Derived.Deep.LoopGhost
import Derived.Test.YtknjamfjonapiaaGreatDoorY02
import Derived.Laws.BitsLemmas
import Derived.Deep.RegionHeld3
import Derived.Deep.QuietTactic
import Derived.BigQuiet
import Derived.Test.YtknjamfjonapiaaGreatDoorY07
import Derived.Test.YtknjamfjonapiaaGreatDoorY01
import Derived.LaidEqlPtr
import Derived.Test.YtknjamfjonapiaaGreatDoorY05
namespace Go.Proofs.YtknjamfjonapiaaGreatDoor
open Go.RowKit
set_option linter.unusedVariables false
section
variable {B : Nat} {w0 w w' : World} {S F A X : List (Nat × Obj)} {T : TypeId} {tb : Nat} {v u : Value} {L : List Bnd} {p : Bnd → Bool} {f : Bnd → List UInt8}
def OnceR (w : World) (l : List (List UInt8)) (e : Ending) (w' : World) : Prop := ∃ u S, e = .returned u ∧ TssIs u l S ∧ St w.heap.size w w' S
def OnceAt (w : World) (rv : Value) (fv : Value) (L : List Bnd) (f : Bnd → List UInt8) (g : Nat) (a' : Act) (w' : World) : Prop :=
  ∃ (i : Nat) (u : Value) (S : List (Nat × Obj)), Fr 29 [(0, rv), (1, fv), (5, u), (6, .int .i64 i)] a' ∧ i + g = L.length ∧ TssIs u (onceL [] ((L.take i).map f)) S ∧ St w.heap.size w w' S
set_option maxHeartbeats 4000000 in
theorem once_any {g : Nat} {cb : Array Value} (hv : ReadBs w v L) (hL : L.length ≤ 10000) (hf : ∀ b ∈ L, (f b).length ≤ maxLen) (hp : TellsN w g cb f) :
    Calls Tryz.prog 238 #[v, .func (.func g) #[] cb] w (OnceR w (onceL [] (L.map f))) := by
  obtain ⟨eg, his⟩ := hp
  have hg := Lib.hid his
  obtain ⟨a, cap, rfl, -⟩ := id hv
  have hr := Lib.hid (fun w' hb => hv.below (w' := w') hb)
  replace hf := Lib.hid hf
  clear hv his
  go_enter Tryz.func238, Tryz.ntmps238
  go_wp2_with fail
  refine wp_scope_ghost 0 (OnceAt w (.slice a L.length cap) (.func (.func g) #[] cb) L f) rfl ?_ ?_
  · rintro n a' w' ⟨i, u, S, hfr, hi, hs, hst⟩
    obtain ⟨q, rfl, hl'⟩ := hfr.lit
    clear hfr
    simp only [List.mem_cons, List.not_mem_nil, or_false, forall_eq_or_imp, forall_eq] at hl'
    obtain ⟨f0, f1, f5, f6⟩ := hl'
    simp only [List.range, List.range.loop, List.map, f0, f1, f5, f6]
    clear f0 f1 f5 f6
    have hi0 : (0 : Int) ≤ i := by omega
    have hlen : (onceL [] ((L.take i).map f)).length ≤ 10000 := by
      have := onceL_len [] ((L.take i).map f)
      rw [List.length_map, List.length_take, List.length_nil] at this
      omega
    by_cases hlt : i < L.length
    · have hi1 : (i : Int) < L.length := by omega
      have hiB : ((i : Int) == L.length) = false := by rw [beq_eq_false_iff_ne]; omega
      have hx : L[i]? = some L[i] := List.getElem?_eq_getElem hlt
      generalize L[i] = x at hx
      have stp : onceL [] ((L.take (i + 1)).map f) = onceS (onceL [] ((L.take i).map f)) (f x) := by rw [map_step hx, onceL_snoc]
      obtain ⟨a1, c1, e, hcells⟩ := hr.out w' hst.below
      cases e
      obtain ⟨b1, o1, rfl, k1, k2, k3⟩ := hcells i x hx
      have cc := Lib.hid (hg.out w' hst.below x)
      have hml : ∀ y ∈ onceL [] ((L.take i).map f), y.length ≤ maxLen := by
        intro y hy
        rcases (onceL_mem _ _ _).1 hy with h | h
        · simp at h
        · obtain ⟨b, hb, rfl⟩ := List.mem_map.1 h
          exact hf.out b (List.mem_of_mem_take hb)
      generalize onceL [] ((L.take i).map f) = m at *
      have cn := Lib.hid (fun w2 (hb : Below w'.heap.size w' w2) => containsS_any (TssIs.read (X := []) hs (hst.grow hb) hml) (by omega) (f x))
      by_cases hin : f x ∈ m
      · rw [decide_eq_true hin] at cn
        rw [onceS, if_pos hin] at stp
        have fin : Hid (∀ w2, Below w'.heap.size w' w2 → ∀ a', Fr 29 [(0, .slice (some ⟨b1, o1, none⟩) L.length cap), (1, .func (.func g) #[] cb), (5, u), (6, .int .i64 ((i + 1 : Nat) : Int))] a' → ∃ m, m < n ∧ OnceAt w (.slice (some ⟨b1, o1, none⟩) L.length cap) (.func (.func g) #[] cb) L f m a' w2) :=
          Lib.hid fun w2 hb a' hf => ⟨n - 1, by omega, i + 1, _, S, hf, by omega, by rw [stp]; exact hs, hst.grow hb⟩
        obtain ⟨au, cu, rfl⟩ := hs.form
        obtain ⟨x1, x2, x3⟩ := x
        simp only at k1 k2 k3
        generalize m.length = q0 at *
        clear hs hst hx stp hlen hr hg hml hin
        generalize f (x1, x2, x3) = y at *
        go_wp2_with fail
        refine cc.out.mono ?_
        rintro e w2 ⟨rfl, hb⟩
        replace fin := Lib.hid (fin.out _ hb)
        replace cn := Lib.hid (cn.out _ hb)
        clear cc hb k1 k2 k3
        go_wp2_with fail
        refine cn.out.mono ?_
        rintro e w3 ⟨rfl, rfl⟩
        go_wp2_with fail
        refine wp_goto ?_
        exact ⟨rfl, fin.out _ ⟨rfl, rfl, by simp⟩⟩
      · rw [decide_eq_false hin] at cn
        rw [onceS, if_neg hin] at stp
        have ap : Hid (∀ w2, Below w'.heap.size w' w2 → ∃ a cap2 W2, (Builtin.append_ #[47, 47] 0 #[u, .slice (some ⟨w2.heap.size, 0, none⟩) 1 1]).run Tryz.prog (w2.alloc (.cells #[tx (f x)] 9)) = .ok (.slice a (m.length + 1) cap2) W2 ∧
            ∀ a', Fr 29 [(0, .slice (some ⟨b1, o1, none⟩) L.length cap), (1, .func (.func g) #[] cb), (5, .slice a (m.length + 1) cap2), (6, .int .i64 ((i + 1 : Nat) : Int))] a' → ∃ m, m < n ∧ OnceAt w (.slice (some ⟨b1, o1, none⟩) L.length cap) (.func (.func g) #[] cb) L f m a' W2) := by
          refine Lib.hid fun w2 hb => ?_
          obtain ⟨a, cap2, W2, F2, hrun, hs2, hst2⟩ := TssIs.append (X := []) hs (hst.grow hb) (f x) (by omega)
          refine ⟨a, cap2, W2, hrun, fun a' hf => ⟨n - 1, by omega, i + 1, _, F2, hf, by omega, ?_, hst2⟩⟩
          rw [stp]
          exact hs2
        obtain ⟨au, cu, rfl⟩ := hs.form
        obtain ⟨x1, x2, x3⟩ := x
        simp only at k1 k2 k3
        generalize m.length = q0 at *
        clear hs hst hx stp hlen hr hg hml hin
        generalize f (x1, x2, x3) = y at *
        go_wp2_with fail
        refine cc.out.mono ?_
        rintro e w2 ⟨rfl, hb⟩
        obtain ⟨a2, cap2, W2, hrun, fin⟩ := ap.out _ hb
        replace fin := Lib.hid fin
        replace cn := Lib.hid (cn.out _ hb)
        clear cc ap hb k1 k2 k3
        go_wp2_with fail
        refine cn.out.mono ?_
        rintro e w3 ⟨rfl, rfl⟩
        go_wp2_with (at_builtin; refine wpList_append_go rfl (.tmp 23) (.tmp 25) 47 47 rfl _ _ rfl rfl hrun ?_)
        refine wp_goto ?_
        exact ⟨rfl, fin.out _ ⟨rfl, rfl, by simp⟩⟩
    · obtain rfl : i = L.length := by omega
      rw [List.take_of_length_le (Nat.le_refl _)] at hs
      have fin : Hid (OnceR w (onceL [] (L.map f)) (.returned u) w') := Lib.hid ⟨u, S, rfl, hs, hst⟩
      obtain ⟨au, cu, rfl⟩ := hs.form
      clear hs hst hg hr hlen
      go_wp2_with fail
      simp only [Exit.jump]
      go_ret
      exact fin.out
  · intro H
    go_wp2_with fail
    refine wp_label ?_
    go_step
    go_step
    exact H L.length _ _ ⟨0, _, [], ⟨rfl, rfl, by simp⟩, by omega, TssIs.nil, St.start w⟩
end
end Go.Proofs.YtknjamfjonapiaaGreatDoor

namespace Go.Proofs.YtknjamfjonapiaaGreatDoor
open Go.RowKit
set_option linter.unusedVariables false
section
variable {B : Nat} {w0 w w' : World} {S F A X : List (Nat × Obj)} {T : TypeId} {tb : Nat} {v u : Value} {L : List Bnd} {b : Bnd}
def TbIs (T : TypeId) (B : Nat) (w0 w : World) (tb : Nat) (L : List Bnd) (A : List (Nat × Obj)) : Prop :=
  ∃ v S, BnsIs v L S ∧ St B w0 w (A ++ (tb, .cells #[v] T) :: S)
theorem TbIs.one (h : TbIs T B w0 w tb L A) : ∃ v, OneAt T w tb v ∧ ReadBs w v L := by
  obtain ⟨v, S, hs, hst⟩ := h
  exact ⟨v, hst.get (b := tb) (by simp), hs.read (A := A ++ [(tb, .cells #[v] T)]) (by simpa using hst)⟩
theorem TbIs.grow (h : TbIs T B w0 w tb L A) (hb : Below w.heap.size w w') : TbIs T B w0 w' tb L A := by
  obtain ⟨v, S, hs, hst⟩ := h
  exact ⟨v, S, hs, hst.grow hb⟩
theorem TbIs.below (h : TbIs T B w0 w tb L A) : Below B w0 w := by
  obtain ⟨v, S, hs, hst⟩ := h
  exact hst.below
theorem TbIs.base (h : TbIs T B w0 w tb L A) : B ≤ w.heap.size := by
  obtain ⟨v, S, hs, hst⟩ := h
  exact hst.base
theorem TbIs.alloc (h : TbIs T B w0 w tb L A) (o : Obj) : TbIs T B w0 (w.alloc o) tb L ((w.heap.size, o) :: A) := by
  obtain ⟨v, S, hs, hst⟩ := h
  exact ⟨v, S, hs, hst.alloc o⟩
theorem TbIs.sub {A' : List (Nat × Obj)} (h : TbIs T B w0 w tb L A) (hs' : A'.Sublist A) : TbIs T B w0 w tb L A' := by
  obtain ⟨v, S, hs, hst⟩ := h
  exact ⟨v, S, hs, hst.sub (hs'.append (List.Sublist.refl _))⟩
theorem TbIs.perm {A' : List (Nat × Obj)} (h : TbIs T B w0 w tb L A) (hp : A.Perm A') : TbIs T B w0 w tb L A' := by
  obtain ⟨v, S, hs, hst⟩ := h
  exact ⟨v, S, hs, hst.perm (hp.append_right _)⟩
theorem TbIs.start (h : St B w0 w A) : TbIs T B w0 (w.alloc (.cells #[.slice none 0 0] T)) w.heap.size [] A :=
  ⟨_, [], BnsIs.nil, (h.alloc _).perm (by simpa using (List.perm_append_singleton _ _).symm)⟩
theorem TbIs.more {Y : List (Nat × Obj)} (h : TbIs T B w0 w tb L A) (k : St w.heap.size w w' Y) : TbIs T B w0 w' tb L (A ++ Y) := by
  obtain ⟨v, S, hs, hst⟩ := h
  refine ⟨v, S, hs, (hst.join k).perm ?_⟩
  rw [List.append_assoc, List.append_assoc]
  exact List.Perm.append_left A List.perm_append_comm
theorem TbIs.beside (h : TbIs T B w0 w tb L A) : ∃ X, St B w0 w (X ++ A) ∧ ∀ w' A', St B w0 w' (X ++ A') → TbIs T B w0 w' tb L A' := by
  obtain ⟨v, S, hs, hst⟩ := h
  exact ⟨(tb, .cells #[v] T) :: S, hst.perm List.perm_append_comm, fun w' A' h' => ⟨v, S, hs, h'.perm List.perm_append_comm⟩⟩
theorem TbIs.cell {c : Array Value} {U : TypeId} {k : Nat} (h : TbIs T B w0 w tb L A) (hm : (k, .cells c U) ∈ A) {i : Nat} {u : Value} (hi : c[i]? = some u) : w.cell? ⟨k, i, none⟩ = some u := by
  obtain ⟨v, S, hs, hst⟩ := h
  exact hst.cell (b := k) (List.mem_append_left _ hm) hi
theorem TbIs.swap {U : TypeId} {rb : Nat} {M : List Bnd} {R : List (Nat × Obj)} (h : TbIs T B w0 w tb L (A ++ (rb, .cells #[u] U) :: R)) (hu : BnsIs u M R) :
    ∃ v S, BnsIs v L S ∧ TbIs U B w0 w rb M (A ++ (tb, .cells #[v] T) :: S) := by
  obtain ⟨v, S, hs, hst⟩ := h
  refine ⟨v, S, hs, u, R, hu, hst.perm ?_⟩
  rw [List.append_assoc, List.append_assoc]
  exact List.Perm.append_left A List.perm_append_comm
theorem cellOn {c : Nat × Nat} (h : w.cell? ⟨c.1, c.2, none⟩ = some v) (hb : Below w.heap.size w w') : w'.cell? ⟨c.1, c.2, none⟩ = some v := (hb.cell (World.block_lt_of_cell? w _ h)).trans h
theorem ofC_any {q : Nat} {x : List UInt8} (hq : w.cell? ⟨q, 0, none⟩ = some (tx x)) (b : Bnd) : Calls Tryz.prog 260 #[bV b, bpt q] w fun e w2 => e = .returned (.bool (b.1 == x)) ∧ Below w.heap.size w w2 := by
  obtain ⟨b1, b2, b3⟩ := b
  have hb := Lib.hid (new_below w (bO (b1, b2, b3)))
  have hq2 := cellOn (c := (q, 0)) hq hb.out
  go_enter Tryz.func260, Tryz.ntmps260
  go_wp2_with fail
  go_ret
  exact ⟨rfl, hb.out⟩
theorem keyedC_any {q r : Nat} {x y : List UInt8} (hq : w.cell? ⟨q, 0, none⟩ = some (tx x)) (hr : w.cell? ⟨r, 0, none⟩ = some (tx y)) (b : Bnd) : Calls Tryz.prog 247 #[bV b, bpt q, bpt r] w fun e w2 => e = .returned (.bool (b.1 == x && b.2.2 == y)) ∧ Below w.heap.size w w2 := by
  have hb := Lib.hid (new_below w (bO b))
  have hq2 := cellOn (c := (q, 0)) hq hb.out
  have hr2 := cellOn (c := (r, 0)) hr hb.out
  obtain ⟨b1, b2, b3⟩ := b
  simp only
  cases h1 : (b1 == x) with
  | false =>
    rw [Bool.false_and]
    go_enter Tryz.func247, Tryz.ntmps247
    go_wp2_with fail
    go_ret
    exact ⟨rfl, hb.out⟩
  | true =>
    rw [Bool.true_and]
    rw [beq_iff_eq] at h1
    subst h1
    go_enter Tryz.func247, Tryz.ntmps247
    go_wp2_with fail
    go_ret
    exact ⟨rfl, hb.out⟩
theorem keyedN_any (b : Bnd) : Calls Tryz.prog 248 #[bV b] w fun e w2 => e = .returned (tx b.2.1) ∧ Below w.heap.size w w2 := by
  have hb := Lib.hid (new_below w (bO b))
  obtain ⟨b1, b2, b3⟩ := b
  go_enter Tryz.func248, Tryz.ntmps248
  go_wp2_with fail
  go_ret
  exact ⟨rfl, hb.out⟩
theorem tells_of {q : Nat} {x : List UInt8} (hq : w.cell? ⟨q, 0, none⟩ = some (tx x)) : TellsP w 260 #[bpt q] (fun b => b.1 == x) :=
  ⟨goesIn Tryz.func260 (by kernel_rfl) rfl, fun w1 hb b => ofC_any (cellOn (c := (q, 0)) hq hb) b⟩
theorem tells_keyed {q r : Nat} {x y : List UInt8} (hq : w.cell? ⟨q, 0, none⟩ = some (tx x)) (hr : w.cell? ⟨r, 0, none⟩ = some (tx y)) : TellsP w 247 #[bpt q, bpt r] (fun b => b.1 == x && b.2.2 == y) :=
  ⟨goesIn Tryz.func247 (by kernel_rfl) rfl, fun w1 hb b => keyedC_any (cellOn (c := (q, 0)) hq hb) (cellOn (c := (r, 0)) hr hb) b⟩
theorem names_keyed (w : World) : TellsN w 248 #[] (fun b => b.2.1) :=
  ⟨goesIn Tryz.func248 (by kernel_rfl) rfl, fun w1 hb b => keyedN_any b⟩
theorem FitB.max {b : Bnd} (h : FitB b) : b.1.length ≤ maxLen ∧ b.2.1.length ≤ maxLen ∧ b.2.2.length ≤ maxLen := by
  obtain ⟨h1, h2, h3⟩ := h
  unfold maxLen
  omega
set_option maxHeartbeats 1000000 in
theorem keyed_any (h : OneAt T w tb v) (hv : ReadBs w v L) (hL : L.length ≤ 10000) (hfit : ∀ b ∈ L, FitB b) (x y : List UInt8) :
    Calls Tryz.prog 207 #[bpt tb, tx x, tx y] w (OnceR w (onceL [] ((L.filter fun b => b.1 == x && b.2.2 == y).map (·.2.1)))) := by
  have hb := Lib.hid (bel (new_below w (.cells #[tx x] 9)) (new_below (w.alloc (.cells #[tx x] 9)) (.cells #[tx y] 9)))
  have hq : ((w.alloc (.cells #[tx x] 9)).alloc (.cells #[tx y] 9)).cell? ⟨w.heap.size, 0, none⟩ = some (tx x) := by simp
  have hr : ((w.alloc (.cells #[tx x] 9)).alloc (.cells #[tx y] 9)).cell? ⟨w.heap.size + 1, 0, none⟩ = some (tx y) := by
    have h : ((w.alloc (.cells #[tx x] 9)).alloc (.cells #[tx y] 9)).cell? ⟨(w.alloc (.cells #[tx x] 9)).heap.size, 0, none⟩ = some (tx y) := by simp
    rwa [World.size_alloc] at h
  have c1 := Lib.hid (those_any (h.below hb.out) (hv.below hb.out) hL (tells_keyed hq hr))
  have hmf : ∀ (fn : Fn) (first cap : Array Value) (w : World), (Instr.makeFunc fn first cap).run Tryz.prog w = .ok (.func fn first cap) w := fun _ _ _ _ => rfl
  obtain ⟨K, hK⟩ : ∃ K, K = L.filter fun b => b.1 == x && b.2.2 == y := ⟨_, rfl⟩
  have hKl : K.length ≤ 10000 := by rw [hK]; exact Nat.le_trans (List.length_filter_le _ _) hL
  have hKf : ∀ b ∈ K, b.2.1.length ≤ maxLen := fun b hb => by
    rw [hK] at hb
    have := (hfit b (List.mem_filter.1 hb).1).2.1
    unfold maxLen
    omega
  rw [← hK] at c1 ⊢
  replace hKf := Lib.hid hKf
  clear h hv hq hr hK hfit
  go_enter Tryz.func207, Tryz.ntmps207
  go_wp2_with fail
  refine c1.out.mono ?_
  rintro e w1 ⟨u, S, rfl, hs, hst⟩
  have hb1 := Lib.hid (bel hb.out hst.below)
  have c2 := Lib.hid (once_any (hs.read (A := []) hst) hKl hKf.out (names_keyed w1))
  clear hs hst c1 hb
  go_wp2_with fail
  refine c2.out.mono ?_
  rintro e w2 ⟨u2, S2, rfl, hs, hst⟩
  have fin : Hid (OnceR w (onceL [] (K.map (·.2.1))) (.returned u2) w2) := Lib.hid ⟨u2, S2, rfl, hs, St.under hb1.out hst⟩
  clear hs hst c2
  go_wp2_with fail
  go_ret
  exact fin.out
end
end Go.Proofs.YtknjamfjonapiaaGreatDoor

namespace Go.Proofs.YtknjamfjonapiaaGreatDoor
open Go.RowKit
set_option linter.unusedVariables false
set_option maxRecDepth 100000
section
variable {B : Nat} {w0 w w' : World} {S F A X : List (Nat × Obj)} {T : TypeId} {tb : Nat} {v u : Value} {L : List Bnd} {b : Bnd}
theorem new_any (h : St B w0 w A) : Calls Tryz.prog 203 #[] w fun e w' => e = .returned (bpt w.heap.size) ∧ TbIs 273 B w0 w' w.heap.size [] A := by
  have fin := Lib.hid (TbIs.start (T := 273) h)
  clear h
  go_enter Tryz.func203, Tryz.ntmps203
  go_wp2_with fail
  go_ret
  exact ⟨rfl, fin.out⟩
theorem TbIs.turn {w1 : World} {m : List Bnd} {z : Value} {R : List (Nat × Obj)} (h : TbIs T B w0 w tb L A) (hz : BnsIs z m R) (hst : St w.heap.size w w1 (S ++ R)) : TbIs T B w0 (w1.setCell ⟨tb, 0, none⟩ z) tb m (A ++ S) := by
  obtain ⟨v, F, -, hst0⟩ := h
  have h1 := hst0.join hst
  have h2 : St B w0 w1 ((A ++ F ++ S) ++ (tb, .cells #[v] T) :: R) := h1.perm (by
    simp only [List.append_assoc, List.cons_append]
    refine List.Perm.append_left A ?_
    have e : F ++ (S ++ (tb, Obj.cells #[v] T) :: R) = (F ++ S) ++ (tb, .cells #[v] T) :: R := (List.append_assoc _ _ _).symm
    rw [e, ← List.append_assoc]
    exact List.perm_middle.symm)
  have h3 := h2.set 0 z
  refine ⟨z, R, hz, ?_⟩
  have h4 : St B w0 (w1.setCell ⟨tb, 0, none⟩ z) ((A ++ F ++ S) ++ (tb, .cells #[z] T) :: R) := h3
  refine h4.sub ?_
  refine List.Sublist.append ?_ (List.Sublist.refl _)
  exact (List.sublist_append_left A F).append (List.Sublist.refl S)
end
end Go.Proofs.YtknjamfjonapiaaGreatDoor

namespace Go.Proofs.YtknjamfjonapiaaGreatDoor
open Go.RowKit
set_option linter.unusedVariables false
set_option maxRecDepth 100000
section
variable {B : Nat} {w0 w w' : World} {S F A X : List (Nat × Obj)} {T : TypeId} {tb : Nat} {v u : Value} {L M : List Bnd} {b : Bnd}
def KeyT (T : TypeId) (B : Nat) (w0 : World) (tb : Nat) (L : List Bnd) (A : List (Nat × Obj)) (l : List (List UInt8)) (e : Ending) (w' : World) : Prop := ∃ u S, e = .returned u ∧ TssIs u l S ∧ TbIs T B w0 w' tb L (A ++ S)
theorem keyed_is (h : TbIs 273 B w0 w tb L A) (hL : L.length ≤ 10000) (hfit : ∀ b ∈ L, FitB b) (x y : List UInt8) {l : List (List UInt8)} (e : onceL [] ((L.filter fun b => b.1 == x && b.2.2 == y).map (·.2.1)) = l) :
    Calls Tryz.prog 207 #[bpt tb, tx x, tx y] w (KeyT 273 B w0 tb L A l) := by
  obtain ⟨v, ho, hv⟩ := h.one
  subst e
  refine (keyed_any ho hv hL hfit x y).mono ?_
  rintro e w' ⟨u, S, rfl, hs, hst⟩
  exact ⟨u, S, rfl, hs, h.more hst⟩
theorem TssIs.at_ {P Q : List (Nat × Obj)} {a : Option Addr} {n cap : Nat} {l : List (List UInt8)} (hs : TssIs (.slice a n cap) l S) (h : TbIs T B w0 w tb L (P ++ S ++ Q)) {i : Nat} {x : List UInt8} (hx : l[i]? = some x) :
    ∃ g off, a = some ⟨g, off, none⟩ ∧ w.cell? ⟨g, off + i, none⟩ = some (tx x) := by
  obtain ⟨X, hX, -⟩ := h.beside
  have h2 : St B w0 w ((X ++ P ++ Q) ++ S) := hX.perm (by
    simp only [List.append_assoc]
    exact List.Perm.append_left X (List.Perm.append_left P List.perm_append_comm))
  have hs' : SlIs _ _ _ _ _ _ := hs
  obtain ⟨a', cap', e, -, -, ha⟩ := hs'.form
  cases e
  obtain ⟨g, off, rfl⟩ := ha i (List.getElem?_eq_some_iff.1 hx).1
  exact ⟨g, off, rfl, hs'.cellAt h2 (by rw [List.getElem?_map, hx]; rfl)⟩
end
end Go.Proofs.YtknjamfjonapiaaGreatDoor

namespace Go.Proofs.YtknjamfjonapiaaGreatDoor
open Go.RowKit
set_option linter.unusedVariables false
set_option maxRecDepth 100000
theorem perm_by {α : Type} {l m : List α} (h : ∀ [DecidableEq α] (a : α), l.count a = m.count a) : l.Perm m := by
  classical
  exact List.perm_iff_count.2 fun a => h a
def TrIn (tb : Nat) (M : Prs) (c : Nat) (T : List (Nat × Obj)) : Prop :=
  ∃ L, T = objsL L ∧ TreeOk L tb c ∧ (∀ p k, HasId L p k ↔ (p, k) ∈ M) ∧ M.Nodup ∧ RootX L [.int .i64 M.length]
def TaIn (tv : Value) (A : List Bnd) (Q : List (Nat × Obj)) : Prop :=
  (tv = .pointer none ∧ A = [] ∧ Q = []) ∨ ∃ tb u S, tv = bpt tb ∧ Q = (tb, .cells #[u] 273) :: S ∧ BnsIs u A S
structure Ky where
  kb : Nat
  tb : Nat
  v : Value
  ids : List Int
  S : List (Nat × Obj)
  T : List (Nat × Obj)
structure Pl where
  b : Nat
  d : Plc
  k : Option Ky
def Ky.objs (k : Ky) : List (Nat × Obj) := (k.kb, .cells #[bpt k.tb, k.v] 277) :: (k.S ++ k.T)
def kpt (k : Option Ky) : Value := .pointer (k.map fun k => ⟨k.kb, 0, none⟩)
def kobjs : Option Ky → List (Nat × Obj)
  | none => []
  | some k => k.objs
def Pl.objs (p : Pl) : List (Nat × Obj) := (p.b, .cells #[tx p.d.1, .int .i64 p.d.2.1, .bool p.d.2.2, kpt p.k] 217) :: kobjs p.k
def plsO (L : List Pl) : List (Nat × Obj) := L.flatMap Pl.objs
structure KyOk (k : Ky) (keys : List (List UInt8)) (c : Nat) : Prop where
  ids : SlIs 3 1 k.v k.ids.length (k.ids.map encI) k.S
  len : keys.length = k.ids.length
  rise : k.ids.Pairwise (· < ·)
  top : ∀ i ∈ k.ids, 0 ≤ i ∧ i < (c : Int)
  tree : TrIn k.tb ((keys.map wordsL).zip k.ids) c k.T
def keysOf (A : List Bnd) (n : List UInt8) : List (List UInt8) := (ofB A n).map (·.2.2)
structure PlOk (A : List Bnd) (c : Nat) (p : Pl) : Prop where
  has : p.k.isSome = (p.d.2.1 == 3)
  ky : ∀ k, p.k = some k → KyOk k (keysOf A p.d.1) c
structure ExIn (L : List Pl) (v tv : Value) (R Q : List (Nat × Obj)) (A : List Bnd) (c : Nat) : Prop where
  fine : FineX (L.map Pl.d) A
  sl : SlIs 188 1 v L.length (L.map fun p => bpt p.b) R
  tab : TaIn tv A Q
  pls : ∀ p ∈ L, PlOk A c p
def exO (xb : Nat) (v tv : Value) (L : List Pl) (R Q : List (Nat × Obj)) : List (Nat × Obj) := (xb, .cells #[v, tv] 209) :: (R ++ (Q ++ plsO L))
def ExIs (B : Nat) (w0 w : World) (xb : Nat) (P : List Plc) (A : List Bnd) (F : List (Nat × Obj)) (c : Nat) : Prop :=
  ∃ L v tv R Q, L.map Pl.d = P ∧ ExIn L v tv R Q A c ∧ St B w0 w (exO xb v tv L R Q ++ F)
def findL (L : List Pl) (n : List UInt8) : Option Pl := L.find? fun p => p.d.1 == n
def ptrF (L : List Pl) (n : List UInt8) : Value := .pointer ((findL L n).map fun p => ⟨p.b, 0, none⟩)
section
variable {B : Nat} {w0 w w' : World} {F T R Q S : List (Nat × Obj)} {tb xb c c' : Nat} {M : Prs} {L X Y : List Pl} {p p' : Pl} {k : Ky} {A : List Bnd} {P : List Plc} {v tv : Value} {n : List UInt8} {keys : List (List UInt8)}
theorem TrIn.is (h : TrIn tb M c T) (hst : St B w0 w (T ++ F)) : TrIs B w0 w tb M F c := by
  obtain ⟨L, rfl, h2⟩ := h
  exact ⟨L, hst, h2⟩
theorem TrIn.of (h : TrIs B w0 w tb M F c) : ∃ T, TrIn tb M c T ∧ St B w0 w (T ++ F) := by
  obtain ⟨L, h1, h2⟩ := h
  exact ⟨objsL L, ⟨L, rfl, h2⟩, h1⟩
theorem TrIn.mono (h : TrIn tb M c T) (hc : c ≤ c') : TrIn tb M c' T := by
  obtain ⟨L, h1, h2, h3⟩ := h
  exact ⟨L, h1, h2.mono hc, h3⟩
theorem KyOk.mono (h : KyOk k keys c) (hc : c ≤ c') : KyOk k keys c' :=
  ⟨h.ids, h.len, h.rise, fun i hi => by have := h.top i hi; omega, h.tree.mono hc⟩
theorem PlOk.mono (h : PlOk A c p) (hc : c ≤ c') : PlOk A c' p := ⟨h.has, fun k hk => (h.ky k hk).mono hc⟩
theorem ExIn.mono (h : ExIn L v tv R Q A c) (hc : c ≤ c') : ExIn L v tv R Q A c' := ⟨h.fine, h.sl, h.tab, fun p hp => (h.pls p hp).mono hc⟩
theorem findL_d (L : List Pl) (n : List UInt8) : findP (L.map Pl.d) n = (findL L n).map Pl.d := by
  unfold findP findL
  rw [List.find?_map]
  rfl
theorem findL_mem (h : findL L n = some p) : p ∈ L ∧ p.d.1 = n := ⟨List.mem_of_find?_eq_some h, by simpa using List.find?_some h⟩
theorem findL_none : findL L n = none ↔ ∀ p ∈ L, p.d.1 ≠ n := by
  unfold findL
  rw [List.find?_eq_none]
  simp
theorem plsO_append : plsO (X ++ Y) = plsO X ++ plsO Y := by simp [plsO]
theorem plsO_cons : plsO (p :: Y) = p.objs ++ plsO Y := by simp [plsO]
theorem exO_split : (exO xb v tv (X ++ p :: Y) R Q ++ F).Perm (p.objs ++ (exO xb v tv (X ++ Y) R Q ++ F)) := by
  refine perm_by fun a => ?_
  unfold exO
  rw [plsO_append, plsO_append, plsO_cons]
  simp only [List.count_append, List.count_cons, List.append_assoc, List.cons_append]
  omega
theorem mem_exO_place (hp : p ∈ L) : (p.b, .cells #[tx p.d.1, .int .i64 p.d.2.1, .bool p.d.2.2, kpt p.k] 217) ∈ exO xb v tv L R Q ++ F := by
  refine List.mem_append_left _ (List.mem_cons_of_mem _ (List.mem_append_right _ (List.mem_append_right _ ?_)))
  exact List.mem_flatMap.2 ⟨p, hp, List.mem_cons_self⟩
theorem mem_exO_head : (xb, .cells #[v, tv] 209) ∈ exO xb v tv L R Q ++ F := List.mem_append_left _ List.mem_cons_self
theorem St.ex (h : St B w0 w (exO xb v tv L R Q ++ F)) : w.cell? ⟨xb, 0, none⟩ = some v ∧ w.cell? ⟨xb, 1, none⟩ = some tv ∧ w.frozen? ⟨xb, 0, none⟩ = false ∧ w.frozen? ⟨xb, 1, none⟩ = false :=
  ⟨h.cell (b := xb) (i := 0) mem_exO_head rfl, h.cell (b := xb) (i := 1) mem_exO_head rfl, h.soft (b := xb) mem_exO_head 0, h.soft (b := xb) mem_exO_head 1⟩
theorem St.place (h : St B w0 w (exO xb v tv L R Q ++ F)) (hp : p ∈ L) : w.cell? ⟨p.b, 0, none⟩ = some (tx p.d.1) ∧ w.cell? ⟨p.b, 1, none⟩ = some (.int .i64 p.d.2.1) ∧ w.cell? ⟨p.b, 2, none⟩ = some (.bool p.d.2.2) ∧ w.cell? ⟨p.b, 3, none⟩ = some (kpt p.k) :=
  ⟨h.cell (b := p.b) (i := 0) (mem_exO_place hp) rfl, h.cell (b := p.b) (i := 1) (mem_exO_place hp) rfl, h.cell (b := p.b) (i := 2) (mem_exO_place hp) rfl, h.cell (b := p.b) (i := 3) (mem_exO_place hp) rfl⟩
theorem places_form (h : SlIs 188 1 v L.length (L.map fun p => bpt p.b) R) (hst : St B w0 w (exO xb v tv L R Q ++ F)) : ∃ a cap, v = .slice a L.length cap ∧ ∀ (i : Nat) p, L[i]? = some p → ∃ g off, a = some ⟨g, off, none⟩ ∧ w.cell? ⟨g, off + i, none⟩ = some (bpt p.b) := by
  obtain ⟨a, cap, rfl, -, -, ha⟩ := h.form
  refine ⟨a, cap, rfl, fun i p hp => ?_⟩
  obtain ⟨g, off, rfl⟩ := ha i (List.getElem?_eq_some_iff.1 hp).1
  have h2 : St B w0 w (((xb, .cells #[.slice (some ⟨g, off, none⟩) L.length cap, tv] 209) :: (Q ++ plsO L) ++ F) ++ R) := hst.perm (by
    refine perm_by fun a => ?_
    unfold exO
    simp only [List.count_append, List.count_cons, List.append_assoc, List.cons_append]
    omega)
  exact ⟨g, off, rfl, h.cellAt h2 (by rw [List.getElem?_map, hp]; rfl)⟩
theorem ExIn.form (h : ExIn L v tv R Q A c) (hst : St B w0 w (exO xb v tv L R Q ++ F)) : ∃ a cap, v = .slice a L.length cap ∧ ∀ (i : Nat) p, L[i]? = some p → ∃ g off, a = some ⟨g, off, none⟩ ∧ w.cell? ⟨g, off + i, none⟩ = some (bpt p.b) := places_form h.sl hst
theorem St.places (h : St B w0 w (exO xb v tv L R Q ++ F)) : (L.map Pl.b).Nodup := by
  have h1 := h.nodup
  unfold exO at h1
  rw [List.cons_append, List.map_cons, List.nodup_cons, List.map_append, List.map_append, List.map_append] at h1
  have h2 := (List.nodup_append.1 (List.nodup_append.1 (List.nodup_append.1 h1.2).1).2.1).2.1
  refine List.Nodup.sublist ?_ h2
  clear h h1 h2
  induction L with
  | nil => simp [plsO]
  | cons p L ih =>
    rw [plsO_cons, List.map_append, List.map_cons]
    unfold Pl.objs
    rw [List.map_cons, List.cons_append]
    exact (ih.trans (List.sublist_append_right _ _)).cons_cons _
end
end Go.Proofs.YtknjamfjonapiaaGreatDoor

namespace Go.Proofs.YtknjamfjonapiaaGreatDoor
open Go.RowKit
set_option linter.unusedVariables false
set_option maxRecDepth 100000
section
variable {B : Nat} {w0 w w' : World} {F T R Q S : List (Nat × Obj)} {tb xb c c' pb : Nat} {M : Prs} {L X Y : List Pl} {p p' : Pl} {k : Ky} {A : List Bnd} {P : List Plc} {v tv : Value} {n : List UInt8} {keys : List (List UInt8)}
end
end Go.Proofs.YtknjamfjonapiaaGreatDoor

namespace Go.Proofs.YtknjamfjonapiaaGreatDoor
open Go.RowKit
set_option linter.unusedVariables false
set_option maxRecDepth 100000
section
variable {B : Nat} {w0 w w' : World} {F T R Q S : List (Nat × Obj)} {tb xb c c' pb : Nat} {M : Prs} {L X Y : List Pl} {p p' : Pl} {k : Ky} {A : List Bnd} {P : List Plc} {v tv : Value} {n : List UInt8} {keys : List (List UInt8)}
theorem findL_here {i : Nat} (h : ∀ q ∈ L.take i, q.d.1 ≠ n) (hx : L[i]? = some p) (hp : p.d.1 = n) : findL L n = some p := by
  have hl := (List.getElem?_eq_some_iff.1 hx).1
  have e : L = L.take i ++ p :: L.drop (i + 1) := by
    have h1 := (List.take_append_drop i L).symm
    have h2 : L.drop i = p :: L.drop (i + 1) := by
      rw [List.drop_eq_getElem_cons hl]
      congr 1
      exact (List.getElem?_eq_some_iff.1 hx).2
    rw [h2] at h1
    exact h1
  unfold findL
  rw [e, List.find?_append, List.find?_eq_none.2 (by simpa using h)]
  simp [hp]
theorem not_here {i : Nat} (h : ∀ q ∈ L.take i, q.d.1 ≠ n) (hx : L[i]? = some p) (hp : p.d.1 ≠ n) : ∀ q ∈ L.take (i + 1), q.d.1 ≠ n := by
  rw [List.take_add_one, hx]
  intro q hq
  rcases List.mem_append.1 hq with hq | hq
  · exact h q hq
  · simp at hq
    subst hq
    exact hp
def XFindAt (w : World) (xb : Nat) (L : List Pl) (n : List UInt8) (g : Nat) (a' : Act) (w' : World) : Prop :=
  ∃ i : Nat, i + g = L.length ∧ (∀ q ∈ L.take i, q.d.1 ≠ n) ∧ Fr 34 [(0, bpt xb), (1, tx n), (5, .int .i64 i)] a' ∧ w' = w
set_option maxHeartbeats 1000000 in
theorem xfind_any (h : ExIn L v tv R Q A c) (hst : St B w0 w (exO xb v tv L R Q ++ F)) (n : List UInt8) : Calls Tryz.prog 124 #[bpt xb, tx n] w fun e w' => e = .returned (ptrF L n) ∧ w' = w := by
  obtain ⟨c0, -, -, -⟩ := hst.ex
  obtain ⟨a, cap, rfl, hrows⟩ := h.form hst
  have hpl := Lib.hid (fun p hp => (hst.place (p := p) hp).1)
  replace hrows := Lib.hid hrows
  have few := h.fine.few
  rw [List.length_map] at few
  obtain ⟨ans, ha⟩ : ∃ ans, ans = ptrF L n := ⟨_, rfl⟩
  rw [← ha]
  replace ha := Lib.hid ha
  clear h hst
  go_enter Tryz.func124, Tryz.ntmps124
  go_wp2_with fail
  refine wp_scope_ghost 0 (XFindAt w xb L n) rfl ?_ ?_
  · rintro g a' w' ⟨i, hi, hno, hfr, rfl⟩
    obtain ⟨q, rfl, hl'⟩ := hfr.lit
    clear hfr
    simp only [List.mem_cons, List.not_mem_nil, or_false, forall_eq_or_imp, forall_eq] at hl'
    obtain ⟨f0, f1, f5⟩ := hl'
    simp only [List.range, List.range.loop, List.map, f0, f1, f5]
    clear f0 f1 f5
    have hi0 : (0 : Int) ≤ i := by omega
    by_cases hlt : i < L.length
    · have hx : L[i]? = some L[i] := List.getElem?_eq_getElem hlt
      have hi1 : (i : Int) < L.length := by omega
      have hne : ((i : Int) == L.length) = false := by rw [beq_eq_false_iff_ne]; omega
      generalize L[i] = p at hx
      obtain ⟨g1, o1, rfl, k1⟩ := hrows.out i p hx
      have k2 := hpl.out p (List.mem_of_getElem? hx)
      by_cases hp : p.d.1 = n
      · obtain rfl : ans = bpt p.b := by rw [ha.out, ptrF, findL_here hno hx hp]; rfl
        rw [hp] at k2
        clear hno hx hp hpl hrows ha
        go_wp2_with fail
        simp only [Exit.jump]
        go_ret
        exact ⟨rfl, rfl⟩
      · have hpb : (p.d.1 == n) = false := by simpa using hp
        have nxt := Lib.hid (not_here hno hx hp)
        generalize p.d.1 = m at *
        clear hno hx hp hpl hrows ha
        go_wp2_with fail
        refine wp_goto ?_
        exact ⟨rfl, g - 1, by omega, i + 1, by omega, nxt.out, ⟨rfl, rfl, by simp⟩, rfl⟩
    · obtain rfl : i = L.length := by omega
      rw [List.take_of_length_le (Nat.le_refl _)] at hno
      obtain rfl : ans = .pointer none := by rw [ha.out, ptrF, findL_none.2 hno]; rfl
      clear hno hpl hrows ha
      go_wp2_with fail
      simp only [Exit.jump]
      go_ret
      exact ⟨rfl, rfl⟩
  · intro H
    clear hpl hrows ha
    go_wp2_with fail
    refine wp_label ?_
    go_step
    go_step
    exact H L.length _ _ ⟨0, by omega, by simp, ⟨rfl, rfl, by simp⟩, rfl⟩
theorem xhas_any (h : ExIn L v tv R Q A c) (hst : St B w0 w (exO xb v tv L R Q ++ F)) (n : List UInt8) :
    Calls Tryz.prog 64 #[bpt xb, tx n] w fun e w' => e = .returned (.bool (hasX (L.map Pl.d) n)) ∧ w' = w := by
  have c1 := Lib.hid (xfind_any h hst n)
  clear h hst
  rw [hasX, findL_d]
  by_cases hn : n = []
  · subst hn
    go_enter Tryz.func64, Tryz.ntmps64
    go_wp2_with fail
    go_ret
    exact ⟨rfl, rfl⟩
  have h0B : (n == []) = false := by simpa using hn
  have h0C : n.isEmpty = false := by simpa using hn
  rw [h0B, Bool.false_or]
  unfold ptrF at c1
  cases hf : findL L n with
  | none =>
    rw [hf] at c1
    simp only [Option.map_none] at c1
    go_enter Tryz.func64, Tryz.ntmps64
    go_wp2_with fail
    refine c1.out.mono ?_
    rintro e w1 ⟨rfl, rfl⟩
    go_wp2_with fail
    go_ret
    exact ⟨rfl, rfl⟩
  | some p =>
    rw [hf] at c1
    simp only [Option.map_some] at c1
    generalize p.b = pb at *
    go_enter Tryz.func64, Tryz.ntmps64
    go_wp2_with fail
    refine c1.out.mono ?_
    rintro e w1 ⟨rfl, rfl⟩
    go_wp2_with fail
    go_ret
    exact ⟨rfl, rfl⟩
end
end Go.Proofs.YtknjamfjonapiaaGreatDoor

namespace Go.Proofs.YtknjamfjonapiaaGreatDoor
open Go.RowKit
set_option linter.unusedVariables false
set_option maxRecDepth 100000
section
variable {B : Nat} {w0 w w' : World} {F T R Q S : List (Nat × Obj)} {tb xb c c' pb : Nat} {M : Prs} {L X Y : List Pl} {p p' : Pl} {k : Ky} {A : List Bnd} {P : List Plc} {v tv u : Value} {n : List UInt8} {keys : List (List UInt8)}
def QueuesAt (w : World) (rv : Value) (L : List Bnd) (g : Nat) (a' : Act) (w' : World) : Prop :=
  ∃ (i : Nat) (u : Value) (S : List (Nat × Obj)), Fr 28 [(0, rv), (3, u), (4, .int .i64 i)] a' ∧ i + g = L.length ∧ TssIs u (onceL [] ((L.take i).map (·.2.1))) S ∧ St w.heap.size w w' S
set_option maxHeartbeats 4000000 in
theorem queues_any {L : List Bnd} (hv : ReadBs w v L) (hL : L.length ≤ 10000) (hf : ∀ b ∈ L, b.2.1.length ≤ maxLen) : Calls Tryz.prog 208 #[v] w (OnceR w (onceL [] (L.map (·.2.1)))) := by
  obtain ⟨a, cap, rfl, -⟩ := id hv
  have hr := Lib.hid (fun w' hb => hv.below (w' := w') hb)
  replace hf := Lib.hid hf
  clear hv
  go_enter Tryz.func208, Tryz.ntmps208
  go_wp2_with fail
  refine wp_scope_ghost 0 (QueuesAt w (.slice a L.length cap) L) rfl ?_ ?_
  · rintro n a' w' ⟨i, u, S, hfr, hi, hs, hst⟩
    obtain ⟨q, rfl, hl'⟩ := hfr.lit
    clear hfr
    simp only [List.mem_cons, List.not_mem_nil, or_false, forall_eq_or_imp, forall_eq] at hl'
    obtain ⟨f0, f3, f4⟩ := hl'
    simp only [List.range, List.range.loop, List.map, f0, f3, f4]
    clear f0 f3 f4
    have hi0 : (0 : Int) ≤ i := by omega
    have hlen : (onceL [] ((L.take i).map (·.2.1))).length ≤ 10000 := by
      have := onceL_len [] ((L.take i).map (·.2.1))
      rw [List.length_map, List.length_take, List.length_nil] at this
      omega
    by_cases hlt : i < L.length
    · have hi1 : (i : Int) < L.length := by omega
      have hiB : ((i : Int) == L.length) = false := by rw [beq_eq_false_iff_ne]; omega
      have hx : L[i]? = some L[i] := List.getElem?_eq_getElem hlt
      generalize L[i] = x at hx
      have stp : onceL [] ((L.take (i + 1)).map (·.2.1)) = onceS (onceL [] ((L.take i).map (·.2.1))) x.2.1 := by rw [map_step hx, onceL_snoc]
      obtain ⟨a1, c1, e, hcells⟩ := hr.out w' hst.below
      cases e
      obtain ⟨b1, o1, rfl, k1, k2, k3⟩ := hcells i x hx
      have hml : ∀ y ∈ onceL [] ((L.take i).map (·.2.1)), y.length ≤ maxLen := by
        intro y hy
        rcases (onceL_mem _ _ _).1 hy with h | h
        · simp at h
        · obtain ⟨b, hb, rfl⟩ := List.mem_map.1 h
          exact hf.out b (List.mem_of_mem_take hb)
      generalize onceL [] ((L.take i).map (·.2.1)) = m at *
      have cn := Lib.hid (containsS_any (TssIs.read (X := []) hs hst hml) (by omega) x.2.1)
      by_cases hin : x.2.1 ∈ m
      · rw [decide_eq_true hin] at cn
        rw [onceS, if_pos hin] at stp
        have fin : Hid (∀ a', Fr 28 [(0, .slice (some ⟨b1, o1, none⟩) L.length cap), (3, u), (4, .int .i64 ((i + 1 : Nat) : Int))] a' → ∃ m, m < n ∧ QueuesAt w (.slice (some ⟨b1, o1, none⟩) L.length cap) L m a' w') :=
          Lib.hid fun a' hf => ⟨n - 1, by omega, i + 1, _, S, hf, by omega, by rw [stp]; exact hs, hst⟩
        obtain ⟨au, cu, rfl⟩ := hs.form
        obtain ⟨x1, x2, x3⟩ := x
        simp only at k1 k2 k3
        generalize m.length = q0 at *
        clear hs hst hx stp hlen hr hml hin
        go_wp2_with fail
        refine cn.out.mono ?_
        rintro e w3 ⟨rfl, rfl⟩
        go_wp2_with fail
        refine wp_goto ?_
        exact ⟨rfl, fin.out _ ⟨rfl, rfl, by simp⟩⟩
      · rw [decide_eq_false hin] at cn
        rw [onceS, if_neg hin] at stp
        obtain ⟨a2, cap2, W2, F2, hrun, hs2, hst2⟩ := TssIs.append (X := []) hs hst x.2.1 (by omega)
        have fin : Hid (∀ a', Fr 28 [(0, .slice (some ⟨b1, o1, none⟩) L.length cap), (3, .slice a2 (m.length + 1) cap2), (4, .int .i64 ((i + 1 : Nat) : Int))] a' → ∃ m, m < n ∧ QueuesAt w (.slice (some ⟨b1, o1, none⟩) L.length cap) L m a' W2) :=
          Lib.hid fun a' hf => ⟨n - 1, by omega, i + 1, _, F2, hf, by omega, by rw [stp]; exact hs2, hst2⟩
        obtain ⟨au, cu, rfl⟩ := hs.form
        obtain ⟨x1, x2, x3⟩ := x
        simp only at k1 k2 k3 hrun
        generalize m.length = q0 at *
        clear hs hst hx stp hlen hr hml hin hs2 hst2
        go_wp2_with fail
        refine cn.out.mono ?_
        rintro e w3 ⟨rfl, rfl⟩
        go_wp2_with (at_builtin; refine wpList_append_go rfl (.tmp 18) (.tmp 24) 47 47 rfl _ _ rfl rfl hrun ?_)
        refine wp_goto ?_
        exact ⟨rfl, fin.out _ ⟨rfl, rfl, by simp⟩⟩
    · obtain rfl : i = L.length := by omega
      rw [List.take_of_length_le (Nat.le_refl _)] at hs
      have fin : Hid (OnceR w (onceL [] (L.map (·.2.1))) (.returned u) w') := Lib.hid ⟨u, S, rfl, hs, hst⟩
      obtain ⟨au, cu, rfl⟩ := hs.form
      clear hs hst hr hlen
      go_wp2_with fail
      simp only [Exit.jump]
      go_ret
      exact fin.out
  · intro H
    go_wp2_with fail
    refine wp_label ?_
    go_step
    go_step
    exact H L.length _ _ ⟨0, _, [], ⟨rfl, rfl, by simp⟩, by omega, TssIs.nil, St.start w⟩
theorem xnew_any (hst : St B w0 w F) : Calls Tryz.prog 123 #[] w fun e w' => e = .returned (bpt w.heap.size) ∧ ExIs B w0 w' w.heap.size [] [] F 1 := by
  have fin : Hid (ExIs B w0 (w.alloc (.cells #[.slice none 0 0, .pointer none] 209)) w.heap.size [] [] F 1) := Lib.hid
    ⟨[], .slice none 0 0, .pointer none, [], [], rfl, ⟨FineX.nil, SlIs.nil, .inl ⟨rfl, rfl, rfl⟩, by simp⟩, hst.alloc _⟩
  clear hst
  go_enter Tryz.func123, Tryz.ntmps123
  go_wp2_with fail
  go_ret
  exact ⟨rfl, fin.out⟩
theorem St.exSet1 (h : St B w0 w (exO xb v tv L R Q ++ F)) (tv' : Value) : St B w0 (w.setCell ⟨xb, 1, none⟩ tv') (exO xb v tv' L R Q ++ F) := h.set0 1 tv'
theorem exO_tab (Q' : List (Nat × Obj)) : ((exO xb v tv L R Q ++ F) ++ Q').Perm (exO xb v tv L R (Q ++ Q') ++ F) := by
  refine perm_by fun a => ?_
  unfold exO
  simp only [List.count_append, List.count_cons, List.append_assoc, List.cons_append]
  omega
theorem ExIn.retab (h : ExIn L v tv R Q A c) {tv' : Value} {Q' : List (Nat × Obj)} (ht : TaIn tv' A Q') : ExIn L v tv' R Q' A c := ⟨h.fine, h.sl, ht, h.pls⟩
theorem xtable_any (ht : TaIn tv A Q) (hst : St B w0 w (exO xb v tv L R Q ++ F)) :
    Calls Tryz.prog 145 #[bpt xb] w fun e w' => ∃ tb u S, e = .returned (bpt tb) ∧ BnsIs u A S ∧ St B w0 w' (exO xb v (bpt tb) L R ((tb, .cells #[u] 273) :: S) ++ F) := by
  obtain ⟨-, e1, -, f1⟩ := hst.ex
  rcases ht with ⟨rfl, rfl, rfl⟩ | ⟨tb, u, S, rfl, rfl, hu⟩
  · have c1 := Lib.hid (new_any hst)
    go_enter Tryz.func145, Tryz.ntmps145
    go_wp2_with fail
    generalize w.heap.size = tb at *
    refine c1.out.mono ?_
    rintro e w1 ⟨rfl, u, S, hu, hs1⟩
    have h2 := hs1.perm (exO_tab _)
    obtain ⟨-, e2, -, f2⟩ := h2.ex
    have fin := Lib.hid (h2.exSet1 (bpt tb))
    replace hu := Lib.hid hu
    clear h2 hs1 c1 hst e1 f1
    go_wp2_with fail
    go_ret
    exact ⟨tb, u, S, rfl, hu.out, fin.out⟩
  · have fin := Lib.hid hst
    replace hu := Lib.hid hu
    clear hst
    go_enter Tryz.func145, Tryz.ntmps145
    go_wp2_with fail
    go_ret
    exact ⟨tb, u, S, rfl, hu.out, fin.out⟩
set_option maxHeartbeats 1000000 in
theorem of_own {L : List Bnd} (h : OneAt 273 w tb v) (hv : ReadBs w v L) (hL : L.length ≤ 10000) (x : List UInt8) : Calls Tryz.prog 216 #[bpt tb, tx x] w (ThoseR w (L.filter fun b => b.1 == x)) := by
  have hb := Lib.hid (new_below w (.cells #[tx x] 9))
  have hq : (w.alloc (.cells #[tx x] 9)).cell? ⟨w.heap.size, 0, none⟩ = some (tx x) := by simp
  have c1 := Lib.hid (those_any (h.below hb.out) (hv.below hb.out) hL (tells_of hq))
  have hmf : ∀ (fn : Fn) (first cap : Array Value) (w : World), (Instr.makeFunc fn first cap).run Tryz.prog w = .ok (.func fn first cap) w := fun _ _ _ _ => rfl
  clear h hv hq
  go_enter Tryz.func216, Tryz.ntmps216
  go_wp2_with fail
  refine c1.out.mono ?_
  rintro e w1 ⟨u, S, rfl, hs, hst⟩
  have fin : Hid (ThoseR w (L.filter fun b => b.1 == x) (.returned u) w1) := Lib.hid ⟨u, S, rfl, hs, St.under hb.out hst⟩
  clear hs hst c1
  go_wp2_with fail
  go_ret
  exact fin.out
theorem mem_tab : (tb, .cells #[u] 273) ∈ exO xb v (bpt tb) L R ((tb, .cells #[u] 273) :: S) ++ F := by
  unfold exO
  simp
theorem St.tabOne (hs : St B w0 w (exO xb v (bpt tb) L R ((tb, .cells #[u] 273) :: S) ++ F)) : OneAt 273 w tb u := hs.get (b := tb) mem_tab
theorem St.tabRead (hs : St B w0 w (exO xb v (bpt tb) L R ((tb, .cells #[u] 273) :: S) ++ F)) (hu : BnsIs u A S) : ReadBs w u A := by
  refine hu.read (A := exO xb v (bpt tb) L R [(tb, .cells #[u] 273)] ++ F) (hs.perm ?_)
  refine perm_by fun a => ?_
  unfold exO
  simp only [List.count_append, List.count_cons, List.append_assoc, List.cons_append, List.count_nil]
  omega
theorem xof_any (ht : TaIn tv A Q) (few : A.length ≤ 40) (hst : St B w0 w (exO xb v tv L R Q ++ F)) (n : List UInt8) :
    Calls Tryz.prog 162 #[bpt xb, tx n] w fun e w' => ∃ u S tv' Q', e = .returned u ∧ BnsIs u (ofB A n) S ∧ TaIn tv' A Q' ∧ St B w0 w' (exO xb v tv' L R Q' ++ (S ++ F)) := by
  have c1 := Lib.hid (xtable_any ht hst)
  clear hst ht
  go_enter Tryz.func162, Tryz.ntmps162
  go_wp2_with fail
  refine c1.out.mono ?_
  rintro e w1 ⟨tb, u, S, rfl, hu, hs1⟩
  have c2 := Lib.hid (of_own hs1.tabOne (hs1.tabRead hu) (by omega) n)
  have fin : Hid (∀ e w', ThoseR w1 (ofB A n) e w' → ∃ u S tv' Q', e = .returned u ∧ BnsIs u (ofB A n) S ∧ TaIn tv' A Q' ∧ St B w0 w' (exO xb v tv' L R Q' ++ (S ++ F))) := Lib.hid fun e w' hT => by
    obtain ⟨u2, S2, rfl, hu2, hs2⟩ := hT
    refine ⟨u2, S2, _, _, rfl, hu2, .inr ⟨tb, u, S, rfl, rfl, hu⟩, (hs1.join hs2).perm ?_⟩
    rw [List.append_assoc]
    exact List.Perm.append_left _ List.perm_append_comm
  clear hu hs1 c1
  go_wp2_with fail
  refine c2.out.mono ?_
  rintro e w2 hT
  obtain ⟨u2, S2, tv2, Q2, rfl, g1, g2, g3⟩ := fin.out _ _ hT
  replace g1 := Lib.hid g1
  replace g2 := Lib.hid g2
  replace g3 := Lib.hid g3
  clear hT fin c2
  go_wp2_with fail
  go_ret
  exact ⟨u2, S2, tv2, Q2, rfl, g1.out, g2.out, g3.out⟩
end
end Go.Proofs.YtknjamfjonapiaaGreatDoor

namespace Go.Proofs.YtknjamfjonapiaaGreatDoor
open Go.RowKit
section
variable {P : Program} (w : World)
end
end Go.Proofs.YtknjamfjonapiaaGreatDoor

namespace Go.Proofs.YtknjamfjonapiaaGreatDoor
open Go.RowKit
set_option linter.unusedVariables false
set_option maxRecDepth 100000
section
variable {B : Nat} {w0 w w' : World} {F T R Q S X : List (Nat × Obj)} {g off n cap i j : Nat} {L : List Pl} {p : Pl} {v : Value} {xs : List Value}
end
end Go.Proofs.YtknjamfjonapiaaGreatDoor

namespace Go.Proofs.YtknjamfjonapiaaGreatDoor
open Go.RowKit
set_option linter.unusedVariables false
set_option maxRecDepth 100000
section
variable {B : Nat} {w0 w w' : World} {F T R Q S : List (Nat × Obj)} {tb xb c c' pb : Nat} {M : Prs} {L X Y : List Pl} {p p' : Pl} {k : Ky} {A : List Bnd} {P : List Plc} {v tv u : Value} {n : List UInt8} {keys : List (List UInt8)}
theorem Ky.cells (hst : St B w0 w (k.objs ++ F)) : w.cell? ⟨k.kb, 0, none⟩ = some (bpt k.tb) ∧ w.cell? ⟨k.kb, 1, none⟩ = some k.v ∧ w.frozen? ⟨k.kb, 0, none⟩ = false ∧ w.frozen? ⟨k.kb, 1, none⟩ = false := by
  have hm : (k.kb, .cells #[bpt k.tb, k.v] 277) ∈ k.objs ++ F := List.mem_append_left _ List.mem_cons_self
  exact ⟨hst.cell (b := k.kb) (i := 0) hm rfl, hst.cell (b := k.kb) (i := 1) hm rfl, hst.soft (b := k.kb) hm 0, hst.soft (b := k.kb) hm 1⟩
theorem Ky.idsP : (k.objs ++ F).Perm ((((k.kb, .cells #[bpt k.tb, k.v] 277) :: k.T) ++ F) ++ k.S) := by
  refine perm_by fun a => ?_
  unfold Ky.objs
  simp only [List.count_append, List.count_cons, List.append_assoc, List.cons_append]
  omega
theorem Ky.treeP : (k.objs ++ F).Perm (k.T ++ (((k.kb, .cells #[bpt k.tb, k.v] 277) :: k.S) ++ F)) := by
  refine perm_by fun a => ?_
  unfold Ky.objs
  simp only [List.count_append, List.count_cons, List.append_assoc, List.cons_append]
  omega
theorem KyOk.form (h : KyOk k keys c) (hst : St B w0 w (k.objs ++ F)) : ∃ a cap, k.v = .slice a k.ids.length cap ∧ ∀ (i : Nat) x, k.ids[i]? = some x → ∃ g off, a = some ⟨g, off, none⟩ ∧ w.cell? ⟨g, off + i, none⟩ = some (.int .i64 x) := by
  have h2 := hst.perm Ky.idsP
  have h1 := h.ids
  obtain ⟨a, cap, e, -, -, ha⟩ := h1.form
  refine ⟨a, cap, e, fun i x hx => ?_⟩
  obtain ⟨g, off, rfl⟩ := ha i (List.getElem?_eq_some_iff.1 hx).1
  rw [e] at h1
  exact ⟨g, off, rfl, h1.cellAt h2 (by rw [List.getElem?_map, hx]; rfl)⟩
end
end Go.Proofs.YtknjamfjonapiaaGreatDoor

namespace Go.Proofs.YtknjamfjonapiaaGreatDoor
open Go.RowKit
set_option linter.unusedVariables false
set_option maxRecDepth 100000
def wp (x : Bnd × Int) : Wds × Int := (wordsL x.1.2.2, x.2)
theorem zip_wp (rows : List Bnd) (ids : List Int) : ((rows.map (·.2.2)).map wordsL).zip ids = (rows.zip ids).map wp := by
  rw [List.map_map, List.zip_map_left]
  rfl
theorem split_at {α : Type} {zs : List α} {i : Nat} {x : α} (hx : zs[i]? = some x) : zs.drop i = x :: zs.drop (i + 1) := by
  have hl := (List.getElem?_eq_some_iff.1 hx).1
  rw [List.drop_eq_getElem_cons hl]
  congr 1
  exact (List.getElem?_eq_some_iff.1 hx).2
theorem nodup_ids {zs : List (Bnd × Int)} {i : Nat} {x : Bnd × Int} (hn : (zs.map (·.2)).Nodup) (hx : zs[i]? = some x) : x.2 ∉ (zs.take i).map (·.2) ∧ x.2 ∉ (zs.drop (i + 1)).map (·.2) := by
  have e : zs = zs.take i ++ x :: zs.drop (i + 1) := by
    have := (List.take_append_drop i zs).symm
    rwa [split_at hx] at this
  rw [e, List.map_append, List.map_cons, List.nodup_append, List.nodup_cons] at hn
  exact ⟨fun h => hn.2.2 _ h _ List.mem_cons_self rfl, hn.2.1.1⟩
theorem zip_filter {rows : List Bnd} {ids : List Int} (h : rows.length = ids.length) (q : Bnd → Bool) : ((rows.zip ids).filter fun x => q x.1).map (·.1) = rows.filter q := by
  have e : (rows.zip ids).map (fun x => x.1) = rows := List.map_fst_zip (by omega)
  have h2 := List.filter_map (p := q) (f := fun x : Bnd × Int => x.1) (l := rows.zip ids)
  rw [e] at h2
  rw [h2]
  rfl
theorem zip_at {rows : List Bnd} {ids : List Int} {i : Nat} {b : Bnd} {x : Int} (h1 : rows[i]? = some b) (h2 : ids[i]? = some x) : (rows.zip ids)[i]? = some (b, x) := by
  rw [List.getElem?_zip_eq_some]
  exact ⟨h1, h2⟩
section
variable {B : Nat} {w0 w w' : World} {F T R Q S : List (Nat × Obj)} {tb xb c c' pb : Nat} {M : Prs} {L X Y : List Pl} {p' : Pl} {k : Ky} {A rows : List Bnd} {P : List Plc} {v tv u : Value} {n : List UInt8} {keys : List (List UInt8)} {p : Bnd → Bool}
end
end Go.Proofs.YtknjamfjonapiaaGreatDoor
