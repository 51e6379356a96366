/- The law's own list of what matches: ids put in order, each once. -/
import Derived.Test.YtbfelfejelkdpaaTtA
import Derived.Test.YtbfelfejelkdpaaAp
import Derived.Test.YtbfelfejelkdpaaPtF
import Derived.Deep.RegionLaw
import Derived.Test.YtbfelfejelkdpaaEdit
import Derived.Deep.QuietTactic
import Derived.BigQuiet
import Derived.Deep.LoopGhost
namespace Go.Proofs.Ytbfelfejelkdpaa
open Go.RowKit
set_option linter.unusedVariables false
set_option linter.unusedSectionVars false
set_option linter.unusedSimpArgs false
set_option maxRecDepth 100000

/-- The slice at a reads as these pairs, none of a row that drops. -/
def ReadTp (w : World) (a : Option Addr) (L : List Tp) : Prop :=
  ∀ (i : Nat) s, L[i]? = some s → ∃ b off, a = some ⟨b, off, none⟩ ∧ w.cell? ⟨b, off + i * 3, none⟩ = some (.bool false) ∧ w.cell? ⟨b, off + i * 3 + 1, none⟩ = some (tx s.1) ∧ w.cell? ⟨b, off + i * 3 + 2, none⟩ = some (.int .i64 s.2)
theorem cellUp {w w' : World} {b o : Nat} {v : Value} (h : w.cell? ⟨b, o, none⟩ = some v) (hb : Below w.heap.size w w') : w'.cell? ⟨b, o, none⟩ = some v := (hb.cell (World.block_lt_of_cell? w _ h)).trans h
theorem ReadTp.below {w w' : World} {a : Option Addr} {L : List Tp} (h : ReadTp w a L) (hb : Below w.heap.size w w') : ReadTp w' a L := fun i s hs => by
  obtain ⟨b, off, e, h0, h1, h2⟩ := h i s hs
  exact ⟨b, off, e, cellUp h0 hb, cellUp h1 hb, cellUp h2 hb⟩

theorem apI : Ap Try.prog 33 3 1 8 where
  ty := uInts12
  info := by
    obtain ⟨i, h1, h2, h3, h4⟩ := info_parts12 infInt12
    exact ⟨i, _, h1, h2, h3, h4, rfl⟩
theorem encI_one (l : List Int) : ∀ u ∈ l.map encI, u.oneCell' = true := fun u hu => by
  obtain ⟨z, -, rfl⟩ := List.mem_map.1 hu
  rfl
section
variable {B : Nat} {w0 w : World} {S X F : List (Nat × Obj)} {v : Value} {l : List Int} {k : Nat}

/-- Behind the last 'append': the row with one more. -/
def Put12 (B : Nat) (w0 : World) (X : List (Nat × Obj)) (l : List Int) (k : Nat) (z : Int) (a : Option Addr) (c : Nat) (w : World) : Prop :=
  ∃ S, SlIs 3 1 (.slice a (l.length + 1) c) (l.length + 1) ((l.take k ++ [z] ++ l.drop k).map encI) S ∧ St B w0 w (X ++ S)
theorem put12 (hs : SlIs 3 1 v l.length (l.map encI) S) (hk : k ≤ l.length) (hl : l.length ≤ 1000) (z : Int) :
    ∃ a0 c0 a1 c1 a2 c2, v = .slice a0 l.length c0 ∧ (∀ w, (Instr.slice 33 (.slice a0 l.length c0) none (some (.int .i64 k)) none).run Try.prog w = .ok (.slice a1 k c1) w) ∧
      (∀ w, (Instr.slice 33 (.slice a0 l.length c0) (some (.int .i64 k)) none none).run Try.prog w = .ok (.slice a2 (l.length - k) c2) w) ∧
      ∀ w, St B w0 w (X ++ S) →
        (∃ a3 c3 W1, (Builtin.append_ #[33, 33] 0 #[.slice none 0 0, .slice a1 k c1]).run Try.prog w = .ok (.slice a3 k c3) W1 ∧ Below B w0 W1 ∧
          ∃ a4 c4 W2, (Builtin.append_ #[33, 33] 0 #[.slice a3 k c3, .slice (some ⟨W1.heap.size, 0, none⟩) 1 1]).run Try.prog (W1.alloc (.cells #[.int .i64 z] 3)) = .ok (.slice a4 (k + 1) c4) W2 ∧
            ∃ a5 c5 W3, (Builtin.append_ #[33, 33] 0 #[.slice a4 (k + 1) c4, .slice a2 (l.length - k) c2]).run Try.prog W2 = .ok (.slice a5 (l.length + 1) c5) W3 ∧ Put12 B w0 X l k z a5 c5 W3) ∧
        (∃ a3 c3 W1, (Builtin.append_ #[33, 33] 0 #[.slice none 0 0, .slice a1 k c1]).run Try.prog (w.alloc (.cells #[.int .i64 z] 3)) = .ok (.slice a3 k c3) W1 ∧
          ∃ a4 c4 W2, (Builtin.append_ #[33, 33] 0 #[.slice a3 k c3, .slice (some ⟨w.heap.size, 0, none⟩) 1 1]).run Try.prog W1 = .ok (.slice a4 (k + 1) c4) W2 ∧
            ∃ a5 c5 W3, (Builtin.append_ #[33, 33] 0 #[.slice a4 (k + 1) c4, .slice a2 (l.length - k) c2]).run Try.prog W2 = .ok (.slice a5 (l.length + 1) c5) W3 ∧ Put12 B w0 X l k z a5 c5 W3) := by
  obtain ⟨a1, c1, a2, c2, h1, h2, r1, r2⟩ := apI.piece hs k hk
  obtain ⟨a0, c0, rfl, -⟩ := hs.form
  refine ⟨a0, c0, a1, c1, a2, c2, rfl, r1, r2, fun w hst => ?_⟩
  rw [Nat.mul_one, ← List.map_take] at h1
  rw [Nat.mul_one, ← List.map_drop] at h2
  have last : ∀ W2 a4 c4 F4 Y, SlIs 3 1 (.slice a4 (k + 1) c4) (k + 1) ((l.take k).map encI ++ [.int .i64 z]) F4 → St B w0 W2 ((Y ++ (X ++ S)) ++ F4) →
      ∃ a5 c5 W3, (Builtin.append_ #[33, 33] 0 #[.slice a4 (k + 1) c4, .slice a2 (l.length - k) c2]).run Try.prog W2 = .ok (.slice a5 (l.length + 1) c5) W3 ∧ Put12 B w0 X l k z a5 c5 W3 := by
    intro W2 a4 c4 F4 Y h4 hst4
    have rd : Reads W2 (.slice a2 (l.length - k) c2) (l.length - k) 1 ((l.drop k).map encI) := SlIs.reads (A := Y ++ (X ++ F4)) h2 (hst4.perm (by
      simp only [List.append_assoc]
      exact List.Perm.append_left _ (List.Perm.append_left _ List.perm_append_comm)))
    obtain ⟨a5, c5, W3, F5, q1, q2, q3⟩ := apI.append h4 hst4 rd (encI_one _) (by unfold maxLen; omega) (by omega)
    have e : k + 1 + (l.length - k) = l.length + 1 := by omega
    rw [e] at q1 q2
    refine ⟨a5, c5, W3, q1, F5, ?_, q3.sub ?_⟩
    · simpa using q2
    · refine List.Sublist.append ?_ (List.Sublist.refl _)
      exact ((List.sublist_append_left X S).trans (List.sublist_append_right Y _))
  constructor
  · have rd : Reads w (.slice a1 k c1) k 1 ((l.take k).map encI) := SlIs.reads (A := X) h1 hst
    obtain ⟨a3, c3, W1, F1, q1, q2, q3⟩ := apI.copy hst rd (encI_one _) (by unfold maxLen; omega) (by omega)
    refine ⟨a3, c3, W1, q1, q3.below, ?_⟩
    obtain ⟨a4, c4, W2, F2, p1, p2, p3⟩ := apI.append (A := (W1.heap.size, .cells #[.int .i64 z] 3) :: (X ++ S)) q2 (by
      have := q3.alloc (.cells #[.int .i64 z] 3)
      simpa using this) (Reads.one W1 (.int .i64 z) 3) (by intro u hu; rw [List.mem_singleton] at hu; subst hu; rfl) (by unfold maxLen; omega) (by omega)
    exact ⟨a4, c4, W2, p1, last W2 a4 c4 F2 [_] p2 p3⟩
  · have hst1 := hst.alloc (.cells #[.int .i64 z] 3)
    have rd : Reads (w.alloc (.cells #[.int .i64 z] 3)) (.slice a1 k c1) k 1 ((l.take k).map encI) := (SlIs.reads (A := X) h1 hst).alloc _
    obtain ⟨a3, c3, W1, F1, q1, q2, q3⟩ := apI.copy hst1 rd (encI_one _) (by unfold maxLen; omega) (by omega)
    refine ⟨a3, c3, W1, q1, ?_⟩
    have hb := q3.get (b := w.heap.size) (o := .cells #[.int .i64 z] 3) (List.mem_append_left _ List.mem_cons_self)
    obtain ⟨a4, c4, W2, F2, p1, p2, p3⟩ := apI.append (A := (w.heap.size, .cells #[.int .i64 z] 3) :: (X ++ S)) q2 q3 (Reads.block (cs := [.int .i64 z]) (n := 1) (size := 1) hb rfl 1) (by intro u hu; rw [List.mem_singleton] at hu; subst hu; rfl) (by unfold maxLen; omega) (by omega)
    exact ⟨a4, c4, W2, p1, last W2 a4 c4 F2 [_] p2 p3⟩

theorem Put12.fin {z : Int} {a : Option Addr} {c : Nat} (h : Put12 B w0 [] l k z a c w) (hk : k ≤ l.length) : ∃ S, SlIs 3 1 (.slice a (l.take k ++ [z] ++ l.drop k).length c) (l.take k ++ [z] ++ l.drop k).length ((l.take k ++ [z] ++ l.drop k).map encI) S ∧ St B w0 w S := by
  have e : (l.take k ++ [z] ++ l.drop k).length = l.length + 1 := by
    simp only [List.length_append, List.length_take, List.length_drop, List.length_singleton]
    omega
  obtain ⟨S, h1, h2⟩ := h
  rw [e]
  exact ⟨S, h1, h2⟩
def MatR (w : World) (L : List Tp) (key : List UInt8) (e : Ending) (w' : World) : Prop :=
  ∃ v out S, e = .returned v ∧ Found L key L.length out ∧ SlIs 3 1 v out.length (out.map encI) S ∧ St w.heap.size w w' S
set_option maxHeartbeats 8000000 in
theorem matched_any {am : Option Addr} {capm : Nat} {L : List Tp} {key : List UInt8} {w : World} (hm : ReadTp w am L) (hL : L.length ≤ 40) (hs : ∀ s ∈ L, s.1.length ≤ 40) (hk : key.length ≤ 40) :
    Calls Try.prog 13 #[.slice am L.length capm, tx key] w (MatR w L key) := by
  replace hm := Lib.hid hm
  have cm := Lib.hid (fun (p : List UInt8) (h : p.length ≤ 40) (w : World) => rmatch_to (p := p) (k := key) (by omega) (by omega) w)
  replace hs := Lib.hid hs
  clear hk
  go_enter Try.func13, Try.ntmps13
  go_wp2_with fail
  go_loopg [5, 6] L.length (fun g v5 v6 wr => ∃ (i : Nat) (out : List Int) (S : List (Nat × Obj)) (ao : Option Addr) (co : Nat), v5 = .slice ao out.length co ∧ v6 = .int .i64 i ∧ i + g = L.length ∧ Hid (Found L key i out) ∧ Hid (SlIs 3 1 (.slice ao out.length co) out.length (out.map encI) S ∧ St w.heap.size w wr S))
  case atStart => exact ⟨0, [], [], none, 0, rfl, rfl, by omega, Lib.hid Found.start, Lib.hid ⟨SlIs.nil, St.start w⟩⟩
  case round =>
    obtain ⟨i, out, S, ao, co, rfl, rfl, hi, hF, hO⟩ := hrel
    have hi0 : (0 : Int) ≤ i := by omega
    by_cases hlt : i < L.length
    · have hi1 : (i : Int) < L.length := by omega
      have hx : L[i]? = some L[i] := List.getElem?_eq_getElem hlt
      generalize L[i] = s at hx
      obtain ⟨p, z⟩ := s
      have cg := Lib.hid (cm.out p (hs.out _ (List.mem_of_getElem? hx)))
      obtain ⟨b, o, rfl, k0, k1, k2⟩ := hm.out.below hO.out.2.below i _ hx
      simp only at k0 k1 k2
      go_wp2_with fail
      refine (cg.out _).mono ?_
      rintro e w1 ⟨rfl, hb⟩
      obtain ⟨hs1, hst⟩ := hO.out
      replace hst := hst.grow hb
      replace hO := Lib.hid (And.intro hs1 hst)
      replace k2 := cellUp k2 hb
      clear k0 k1 hb cg hs1 hst
      cases hg : gl (wordsL p) (wordsL key) with
      | false =>
        have hF2 := Lib.hid (hF.out.no hx hg)
        clear hF hx hg
        go_wp2_with fail
        go_roundg (L.length - (i + 1))
        case measure => omega
        case rel => exact ⟨i + 1, out, S, ao, co, rfl, by go_num, by omega, hF2, hO⟩
      | true =>
        have hlen : out.length ≤ 40 := by have := hF.out.2.1; omega
        have hl0 : (out.length : Int) ≤ 40 := by omega
        have rows := Lib.hid (fun (w' : World) (h : St w.heap.size w w' S) => SlIs.readInts (A := []) hO.out.1 (by rw [List.nil_append]; exact h))
        have hst0 := Lib.hid hO.out.2
        have old := Lib.hid (fun (k : Nat) (h : out[k]? = some z) => hF.out.old hx h)
        have put := Lib.hid (fun (k : Nat) (h : k ≤ out.length) (h1 : Less out z k) (h2 : ∀ x, out[k]? = some x → z < x) => hF.out.put hx hg h h1 h2)
        have mem := Lib.hid (fun (k : Nat) (h : k ≤ out.length) => put12 (B := w.heap.size) (w0 := w) (X := []) hO.out.1 h (by omega) z)
        have mz := Lib.hid (fun (w' : World) (h : Below w.heap.size w w') => hm.out.below h i _ hx)
        clear hF hx hg k2
        go_wp2_with fail
        go_loopg [7] out.length (fun g v7 wr => ∃ k : Nat, v7 = .int .i64 k ∧ k + g = out.length ∧ Hid (Less out z k) ∧ Hid (St w.heap.size w wr S))
        case atStart => exact ⟨0, rfl, by omega, Lib.hid Less.start, hst0⟩
        case round =>
          obtain ⟨k, rfl, hk, hLs, hst⟩ := hrel
          have hk0 : (0 : Int) ≤ k := by omega
          obtain ⟨b', o', e, -, -, m2⟩ := mz.out wr hst.out.below
          simp only [Option.some.injEq, Addr.mk.injEq, and_true] at e
          obtain ⟨rfl, rfl⟩ := e
          by_cases hkl : k < out.length
          · have hk1 : (k : Int) < out.length := by omega
            have hy : out[k]? = some out[k] := List.getElem?_eq_getElem hkl
            generalize out[k] = y at hy
            obtain ⟨a', c', e, rd⟩ := rows.out wr hst.out
            obtain ⟨g2, o2, rfl, cy⟩ := rd k y hy
            cases e
            by_cases hyz : y < z
            · have hLs2 := Lib.hid (hLs.out.more hy hyz)
              have hst2 := Lib.hid (fun n => hst.out.drewN n)
              clear hLs hst hy rows mz mem put old hst0
              go_wp2_with fail
              go_quiet (fail)
              go_wp2_with fail
              go_roundg (out.length - (k + 1))
              case measure => omega
              case rel => exact ⟨k + 1, by go_num, by omega, hLs2, Lib.hid (hst2.out _)⟩
            · have hke : ((k : Int) == out.length) = false := by rw [beq_eq_false_iff_ne]; omega
              by_cases hyz2 : y = z
              · subst hyz2
                have hF2 := Lib.hid (old.out k hy)
                have hst2 := Lib.hid (fun n => hst.out.drewN n)
                have hO1 := Lib.hid hO.out.1
                clear hLs hst hy rows mz mem put old hst0 hO
                go_wp2_with fail
                go_quiet (fail)
                go_wp2_with fail
                go_quiet (fail)
                go_wp2_with fail
                go_roundg (L.length - (i + 1))
                case measure => omega
                case rel => exact ⟨i + 1, out, S, _, _, rfl, by go_num, by omega, hF2, Lib.hid ⟨hO1.out, hst2.out _⟩⟩
              · have hyz3 : (y == z) = false := by rw [beq_eq_false_iff_ne]; exact hyz2
                have hF2 := Lib.hid (put.out k (by omega) hLs.out (fun x hx => by rw [hy] at hx; cases hx; omega))
                have hst2 := Lib.hid (fun n => hst.out.drewN n)
                obtain ⟨a0, c0, a1, c1, a2, c2, e, r1, r2, ap⟩ := mem.out k (by omega)
                cases e
                replace ap := Lib.hid ap
                have lst := Lib.hid (fun a c W (h : Put12 w.heap.size w [] out k z a c W) => h.fin (by omega))
                have hl' : (out.take k ++ [z] ++ out.drop k).length = out.length + 1 := by
                  simp only [List.length_append, List.length_take, List.length_drop, List.length_singleton]
                  omega
                replace hl' := Lib.hid hl'
                generalize out.take k ++ [z] ++ out.drop k = out' at *
                clear hLs hst hy rows mem put old hst0 hO
                go_wp2_with fail
                go_quiet (fail)
                generalize nq = n1
                go_wp2_with fail
                go_quiet (fail)
                have hst4 := (hst2.out n1).drewN nq
                generalize (wr.drewN n1).drewN nq = wq at hst4 ⊢
                clear hst2 cy m2
                obtain ⟨b', o', e, -, -, m2⟩ := mz.out wq hst4.below
                simp only [Option.some.injEq, Addr.mk.injEq, and_true] at e
                obtain ⟨rfl, rfl⟩ := e
                obtain ⟨⟨a3, c3, W1, run1, hbl, a4, c4, W2, run2, a5, c5, W3, run3, P1⟩, a6, c6, V1, run4, a7, c7, V2, run5, a8, c8, V3, run6, P2⟩ := ap.out wq.drew (by rw [List.nil_append]; exact hst4.drew)
                obtain ⟨b', o', e, -, -, m3⟩ := mz.out W1 hbl
                simp only [Option.some.injEq, Addr.mk.injEq, and_true] at e
                obtain ⟨rfl, rfl⟩ := e
                have run1 := AppRun.mk run1
                have run2 := AppRun.mk run2
                have run3 := AppRun.mk run3
                have run4 : AppRun Try.prog 33 (.slice none 0 0) (.slice a1 k c1) (wq.alloc (.cells #[.int .i64 z] 3)).drew (.slice a6 k c6) V1 := AppRun.mk run4
                have run5 : AppRun Try.prog 33 (.slice a6 k c6) (.slice (some ⟨wq.heap.size, 0, none⟩) 1 1) V1 (.slice a7 (k + 1) c7) V2 := AppRun.mk run5
                have run6 := AppRun.mk run6
                replace P1 := Lib.hid P1
                replace P2 := Lib.hid P2
                try simp only at m2
                try simp only at m3
                clear hst4 hbl mz ap
                go_wp2_with fail
                go_region_law (first
                  | (refine step_app (.const (.slice none 0 0)) (.tmp 58) 33 run1 rfl rfl (by simp [Act.eval, Act.put]) (by simp [Act.eval, Act.put]) ?_)
                  | (refine step_app (.const (.slice none 0 0)) (.tmp 58) 33 run4 rfl rfl (by simp [Act.eval, Act.put]) (by simp [Act.eval, Act.put]) ?_)
                  | (refine step_app (.tmp 59) (.tmp 65) 33 run2 rfl rfl (by simp [Act.eval, Act.put]) (by simp [Act.eval, Act.put]) ?_)
                  | (refine step_app (.tmp 59) (.tmp 65) 33 run5 rfl rfl (by simp [Act.eval, Act.put]) (by simp [Act.eval, Act.put]) ?_)
                  | (refine step_app (.tmp 66) (.tmp 69) 33 run3 rfl rfl (by simp [Act.eval, Act.put]) (by simp [Act.eval, Act.put]) ?_)
                  | (refine step_app (.tmp 66) (.tmp 69) 33 run6 rfl rfl (by simp [Act.eval, Act.put]) (by simp [Act.eval, Act.put]) ?_))
                all_goals
                  obtain ⟨S', f1⟩ := lst.out _ _ _ P1.out
                  obtain ⟨S2', f2⟩ := lst.out _ _ _ P2.out
                  replace f1 := Lib.hid f1
                  replace f2 := Lib.hid f2
                  clear run1 run2 run3 run4 run5 run6 P1 P2 r1 r2 lst
                  go_wp2_with fail
                  go_roundg (L.length - (i + 1))
                  case measure => omega
                  case rel => first | exact ⟨i + 1, out', S', _, _, by rw [hl'.out], by go_num, by omega, hF2, f1⟩ | exact ⟨i + 1, out', S2', _, _, by rw [hl'.out], by go_num, by omega, hF2, f2⟩
          · have hk1 : ¬ (k : Int) < out.length := by omega
            have hke : ((k : Int) == out.length) = true := by rw [beq_iff_eq]; omega
            have hF2 := Lib.hid (put.out k (by omega) hLs.out (fun x hx => by rw [List.getElem?_eq_none (by omega)] at hx; cases hx))
            have hst2 := Lib.hid (fun n => hst.out.drewN n)
            obtain ⟨a0, c0, a1, c1, a2, c2, e, r1, r2, ap⟩ := mem.out k (by omega)
            cases e
            replace ap := Lib.hid ap
            have lst := Lib.hid (fun a c W (h : Put12 w.heap.size w [] out k z a c W) => h.fin (by omega))
            have hl' : (out.take k ++ [z] ++ out.drop k).length = out.length + 1 := by
              simp only [List.length_append, List.length_take, List.length_drop, List.length_singleton]
              omega
            replace hl' := Lib.hid hl'
            generalize out.take k ++ [z] ++ out.drop k = out' at *
            clear hLs hst rows mem put old hst0 hO
            go_wp2_with fail
            go_quiet (fail)
            generalize nq = n1
            go_wp2_with fail
            go_quiet (fail)
            have hst4 := (hst2.out n1).drewN nq
            generalize (wr.drewN n1).drewN nq = wq at hst4 ⊢
            clear hst2 m2
            obtain ⟨b', o', e, -, -, m2⟩ := mz.out wq hst4.below
            simp only [Option.some.injEq, Addr.mk.injEq, and_true] at e
            obtain ⟨rfl, rfl⟩ := e
            obtain ⟨⟨a3, c3, W1, run1, hbl, a4, c4, W2, run2, a5, c5, W3, run3, P1⟩, a6, c6, V1, run4, a7, c7, V2, run5, a8, c8, V3, run6, P2⟩ := ap.out wq.drew (by rw [List.nil_append]; exact hst4.drew)
            obtain ⟨b', o', e, -, -, m3⟩ := mz.out W1 hbl
            simp only [Option.some.injEq, Addr.mk.injEq, and_true] at e
            obtain ⟨rfl, rfl⟩ := e
            have run1 := AppRun.mk run1
            have run2 := AppRun.mk run2
            have run3 := AppRun.mk run3
            have run4 : AppRun Try.prog 33 (.slice none 0 0) (.slice a1 k c1) (wq.alloc (.cells #[.int .i64 z] 3)).drew (.slice a6 k c6) V1 := AppRun.mk run4
            have run5 : AppRun Try.prog 33 (.slice a6 k c6) (.slice (some ⟨wq.heap.size, 0, none⟩) 1 1) V1 (.slice a7 (k + 1) c7) V2 := AppRun.mk run5
            have run6 := AppRun.mk run6
            replace P1 := Lib.hid P1
            replace P2 := Lib.hid P2
            try simp only at m2
            try simp only at m3
            clear hst4 hbl mz ap
            go_wp2_with fail
            go_region_law (first
              | (refine step_app (.const (.slice none 0 0)) (.tmp 58) 33 run1 rfl rfl (by simp [Act.eval, Act.put]) (by simp [Act.eval, Act.put]) ?_)
              | (refine step_app (.const (.slice none 0 0)) (.tmp 58) 33 run4 rfl rfl (by simp [Act.eval, Act.put]) (by simp [Act.eval, Act.put]) ?_)
              | (refine step_app (.tmp 59) (.tmp 65) 33 run2 rfl rfl (by simp [Act.eval, Act.put]) (by simp [Act.eval, Act.put]) ?_)
              | (refine step_app (.tmp 59) (.tmp 65) 33 run5 rfl rfl (by simp [Act.eval, Act.put]) (by simp [Act.eval, Act.put]) ?_)
              | (refine step_app (.tmp 66) (.tmp 69) 33 run3 rfl rfl (by simp [Act.eval, Act.put]) (by simp [Act.eval, Act.put]) ?_)
              | (refine step_app (.tmp 66) (.tmp 69) 33 run6 rfl rfl (by simp [Act.eval, Act.put]) (by simp [Act.eval, Act.put]) ?_))
            all_goals
              obtain ⟨S', f1⟩ := lst.out _ _ _ P1.out
              obtain ⟨S2', f2⟩ := lst.out _ _ _ P2.out
              replace f1 := Lib.hid f1
              replace f2 := Lib.hid f2
              clear run1 run2 run3 run4 run5 run6 P1 P2 r1 r2 lst
              go_wp2_with fail
              go_roundg (L.length - (i + 1))
              case measure => omega
              case rel => first | exact ⟨i + 1, out', S', _, _, by rw [hl'.out], by go_num, by omega, hF2, f1⟩ | exact ⟨i + 1, out', S2', _, _, by rw [hl'.out], by go_num, by omega, hF2, f2⟩
    · obtain rfl : i = L.length := by omega
      have fin : Hid (MatR w L key (.returned (.slice ao out.length co)) wr) := Lib.hid ⟨_, out, S, rfl, hF.out, hO.out.1, hO.out.2⟩
      clear hF hO cm hs hm
      go_wp2_with fail
      go_ret
      exact fin.out
end
end Go.Proofs.Ytbfelfejelkdpaa
