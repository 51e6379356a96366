/- FramePieces. -/
import Derived.Test.YtjeejflmkdncpaaFmQ
import Derived.Test.YtjeejflmkdncpaaFmL
import Derived.Deep.CutBlock
import Derived.Deep.DeepCutAuto
namespace Go.Proofs.Ytjeejflmkdncpaa
open Go.RowKit
set_option linter.unusedVariables false

theorem index4 {k : Int} {r : Nat} (hr : (r : Int) = k % 4) (W : World) : (Instr.index 46 (.agg #[.int .i64 1, .int .i64 2, .int .i64 3, .int .i64 8]) (.int .i64 (r : Int))).run Try.prog W = .ok (.int .i64 (kindOf k : Int)) W := by
  have h : r = 0 ∨ r = 1 ∨ r = 2 ∨ r = 3 := by omega
  have a0 : (Instr.index 46 (.agg #[.int .i64 1, .int .i64 2, .int .i64 3, .int .i64 8]) (.int .i64 0)).run Try.prog W = .ok (.int .i64 1) W := by kernel_rfl
  have a1 : (Instr.index 46 (.agg #[.int .i64 1, .int .i64 2, .int .i64 3, .int .i64 8]) (.int .i64 1)).run Try.prog W = .ok (.int .i64 2) W := by kernel_rfl
  have a2 : (Instr.index 46 (.agg #[.int .i64 1, .int .i64 2, .int .i64 3, .int .i64 8]) (.int .i64 2)).run Try.prog W = .ok (.int .i64 3) W := by kernel_rfl
  have a3 : (Instr.index 46 (.agg #[.int .i64 1, .int .i64 2, .int .i64 3, .int .i64 8]) (.int .i64 3)).run Try.prog W = .ok (.int .i64 8) W := by kernel_rfl
  rcases h with rfl | rfl | rfl | rfl
  · rw [show kindOf k = 1 by unfold kindOf; rw [if_pos (by omega)]]; exact a0
  · rw [show kindOf k = 2 by unfold kindOf; rw [if_neg (by omega), if_pos (by omega)]]; exact a1
  · rw [show kindOf k = 3 by unfold kindOf; rw [if_neg (by omega), if_neg (by omega), if_pos (by omega)]]; exact a2
  · rw [show kindOf k = 8 by unfold kindOf; rw [if_neg (by omega), if_neg (by omega), if_neg (by omega)]]; exact a3

section
variable {B : Nat} {w0 w : World} {S F A X : List (Nat × Obj)} {pb M : Nat} {bad : Bool} {L R : List UInt8} {v : Value} {l fs : List Frm}

/-- The blocks X are all that the parser at pb holds. -/
def Has (B : Nat) (w0 : World) (pb M : Nat) (bad : Bool) (L : List UInt8) (X : List (Nat × Obj)) : Prop := ∀ w' G, St B w0 w' (X ++ G) → PsIs B w0 w' pb M bad L G
theorem PsIs.has (h : PsIs B w0 w pb M bad L F) : ∃ X, St B w0 w (X ++ F) ∧ Has B w0 pb M bad L X := h.st

/-- Fed up to place p: the frames told, those to come, the bytes that are left. -/
def FedRel (B : Nat) (w0 : World) (Tm : List Frm) (sb : List UInt8) (qb : Nat) (G : List (Nat × Obj)) (v : Value) (p : Nat) (w' : World) : Prop :=
  ∃ (told todo : List Frm) (L : List UInt8) (Sb : List (Nat × Obj)), told ++ todo = Tm ∧ L ++ sb.drop p = rawL todo ∧ FrsIs v told Sb ∧ PsIs B w0 w' qb 4096 false L (Sb ++ G)
/-- .. and all told that can be. -/
def BackRel (B : Nat) (w0 : World) (Tm : List Frm) (sb : List UInt8) (qb : Nat) (G : List (Nat × Obj)) (v : Value) (p : Nat) (w' : World) : Prop :=
  ∃ (told todo : List Frm) (L : List UInt8) (Sb : List (Nat × Obj)), told ++ todo = Tm ∧ L ++ sb.drop p = rawL todo ∧ Lacks L todo ∧ FrsIs v told Sb ∧ PsIs B w0 w' qb 4096 false L (Sb ++ G)
theorem BackRel.below {Tm : List Frm} {sb : List UInt8} {qb p : Nat} {G : List (Nat × Obj)} (h : BackRel B w0 Tm sb qb G v p w) : Below B w0 w := by
  obtain ⟨told, todo, L, Sb, h1, h2, h3, h4, h5⟩ := h
  exact h5.below
theorem told_len {Tm told todo : List Frm} {sb L : List UInt8} {p : Nat} (hf : Fine Tm) (h12 : Tm.length ≤ 12) (h1 : told ++ todo = Tm) (h2 : L ++ sb.drop p = rawL todo) : Fine todo ∧ told.length ≤ 12 ∧ todo.length ≤ 12 ∧ L.length + (sb.drop p).length ≤ 2496 := by
  subst h1
  rw [List.length_append] at h12
  have := rawL_len hf.right
  have e := congrArg List.length h2
  rw [List.length_append] at e
  exact ⟨hf.right, by omega, by omega, by omega⟩
theorem back_feed {Tm : List Frm} {sb x : List UInt8} {qb p n : Nat} {G : List (Nat × Obj)} (hf : Fine Tm) (h12 : Tm.length ≤ 12) (h : BackRel B w0 Tm sb qb G v p w) (hx : x ++ sb.drop n = sb.drop p) :
    Calls Try.prog 17 #[fpt qb, tx x] w fun e w' => e = .returned (.tuple #[]) ∧ FedRel B w0 Tm sb qb G v n w' := by
  obtain ⟨told, todo, L, Sb, h1, h2, h3, h4, h5⟩ := h
  obtain ⟨a1, a2, a3, a4⟩ := told_len hf h12 h1 h2
  rw [← hx, List.length_append] at a4
  refine (fr_feed h5 x (by omega)).mono ?_
  rintro e w' ⟨rfl, hp⟩
  exact ⟨rfl, told, todo, L ++ x, Sb, h1, by rw [List.append_assoc, hx]; exact h2, h4, hp⟩
theorem back_all {Tm : List Frm} {sb : List UInt8} {qb p : Nat} {G : List (Nat × Obj)} (hf : Fine Tm) (h12 : Tm.length ≤ 12) (h : FedRel B w0 Tm sb qb G v p w) :
    Calls Try.prog 22 #[fpt qb, v] w fun e w' => ∃ v', e = .returned (.tuple #[v', .bool true, .bool true]) ∧ BackRel B w0 Tm sb qb G v' p w' := by
  obtain ⟨told, todo, L, Sb, h1, h2, h4, h5⟩ := h
  obtain ⟨a1, a2, a3, a4⟩ := told_len hf h12 h1 h2
  obtain ⟨fs, rest, R, rfl, b2, b3, b4⟩ := tell_prefix todo L _ a1 h2
  rw [List.length_append] at a3
  refine (all_to h4 h5 b2 (by omega) (by omega) (by omega)).mono ?_
  rintro e w' ⟨v', S', rfl, hs, hp⟩
  exact ⟨v', rfl, told ++ fs, rest, R, S', by rw [List.append_assoc]; exact h1, b3, b4, hs, hp⟩
theorem back_end {Tm : List Frm} {sb : List UInt8} {qb p : Nat} {G : List (Nat × Obj)} (hf : Fine Tm) (h : BackRel B w0 Tm sb qb G v p w) (hp : sb.length ≤ p) :
    ∃ Sb, FrsIs v Tm Sb ∧ PsIs B w0 w qb 4096 false [] (Sb ++ G) := by
  obtain ⟨told, todo, L, Sb, h1, h2, h3, h4, h5⟩ := h
  subst h1
  rw [List.drop_of_length_le hp, List.append_nil] at h2
  obtain ⟨rfl, rfl⟩ := h3.nil hf.right h2
  rw [List.append_nil]
  exact ⟨Sb, h4, h5⟩

set_option maxHeartbeats 8000000 in
set_option maxRecDepth 100000 in
theorem pieces_walk {a b : Option Addr} {len cap lenb capb : Nat} {T : List Frm} {Z : List Nat} {w : World} (hT : T.length = len) (hrd : ReadFrames w (.slice a T.length cap) T) (hcu : CutsAt w b lenb Z) :
    Calls Try.prog 5 #[.slice a len cap, .slice b lenb capb] w fun e w' => e = .returned (.bool true) ∧ Below w.heap.size w w' := by
  have c1 := Lib.hid known7_true
  by_cases h12 : 12 < len
  · have h12' : (12 : Int) < len := by omega
    clear hT hrd hcu
    go_enter Try.func5, Try.ntmps5
    go_wp2_with fail
    refine (c1.out _).mono ?_
    rintro e w1 ⟨rfl, h1⟩
    replace h1 := Lib.hid h1
    go_wp2_with fail
    go_ret
    exact ⟨rfl, h1.out⟩
  have h12' : ¬ (12 : Int) < len := by omega
  by_cases h60 : 60 < lenb
  · have h60' : (60 : Int) < lenb := by omega
    clear hT hrd hcu
    go_enter Try.func5, Try.ntmps5
    go_wp2_with fail
    refine (c1.out _).mono ?_
    rintro e w1 ⟨rfl, h1⟩
    replace h1 := Lib.hid h1
    go_wp2_with fail
    go_ret
    exact ⟨rfl, h1.out⟩
  have h60' : ¬ (60 : Int) < lenb := by omega
  replace hrd := Lib.hid hrd
  replace hcu := Lib.hid hcu
  replace hT := Lib.hid hT
  go_enter Try.func5, Try.ntmps5
  go_wp2_with fail
  refine (c1.out _).mono ?_
  rintro e w1 ⟨rfl, h1⟩
  have hst := Lib.hid ((St.start w).grow h1)
  clear c1 h1
  go_wp2_with fail
  go_loopg [5, 6, 7] len (fun g v5 v6 v7 wr => ∃ (i : Nat) (S : List (Nat × Obj)), v5 = tx (rawL ((T.map mapF).take i)) ∧ v7 = .int .i64 i ∧ i + g = len ∧ Hid (Fine ((T.map mapF).take i) ∧ FrsIs v6 ((T.map mapF).take i) S ∧ St w.heap.size w wr S))
  case atStart => exact ⟨0, [], rfl, rfl, by omega, Lib.hid ⟨by intro f hf; simp at hf, FrsIs.nil, hst.out⟩⟩
  case round =>
    clear hst
    obtain ⟨i, S, rfl, rfl, hi, hrel⟩ := hrel
    obtain ⟨hfine, hs, hst⟩ := hrel.out
    clear hrel
    by_cases hlt : i < len
    · have hTl := hT.out
      have hx : T[i]? = some T[i] := List.getElem?_eq_getElem (by omega)
      generalize T[i] = x at hx
      have hmx : (T.map mapF)[i]? = some (mapF x) := by rw [List.getElem?_map, hx]; rfl
      obtain ⟨bb, off, rfl, k0, k1, k2⟩ := (hrd.out.below hst.below).at_ hx
      have hlt' : (i : Int) < len := by omega
      have hi0 : (0 : Int) ≤ i := by omega
      obtain ⟨k, c, d⟩ := x
      simp only at k0 k1 k2
      by_cases hbig : 200 < d.length
      · have hbig' : (200 : Int) < d.length := by omega
        have fin := Lib.hid (hst.below.trans ((alloc_below _ (frO k c d)).mono hst.base))
        have hs' : SlIs _ _ _ _ _ _ := hs
        obtain ⟨av, cv, rfl, -, -, -⟩ := hs'.form
        clear hs hs' hst hfine hx hmx
        go_wp2_with fail
        go_ret
        exact ⟨rfl, fin.out⟩
      have hbig' : ¬ (200 : Int) < d.length := by omega
      obtain ⟨r4, hr4⟩ : ∃ r : Nat, (r : Int) = k % 4 := ⟨(k % 4).toNat, by omega⟩
      obtain ⟨cn, hcn⟩ : ∃ n : Nat, (n : Int) = c % 65536 := ⟨(c % 65536).toNat, by omega⟩
      have hmf : mapF (k, c, d) = ((kindOf k : Int), (cn : Int), d) := by
        show ((kindOf k : Int), ((c % 65536).toNat : Int), d) = _
        rw [show ((c % 65536).toNat : Int) = cn by omega]
      have hb3 : bits .and .i64 k 3 = (r4 : Int) := by rw [and3, hr4]
      have hix := fun W => index4 hr4 W
      have hb16 : bits .and .i64 c 65535 = (cn : Int) := by rw [and16, hcn]
      obtain ⟨hk1, hk2⟩ := kindOf_is k
      have hcn2 : cn ≤ 65535 := by omega
      have htk : (T.map mapF).take (i + 1) = (T.map mapF).take i ++ [((kindOf k : Int), (cn : Int), d)] := by rw [List.take_add_one, hmx, hmf]; rfl
      have hli : ((T.map mapF).take i).length = i := by rw [List.length_take, List.length_map]; omega
      have hfine2 : Fine ((T.map mapF).take (i + 1)) := by
        rw [htk]
        intro f hf
        rcases List.mem_append.1 hf with hf | hf
        · exact hfine f hf
        · obtain rfl := List.mem_singleton.1 hf
          exact ⟨_, _, rfl, rfl, hk1, hk2, hcn2, by show d.length ≤ 200; omega⟩
      have hl1 := rawL_len hfine
      have hl2 := frRaw_length (kindOf k) cn d
      have hadd : ∀ W : World, (Op.stringOp .add ⟨(rawL ((T.map mapF).take i)).toArray⟩ ⟨(frRaw (kindOf k) cn d).toArray⟩).run Try.prog W = .ok (tx (rawL ((T.map mapF).take (i + 1)))) W := fun W => by
        rw [run_string_add_lists W _ _ (by omega) (by omega), htk, rawL_snoc]
      have hfr : frBytes (kindOf k) cn d = frRaw (kindOf k) cn d := if_pos (by unfold frOk; omega)
      generalize kindOf k = kn at *
      have c2 := Lib.hid (bytes_to (k := kn) (c := cn) (d := d) hfr (by omega))
      have st2 : Hid (∀ w2, Below (wr.alloc (frO kn cn d)).heap.size (wr.alloc (frO kn cn d)) w2 → St w.heap.size w w2 ((wr.heap.size, frO kn cn d) :: S)) := Lib.hid fun w2 hb => (hst.alloc _).grow hb
      have ap : Hid (∀ w2, St w.heap.size w w2 ((wr.heap.size, frO kn cn d) :: S) → ∃ a cap W2, (Builtin.append_ #[27, 27] 0 #[_, .slice (some ⟨w2.heap.size, 0, none⟩) 1 1]).run Try.prog (w2.alloc (frO kn cn d)) = .ok (.slice a (i + 1) cap) W2 ∧
          ∃ S2, FrsIs (.slice a (i + 1) cap) ((T.map mapF).take (i + 1)) S2 ∧ St w.heap.size w W2 S2) := Lib.hid fun w2 h2 => by
        obtain ⟨a, cap, W2, F2, hr, hs2, hst2⟩ := frame_append (X := [(wr.heap.size, frO kn cn d)]) hs h2 kn cn d (by omega)
        rw [hli] at hr hs2
        exact ⟨a, cap, W2, hr, F2, by rw [htk]; exact hs2, hst2.sub (List.sublist_append_right _ _)⟩
      have hs' : SlIs _ _ _ _ _ _ := hs
      obtain ⟨av, cv, rfl, -, -, -⟩ := hs'.form
      rw [hli] at ap ⊢
      clear hs hs' hst hfine hx hmx htk hmf hr4 hcn hl1 hl2 hfr hli hk1 hk2 hcn2 hTl hbig
      replace hfine2 := Lib.hid hfine2
      generalize hT2 : rawL ((T.map mapF).take (i + 1)) = raw2 at *
      replace hT2 := Lib.hid hT2
      generalize rawL ((T.map mapF).take i) = raw1 at *
      generalize frRaw kn cn d = rawf at *
      go_wp2_with fail
      refine (c2.out _).mono ?_
      rintro e w2 ⟨rfl, hb⟩
      have hst2 := st2.out _ hb
      have q0 : w2.cell? ⟨wr.heap.size, 0, none⟩ = some (.int .i64 kn) := hst2.cell (b := wr.heap.size) (i := 0) List.mem_cons_self rfl
      have q1 : w2.cell? ⟨wr.heap.size, 1, none⟩ = some (.int .i64 cn) := hst2.cell (b := wr.heap.size) (i := 1) List.mem_cons_self rfl
      have q2 : w2.cell? ⟨wr.heap.size, 2, none⟩ = some (tx d) := hst2.cell (b := wr.heap.size) (i := 2) List.mem_cons_self rfl
      obtain ⟨a2, cap2, W2, hrun, S2, hs2, hstn⟩ := ap.out _ hst2
      have fin := Lib.hid (And.intro hfine2.out (And.intro hs2 hstn))
      clear c2 st2 ap hb hst2 hs2 hstn hfine2
      go_wp2_with (at_builtin; refine wpList_append_go rfl (.tmp 58) (.tmp 60) 27 27 rfl _ _ rfl rfl hrun ?_)
      go_roundg (len - (i + 1))
      case measure => omega
      case rel => exact ⟨i + 1, S2, by rw [hT2.out], by go_num, by omega, fin⟩
    · obtain rfl : i = len := by omega
      have hTl : (T.map mapF).length = i := by rw [List.length_map]; exact hT.out
      have htk : (T.map mapF).take i = T.map mapF := List.take_of_length_le (by omega)
      rw [htk] at hfine hs ⊢
      clear htk hrd hT
      generalize T.map mapF = Tm at *
      have hln := rawL_len hfine
      have htl : Tells 4096 (rawL Tm) Tm [] := by
        obtain ⟨fs, rest, R, h1, h2, h3, h4⟩ := tell_prefix Tm (rawL Tm) [] hfine (List.append_nil _)
        rw [List.append_nil] at h3
        obtain ⟨rfl, rfl⟩ := h4.nil (Fine.right (h1 ▸ hfine)) h3
        rw [List.append_nil] at h1
        rw [← h1] at h2
        exact h2
      have hT12 : Tm.length ≤ 12 := by omega
      have hsb : (rawL Tm).length ≤ 2496 := by omega
      have hback : ∀ (w' : World) (qb : Nat) (G : List (Nat × Obj)), PsIs w.heap.size w w' qb 4096 false [] G → BackRel w.heap.size w Tm (rawL Tm) qb G (.slice none 0 0) 0 w' := by
        intro w' qb G h
        exact ⟨[], Tm, [], [], rfl, by rw [List.drop_zero]; rfl, ⟨fun _ => rfl, fun f r e => by simp⟩, FrsIs.nil, h⟩
      generalize rawL Tm = sb at *
      replace hfine := Lib.hid hfine
      replace hT12 := Lib.hid hT12
      replace hback := Lib.hid hback
      replace hs := Lib.hid hs
      clear hTl hln
      have c3 := Lib.hid (fr_new hst 4096)
      clear hst
      go_wp2_with fail
      refine c3.out.mono ?_
      rintro e w3 ⟨rfl, hp⟩
      rw [show heldM 4096 = 4096 by decide] at hp
      obtain ⟨Xp, hXp, hasP⟩ := hp.has
      generalize wr.heap.size = pb at *
      have c4 := Lib.hid (fr_new hXp 4096)
      replace hasP := Lib.hid hasP
      clear hp hXp c3
      go_wp2_with fail
      refine c4.out.mono ?_
      rintro e w4 ⟨rfl, hq⟩
      rw [show heldM 4096 = 4096 by decide] at hq
      obtain ⟨Xq, hXq, hasQ⟩ := hq.has
      generalize w3.heap.size = qb at *
      have hp := hasP.out w4 (Xq ++ S) (hXq.perm (List.perm_append_comm_assoc _ _ _))
      have c5 := Lib.hid (fr_feed hp sb (by simp; omega))
      replace hasQ := Lib.hid hasQ
      clear hp hq hXq c4 hasP
      go_wp2_with fail
      refine c5.out.mono ?_
      rintro e w5 ⟨rfl, hp⟩
      have c6 := Lib.hid (all_to (l := []) (S := []) FrsIs.nil hp htl (by show sb.length ≤ _; omega) (by have := hT12.out; omega) (by simp))
      clear hp c5 htl
      go_wp2_with fail
      refine c6.out.mono ?_
      rintro e w6 ⟨va, Sa, rfl, ha, hp⟩
      rw [List.nil_append] at ha
      obtain ⟨Xp2, hXp2, hasP⟩ := hp.has
      have hq := hasQ.out w6 (Xp2 ++ (Sa ++ S)) (hXp2.perm (((List.perm_append_comm_assoc Sa Xq S).append_left Xp2).trans (List.perm_append_comm_assoc _ _ _)))
      have h0 := Lib.hid (hback.out _ _ _ hq)
      replace ha := Lib.hid ha
      replace hasP := Lib.hid hasP
      clear hp hXp2 hq hasQ c6 hback
      go_wp2_with fail
      go_loopg [14, 15, 16] sb.length (fun g v14 v15 v16 wx => ∃ i p : Nat, v15 = .int .i64 p ∧ v16 = .int .i64 i ∧ g = sb.length - p ∧ i ≤ p ∧ p ≤ sb.length + 40 ∧ Hid (BackRel w.heap.size w Tm sb qb (Xp2 ++ (Sa ++ S)) v14 p wx))
      case atStart => exact ⟨0, 0, rfl, rfl, rfl, Nat.le_refl _, by omega, h0⟩
      case round =>
        clear h0
        obtain ⟨i2, p, rfl, rfl, hg, hip, hp40, hrel⟩ := hrel
        by_cases hlt : p < sb.length
        · have hlt' : (p : Int) < sb.length := by omega
          have hp0 : (0 : Int) ≤ p := by omega
          have hi0 : (0 : Int) ≤ i2 := by omega
          have hi2 : (i2 : Int) ≤ 2496 := by omega
          go_upto_if 81 with fail
          go_cut [17] (fun v17 wy => ∃ n : Nat, v17 = .int .i64 n ∧ 1 ≤ n ∧ n ≤ 40 ∧ Hid (BackRel w.heap.size w Tm sb qb (Xp2 ++ (Sa ++ S)) u14 p wy))
          case first =>
            by_cases hz : 0 < lenb
            · have hz' : (0 : Int) < lenb := by omega
              obtain ⟨j, hj⟩ : ∃ j, j = i2 % lenb := ⟨_, rfl⟩
              have hjl : j < lenb := by rw [hj]; exact Nat.mod_lt _ hz
              have hji : (i2 : Int) % (lenb : Int) = j := by rw [hj]; simp
              have hj0 : (0 : Int) ≤ j := by omega
              have hjl' : (j : Int) < lenb := by omega
              have hcu2 := hcu.out.below hrel.out.below
              have hjz : j < Z.length := by rw [hcu2.size]; exact hjl
              have hx : Z[j]? = some Z[j] := List.getElem?_eq_getElem hjz
              generalize Z[j] = x at hx
              obtain ⟨hx1, bb, off, rfl, hcell⟩ := hcu2.at_ j x hx
              obtain ⟨m, hm⟩ : ∃ m, m = x % 40 := ⟨_, rfl⟩
              have hmi : (x : Int) % 40 = m := by omega
              have hm40 : m < 40 := by omega
              have hx0 : (0 : Int) ≤ x := by omega
              have hx2 : (x : Int) ≤ 255 := by omega
              clear hcu2 hx hj hm hjz
              go_wp2_with fail
              go_meet
              case rel => exact ⟨m + 1, by go_num, by omega, by omega, hrel⟩
            · have hz' : ¬ (0 : Int) < lenb := by omega
              go_wp2_with fail
              go_meet
              case rel => exact ⟨1, rfl, by omega, by omega, hrel⟩
          case rest =>
            obtain ⟨n, rfl, hn1, hn40, hrel⟩ := hcut
            obtain ⟨q, hq⟩ : ∃ q, q = p + n := ⟨_, rfl⟩
            have eq1 : (p : Int) + (n : Int) = q := by omega
            have wq : Hid (wrap64 (q : Int) = q) := Lib.hid (by unfold wrap64; omega)
            have nums := Lib.hid (show i2 + 1 ≤ q ∧ q ≤ sb.length + 40 ∧ sb.length - q < gk from ⟨by omega, by omega, by omega⟩)
            replace hi2 := Lib.hid (And.intro hi0 hi2)
            clear hg hip hi0
            by_cases hle : q ≤ sb.length
            · have hle' : (q : Int) ≤ sb.length := by omega
              have hpq : p ≤ q := by omega
              have hpq' : (p : Int) ≤ q := by omega
              have ex : (⟨sb.toArray⟩ : ByteArray).extract p q = ⟨((sb.drop p).take n).toArray⟩ := by
                rw [ByteArray.extract_mk, hq]
                simp
              have hx : (sb.drop p).take n ++ sb.drop q = sb.drop p := by
                rw [hq, ← List.drop_drop, List.take_append_drop]
              have c7 := Lib.hid (back_feed hfine.out hT12.out hrel.out hx)
              generalize (sb.drop p).take n = x at *
              replace hq := Lib.hid hq
              have wq := wq.out
              clear hrel hx hle hp40 hn1 hn40 h12 h12' h60 h60' hlt hsb hi hpq
              go_wp2_with fail
              refine c7.out.mono ?_
              rintro e w7 ⟨rfl, hfed⟩
              have c8 := Lib.hid (back_all hfine.out hT12.out hfed)
              clear hfed c7
              go_wp2_with fail
              refine c8.out.mono ?_
              rintro e w8 ⟨vb, rfl, hrel⟩
              replace hrel := Lib.hid hrel
              clear c8
              have hi0 := hi2.out.1
              have hi1 := hi2.out.2
              go_wp2_with fail
              clear wq
              go_roundg (sb.length - q)
              case measure => exact nums.out.2.2
              case rel => exact ⟨i2 + 1, q, rfl, by go_num, rfl, nums.out.1, nums.out.2.1, hrel⟩
            · have hle' : ¬ (q : Int) ≤ sb.length := by omega
              have hpl : p ≤ sb.length := by omega
              have hpl' : (p : Int) ≤ sb.length := by omega
              have ex := sub_tx (L := sb) (k := p) hpl
              have hx : sb.drop p ++ sb.drop q = sb.drop p := by
                rw [List.drop_of_length_le (i := q) (by omega), List.append_nil]
              have c7 := Lib.hid (back_feed hfine.out hT12.out hrel.out hx)
              generalize sb.drop p = x at *
              replace hq := Lib.hid hq
              have wq := wq.out
              clear hrel hx hle hp40 hn1 hn40 h12 h12' h60 h60' hlt hsb hi hpl
              go_wp2_with fail
              refine c7.out.mono ?_
              rintro e w7 ⟨rfl, hfed⟩
              have c8 := Lib.hid (back_all hfine.out hT12.out hfed)
              clear hfed c7
              go_wp2_with fail
              refine c8.out.mono ?_
              rintro e w8 ⟨vb, rfl, hrel⟩
              replace hrel := Lib.hid hrel
              clear c8
              have hi0 := hi2.out.1
              have hi1 := hi2.out.2
              go_wp2_with fail
              clear wq
              go_roundg (sb.length - q)
              case measure => exact nums.out.2.2
              case rel => exact ⟨i2 + 1, q, rfl, by go_num, rfl, nums.out.1, nums.out.2.1, hrel⟩
        · obtain ⟨Sb, hb, hq⟩ := back_end hfine.out hrel.out (by omega)
          have hgp : ¬ (p : Int) < sb.length := by omega
          obtain ⟨Xq2, hst, hasQ⟩ := hq.has
          have hsub : (Xp2 ++ (Sa ++ S)).Sublist (Xq2 ++ (Sb ++ (Xp2 ++ (Sa ++ S)))) := (List.sublist_append_right _ _).trans (List.sublist_append_right _ _)
          have hp := hasP.out wr (Sa ++ S) (hst.sub hsub)
          have ra := ha.out.read (A := []) (hst.sub (((List.sublist_append_left Sa S).trans (List.sublist_append_right _ _)).trans hsub))
          have rs := hs.out.read (A := []) (hst.sub (((List.sublist_append_right Sa S).trans (List.sublist_append_right _ _)).trans hsub))
          have rb := hb.read (A := []) (hst.sub ((List.sublist_append_left Sb _).trans (List.sublist_append_right _ _)))
          have hT12' := hT12.out
          have c7 := Lib.hid (sameFrames_true ra rs (by omega))
          have rbs := Lib.hid (And.intro rb rs)
          have hpq := Lib.hid (And.intro hp hq)
          clear hp hq ra rs rb hst hasQ hsub hb hT12' hip hp40 hlt hg
          go_wp2_with fail
          refine c7.out.mono ?_
          rintro e w7 ⟨rfl, n1, rfl⟩
          have hT12' := hT12.out
          have c8 := Lib.hid (fun n => sameFrames_true (rbs.out.1.below (drewN_below _ n)) (rbs.out.2.below (drewN_below _ n)) (by omega))
          clear c7 hT12'
          go_wp2_with fail
          refine (c8.out _).mono ?_
          rintro e w8 ⟨rfl, n2, rfl⟩
          have c9 := Lib.hid (fun n => fr_left (hpq.out.1.drewN n) (by simp))
          have c10 := Lib.hid (fun n => fr_left (hpq.out.2.drewN n) (by simp))
          clear c8
          go_wp2_with fail
          refine (c9.out _).mono ?_
          rintro e w9 ⟨rfl, n3, rfl⟩
          clear c9
          go_wp2_with fail
          refine (c10.out _).mono ?_
          rintro e w10 ⟨rfl, n4, rfl⟩
          have fin := Lib.hid (fun n => (hpq.out.1.drewN n).below)
          clear c10
          go_wp2_with fail
          go_ret
          exact ⟨rfl, fin.out _⟩
end

theorem pieces_row {a b : Option Addr} {len cap lenb capb : Nat} {w : World} (r1 : Read Try.prog w 27 [.slice a len cap]) (r2 : Read Try.prog w 45 [.slice b lenb capb]) :
    Calls Try.prog 5 #[.slice a len cap, .slice b lenb capb] w fun e w' => e = .returned (.bool true) ∧ Below w.heap.size w w' := by
  have hco : Try.prog.cellsOf 23 = 3 := by kernel_rfl
  have hcb : Try.prog.cellsOf 5 = 1 := by kernel_rfl
  obtain ⟨rd1, h1⟩ := r1.slice uFrames (by rw [hco]; decide)
  obtain ⟨rd2, h2⟩ := r2.slice uBytes6 (by rw [hcb]; decide)
  obtain ⟨T, hT, hrd⟩ := frames_of (cap := cap) h1
  obtain ⟨Z, hZ⟩ := CutsAt.of h2
  exact pieces_walk hT hrd hZ
end Go.Proofs.Ytjeejflmkdncpaa
