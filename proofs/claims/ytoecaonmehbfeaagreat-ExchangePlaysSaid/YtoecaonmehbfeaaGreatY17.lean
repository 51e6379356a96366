/- The document's exchanges: Route, Exchanges: answers written out; the laws' own known, The document's own table, The document's own table: DropQueue; SameBindings, Whatever came in, opened step by step, with the form's own reach: each text, each slice in it takes at most so many bytes. -/
import Derived.Test.YtoecaonmehbfeaaGreatY16
import Derived.Test.YtoecaonmehbfeaaGreatY15
import Derived.Test.YtoecaonmehbfeaaGreatY01
import Derived.Test.YtoecaonmehbfeaaGreatY04
import Derived.SizedLaws
/- The document's exchanges: Route. -/
namespace Go.Proofs.YtoecaonmehbfeaaGreat
open Go.RowKit
set_option linter.unusedVariables false
set_option maxRecDepth 100000

section
variable {B : Nat} {w0 w w' : World} {F F' T R Q S : List (Nat × Obj)} {rb i g : Nat} {A A' rows : List Bnd} {P P' : List Plc} {v tv u lv : Value} {n x ex key : List UInt8} {l : List (List UInt8)} {b : Bnd} {p : Plc} {kd bt z : Int}

/-- What Route leaves. -/
def RrR (w : World) (l : List (List UInt8)) (ok : Bool) (e : Ending) (w' : World) : Prop := ∃ a cap S, e = .returned (.tuple #[.slice a l.length cap, .bool ok]) ∧ TssIs (.slice a l.length cap) l S ∧ St w.heap.size w w' S
/-- What Route has after so many rows. -/
def rtL (kd : Int) (key : List UInt8) (rows : List Bnd) (i : Nat) : List (List UInt8) := onceL [] (((rows.take i).filter (fitsK kd key)).map (·.2.1))
def RtS (w : World) (m : List (List UInt8)) (v : Value) (wr : World) : Prop := ∃ S, TssIs v m S ∧ St w.heap.size w wr S
theorem rtL_step (kd : Int) (key : List UInt8) (hx : rows[i]? = some b) : rtL kd key rows (i + 1) = if fitsK kd key b = true then onceS (rtL kd key rows i) b.2.1 else rtL kd key rows i := by
  unfold rtL
  rw [filter_step hx]
  split
  · rw [List.map_append]
    exact onceL_snoc _ _ _
  · rw [List.append_nil]
theorem rtL_len (kd : Int) (key : List UInt8) (rows : List Bnd) (i : Nat) : (rtL kd key rows i).length ≤ rows.length := by
  unfold rtL
  have h1 := onceL_len [] (((rows.take i).filter (fitsK kd key)).map (·.2.1))
  rw [List.length_map, List.length_nil] at h1
  have h2 := List.length_filter_le (fitsK kd key) (rows.take i)
  rw [List.length_take] at h2
  omega
theorem rtL_small (hr : ∀ b ∈ rows, b.2.1.length ≤ maxLen) (kd : Int) (key : List UInt8) (i : Nat) : ∀ x ∈ rtL kd key rows i, x.length ≤ maxLen := by
  intro x hx
  unfold rtL at hx
  rcases (onceL_mem _ _ _).1 hx with h | h
  · simp at h
  · obtain ⟨b, hb, rfl⟩ := List.mem_map.1 h
    exact hr b (List.mem_of_mem_take (List.mem_filter.1 hb).1)
theorem rtL_end (kd : Int) (key : List UInt8) (h : rows.length ≤ i) : rtL kd key rows i = onceL [] ((rows.filter (fitsK kd key)).map (·.2.1)) := by
  unfold rtL
  rw [List.take_of_length_le h]

set_option maxHeartbeats 8000000 in
theorem rroute_is (h : RxIs B w0 w rb P A F) (hF : FineX P A) (ex key : List UInt8) (hk : key.length ≤ 1000) :
    Calls Tryz.prog 19 #[bpt rb, tx ex, tx key] w (RrR w (routeX P A ex key).1 (routeX P A ex key).2) := by
  have few := hF.few
  have fewA := hF.rows.few
  have c1 := Lib.hid (rat_any h few ex)
  by_cases hn : ex = []
  · have e : routeX P A ex key = ([key], true) := by rw [routeX, if_pos hn]
    rw [e]
    subst hn
    have fin : Hid (RrR w [key] true (.returned (.tuple #[.slice (some ⟨w.heap.size, 0, none⟩) 1 1, .bool true])) (w.alloc (.cells #[tx key] 9))) := Lib.hid
      ⟨_, _, [(w.heap.size, .cells #[tx key] 9)], rfl, SlIs.made (cs := [tx key]) rfl (by unfold maxLen; simp), (St.start w).alloc _⟩
    clear h hF c1 e
    go_enter Tryz.func19, Tryz.ntmps19
    go_wp2_with fail
    go_ret2
    exact fin.out
  have h0B : (ex == []) = false := by simpa using hn
  have h0C : ex.isEmpty = false := by simpa using hn
  rcases ix_cases P ex with ⟨e1, e2⟩ | ⟨i0, p, e1, e2, e3, e4⟩
  · have e : routeX P A ex key = ([], false) := by rw [routeX, if_neg hn, e1]
    rw [e]
    rw [e2] at c1
    have fin : Hid (RrR w [] false (.returned (.tuple #[.slice none 0 0, .bool false])) w) := Lib.hid ⟨_, _, [], rfl, TssIs.nil, St.start w⟩
    clear h hF e e1 e2 hn
    go_enter Tryz.func19, Tryz.ntmps19
    go_wp2_with fail
    refine c1.out.mono ?_
    rintro e w1 ⟨rfl, rfl⟩
    go_wp2_with fail
    go_ret2
    exact fin.out
  have e : routeX P A ex key = (routeL p.2.1 A ex key, true) := by rw [routeX, if_neg hn, e1]
  rw [e]
  rw [e2] at c1
  have hi := (List.getElem?_eq_some_iff.1 e3).1
  have hi0 : (0 : Int) ≤ i0 := by omega
  have hi1 : (i0 : Int) < P.length := by omega
  have hi2 : ¬ (i0 : Int) < 0 := by omega
  obtain ⟨-, -, hk1, hk3⟩ := hF.each p (List.mem_of_getElem? e3)
  have hkC : p.2.1 = 1 ∨ p.2.1 = 2 ∨ p.2.1 = 3 := by omega
  have kinds : Hid (∀ w', Below w.heap.size w w' → ∃ g off cap, w'.cell? ⟨rb, 0, none⟩ = some (.slice (some ⟨g, off, none⟩) P.length cap) ∧ w'.cell? ⟨g, off + i0 * 3 + 1, none⟩ = some (.int .i64 p.2.1)) := Lib.hid fun w' hb => by
    obtain ⟨a, cap, k0, -, hrows⟩ := (h.grow hb).form
    obtain ⟨g1, o1, rfl, -, k2, -⟩ := hrows i0 p e3
    exact ⟨g1, o1, cap, k0, k2⟩
  have co := Lib.hid (rof_is h fewA ex)
  have hr : ∀ b ∈ ofB A ex, b.2.1.length ≤ maxLen ∧ b.2.2.length ≤ 1000 := fun b hb => by
    have hb' := (List.mem_filter.1 hb).1
    exact ⟨(hF.rows.fit b hb').max.2.1, by have := hF.keys b hb'; omega⟩
  have hlen : (ofB A ex).length ≤ 40 := by
    have := List.length_filter_le (fun b : Bnd => b.1 == ex) A
    unfold ofB
    omega
  have hend : routeL p.2.1 A ex key = onceL [] (((ofB A ex).filter (fitsK p.2.1 key)).map (·.2.1)) := rfl
  rw [hend]
  have cm := Lib.hid (fun (q : List UInt8) (hp : q.length ≤ 1000) w => rmatch_to (p := q) (k := key) (by omega) (by omega) w)
  generalize p.2.1 = kd at *
  generalize ofB A ex = rows at *
  replace hkC := Lib.hid hkC
  replace hr := Lib.hid hr
  clear h hF e e1 e2 e3 e4 hn hi hend few fewA hk1 hk3
  go_enter Tryz.func19, Tryz.ntmps19
  go_wp2_with fail
  refine c1.out.mono ?_
  rintro e w1 ⟨rfl, rfl⟩
  go_wp2_with fail
  refine co.out.mono ?_
  rintro e w2 ⟨u, rfl, hv, hb2⟩
  replace kinds : Hid (∀ w', Below w2.heap.size w2 w' → ∃ g off cap, w'.cell? ⟨rb, 0, none⟩ = some (.slice (some ⟨g, off, none⟩) P.length cap) ∧ w'.cell? ⟨g, off + i0 * 3 + 1, none⟩ = some (.int .i64 kd)) := Lib.hid fun w' hb => kinds.out w' (bel hb2 hb)
  obtain ⟨a, cap, rfl, -⟩ := id hv
  replace hv := Lib.hid hv
  replace hb2 := Lib.hid hb2
  have h0 : Hid (RtS w2 (rtL kd key rows 0) (.slice none 0 0) w2) := Lib.hid ⟨[], TssIs.nil, St.start w2⟩
  clear co c1
  go_wp2_with fail
  go_loopg [9, 11] rows.length (fun g v9 v11 wr => ∃ i : Nat, v11 = .int .i64 i ∧ i + g = rows.length ∧ Hid (RtS w2 (rtL kd key rows i) v9 wr))
  case atStart => exact ⟨0, rfl, by omega, h0⟩
  case round =>
    clear h0
    obtain ⟨i, rfl, hi, hR⟩ := hrel
    have hI0 : (0 : Int) ≤ i := by omega
    obtain ⟨S, hs, hst⟩ := hR.out
    obtain ⟨au, cu, rfl⟩ := hs.form
    have hmax := Lib.hid (rtL_small (fun b hb => (hr.out b hb).1) kd key i)
    have hml := rtL_len kd key rows i
    by_cases hlt : i < rows.length
    · have hI1 : (i : Int) < rows.length := by omega
      have hx : rows[i]? = some rows[i] := List.getElem?_eq_getElem hlt
      generalize rows[i] = y at hx
      obtain ⟨a', cap', e', hcs⟩ := hv.out.below hst.below
      cases e'
      obtain ⟨b1, o1, rfl, k1, k2, k3⟩ := hcs i y hx
      have h1 := hst.alloc (bO y)
      obtain ⟨W1, hW⟩ : ∃ W1, W1 = wr.alloc (bO y) := ⟨_, rfl⟩
      rw [← hW] at h1
      obtain ⟨qb, hqb⟩ : ∃ qb, qb = wr.heap.size := ⟨_, rfl⟩
      rw [← hqb] at h1
      have q1 : W1.cell? ⟨qb, 1, none⟩ = some (tx y.2.1) := h1.cell (b := qb) (i := 1) List.mem_cons_self rfl
      have q2 : W1.cell? ⟨qb, 2, none⟩ = some (tx y.2.2) := h1.cell (b := qb) (i := 2) List.mem_cons_self rfl
      have eW : Hid (wr.alloc (.cells #[tx y.1, tx y.2.1, tx y.2.2] 34) = W1) := Lib.hid hW.symm
      have eq : Hid (wr.heap.size = qb) := Lib.hid hqb.symm
      have hyk := (hr.out y (List.mem_of_getElem? hx)).2
      have stp := Lib.hid (rtL_step kd key hx)
      obtain ⟨D, hD⟩ : ∃ D, D = fitsK kd key y := ⟨_, rfl⟩
      rw [← hD] at stp
      obtain ⟨g1, f1, cap1, r0, r1⟩ := kinds.out W1 (by rw [hW]; exact hst.below.alloc (St.base hst) _)
      obtain ⟨y1, y2, y3⟩ := y
      simp only at k1 k2 k3 q1 q2 eW hyk hD stp
      generalize rtL kd key rows i = m at *
      replace hD := Lib.hid hD
      replace hs := Lib.hid hs
      replace h1 := Lib.hid h1
      clear hR hst hx hcs hv kinds hW hqb
      go_upto_region 12 with fail
      rw [eW.out, eq.out]
      clear eW eq k1 k2 k3
      go_cut [13] (fun v wx => v = .bool D ∧ Below W1.heap.size W1 wx)
      case first =>
        have cm5 := Lib.hid (cm.out y3 hyk W1)
        have rf : Hid (Below W1.heap.size W1 W1) := Lib.hid (Below.refl _ _)
        clear hs h1 stp cm hmax q1
        rcases hkC.out with rfl | rfl | rfl
        · by_cases e : y3 = key
          · subst e
            obtain rfl : D = true := by rw [hD.out, fits1]; simp
            clear hD cm5
            go_wp2_with fail
            go_meet
            case rel => exact ⟨by simp, rf.out⟩
          · have eB : (y3 == key) = false := by simpa using e
            obtain rfl : D = false := by rw [hD.out, fits1]; exact eB
            clear hD cm5
            go_wp2_with fail
            go_meet
            case rel => exact ⟨by simp, rf.out⟩
        · obtain rfl : D = true := by rw [hD.out, fits2]
          clear hD cm5
          go_wp2_with fail
          go_meet
          case rel => exact ⟨by simp, rf.out⟩
        · rw [← (show D = gl (wordsL y3) (wordsL key) by rw [hD.out, fits3])] at cm5
          clear hD rf
          go_wp2_with fail
          refine cm5.out.mono ?_
          rintro e w6 ⟨rfl, hb6⟩
          replace hb6 := Lib.hid hb6
          clear cm5
          go_wp2_with fail
          go_meet
          case rel => exact ⟨by simp, hb6.out⟩
      case rest =>
        obtain ⟨rfl, hb6⟩ := hcut
        have q1' := cellOn (c := (qb, 1)) q1 hb6
        have h6 := h1.out.grow hb6
        have hcn := Lib.hid (has_any (hs.out.read (X := [(qb, bO (y1, y2, y3))]) h6 hmax.out) (by omega) y2)
        replace h6 := Lib.hid h6
        clear hb6 q1 q2 r0 r1 cm h1 hkC
        cases D with
        | false =>
          have nxt : Hid (RtS w2 (rtL kd key rows (i + 1)) (.slice au m.length cu) wc) := Lib.hid (by
            rw [stp.out, if_neg (by decide)]
            exact ⟨S, hs.out, h6.out.sub (List.sublist_cons_self _ _)⟩)
          generalize m.length = q0 at *
          clear stp hs h6 hcn hmax
          go_wp2_with fail
          go_roundg (rows.length - (i + 1))
          case measure => omega
          case rel => exact ⟨i + 1, by go_num, by omega, nxt⟩
        | true =>
          by_cases hin : y2 ∈ m
          · rw [decide_eq_true hin] at hcn
            have nxt : Hid (RtS w2 (rtL kd key rows (i + 1)) (.slice au m.length cu) wc) := Lib.hid (by
              rw [stp.out, if_pos rfl, onceS, if_pos hin]
              exact ⟨S, hs.out, h6.out.sub (List.sublist_cons_self _ _)⟩)
            generalize m.length = q0 at *
            clear stp hs h6 hmax hin
            go_wp2_with fail
            refine hcn.out.mono ?_
            rintro e w7 ⟨rfl, rfl⟩
            go_wp2_with fail
            go_roundg (rows.length - (i + 1))
            case measure => omega
            case rel => exact ⟨i + 1, by go_num, by omega, nxt⟩
          · rw [decide_eq_false hin] at hcn
            obtain ⟨a7, cap7, W7, F7, hrun, hs7, hst7⟩ := TssIs.append (X := [(qb, bO (y1, y2, y3))]) hs.out h6.out y2 (by omega)
            have nxt : Hid (RtS w2 (rtL kd key rows (i + 1)) (.slice a7 (m.length + 1) cap7) W7) := Lib.hid (by
              rw [stp.out, if_pos rfl, onceS, if_neg hin]
              exact ⟨F7, hs7, hst7.sub (List.sublist_cons_self _ _)⟩)
            generalize m.length = q0 at *
            clear stp hs h6 hmax hin hs7 hst7
            go_wp2_with fail
            refine hcn.out.mono ?_
            rintro e w8 ⟨rfl, rfl⟩
            go_wp2_with (at_builtin; refine wpList_append_go rfl (.tmp 89) (.tmp 92) 45 45 rfl _ _ rfl rfl hrun ?_)
            go_roundg (rows.length - (i + 1))
            case measure => omega
            case rel => exact ⟨i + 1, by go_num, by omega, nxt⟩
    · have eend := rtL_end kd key (i := i) (rows := rows) (by omega)
      generalize rtL kd key rows i = m at *
      have fin : Hid (RrR w1 (onceL [] ((rows.filter (fitsK kd key)).map (·.2.1))) true (.returned (.tuple #[.slice au m.length cu, .bool true])) wr) := Lib.hid (by
        rw [← eend]
        exact ⟨_, _, S, rfl, hs, St.under hb2.out hst⟩)
      generalize m.length = q0 at *
      clear eend
      clear hR hs hst hv kinds cm hmax
      go_wp2_with fail
      go_ret2
      exact fin.out
end
end Go.Proofs.YtoecaonmehbfeaaGreat

/- Exchanges: answers written out; the laws' own known. -/
namespace Go.Proofs.YtoecaonmehbfeaaGreat
open Go.RowKit
set_option linter.unusedVariables false
set_option maxRecDepth 100000

section
variable {B : Nat} {w0 w w' : World} {F F' T R Q S : List (Nat × Obj)} {tb xb c c' pb qb : Nat} {A A' rows : List Bnd} {P P' : List Plc} {v tv u : Value} {n x key : List UInt8} {keys l : List (List UInt8)} {b : Bnd} {z kd bt : Int} {ok : Bool}

theorem decl_is (h : ExIs B w0 w xb P A F c) (hc : 1 ≤ c) (e : declX P n kd (autoB bt) = (P', z)) : Calls Tryz.prog 8 #[bpt xb, tx n, .int .i64 kd, .int .i64 bt] w fun e w' => e = .returned (.int .i64 z) ∧ ExIs B w0 w' xb P' A F c := by
  have := xdeclare_any h hc n kd bt
  rw [e] at this
  exact this
theorem del_is (h : ExIs B w0 w xb P A F c) (e : delX P A n (unuB bt) = (P', A', z)) : Calls Tryz.prog 10 #[bpt xb, tx n, .int .i64 bt] w fun e w' => e = .returned (.int .i64 z) ∧ ExIs B w0 w' xb P' A' F c := by
  have := xdelete_any h n bt
  rw [e] at this
  exact this
theorem bind_is {b1 b2 b3 : List UInt8} (h : ExIs B w0 w xb P A F c) (hb : FitB (b1, b2, b3)) (hc : c ≤ 100000) (e : bindX P A (b1, b2, b3) = (A', z)) : Calls Tryz.prog 12 #[bpt xb, .agg #[tx b1, tx b2, tx b3]] w fun e w' => e = .returned (.int .i64 z) ∧ ExIs B w0 w' xb P A' F (c + 50) := by
  have := xbind_any h hb hc
  rw [e] at this
  exact this
theorem unb_is {b1 b2 b3 : List UInt8} (h : ExIs B w0 w xb P A F c) (hc : c ≤ 100000) (e : unbX P A (b1, b2, b3) = (P', A', z)) : Calls Tryz.prog 14 #[bpt xb, .agg #[tx b1, tx b2, tx b3]] w fun e w' => e = .returned (.int .i64 z) ∧ ExIs B w0 w' xb P' A' F c := by
  have := xunbind_any h (b1, b2, b3) hc
  rw [e] at this
  exact this
theorem dropq_is (h : ExIs B w0 w xb P A F c) (hc : c ≤ 100000) (e : dropqX P A x = (P', A')) : Calls Tryz.prog 16 #[bpt xb, tx x] w fun e w' => e = .returned (.tuple #[]) ∧ ExIs B w0 w' xb P' A' F c := by
  have := xdropq_any h x hc
  rw [e] at this
  exact this
theorem rou_is (h : ExIs B w0 w xb P A F c) (hk : key.length ≤ 1000) (hc : c ≤ 100000) (e : routeX P A n key = (l, ok)) : Calls Tryz.prog 18 #[bpt xb, tx n, tx key] w fun e w' => ∃ a cap S, e = .returned (.tuple #[.slice a l.length cap, .bool ok]) ∧ TssIs (.slice a l.length cap) l S ∧ ExIs B w0 w' xb P A (S ++ F) c := by
  have := route_is h n key hk hc
  rw [e] at this
  refine this.mono ?_
  rintro e w' ⟨u, rfl, S, hu, hE⟩
  obtain ⟨a, cap, rfl⟩ := hu.form
  exact ⟨a, cap, S, rfl, hu, hE⟩
/-- What lies beside, read. -/
theorem ExIs.texts (h : ExIs B w0 w xb P A F c) (hu : TssIs u l S) (hp : F.Perm (F' ++ S)) (hl : ∀ x ∈ l, x.length ≤ maxLen) : ReadTs w u l := by
  obtain ⟨O, h1, -⟩ := h.beside
  refine hu.read (X := O ++ F') ((h1.perm (hp.append_left O)).perm (List.Perm.of_eq ?_)) hl
  rw [List.append_assoc]
theorem ReadTs.one {a : Option Addr} {cap : Nat} (h : ReadTs w (.slice a 1 cap) [n]) : ∃ g off, a = some ⟨g, off, none⟩ ∧ w.cell? ⟨g, off, none⟩ = some (tx n) := by
  obtain ⟨a', cap', e, ht⟩ := h
  cases e
  obtain ⟨-, g, off, rfl, hc⟩ := ht.at_ 0 n rfl
  exact ⟨g, off, rfl, hc⟩

abbrev kp13 : Plc := ([116], 3, true)
abbrev kb13 : Bnd := ([116], [113], [97, 46, 35])
theorem auto2 : autoB 2 = true := by decide
theorem auto0 : autoB 0 = false := by decide
theorem unu0 : unuB 0 = false := by decide
set_option maxHeartbeats 4000000 in
theorem known13_true (w : World) : Calls Tryz.prog 6 #[] w fun e w' => e = .returned (.bool true) ∧ Below w.heap.size w w' := by
  have c1 := Lib.hid (xnew_any (St.start w))
  have k2 := Lib.hid (fun w1 xb (h : ExIs w.heap.size w w1 xb [] [] [] 1) => decl_is (n := [116]) (kd := 3) (bt := 2) (P' := [kp13]) (z := 0) h (by omega) (by rw [auto2]; decide))
  have k3 := Lib.hid (fun w1 xb (h : ExIs w.heap.size w w1 xb [kp13] [] [] 1) => decl_is (n := [116]) (kd := 3) (bt := 0) (P' := [kp13]) (z := 406) h (by omega) (by rw [auto0]; decide))
  have k4 := Lib.hid (fun w1 xb (h : ExIs w.heap.size w w1 xb [kp13] [] [] 1) => bind_is (b1 := [116]) (b2 := [113]) (b3 := [97, 46, 35]) (A' := [kb13]) (z := 0) h (by unfold FitB; decide) (by omega) (by decide))
  have k5 := Lib.hid (fun w1 xb (h : ExIs w.heap.size w w1 xb [kp13] [kb13] [] 51) => rou_is (n := [116]) (key := [97, 46, 98]) (l := [[113]]) (ok := true) h (by decide) (by omega) (by decide))
  have k6 := Lib.hid (fun w1 xb F (h : ExIs w.heap.size w w1 xb [kp13] [kb13] F 51) => rou_is (n := []) (key := [113]) (l := [[113]]) (ok := true) h (by decide) (by omega) (by decide))
  have k7 := Lib.hid (fun w1 xb F (h : ExIs w.heap.size w w1 xb [kp13] [kb13] F 51) => rou_is (n := [110, 111, 110, 101]) (key := [113]) (l := []) (ok := false) h (by decide) (by omega) (by decide))
  have k8 := Lib.hid (fun w1 xb F (h : ExIs w.heap.size w w1 xb [kp13] [kb13] F 51) => unb_is (b1 := [116]) (b2 := [113]) (b3 := [97, 46, 35]) (P' := []) (A' := []) (z := 0) h (by omega) (by decide))
  have k9 := Lib.hid (fun w1 xb F (h : ExIs w.heap.size w w1 xb [] [] F 51) => (⟨has_is h [116], has_is h []⟩ : _ ∧ _))
  have k10 := Lib.hid (fun w1 xb F (h : ExIs w.heap.size w w1 xb [] [] F 51) => decl_is (n := []) (kd := 1) (bt := 0) (P' := []) (z := 403) h (by omega) (by rw [auto0]; decide))
  have k11 := Lib.hid (fun w1 xb F (h : ExIs w.heap.size w w1 xb [] [] F 51) => del_is (n := [116]) (bt := 0) (P' := []) (A' := []) (z := 404) h (by rw [unu0]; decide))
  have ck := Lib.hid (fun w => kind_any [102, 97, 110, 111, 117, 116] w)
  go_enter Tryz.func6, Tryz.ntmps6
  go_wp2_with fail
  refine c1.out.mono ?_
  rintro e w1 ⟨rfl, h⟩
  replace k2 := Lib.hid (k2.out _ _ h)
  clear h c1
  go_wp2_with fail
  refine k2.out.mono ?_
  rintro e w2 ⟨rfl, h⟩
  replace k3 := Lib.hid (k3.out _ _ h)
  clear h k2
  go_wp2_with fail
  refine k3.out.mono ?_
  rintro e w3 ⟨rfl, h⟩
  replace k4 := Lib.hid (k4.out _ _ h)
  clear h k3
  go_wp2_with fail
  refine k4.out.mono ?_
  rintro e w4 ⟨rfl, h⟩
  replace k5 := Lib.hid (k5.out _ _ h)
  clear h k4
  go_wp2_with fail
  refine k5.out.mono ?_
  rintro e w5 ⟨a5, cap5, S5, rfl, hu5, h⟩
  replace k6 := Lib.hid (k6.out _ _ _ h)
  replace hu5 := Lib.hid hu5
  clear h k5
  go_wp2_with fail
  refine k6.out.mono ?_
  rintro e w6 ⟨a6, cap6, S6, rfl, hu6, h⟩
  replace k7 := Lib.hid (k7.out _ _ _ h)
  replace hu6 := Lib.hid hu6
  clear h k6
  go_wp2_with fail
  refine k7.out.mono ?_
  rintro e w7 ⟨a7, cap7, S7, rfl, -, h⟩
  replace k8 := Lib.hid (k8.out _ _ _ h)
  clear h k7
  go_wp2_with fail
  refine k8.out.mono ?_
  rintro e w8 ⟨rfl, h⟩
  have hsm : ∀ x ∈ [[(113 : UInt8)]], x.length ≤ maxLen := by unfold maxLen; decide
  obtain ⟨g5, o5, rfl, r5⟩ := (h.texts (F' := S7 ++ S6) hu5.out (by
    refine perm_by fun a => ?_
    simp only [List.count_append, List.count_nil]
    omega) hsm).one
  obtain ⟨g6, o6, rfl, r6⟩ := (h.texts (F' := S7 ++ S5) hu6.out (by
    refine perm_by fun a => ?_
    simp only [List.count_append, List.count_nil]
    omega) hsm).one
  obtain ⟨k9a, k9b⟩ := k9.out _ _ _ h
  replace k9a := Lib.hid k9a
  replace k9b := Lib.hid k9b
  replace k10 := Lib.hid (k10.out _ _ _ h)
  clear h k8 k9 hsm hu5 hu6
  go_wp2_with fail
  refine k9a.out.mono ?_
  rintro e w9 ⟨rfl, rfl⟩
  clear k9a
  go_wp2_with fail
  refine k9b.out.mono ?_
  rintro e w9 ⟨rfl, rfl⟩
  clear k9b
  go_wp2_with fail
  refine (ck.out _).mono ?_
  rintro e w9 ⟨rfl, rfl⟩
  clear ck
  go_wp2_with fail
  refine k10.out.mono ?_
  rintro e w10 ⟨rfl, h⟩
  replace k11 := Lib.hid (k11.out _ _ _ h)
  clear h k10
  go_wp2_with fail
  refine k11.out.mono ?_
  rintro e w11 ⟨rfl, h⟩
  have fin := Lib.hid h.below
  clear h k11
  go_wp2_with fail
  go_ret
  exact ⟨rfl, fin.out⟩
end
end Go.Proofs.YtoecaonmehbfeaaGreat

/- The document's own table. -/
namespace Go.Proofs.YtoecaonmehbfeaaGreat
open Go.RowKit
set_option linter.unusedVariables false
set_option maxRecDepth 100000

section
variable {B : Nat} {w0 w w' : World} {S F A X : List (Nat × Obj)} {T : TypeId} {tb : Nat} {v u : Value} {L l : List Bnd} {b : Bnd}

set_option maxHeartbeats 1000000 in
theorem rof_any (h : OneAt T w tb v) (hv : ReadBs w v L) (hL : L.length ≤ 10000) (x : List UInt8) : Calls Tryz.prog 27 #[bpt tb, tx x] w (OfR w (L.filter fun b => b.1 == x)) := by
  obtain ⟨a, cap, rfl, hr⟩ := rows_at h hv
  have h0 := Lib.hid (RofAt.start w L (fun b => b.1 == x))
  clear h hv
  go_enter Tryz.func27, Tryz.ntmps27
  go_wp2_with fail
  go_loopg [5, 6] L.length (fun g v5 v6 wr => ∃ i : Nat, v6 = .int .i64 i ∧ i + g = L.length ∧ Hid (RofAt w L (fun b => b.1 == x) v5 i wr))
  case atStart => exact ⟨0, rfl, by omega, h0⟩
  case round =>
    clear h0
    obtain ⟨i, rfl, hi, hR⟩ := hrel
    have hi0 : (0 : Int) ≤ i := by omega
    obtain ⟨⟨ct, -⟩, hrows⟩ := hr.out wr (by obtain ⟨S, -, hst⟩ := hR.out; exact hst.below)
    by_cases hlt : i < L.length
    · have hi1 : (i : Int) < L.length := by omega
      have hx : L[i]? = some L[i] := List.getElem?_eq_getElem hlt
      generalize L[i] = y at hx
      obtain ⟨b1, o1, rfl, k1, k2, k3⟩ := hrows i y hx
      cases hpx : (y.1 == x) with
      | true =>
        obtain ⟨au, cu, a2, cap2, W2, rfl, hrun, fin⟩ := hR.out.put hx hpx hL
        replace fin := Lib.hid fin
        obtain ⟨y1, y2, y3⟩ := y
        simp only at k1 k2 k3 hpx
        obtain rfl := beq_iff_eq.1 hpx
        generalize ((L.take i).filter fun b => b.1 == y1).length = q0 at *
        clear hR hx hr hrows hpx
        go_wp2_with (at_builtin; refine wpList_append_go rfl (.tmp 26) (.tmp 34) 28 28 rfl _ _ rfl rfl hrun ?_)
        go_roundg (L.length - (i + 1))
        case measure => omega
        case rel => exact ⟨i + 1, by go_num, by omega, fin⟩
      | false =>
        obtain ⟨au, cu, rfl, fin⟩ := hR.out.pass hx hpx
        replace fin := Lib.hid fin
        obtain ⟨y1, y2, y3⟩ := y
        simp only at k1 k2 k3 hpx
        generalize ((L.take i).filter fun b => b.1 == x).length = q0 at *
        clear hR hx hr hrows
        go_wp2_with fail
        go_roundg (L.length - (i + 1))
        case measure => omega
        case rel => exact ⟨i + 1, by go_num, by omega, fin⟩
    · obtain ⟨S, au, cu, rfl, hs, hst⟩ := hR.out.end_ (by omega)
      have fin : Hid (OfR w (L.filter fun b => b.1 == x) (.returned (.slice au (L.filter fun b => b.1 == x).length cu)) wr) := Lib.hid ⟨_, rfl, hs.read (A := []) hst, hst.below⟩
      clear hs hst hR hr hrows
      go_wp2_with fail
      go_ret
      exact fin.out

/-! ### DropExchange, Drop -/
set_option maxHeartbeats 1000000 in
theorem rdropE_any (h : TbIs T B w0 w tb L A) (hL : L.length ≤ 10000) (x : List UInt8) : Calls Tryz.prog 72 #[bpt tb, tx x] w (CutsR T B w0 tb (L.filter fun b => !(b.1 == x)) A (.tuple #[])) := by
  obtain ⟨v, ho, hv⟩ := h.one
  obtain ⟨a, cap, rfl, hr⟩ := rows_at ho hv
  have h0 := Lib.hid (RofAt.start w L (fun b => !(b.1 == x)))
  have ht := Lib.hid (fun (w1 : World) (m : List Bnd) (z : Value) (R : List (Nat × Obj)) (hz : BnsIs z m R) (hst : St w.heap.size w w1 R) => TbIs.turn (S := []) h hz hst)
  obtain ⟨M, hM⟩ : ∃ M, M = L.filter fun b => !(b.1 == x) := ⟨_, rfl⟩
  rw [← hM]
  replace hM := Lib.hid hM
  clear h hv ho
  go_enter Tryz.func72, Tryz.ntmps72
  go_wp2_with fail
  go_loopg [4, 5] L.length (fun g v5 v6 wr => ∃ i : Nat, v6 = .int .i64 i ∧ i + g = L.length ∧ Hid (RofAt w L (fun b => !(b.1 == x)) v5 i wr))
  case atStart => exact ⟨0, rfl, by omega, h0⟩
  case round =>
    clear h0
    obtain ⟨i, rfl, hi, hR⟩ := hrel
    have hi0 : (0 : Int) ≤ i := by omega
    obtain ⟨⟨ct, fz⟩, hrows⟩ := hr.out wr (by obtain ⟨S, -, hst⟩ := hR.out; exact hst.below)
    by_cases hlt : i < L.length
    · have hi1 : (i : Int) < L.length := by omega
      have hx : L[i]? = some L[i] := List.getElem?_eq_getElem hlt
      generalize L[i] = y at hx
      obtain ⟨b1, o1, rfl, k1, k2, k3⟩ := hrows i y hx
      cases hpx : (y.1 == x) with
      | false =>
        obtain ⟨au, cu, a2, cap2, W2, rfl, hrun, fin⟩ := hR.out.put hx (by rw [hpx]; rfl) hL
        replace fin := Lib.hid fin
        obtain ⟨y1, y2, y3⟩ := y
        simp only at k1 k2 k3 hpx
        generalize ((L.take i).filter fun b => !(b.1 == x)).length = q0 at *
        clear hR hx hr hrows ht fz
        go_wp2_with (at_builtin; refine wpList_append_go rfl (.tmp 25) (.tmp 33) 28 28 rfl _ _ rfl rfl hrun ?_)
        go_roundg (L.length - (i + 1))
        case measure => omega
        case rel => exact ⟨i + 1, by go_num, by omega, fin⟩
      | true =>
        obtain ⟨au, cu, rfl, fin⟩ := hR.out.pass hx (by rw [hpx]; rfl)
        replace fin := Lib.hid fin
        obtain ⟨y1, y2, y3⟩ := y
        simp only at k1 k2 k3 hpx
        obtain rfl := beq_iff_eq.1 hpx
        generalize ((L.take i).filter fun b => !(b.1 == y1)).length = q0 at *
        clear hR hx hr hrows ht fz hpx
        go_wp2_with fail
        go_roundg (L.length - (i + 1))
        case measure => omega
        case rel => exact ⟨i + 1, by go_num, by omega, fin⟩
    · obtain ⟨S, au, cu, rfl, hs, hst⟩ := hR.out.end_ (by omega)
      rw [← hM.out] at hs
      have fin := Lib.hid (ht.out _ _ _ _ hs hst)
      rw [← hM.out]
      clear hs hst hR hr hrows ht hM
      go_wp2_with fail
      exact bodyPost_end (results_none rfl _ _ _) rfl ⟨rfl, by simpa using fin.out⟩

set_option maxHeartbeats 2000000 in
theorem rdrop_any (h : TbIs T B w0 w tb L A) (hL : L.length ≤ 10000) (x : Bnd) : Calls Tryz.prog 52 #[bpt tb, bV x] w (CutsR T B w0 tb (L.filter fun b => !(b == x)) A (.bool (decide ((L.filter fun b => !(b == x)).length < L.length)))) := by
  have h1 := h.alloc (bO x)
  have q0 : (w.alloc (bO x)).cell? ⟨w.heap.size, 0, none⟩ = some (tx x.1) := by simp
  have q1 : (w.alloc (bO x)).cell? ⟨w.heap.size, 1, none⟩ = some (tx x.2.1) := by simp
  have q2 : (w.alloc (bO x)).cell? ⟨w.heap.size, 2, none⟩ = some (tx x.2.2) := by simp
  obtain ⟨W1, hW⟩ : ∃ W1, W1 = w.alloc (bO x) := ⟨_, rfl⟩
  rw [← hW] at h1 q0 q1 q2
  obtain ⟨v, ho, hv⟩ := h1.one
  obtain ⟨a, cap, rfl, hr⟩ := rows_at ho hv
  have h0 := Lib.hid (RofAt.start W1 L (fun b => !(b == x)))
  have ht := Lib.hid (fun (w1 : World) (m : List Bnd) (z : Value) (R : List (Nat × Obj)) (hz : BnsIs z m R) (hst : St W1.heap.size W1 w1 R) => TbIs.turn (S := []) (h1.sub (List.sublist_cons_self _ _)) hz hst)
  have hq : Hid (∀ w2, Below W1.heap.size W1 w2 → w2.cell? ⟨w.heap.size, 0, none⟩ = some (tx x.1) ∧ w2.cell? ⟨w.heap.size, 1, none⟩ = some (tx x.2.1) ∧ w2.cell? ⟨w.heap.size, 2, none⟩ = some (tx x.2.2)) := Lib.hid fun w2 hb2 =>
    ⟨cellOn (c := (_, 0)) q0 hb2, cellOn (c := (_, 1)) q1 hb2, cellOn (c := (_, 2)) q2 hb2⟩
  obtain ⟨p, hp⟩ : ∃ p : Bnd → Bool, p = fun b => !(b == x) := ⟨_, rfl⟩
  have py : Hid (∀ y : Bnd, (p y = true ∧ ((y.1 == x.1) = false ∨ (y.1 = x.1 ∧ (y.2.1 == x.2.1) = false) ∨ (y.1 = x.1 ∧ y.2.1 = x.2.1 ∧ (y.2.2 == x.2.2) = false))) ∨ (p y = false ∧ y = x)) := Lib.hid fun y => by
    rcases bnd_cases y x with h | h
    · exact .inr ⟨by rw [hp, h]; simp, h⟩
    · exact .inl ⟨by rw [hp]; simpa using bnd_ne h, h⟩
  rw [← hp] at h0 ⊢
  obtain ⟨M, hM⟩ : ∃ M, M = L.filter p := ⟨_, rfl⟩
  rw [← hM]
  replace hM := Lib.hid hM
  obtain ⟨x1, x2, x3⟩ := x
  simp only at py hq
  replace hW : Hid (w.alloc (.cells #[tx x1, tx x2, tx x3] 34) = W1) := Lib.hid hW.symm
  clear h h1 hv ho q0 q1 q2 hp
  go_enter Tryz.func52, Tryz.ntmps52
  go_upto_region 2 with fail
  rw [hW.out]
  go_wp2_with fail
  go_loopg [5, 6] L.length (fun g v5 v6 wr => ∃ i : Nat, v6 = .int .i64 i ∧ i + g = L.length ∧ Hid (RofAt W1 L p v5 i wr))
  case atStart => exact ⟨0, rfl, by omega, h0⟩
  case round =>
    clear h0
    obtain ⟨i, rfl, hi, hR⟩ := hrel
    have hi0 : (0 : Int) ≤ i := by omega
    have hbel : Below W1.heap.size W1 wr := by obtain ⟨S, -, hst⟩ := hR.out; exact hst.below
    obtain ⟨⟨ct, fz⟩, hrows⟩ := hr.out wr hbel
    obtain ⟨q0, q1, q2⟩ := hq.out wr hbel
    replace hbel := Lib.hid hbel
    by_cases hlt : i < L.length
    · have hi1 : (i : Int) < L.length := by omega
      have hx : L[i]? = some L[i] := List.getElem?_eq_getElem hlt
      generalize L[i] = y at hx
      obtain ⟨b1, o1, rfl, k1, k2, k3⟩ := hrows i y hx
      rcases py.out y with ⟨hpy, hc⟩ | ⟨hpy, rfl⟩
      · obtain ⟨S, hs, hst⟩ := hR.out
        obtain ⟨au, cu, rfl⟩ := hs.form
        have ap : Hid (∀ n, ∃ a cap W2, (Builtin.append_ #[28, 28] 0 #[.slice au ((L.take i).filter p).length cu, .slice (some ⟨wr.heap.size, 0, none⟩) 1 1]).run Tryz.prog ((wr.drewN n).alloc (bO y)) = .ok (.slice a (((L.take i).filter p).length + 1) cap) W2 ∧ RofAt W1 L p (.slice a (((L.take i).filter p).length + 1) cap) (i + 1) W2) :=
          Lib.hid fun n => by
            have h2 : RofAt W1 L p (.slice au ((L.take i).filter p).length cu) i (wr.drewN n) := ⟨S, hs, hst.drewN n⟩
            obtain ⟨_, _, a, cap, W2, _, hrun, hf⟩ := h2.put hx hpy hL
            exact ⟨a, cap, W2, hrun, hf⟩
        obtain ⟨y1, y2, y3⟩ := y
        simp only at k1 k2 k3 hc
        clear hR hx hr hrows ht fz py hq hs hst hM
        generalize ((L.take i).filter p).length = q0 at *
        rcases hc with hc | ⟨rfl, hc⟩ | ⟨rfl, rfl, hc⟩
        all_goals
          go_wp2_with fail
          go_quiet (fail)
          obtain ⟨a2, cap2, W2, hrun, fin⟩ := ap.out nq
          replace fin := Lib.hid fin
          go_wp2_with (at_builtin; refine wpList_append_go rfl (.tmp 26) (.tmp 34) 28 28 rfl _ _ rfl rfl hrun ?_)
          go_roundg (L.length - (i + 1))
          case measure => omega
          case rel => exact ⟨i + 1, by go_num, by omega, fin⟩
      · obtain ⟨au, cu, rfl, fin⟩ := hR.out.pass hx hpy
        have fin2 : Hid (∀ n, RofAt W1 L p (.slice au ((L.take i).filter p).length cu) (i + 1) (wr.drewN n)) := Lib.hid fun n => by
          obtain ⟨S, hs, hst⟩ := fin
          exact ⟨S, hs, hst.drewN n⟩
        simp only at k1 k2 k3
        clear hR hx hr hrows ht fz py hq fin hM
        generalize ((L.take i).filter p).length = q0 at *
        go_wp2_with fail
        go_quiet (fail)
        go_wp2_with fail
        go_roundg (L.length - (i + 1))
        case measure => omega
        case rel => exact ⟨i + 1, by go_num, by omega, Lib.hid (fin2.out _)⟩
    · obtain ⟨S, au, cu, rfl, hs, hst⟩ := hR.out.end_ (by omega)
      rw [← hM.out] at hs
      have fin := Lib.hid (ht.out _ _ _ _ hs hst)
      rw [← hM.out]
      clear hs hst hR hr hrows ht hM py hq
      go_wp2_with fail
      go_ret
      exact ⟨ret_bool (decide_eq_decide.2 (by omega)), by simpa using fin.out⟩
end
end Go.Proofs.YtoecaonmehbfeaaGreat

/- The document's own table: DropQueue; SameBindings. -/
namespace Go.Proofs.YtoecaonmehbfeaaGreat
open Go.RowKit
set_option linter.unusedVariables false
set_option maxRecDepth 100000

section
variable {B : Nat} {w0 w w' : World} {S F A X : List (Nat × Obj)} {T : TypeId} {tb : Nat} {v u z : Value} {L l : List Bnd} {b : Bnd}

set_option maxHeartbeats 4000000 in
theorem rdropQ_any (h : TbIs T B w0 w tb L A) (hL : L.length ≤ 10000) (hfit : ∀ b ∈ L, FitB b) (x : List UInt8) :
    Calls Tryz.prog 56 #[bpt tb, tx x] w (CutNR T B w0 tb (L.filter fun b => !(b.2.1 == x)) A (onceL [] ((L.filter fun b => b.2.1 == x).map (·.1)))) := by
  obtain ⟨v, ho, hv⟩ := h.one
  obtain ⟨a, cap, rfl, hr⟩ := rows_at ho hv
  have h0 : Hid (RdqAt w L x (.slice none 0 0) (.slice none 0 0) 0 w) := Lib.hid ⟨[], [], BnsIs.nil, TssIs.nil, St.start w⟩
  have hmax : ∀ (i : Nat), ∀ y ∈ onceL [] (((L.take i).filter fun b => b.2.1 == x).map (·.1)), y.length ≤ maxLen := by
    intro i y hy
    rcases (onceL_mem _ _ _).1 hy with h | h
    · simp at h
    · obtain ⟨b, hb, rfl⟩ := List.mem_map.1 h
      have := (hfit b (List.mem_of_mem_take (List.mem_filter.1 hb).1)).1
      unfold maxLen
      omega
  have hlenO : ∀ (i : Nat), (onceL [] (((L.take i).filter fun b => b.2.1 == x).map (·.1))).length ≤ 10000 := by
    intro i
    have h1 := onceL_len [] (((L.take i).filter fun b => b.2.1 == x).map (·.1))
    have h2 := filter_len_take (L := L) (fun b => b.2.1 == x) i
    rw [List.length_map, List.length_nil] at h1
    have h3 := List.length_filter_le (fun b : Bnd => b.2.1 == x) (L.take i)
    rw [List.length_take] at h3
    omega
  replace hmax := Lib.hid hmax
  replace hlenO := Lib.hid hlenO
  have fin : Hid (∀ i u z w1, L.length ≤ i → RdqAt w L x u z i w1 → ∃ au qu cu az qz cz, u = .slice au qu cu ∧ z = .slice az qz cz ∧ CutNR T B w0 tb (L.filter fun b => !(b.2.1 == x)) A (onceL [] ((L.filter fun b => b.2.1 == x).map (·.1))) (.returned z) (w1.setCell ⟨tb, 0, none⟩ u)) := by
    refine Lib.hid ?_
    rintro i u z w1 hi ⟨S, R, hs, hz, hst⟩
    rw [List.take_of_length_le hi] at hs hz
    obtain ⟨au, cu, e1⟩ := hs.form
    obtain ⟨az, cz, e2⟩ := hz.form
    exact ⟨au, _, cu, az, _, cz, e1, e2, z, R, rfl, hz, TbIs.turn (S := R) h hs (hst.perm List.perm_append_comm)⟩
  clear h hv ho hfit
  go_enter Tryz.func56, Tryz.ntmps56
  go_wp2_with fail
  go_loopg [5, 6, 7] L.length (fun g v5 v6 v7 wr => ∃ i : Nat, v7 = .int .i64 i ∧ i + g = L.length ∧ Hid (RdqAt w L x v5 v6 i wr))
  case atStart => exact ⟨0, rfl, by omega, h0⟩
  case round =>
    clear h0
    obtain ⟨i, rfl, hi, hR⟩ := hrel
    have hi0 : (0 : Int) ≤ i := by omega
    have hbel : Below w.heap.size w wr := by obtain ⟨S, R, -, -, hst⟩ := hR.out; exact hst.below
    obtain ⟨⟨ct, fz⟩, hrows⟩ := hr.out wr hbel
    clear hbel
    by_cases hlt : i < L.length
    · obtain ⟨S, R, hs, hz, hst⟩ := hR.out
      have hi1 : (i : Int) < L.length := by omega
      have hx : L[i]? = some L[i] := List.getElem?_eq_getElem hlt
      generalize L[i] = y at hx
      obtain ⟨b1, o1, rfl, k1, k2, k3⟩ := hrows i y hx
      have st1 := filter_step (p := fun b => !(b.2.1 == x)) hx
      have st2 := filter_step (p := fun b => b.2.1 == x) hx
      have hl1 := filter_len_take (L := L) (fun b => !(b.2.1 == x)) i
      have hlO := hlenO.out i
      have hm := hmax.out i
      cases hpx : (y.2.1 == x) with
      | false =>
        simp only [hpx, Bool.not_false, if_true, Bool.false_eq_true, if_false, List.append_nil] at st1 st2
        obtain ⟨a2, cap2, W2, F2, hrun, hs2, hst2⟩ := bnd_append (X := R) hs (hst.perm List.perm_append_comm) y (by omega)
        have nxt : Hid (RdqAt w L x (.slice a2 (((L.take i).filter fun b => !(b.2.1 == x)).length + 1) cap2) _ (i + 1) W2) := Lib.hid ⟨F2, R, by rw [st1]; exact hs2, by rw [st2]; exact hz, hst2.perm List.perm_append_comm⟩
        obtain ⟨au, cu, rfl⟩ := hs.form
        obtain ⟨az, cz, rfl⟩ := hz.form
        obtain ⟨y1, y2, y3⟩ := y
        simp only at k1 k2 k3 hpx
        generalize ((L.take i).filter fun b => !(b.2.1 == x)).length = q0 at *
        generalize (onceL [] (((L.take i).filter fun b => b.2.1 == x).map (·.1))).length = q1 at *
        clear hR hx hr hrows hs hz hst hs2 hst2 st1 st2 hl1 hlO hm hmax hlenO fin fz
        go_wp2_with (at_builtin; refine wpList_append_go rfl (.tmp 27) (.tmp 35) 28 28 rfl _ _ rfl rfl hrun ?_)
        go_roundg (L.length - (i + 1))
        case measure => omega
        case rel => exact ⟨i + 1, by go_num, by omega, nxt⟩
      | true =>
        simp only [hpx, Bool.not_true, if_true, Bool.false_eq_true, if_false, List.append_nil] at st1 st2
        have st3 : onceL [] (((L.take (i + 1)).filter fun b => b.2.1 == x).map (·.1)) = onceS (onceL [] (((L.take i).filter fun b => b.2.1 == x).map (·.1))) y.1 := by
          rw [st2, List.map_append]
          exact onceL_snoc _ _ _
        generalize onceL [] (((L.take i).filter fun b => b.2.1 == x).map (·.1)) = m at *
        have cn := Lib.hid (has_any (TssIs.read (X := S) hz hst hm) (by omega) y.1)
        by_cases hin : y.1 ∈ m
        · rw [decide_eq_true hin] at cn
          rw [onceS, if_pos hin] at st3
          have nxt : Hid (RdqAt w L x _ _ (i + 1) wr) := Lib.hid ⟨S, R, by rw [st1]; exact hs, by rw [st3]; exact hz, hst⟩
          obtain ⟨au, cu, rfl⟩ := hs.form
          obtain ⟨az, cz, rfl⟩ := hz.form
          obtain ⟨y1, y2, y3⟩ := y
          simp only at k1 k2 k3 hpx
          obtain rfl := beq_iff_eq.1 hpx
          generalize ((L.take i).filter fun b => !(b.2.1 == y2)).length = q0 at *
          generalize m.length = q1 at *
          clear hR hx hr hrows hs hz hst st1 st2 st3 hl1 hlO hm hmax hlenO fin fz hpx hin
          go_wp2_with fail
          refine cn.out.mono ?_
          rintro e w3 ⟨rfl, rfl⟩
          go_wp2_with fail
          go_roundg (L.length - (i + 1))
          case measure => omega
          case rel => exact ⟨i + 1, by go_num, by omega, nxt⟩
        · rw [decide_eq_false hin] at cn
          rw [onceS, if_neg hin] at st3
          obtain ⟨a2, cap2, W2, F2, hrun, hs2, hst2⟩ := TssIs.append (X := S) hz hst y.1 (by omega)
          have nxt : Hid (RdqAt w L x _ (.slice a2 (m.length + 1) cap2) (i + 1) W2) := Lib.hid ⟨S, F2, by rw [st1]; exact hs, by rw [st3]; exact hs2, hst2⟩
          obtain ⟨au, cu, rfl⟩ := hs.form
          obtain ⟨az, cz, rfl⟩ := hz.form
          obtain ⟨y1, y2, y3⟩ := y
          simp only at k1 k2 k3 hpx
          obtain rfl := beq_iff_eq.1 hpx
          generalize ((L.take i).filter fun b => !(b.2.1 == y2)).length = q0 at *
          generalize m.length = q1 at *
          clear hR hx hr hrows hs hz hst hs2 hst2 st1 st2 st3 hl1 hlO hm hmax hlenO fin fz hpx hin
          go_wp2_with fail
          refine cn.out.mono ?_
          rintro e w3 ⟨rfl, rfl⟩
          go_wp2_with (at_builtin; refine wpList_append_go rfl (.tmp 48) (.tmp 57) 45 45 rfl _ _ rfl rfl hrun ?_)
          go_roundg (L.length - (i + 1))
          case measure => omega
          case rel => exact ⟨i + 1, by go_num, by omega, nxt⟩
    · obtain ⟨au, qu, cu, az, qz, cz, rfl, rfl, f⟩ := fin.out _ _ _ _ (by omega) hR.out
      replace f := Lib.hid f
      clear hR hr hrows hmax hlenO fin
      go_wp2_with fail
      go_ret
      exact f.out

end
end Go.Proofs.YtoecaonmehbfeaaGreat

/- Whatever came in, opened step by step, with the form's own reach: each text, each slice in it takes at most so many bytes. -/
namespace Go.Proofs.YtoecaonmehbfeaaGreat
open Go.RowKit
set_option maxRecDepth 100000

/-- The cells cs read as a datum of type t in w, within the reach. -/
def ReadS (P : Program) (w : World) (t : TypeId) (cs : List Value) : Prop :=
  ∃ (H : Type) (enc : TypeId × Value → H) (base : Nat) (spare : Nat → Bool) (held : Bool) (fuel : Nat) (x : DataW H × List MemPlace), DataW.trod enc P w base spare held fuel t cs = some x ∧ ∀ n ∈ x.1.weights P t, n ≤ reachBytes

theorem weights_all_mem {H : Type} {P : Program} {e : TypeId} : ∀ {ds : List (DataW H)} {d : DataW H}, d ∈ ds → ∀ n ∈ d.weights P e, n ∈ DataW.weightsAll P e ds
  | d0 :: ds, d, hd, n, hn => by
    rw [DataW.weightsAll, List.mem_append]
    rcases List.mem_cons.1 hd with rfl | hd
    · exact .inl hn
    · exact .inr (weights_all_mem hd n hn)

section
variable {P : Program} {w : World} {t e : TypeId} {cs : List Value}
theorem ReadS.read (h : ReadS P w t cs) : Read P w t cs := by
  obtain ⟨H, enc, b, sp, held, fuel, x, h, _⟩ := h
  exact ⟨H, enc, b, sp, held, fuel, x, h⟩
theorem ReadS.string (ht : P.underlying t = some .string) (h : ReadS P w t cs) : ∃ s : ByteArray, cs = [.string s] ∧ s.data.toList.length ≤ 140737488351232 := by
  obtain ⟨_, _, _, _, _, _, _, h, hw⟩ := h
  obtain ⟨s, h1, rfl, _⟩ := Go.DataW.trod_string ht h
  exact ⟨s, h1, hw _ (by simp [DataW.weights])⟩
theorem ReadS.struct {fs : Array Field} (ht : P.underlying t = some (.struct fs)) (h : ReadS P w t cs) :
    cs.length = P.cellsOf t ∧ ∀ (i : Nat) (f : Field), fs[i]? = some f → ReadS P w f.type ((cs.drop f.offset).take (P.cellsOf f.type)) := by
  obtain ⟨H, enc, b, sp, held, _, _, h, hw⟩ := h
  obtain ⟨ys, n, _, rfl, h1, h2, hg⟩ := Go.DataW.trod_struct ht h
  refine ⟨h1, fun i f hf => ?_⟩
  have hi : i < ys.length := by
    have := (Array.getElem?_eq_some_iff.1 hf).1
    omega
  refine ⟨H, enc, b, sp, held, n, ys[i], (hg i f hf).trans (List.getElem?_eq_getElem hi), fun m hm => hw m ?_⟩
  simp only [DataW.weights, ht]
  refine DataW.weights_mem_each (j := i) (t := f.type) (d := ys[i].1) ?_ ?_ m hm
  · rw [List.getElem?_map, Array.getElem?_toList, hf]; rfl
  · rw [List.getElem?_map, List.getElem?_eq_getElem hi]; rfl

/-- The elements of a slice that came in. -/
structure RowsS (P : Program) (w : World) (e : TypeId) (a : Option Addr) (len : Nat) (rd : Nat → List Value) : Prop where
  top : len ≤ maxLen
  at_ : ∀ i, i < len → ReadS P w e (rd i) ∧ (rd i).length = P.cellsOf e ∧ ∃ b off, a = some ⟨b, off, none⟩ ∧ ∀ j u, (rd i)[j]? = some u → w.cell? ⟨b, off + i * P.cellsOf e + j, none⟩ = some u

theorem ReadS.slice {a : Option Addr} {len cap : Nat} (ht : P.underlying t = some (.slice e)) (hc : 0 < P.cellsOf e) (h : ReadS P w t [.slice a len cap]) : ∃ rd, RowsS P w e a len rd := by
  obtain ⟨H, enc, b, sp, held, _, _, h, hw⟩ := h
  rcases Go.Deep.open_slice ht h with ⟨hcs, _⟩ | ⟨a', len', cap', m, fuel', D, Pl, hcs, _, hl, hm, hmm, rfl, hi⟩
  · simp at hcs
    obtain ⟨rfl, rfl, rfl⟩ := hcs
    exact ⟨fun _ => [], Nat.zero_le _, fun i hi => by omega⟩
  · simp at hcs
    obtain ⟨rfl, rfl, rfl⟩ := hcs
    have hlm : len ≤ m := by rw [hmm]; split <;> omega
    have key : ∀ i, ∃ cs, i < len → ReadS P w e cs ∧ cs.length = P.cellsOf e ∧ ∃ b off, (some a' : Option Addr) = some ⟨b, off, none⟩ ∧ ∀ j u, cs[j]? = some u → w.cell? ⟨b, off + i * P.cellsOf e + j, none⟩ = some u := by
      intro i
      by_cases hil : i < len
      · obtain ⟨cs, hcs, hr⟩ := hi i (by omega)
        obtain ⟨_, hlc, hat⟩ := World.cells?_some hcs
        obtain ⟨bb, off, spot⟩ := a'
        have hspot : spot = none := by
          obtain ⟨_, hc', _⟩ := hi 0 (by omega)
          obtain ⟨_, hl', hat'⟩ := World.cells?_some hc'
          have cz := (hat' 0 hc).trans (List.getElem?_eq_getElem (by omega))
          simpa [Addr.add] using World.cell?_spot cz
        subst hspot
        refine ⟨cs, fun _ => ⟨⟨H, enc, b, sp, held, _, _, hr, fun n hn => hw n ?_⟩, hlc, bb, off, rfl, fun j u hj => ?_⟩⟩
        · simp only [DataW.weights, ht]
          refine List.mem_cons_of_mem _ (List.mem_append_left _ (weights_all_mem (d := D i) ?_ n hn))
          exact List.mem_map.2 ⟨i, List.mem_range.2 hil, rfl⟩
        · have hjl : j < P.cellsOf e := by rw [← hlc]; exact (List.getElem?_eq_some_iff.1 hj).1
          have := hat j hjl
          rw [Go.WideShapes.add_plain, Go.WideShapes.add_plain] at this
          exact this.trans hj
      · exact ⟨[], fun h => absurd h hil⟩
    exact ⟨fun i => (key i).choose, by omega, fun i hil => (key i).choose_spec hil⟩
end
end Go.Proofs.YtoecaonmehbfeaaGreat
