/- ExchangeRoutes. -/
import Derived.Test.YtoecaonmehbfeaaGreatR14
namespace Go.Proofs.YtoecaonmehbfeaaGreat
open Go.RowKit
set_option linter.unusedVariables false
set_option maxRecDepth 100000

section
variable {B : Nat} {w0 w w' : World} {F F' T R Q S : List (Nat × Obj)} {tb xb c c' pb qb : Nat} {A A' rows : List Bnd} {P P' : List Plc} {v tv u : Value} {n x key : List UInt8} {keys l : List (List UInt8)} {b : Bnd} {z kd bt : Int} {ok : Bool}

/-! ### one binding more -/
theorem once_in {m : List (List UInt8)} (h : x ∈ m) : onceS m x = m := by rw [onceS, if_pos h]
theorem routeL_add (K : Int) (A : List Bnd) (b : Bnd) (key : List UInt8) (hf : ¬ 40 ≤ A.length) : routeL K (addL A b).1 b.1 key = if fitsK K key b = true then onceS (routeL K A b.1 key) b.2.1 else routeL K A b.1 key := by
  unfold addL
  by_cases hin : b ∈ A
  · rw [if_pos hin]
    split
    · rename_i hfit
      rw [once_in]
      unfold routeL
      rw [onceL_mem]
      refine .inr (List.mem_map.2 ⟨b, List.mem_filter.2 ⟨?_, hfit⟩, rfl⟩)
      unfold ofB
      exact List.mem_filter.2 ⟨hin, by simp⟩
    · rfl
  · rw [if_neg hin, if_neg hf]
    unfold routeL
    have e : ofB (A ++ [b]) b.1 = ofB A b.1 ++ [b] := by unfold ofB; rw [List.filter_append]; simp
    show onceL [] (((ofB (A ++ [b]) b.1).filter (fitsK K key)).map (·.2.1)) = _
    rw [e, List.filter_append, List.map_append]
    split
    · rename_i hfit
      have e2 : [b].filter (fitsK K key) = [b] := by simp [hfit]
      rw [e2]
      exact onceL_snoc _ _ _
    · rename_i hfit
      have e2 : [b].filter (fitsK K key) = [] := by simp [hfit]
      rw [e2]
      simp
theorem bindX_one {K : Int} (hb : b.1 = [120]) (hk : b.2.2.length ≤ 40) (hf : ¬ 40 ≤ A.length) : bindX [([120], K, false)] A b = ((addL A b).1, 0) := by
  obtain ⟨b1, b2, b3⟩ := b
  simp only at hb hk
  subst hb
  have hf0 : findP [(([120] : List UInt8), K, false)] [120] = some ([120], K, false) := by simp [findP]
  unfold bindX
  simp only [hf0]
  rw [if_neg (by simp), if_neg (by omega), if_pos]
  unfold addL
  split
  · rfl
  · first | rw [if_neg hf] | rfl
theorem routeX_one {K : Int} : routeX [([120], K, false)] A [120] key = (routeL K A [120] key, true) := by
  have hf0 : findP [(([120] : List UInt8), K, false)] [120] = some ([120], K, false) := by simp [findP]
  unfold routeX
  rw [if_neg (by simp), hf0]
theorem addL_len (A : List Bnd) (b : Bnd) : (addL A b).1.length ≤ A.length + 1 := by
  unfold addL
  split
  · simp
  · split <;> simp

/-- What is held when i bindings are made. -/
def RtAt (B : Nat) (w0 : World) (xb : Nat) (K : Int) (key : List UInt8) (i : Nat) (v : Value) (w : World) : Prop :=
  ∃ A S c, c ≤ 1 + 50 * i ∧ A.length ≤ i ∧ TssIs v (routeL K A [120] key) S ∧ ExIs B w0 w xb [([120], K, false)] A S c
theorem route_small (h : ExIs B w0 w xb P A F c) (K : Int) (n key : List UInt8) : ∀ x ∈ routeL K A n key, x.length ≤ maxLen := by
  intro x hx
  unfold routeL at hx
  rcases (onceL_mem _ _ _).1 hx with h' | h'
  · simp at h'
  · obtain ⟨b, hb, rfl⟩ := List.mem_map.1 h'
    exact (h.fine.rows.fit b (List.mem_filter.1 (List.mem_filter.1 hb).1).1).max.2.1
theorem route_len (K : Int) (A : List Bnd) (n key : List UInt8) : (routeL K A n key).length ≤ A.length := by
  unfold routeL
  have h1 := onceL_len [] (((ofB A n).filter (fitsK K key)).map (·.2.1))
  rw [List.length_map, List.length_nil] at h1
  have h2 := List.length_filter_le (fitsK K key) (ofB A n)
  have h3 := List.length_filter_le (fun b : Bnd => b.1 == n) A
  unfold ofB at *
  omega
theorem ExIs.push (h : ExIs B w0 w xb P A S c) (hu : TssIs u l S) (x : List UInt8) (hl : l.length ≤ 1000000) :
    ∃ a cap W S2, (Builtin.append_ #[45, 45] 0 #[u, .slice (some ⟨w.heap.size, 0, none⟩) 1 1]).run Tryz.prog (w.alloc (.cells #[tx x] 9)) = .ok (.slice a (l.length + 1) cap) W ∧ TssIs (.slice a (l.length + 1) cap) (l ++ [x]) S2 ∧ ExIs B w0 W xb P A S2 c := by
  obtain ⟨O, h1, back⟩ := h.beside
  obtain ⟨a, cap, W, S2, hr, hs, hst⟩ := TssIs.append (X := O) hu h1 x hl
  exact ⟨a, cap, W, S2, hr, hs, back _ _ hst⟩
theorem notin_step {m : List (List UInt8)} {j : Nat} {y e : List UInt8} (he : m[j]? = some e) : decide (y ∉ m.take (j + 1)) = (decide (y ∉ m.take j) && !(e == y)) := by
  rw [List.take_add_one, he, Option.toList_some]
  by_cases h1 : y ∈ m.take j
  · have h2 : y ∈ m.take j ++ [e] := List.mem_append_left _ h1
    simp [h1]
  · by_cases h2 : e = y
    · subst h2
      simp
    · have h3 : ¬ y = e := fun h => h2 h.symm
      simp [h1, h2, h3]
end

set_option maxHeartbeats 16000000 in
theorem routes_walk {kd n1 n2 cap1 cap2 : Nat} {a1 a2 : Option Addr} {zs : List Int} {xs : List (List UInt8)} {key : List UInt8} {w : World} (hkd8 : kd ≤ 255) (hz : IntsAt .u8 w a1 n1 zs) (hx : TextsAt w a2 n2 xs) (hz0 : ∀ z ∈ zs, 0 ≤ z ∧ z ≤ 255) :
    Calls Tryz.prog 4 #[.int .u8 kd, .slice a1 n1 cap1, .slice a2 n2 cap2, tx key] w fun e w' => e = .returned (.bool true) ∧ Below w.heap.size w w' := by
  have c1 := Lib.hid (known13_true w)
  have hkd : (kd : Int) % 3 = ((kd % 3 : Nat) : Int) := by omega
  have hr : kd % 3 < 3 := by omega
  generalize kd % 3 = r at *
  by_cases hbad : 20 < n1 ∨ n2 < n1 ∨ 40 < key.length
  · have h3 : (20 < n1) ∨ (¬ 20 < n1 ∧ n2 < n1) ∨ (¬ 20 < n1 ∧ ¬ n2 < n1 ∧ 40 < key.length) := by omega
    clear hbad hz hx hkd
    rcases h3 with h | ⟨h, h'⟩ | ⟨h, h', h''⟩
    · have hI : (20 : Int) < n1 := by omega
      go_enter Tryz.func4, Tryz.ntmps4
      go_wp2_with fail
      refine c1.out.mono ?_
      rintro e w1 ⟨rfl, hb⟩
      replace hb := Lib.hid hb
      go_wp2_with fail
      go_ret
      exact ⟨rfl, hb.out⟩
    · have hI : ¬ (20 : Int) < n1 := by omega
      have hI2 : (n2 : Int) < n1 := by omega
      go_enter Tryz.func4, Tryz.ntmps4
      go_wp2_with fail
      refine c1.out.mono ?_
      rintro e w1 ⟨rfl, hb⟩
      replace hb := Lib.hid hb
      go_wp2_with fail
      go_ret
      exact ⟨rfl, hb.out⟩
    · have hI : ¬ (20 : Int) < n1 := by omega
      have hI2 : ¬ (n2 : Int) < n1 := by omega
      have hI3 : (40 : Int) < key.length := by omega
      go_enter Tryz.func4, Tryz.ntmps4
      go_wp2_with fail
      refine c1.out.mono ?_
      rintro e w1 ⟨rfl, hb⟩
      replace hb := Lib.hid hb
      go_wp2_with fail
      go_ret
      exact ⟨rfl, hb.out⟩
  have hI : ¬ (20 : Int) < n1 := by omega
  have hI2 : ¬ (n2 : Int) < n1 := by omega
  have hI3 : ¬ (40 : Int) < key.length := by omega
  have hk40 : key.length ≤ 40 := by omega
  have h20 : n1 ≤ 20 := by omega
  have h12 : n1 ≤ n2 := by omega
  have hs1 := hz.size
  have hs2 := hx.size
  clear hbad
  obtain ⟨K, hK⟩ : ∃ K : Int, K = (r : Int) + 1 := ⟨_, rfl⟩
  have hK3 : K = 1 ∨ K = 2 ∨ K = 3 := by omega
  have k2 : Hid (∀ w1 xb (h : ExIs w.heap.size w w1 xb [] [] [] 1), Calls Tryz.prog 8 #[bpt xb, tx [120], .int .i64 K, .int .i64 0] w1 fun e w' => e = .returned (.int .i64 0) ∧ ExIs w.heap.size w w' xb [([120], K, false)] [] [] 1) := Lib.hid fun w1 xb h => decl_is h (by omega) (by
    rw [auto0]
    rcases hK3 with rfl | rfl | rfl <;> decide)
  have hr0 : (0 : Int) ≤ r := by omega
  have hr1 : (r : Int) < 3 := by omega
  replace hz := Lib.hid hz
  replace hx := Lib.hid hx
  replace hz0 := Lib.hid hz0
  have eK : (r : Int) + 1 = K := hK.symm
  clear hK
  replace hK3 := Lib.hid hK3
  have cm := Lib.hid (fun (p : List UInt8) (hp : p.length ≤ 40) w => rmatch_to (p := p) (k := key) (by omega) (by omega) w)
  go_enter Tryz.func4, Tryz.ntmps4
  go_wp2_with fail
  refine c1.out.mono ?_
  rintro e w1 ⟨rfl, hb⟩
  have c2 := Lib.hid (xnew_any ((St.start w).grow hb))
  clear hb c1
  go_wp2_with fail
  refine c2.out.mono ?_
  rintro e w2 ⟨rfl, h⟩
  generalize w1.heap.size = xb at *
  replace k2 := Lib.hid (k2.out _ _ h)
  clear c2 h
  go_upto_region 6 with fail
  go_cut [10] (fun v wx => v = .int .i64 K ∧ wx = w2)
  case first =>
    go_wp2_with fail
    all_goals
      go_meet
      case rel => exact ⟨rfl, rfl⟩
  case rest =>
    obtain ⟨rfl, rfl⟩ := hcut
    clear hkd eK
    go_wp2_with fail
    refine k2.out.mono ?_
    rintro e w3 ⟨rfl, h⟩
    have h0 : Hid (RtAt w.heap.size w xb K key 0 (.slice none 0 0) w3) := Lib.hid ⟨[], [], 1, by omega, by simp, by
      have e : routeL K [] [120] key = [] := rfl
      rw [e]
      exact TssIs.nil, h⟩
    clear k2 h
    go_wp2_with fail
    go_loopg [11, 12] n1 (fun g v11 v12 wr => ∃ i : Nat, v12 = .int .i64 i ∧ i + g = n1 ∧ Hid (RtAt w.heap.size w xb K key i v11 wr))
    case atStart => exact ⟨0, rfl, by omega, h0⟩
    case round =>
      clear h0
      obtain ⟨i, rfl, hi, hR⟩ := hrel
      have hi0 : (0 : Int) ≤ i := by omega
      obtain ⟨A, S, c, hc, hA, hu, hE⟩ := hR.out
      obtain ⟨au, cu, rfl⟩ := hu.form
      by_cases hlt : i < n1
      · have hi1 : (i : Int) < n1 := by omega
        have hi2 : (i : Int) < n2 := by omega
        have hzi : zs[i]? = some (zs[i]'(by omega)) := List.getElem?_eq_getElem _
        have hxi : xs[i]? = some (xs[i]'(by omega)) := List.getElem?_eq_getElem _
        generalize (zs[i]'(by omega)) = z at hzi
        generalize (xs[i]'(by omega)) = ki at hxi
        obtain ⟨g1, o1, rfl, k1⟩ := (hz.out.below hE.below).at_ i z hzi
        obtain ⟨-, g2, o2, rfl, k2⟩ := (hx.out.below hE.below).at_ i ki hxi
        obtain ⟨z0, z1⟩ := hz0.out z (List.mem_of_getElem? hzi)
        by_cases h40 : 40 < ki.length
        · have h40I : (40 : Int) < ki.length := by omega
          have fin := Lib.hid hE.below
          generalize (routeL K A [120] key).length = q0 at *
          clear hR hu hE hzi hxi cm
          go_wp2_with fail
          go_ret
          exact ⟨rfl, fin.out⟩
        have h40I : ¬ (40 : Int) < ki.length := by omega
        obtain ⟨t, ht⟩ : ∃ t : Nat, z % 8 = (t : Int) := ⟨(z % 8).toNat, by omega⟩
        have ht8 : (t : Int) < 8 := by omega
        have ht0 : (0 : Int) ≤ t := by omega
        have cv1 : ∀ W : World, (convert 55 9 (.slice (some ⟨W.heap.size, 0, none⟩) 1 1)).run Tryz.prog (W.alloc (.cells #[.int .u8 (97 + (t : Int))] 5)) = .ok (tx [oct (97 + (t : Int))]) (W.alloc (.cells #[.int .u8 (97 + (t : Int))] 5)) := fun W => conv_byte10 (by simp) (by omega) (by omega)
        have hE1 := hE.grow (new_below wr (.cells #[.int .u8 (97 + (t : Int))] 5))
        have hf40 : ¬ 40 ≤ A.length := by omega
        have cb := Lib.hid (bind_is (b1 := [120]) (b2 := [oct (97 + (t : Int))]) (b3 := ki) hE1 (by refine ⟨?_, ?_, ?_⟩ <;> simp <;> omega) (by omega) (bindX_one (K := K) rfl (by show ki.length ≤ 40; omega) hf40))
        have k2' := cellOn (c := (g2, _)) k2 (new_below wr (.cells #[.int .u8 (97 + (t : Int))] 5))
        have hxB : Hid (∀ w9 F9 c9 A9, ExIs w.heap.size w w9 xb [([120], K, false)] A9 F9 c9 → w9.cell? ⟨g2, o2 + i, none⟩ = some (tx ki)) := Lib.hid fun w9 F9 c9 A9 h9 => by
          obtain ⟨-, g', o', e', hc'⟩ := (hx.out.below h9.below).at_ i ki hxi
          cases e'
          exact hc'
        have stp := routeL_add K A ([120], [oct (97 + (t : Int))], ki) key hf40
        have alen := addL_len A ([120], [oct (97 + (t : Int))], ki)
        have hmax : Hid (∀ x ∈ routeL K A [120] key, x.length ≤ maxLen) := Lib.hid (route_small hE K [120] key)
        have hlen := route_len K A [120] key
        generalize (addL A ([120], [oct (97 + (t : Int))], ki)).1 = A' at *
        generalize oct (97 + (t : Int)) = y at *
        simp only at stp
        clear hR hzi hxi hE1 hE
        generalize routeL K A [120] key = m at *
        replace hu := Lib.hid hu
        replace stp := Lib.hid stp
        go_wp2_with fail
        refine cb.out.mono ?_
        rintro e w5 ⟨rfl, hE5⟩
        have k3 := hxB.out _ _ _ _ hE5
        have hu5 : Hid (ReadTs w5 (.slice au m.length cu) m) := Lib.hid (hE5.texts (F' := []) hu.out (List.Perm.refl _) hmax.out)
        replace hE5 := Lib.hid hE5
        clear cb hxB k2 k2' k1
        obtain ⟨D, hD⟩ : ∃ D, D = fitsK K key ([120], [y], ki) := ⟨_, rfl⟩
        rw [← hD] at stp
        replace hD := Lib.hid hD
        go_upto_region 18 with fail
        go_cut [14] (fun v wx => v = .bool D ∧ Below w5.heap.size w5 wx)
        case first =>
          have cm5 := Lib.hid (cm.out ki (by omega) w5)
          have rf : Below w5.heap.size w5 w5 := Below.refl _ _
          clear hu hu5 hE5 stp cm hmax
          rcases hK3.out with rfl | rfl | rfl
          · by_cases e : ki = key
            · subst e
              obtain rfl : D = true := by rw [hD.out, fits1]; simp
              clear hD cm5
              go_wp2_with fail
              all_goals
                go_meet
                case rel => exact ⟨by simp, rf⟩
            · have eB : (ki == key) = false := by simpa using e
              obtain rfl : D = false := by rw [hD.out, fits1]; exact eB
              clear hD cm5
              go_wp2_with fail
              all_goals
                go_meet
                case rel => exact ⟨by simp, rf⟩
          · obtain rfl : D = true := by rw [hD.out, fits2]
            clear hD cm5
            go_wp2_with fail
            all_goals
              go_meet
              case rel => exact ⟨by simp, rf⟩
          · rw [← (show D = gl (wordsL ki) (wordsL key) by rw [hD.out, fits3])] at cm5
            clear hD rf
            go_wp2_with fail
            refine cm5.out.mono ?_
            rintro e w6 ⟨rfl, hb6⟩
            replace hb6 := Lib.hid hb6
            clear cm5
            go_wp2_with fail
            all_goals
              go_meet
              case rel => exact ⟨by simp, hb6.out⟩
        case rest =>
          obtain ⟨rfl, hb6⟩ := hcut
          have hE6 := Lib.hid (hE5.out.grow hb6)
          have hu6 := Lib.hid (hu5.out.below hb6)
          clear hb6 hu5 hE5 k3 cm
          have hm20 : m.length ≤ 20 := by omega
          go_wp2_with fail
          go_loopg [14, 15] m.length (fun g v14 v15 wt => ∃ j : Nat, v15 = .int .i64 j ∧ j + g = m.length ∧ v14 = .bool (D && decide ([y] ∉ m.take j)) ∧ wt = wc)
          case atStart => exact ⟨0, rfl, by omega, by simp, rfl⟩
          case round =>
            obtain ⟨j, rfl, hj, rfl, rfl⟩ := hrel
            have hj0 : (0 : Int) ≤ j := by omega
            by_cases hltj : j < m.length
            · have hj1 : (j : Int) < m.length := by omega
              have hej : m[j]? = some m[j] := List.getElem?_eq_getElem hltj
              generalize m[j] = e at hej
              have nst := notin_step (y := [y]) hej
              obtain ⟨_, _, e6, ht6⟩ := hu6.out
              cases e6
              obtain ⟨-, g3, o3, rfl, r3⟩ := ht6.at_ j e hej
              have nx : Hid ((D && decide ([y] ∉ m.take (j + 1))) = ((D && decide ([y] ∉ m.take j)) && !(e == [y]))) := Lib.hid (by rw [nst, Bool.and_assoc])
              generalize (D && decide ([y] ∉ m.take j)) = d at *
              clear hej nst ht6 hu6 hE6 hu stp hD hmax
              cases d
              · have nx2 : Hid ((D && decide ([y] ∉ m.take (j + 1))) = false) := Lib.hid (by rw [nx.out]; rfl)
                clear nx
                go_wp2_with fail
                go_roundg (m.length - (j + 1))
                case measure => omega
                case rel => exact ⟨j + 1, by go_num, by omega, by rw [nx2.out], rfl⟩
              · by_cases ey : e = [y]
                · subst ey
                  have nx2 : Hid ((D && decide ([y] ∉ m.take (j + 1))) = false) := Lib.hid (by rw [nx.out]; simp)
                  clear nx
                  go_wp2_with fail
                  go_roundg (m.length - (j + 1))
                  case measure => omega
                  case rel => exact ⟨j + 1, by go_num, by omega, by rw [nx2.out], rfl⟩
                · have eB : (e == [y]) = false := by simpa using ey
                  have nx2 : Hid ((D && decide ([y] ∉ m.take (j + 1))) = true) := Lib.hid (by rw [nx.out, eB]; rfl)
                  clear nx
                  go_wp2_with fail
                  go_roundg (m.length - (j + 1))
                  case measure => omega
                  case rel => exact ⟨j + 1, by go_num, by omega, by rw [nx2.out]; try simp, rfl⟩
            · obtain rfl : j = m.length := by omega
              rw [List.take_of_length_le (Nat.le_refl _)]
              by_cases hin : (D && decide ([y] ∉ m)) = true
              · rw [hin]
                have hin2 : D = true ∧ [y] ∉ m := by simpa using hin
                obtain ⟨a6, cap6, W6, S6, hrun, hs6, hE7⟩ := hE6.out.push hu.out [y] (by omega)
                have nxt : Hid (RtAt w.heap.size w xb K key (i + 1) (.slice a6 (m.length + 1) cap6) W6) := Lib.hid ⟨A', S6, c + 50, by omega, by omega, by
                  rw [stp.out, if_pos hin2.1, onceS, if_neg hin2.2]
                  exact hs6, hE7⟩
                generalize m.length = q0 at *
                clear hu hu6 hE6 stp hD hin hin2 hs6 hE7 hmax
                go_wp2_with (at_builtin; refine wpList_append_go rfl (.tmp 115) (.tmp 117) 45 45 rfl _ _ rfl rfl hrun ?_)
                go_roundg (n1 - (i + 1))
                case measure => omega
                case rel => exact ⟨i + 1, by go_num, by omega, nxt⟩
              · have hinF : (D && decide ([y] ∉ m)) = false := by simpa using hin
                rw [hinF]
                have nxt : Hid (RtAt w.heap.size w xb K key (i + 1) (.slice au m.length cu) wr) := Lib.hid ⟨A', S, c + 50, by omega, by omega, by
                  have e : routeL K A' [120] key = m := by
                    rw [stp.out]
                    split
                    · rename_i hDt
                      rw [hDt, Bool.true_and] at hinF
                      exact once_in (by simpa using hinF)
                    · rfl
                  rw [e]
                  exact hu.out, hE6.out⟩
                generalize m.length = q0 at *
                clear hu hu6 hE6 stp hD hin hinF hmax
                go_wp2_with fail
                go_roundg (n1 - (i + 1))
                case measure => omega
                case rel => exact ⟨i + 1, by go_num, by omega, nxt⟩
      · have cr := Lib.hid (rou_is (n := [120]) (key := key) hE (by omega) (by omega) (routeX_one (K := K) (A := A)))
        have hsm := Lib.hid (route_small hE K [120] key)
        have hll := route_len K A [120] key
        generalize routeL K A [120] key = m at *
        have hm20 : m.length ≤ 20 := by omega
        replace hu := Lib.hid hu
        clear hE hR cm
        go_wp2_with fail
        refine cr.out.mono ?_
        rintro e w5 ⟨a5, cap5, S5, rfl, hu5, hE5⟩
        have cs := Lib.hid (sameTexts_true (hE5.texts (F' := S) hu5 List.perm_append_comm hsm.out) (hE5.texts (F' := S5) hu.out (List.Perm.refl _) hsm.out) (by omega))
        have fin := Lib.hid hE5.below
        have hbs := Lib.hid (show w.heap.size ≤ w5.heap.size from hE5.below.size)
        clear hu5 hE5 cr hu hsm
        generalize m.length = q0 at *
        go_wp2_with fail
        refine cs.out.mono ?_
        rintro e w6 ⟨rfl, hb6⟩
        replace fin := Lib.hid (fin.out.trans (hb6.mono hbs.out))
        clear hb6 cs
        go_wp2_with fail
        go_ret
        exact ⟨rfl, fin.out⟩
theorem routes13_row {kd : Int} {a1 a2 : Option Addr} {n1 n2 cap1 cap2 : Nat} {s : ByteArray} {w : World} (r0 : Read Tryz.prog w 5 [.int .u8 kd]) (r1 : Read Tryz.prog w 55 [.slice a1 n1 cap1]) (r2 : Read Tryz.prog w 45 [.slice a2 n2 cap2]) :
    Calls Tryz.prog 4 #[.int .u8 kd, .slice a1 n1 cap1, .slice a2 n2 cap2, .string s] w fun e w' => e = .returned (.bool true) ∧ Below w.heap.size w w' := by
  have u8 : Tryz.prog.underlying 5 = some (.int .u8) := by kernel_rfl
  obtain ⟨x, hx, wf⟩ := r0.int u8
  simp only [List.cons.injEq, Value.int.injEq, true_and, and_true] at hx
  subst hx
  obtain ⟨h1, h2⟩ := bounds_u8 wf
  obtain ⟨kd, rfl⟩ := Int.eq_ofNat_of_zero_le h1
  obtain ⟨rd, hr⟩ := r1.slice (by kernel_rfl : Tryz.prog.underlying 55 = some (.slice 5)) (by decide +kernel)
  obtain ⟨zs, hz⟩ := IntsAt.rows u8 (by kernel_rfl) hr
  obtain ⟨rd2, hr2⟩ := r2.slice (by kernel_rfl : Tryz.prog.underlying 45 = some (.slice 9)) (by decide +kernel)
  obtain ⟨xs, hxs⟩ := TextsAt.of hr2
  obtain ⟨⟨l⟩⟩ := s
  have hz0 : ∀ z ∈ zs, 0 ≤ z ∧ z ≤ 255 := fun z hz' => by
    obtain ⟨g1, g2⟩ := bounds_u8 (hz.wf z hz')
    omega
  exact routes_walk (key := l) (kd := kd) (by omega) hz hxs hz0
end Go.Proofs.YtoecaonmehbfeaaGreat
