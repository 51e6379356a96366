/- What is set in whatever order comes by time, of one time by its ID, each once. -/
import Derived.Test.YtldocgpnmfmnaaaDlM
import Derived.Test.YtldocgpnmfmnaaaArgs
namespace Go.Proofs.Ytldocgpnmfmnaaa
open Go.RowKit
set_option linter.unusedVariables false

/-! ### rows, as plain data -/
/-- The row of the IDs from j on, each at its time. -/
def FromJ (zs : List Int) (j : Nat) (L : List (Int × Int)) : Prop := ∀ x : Int × Int, x ∈ L ↔ ∃ i : Nat, j ≤ i ∧ zs[i]? = some x.1 ∧ x.2 = (i : Int)
theorem FromJ.start (zs : List Int) : FromJ zs zs.length [] := fun x => by
  refine ⟨fun h => (by cases h), ?_⟩
  rintro ⟨i, hi, h, -⟩
  rw [List.getElem?_eq_none (by omega)] at h
  cases h
theorem FromJ.free {zs : List Int} {j : Nat} {L : List (Int × Int)} (h : FromJ zs (j + 1) L) : ∀ x ∈ L, x.2 ≠ (j : Int) := fun x hx e => by
  obtain ⟨i, h1, _, h3⟩ := (h x).1 hx
  omega
theorem FromJ.step {zs : List Int} {j : Nat} {L : List (Int × Int)} {t : Int} (h : FromJ zs (j + 1) L) (ht : zs[j]? = some t) : FromJ zs j (setL j t L) := fun x => by
  unfold setL
  rw [del_free h.free, (ins_perm _ _).mem_iff, List.mem_cons, h x]
  constructor
  · rintro (rfl | ⟨i, h1, h2, h3⟩)
    · exact ⟨j, Nat.le_refl _, ht, rfl⟩
    · exact ⟨i, by omega, h2, h3⟩
  · rintro ⟨i, h1, h2, h3⟩
    rcases Nat.eq_or_lt_of_le h1 with rfl | h1
    · rw [ht] at h2
      cases h2
      exact .inl (Prod.ext rfl h3)
    · exact .inr ⟨i, h1, h2, h3⟩
theorem FromJ.len {zs : List Int} {j : Nat} {L : List (Int × Int)} {t : Int} (h : FromJ zs (j + 1) L) : (setL j t L).length = L.length + 1 := by
  unfold setL
  rw [del_free h.free, ins_len]

/-- What is left of it before the turn at now: n were taken, the last one was (last, id). -/
structure Left (zs : List Int) (K : Nat) (now : Nat) (L : List (Int × Int)) (n : Nat) (last id : Int) : Prop where
  here : ∀ x ∈ L, ∃ i : Nat, zs[i]? = some x.1 ∧ x.2 = (i : Int)
  cnt : n + L.length = zs.length
  late : ∀ x ∈ L, 0 < now → (now : Int) - K < x.1
  behind : ∀ x ∈ L, lt2 (last, id) x
  srt : Srt L

/-- .. inside a turn: i of those due were taken. -/
structure Within (zs : List Int) (K : Nat) (now : Nat) (D R : List (Int × Int)) (i : Nat) (n : Nat) (last id : Int) : Prop where
  cnt : n + (D.length - i) + R.length = zs.length
  behind : ∀ x ∈ D.drop i ++ R, lt2 (last, id) x

theorem due_split (L : List (Int × Int)) (now : Int) : dueL now L ++ restL now L = L := List.takeWhile_append_dropWhile
theorem due_le {L : List (Int × Int)} {now : Int} {x : Int × Int} (h : x ∈ dueL now L) : x.1 ≤ now := by
  unfold dueL at h
  have := List.all_takeWhile (l := L) (p := fun x => decide (x.1 ≤ now))
  rw [List.all_eq_true] at this
  simpa using this x h
theorem rest_gt {L : List (Int × Int)} {now : Int} (hs : Srt L) {x : Int × Int} (h : x ∈ restL now L) : now < x.1 := by
  unfold restL at h
  induction L with
  | nil => cases h
  | cons y L ih =>
    obtain ⟨h1, h2⟩ := List.pairwise_cons.1 hs
    by_cases hy : y.1 ≤ now
    · rw [List.dropWhile_cons_of_pos (by simpa using hy)] at h
      exact ih h2 h
    · rw [List.dropWhile_cons_of_neg (by simpa using hy)] at h
      rcases List.mem_cons.1 h with rfl | h
      · omega
      · have := h1 x h
        unfold lt2 at this
        omega

section
variable {zs : List Int} {K now n i : Nat} {L D R : List (Int × Int)} {last id : Int}
theorem Left.within (h : Left zs K now L n last id) : Within zs K now (dueL now L) (restL now L) 0 n last id := by
  have hs := due_split L now
  have hl := congrArg List.length hs
  rw [List.length_append] at hl
  refine ⟨?_, ?_⟩
  · have := h.cnt; omega
  · rw [List.drop_zero, hs]; exact h.behind
theorem Within.step (h : Within zs K now (dueL now L) (restL now L) i n last id) (hs : Srt L) {x : Int × Int} (hx : (dueL now L)[i]? = some x) : Within zs K now (dueL now L) (restL now L) (i + 1) (n + 1) x.1 x.2 := by
  obtain ⟨hlt, he⟩ := List.getElem?_eq_some_iff.1 hx
  refine ⟨by have := h.cnt; omega, fun y hy => ?_⟩
  have h1 : (dueL now L).drop i ++ restL now L = x :: ((dueL now L).drop (i + 1) ++ restL now L) := by
    rw [List.drop_eq_getElem_cons hlt, he]; rfl
  have h2 : Srt ((dueL now L).drop i ++ restL now L) := by
    have : Srt (dueL now L ++ restL now L) := by rw [due_split]; exact hs
    refine List.Pairwise.sublist ?_ this
    exact (List.drop_sublist _ _).append (List.Sublist.refl _)
  rw [h1] at h2
  exact (List.pairwise_cons.1 h2).1 y hy
theorem Within.out (h : Within zs K now (dueL now L) (restL now L) (dueL now L).length n last id) (h0 : ∀ x ∈ L, ∃ i : Nat, zs[i]? = some x.1 ∧ x.2 = (i : Int)) (hs : Srt L) :
    Left zs K (now + K) (restL now L) n last id := by
  have hsub : ∀ x ∈ restL now L, x ∈ L := fun x hx => by rw [← due_split L now]; exact List.mem_append_right _ hx
  refine ⟨fun x hx => h0 x (hsub x hx), by have := h.cnt; omega, fun x hx _ => ?_, fun x hx => h.behind x (List.mem_append_right _ hx), ?_⟩
  · have := rest_gt hs hx
    omega
  · have : Srt (dueL now L ++ restL now L) := by rw [due_split]; exact hs
    exact List.Pairwise.sublist (List.sublist_append_right _ _) this
/-- What the law asks of each that is due. -/
theorem Within.asks (h : Within zs K now (dueL now L) (restL now L) i n last id) {n0 : Nat} {l0 i0 : Int} (hL : Left zs K now L n0 l0 i0) {x : Int × Int} (hx : (dueL now L)[i]? = some x) :
    ∃ j : Nat, zs[j]? = some x.1 ∧ x.2 = (j : Int) ∧ x.1 ≤ now ∧ (0 < now → (now : Int) - K < x.1) ∧ (last < x.1 ∨ (last = x.1 ∧ id < x.2)) := by
  obtain ⟨hlt, he⟩ := List.getElem?_eq_some_iff.1 hx
  have hm : x ∈ dueL now L := List.mem_of_getElem? hx
  have hmL : x ∈ L := by rw [← due_split L now]; exact List.mem_append_left _ hm
  obtain ⟨j, h1, h2⟩ := hL.here x hmL
  refine ⟨j, h1, h2, due_le hm, fun h => hL.late x hmL h, ?_⟩
  have := h.behind x (List.mem_append_left _ (by rw [List.drop_eq_getElem_cons hlt, he]; exact List.mem_cons_self))
  exact this
theorem Left.end_ (h : Left zs K now L n last id) (hz : ∀ z ∈ zs, z ≤ 255) (hK : K ≤ 40) (hn : 300 ≤ now) : L = [] ∧ n = zs.length := by
  have h0 : L = [] := by
    cases L with
    | nil => rfl
    | cons x L =>
      exfalso
      obtain ⟨i, h1, h2⟩ := h.here x List.mem_cons_self
      have h3 := hz _ (List.mem_of_getElem? h1)
      have h4 := h.late x List.mem_cons_self (by omega)
      omega
  subst h0
  have := h.cnt
  simp at this
  exact ⟨rfl, this⟩
end

set_option maxHeartbeats 8000000 in
set_option maxRecDepth 100000 in
theorem orders_walk (a : Option Addr) (len cap : Nat) (zs : List Int) (o : Int) (w : World) (hz : IntsAt .u8 w a len zs) (w1 : (Lit.int .u8 o).wf = true) :
    Calls Try.prog 5 #[.slice a len cap, .int .u8 o] w fun e w' => e = .returned (.bool true) ∧ Below w.heap.size w w' := by
  have hk := Lib.hid (known5_true w)
  obtain ⟨o1, o2⟩ := bounds_u8 w1
  clear w1
  have hzl := hz.size
  have htop := hz.top
  have hlm : (len : Int) ≤ 9223372036854775807 := by unfold maxLen at htop; omega
  clear htop
  by_cases h50 : 50 < len
  · have h50' : (50 : Int) < len := by omega
    clear hz
    go_enter Try.func5, Try.ntmps5
    go_wp2_with fail
    refine hk.out.mono ?_
    rintro e w2 ⟨rfl, hb⟩
    replace hb := Lib.hid hb
    go_wp2_with fail
    go_ret
    exact ⟨rfl, hb.out⟩
  have hl50 : (len : Int) ≤ 50 := by omega
  obtain ⟨K0, hK0⟩ : ∃ K0 : Nat, o % 40 = K0 := ⟨(o % 40).toNat, by omega⟩
  have K1 : (K0 : Int) < 40 := by omega
  have K2 : (0 : Int) ≤ K0 := by omega
  replace hK0 := Lib.hid hK0
  replace hz := Lib.hid hz
  go_enter Try.func5, Try.ntmps5
  go_wp2_with fail
  refine hk.out.mono ?_
  rintro e w2 ⟨rfl, hb⟩
  replace hb := Lib.hid hb
  have cn := Lib.hid (dl_new (St.start w2))
  clear hk
  go_wp2_with fail
  refine cn.out.mono ?_
  rintro e w3 ⟨db, rfl, h3⟩
  replace h3 := Lib.hid h3
  clear cn
  go_wp2_with fail
  go_loopg [6] (len + 1) (fun g v6 wr => ∃ (j : Nat) (L : List (Int × Int)), v6 = .int .i64 ((j : Int) - 1) ∧ j + 1 = g ∧ j ≤ len ∧ Hid (FromJ zs j L) ∧ Hid (L.length + j = len ∧ DialIs w2.heap.size w2 wr db L []))
  case atStart => exact ⟨len, [], by go_num, rfl, Nat.le_refl _, Lib.hid (hzl ▸ FromJ.start zs), Lib.hid ⟨by simp, h3.out⟩⟩
  case round =>
    clear h3
    obtain ⟨j, L, rfl, hj, hjl, hF, hD⟩ := hrel
    rcases Nat.eq_zero_or_pos j with rfl | hj0
    · obtain ⟨hlen, h4⟩ := hD.out
      have hleft : Hid (Left zs (K0 + 1) 0 L 0 (-1) (-1) ∧ DialIs w2.heap.size w2 wr db L []) := by
        refine Lib.hid ⟨⟨fun x hx => ?_, by omega, fun x hx h => absurd h (by decide), fun x hx => ?_, h4.srt⟩, h4⟩
        · obtain ⟨i, _, h1, h2⟩ := (hF.out x).1 hx
          exact ⟨i, h1, h2⟩
        · obtain ⟨i, _, h1, h2⟩ := (hF.out x).1 hx
          have := (bounds_u8 (hz.out.wf _ (List.mem_of_getElem? h1))).1
          unfold lt2
          simp only
          omega
      clear hD h4 hF hlen hj hjl
      go_wp2_with fail
      simp only [hK0.out]
      clear hK0
      go_loopg [11, 8, 9, 10] 340 (fun g v11 v8 v9 v10 wt => ∃ (now n : Nat) (last id : Int) (L : List (Int × Int)), v11 = .int .i64 now ∧ v8 = .int .i64 n ∧ v9 = .int .i64 last ∧ v10 = .int .i64 id ∧ now + g = 340 ∧ Hid (Left zs (K0 + 1) now L n last id) ∧ Hid (DialIs w2.heap.size w2 wt db L []))
      case atStart => exact ⟨0, 0, -1, -1, L, rfl, rfl, rfl, rfl, rfl, Lib.hid hleft.out.1, Lib.hid hleft.out.2⟩
      case round =>
        clear hleft
        obtain ⟨now, n, last, id, L, rfl, rfl, rfl, rfl, hg, hleft, h4⟩ := hrel
        by_cases hnow : now < 300
        · have hn3 : (now : Int) < 300 := by omega
          have hn0 : (0 : Int) ≤ now := by omega
          go_wp2_with fail
          refine (dial_due h4.out now ⟨by omega, by omega⟩ rfl rfl).mono ?_
          rintro e w5 ⟨v, S, rfl, ⟨a7, cap7, rfl, hr⟩, -, h5⟩
          have hbw := hb.out.trans (h5.below.mono hb.out.size)
          have hcell : ∀ i x, (dueL now L)[i]? = some x → ∃ b off, a7 = some ⟨b, off, none⟩ ∧ w5.cell? ⟨b, off + i, none⟩ = some (.int .i64 x.2) := fun i x hx => hr i x.2 (by simp [hx])
          have htime : ∀ (j : Nat) z, zs[j]? = some z → ∃ b off, a = some ⟨b, off, none⟩ ∧ w5.cell? ⟨b, off + j, none⟩ = some (.int .u8 z) := fun j z hx => (hz.out.below hbw).at_ j z hx
          have hwi : Hid (Within zs (K0 + 1) now (dueL now L) (restL now L) 0 n last id) := Lib.hid hleft.out.within
          replace hcell := Lib.hid hcell
          replace htime := Lib.hid htime
          have h6 := Lib.hid h5.rest
          clear h4 h5 hr hbw
          simp only [List.length_map]
          go_wp2_with fail
          go_loopg [13, 8, 9, 10] (dueL now L).length (fun g v13 v8 v9 v10 wi => ∃ (i n : Nat) (last id : Int), v13 = .int .i64 i ∧ v8 = .int .i64 n ∧ v9 = .int .i64 last ∧ v10 = .int .i64 id ∧ i + g = (dueL now L).length ∧ Hid (Within zs (K0 + 1) now (dueL now L) (restL now L) i n last id) ∧ ∃ m, wi = w5.drewN m)
          case atStart => exact ⟨0, n, last, id, rfl, rfl, rfl, rfl, by omega, hwi, 0, rfl⟩
          case round =>
            clear hwi
            obtain ⟨i, n, last, id, rfl, rfl, rfl, rfl, hi, hwi, m, rfl⟩ := hrel
            by_cases hlt : i < (dueL now L).length
            · have hx : (dueL now L)[i]? = some (dueL now L)[i] := List.getElem?_eq_getElem hlt
              generalize (dueL now L)[i] = x at hx
              obtain ⟨x1, x2⟩ := x
              obtain ⟨j, q1, q2, q3, q4, q5⟩ := hwi.out.asks hleft.out hx
              have hnext := Lib.hid (hwi.out.step hleft.out.srt hx)
              simp only at q1 q2 q3 q4 q5 hnext
              subst q2
              obtain ⟨z0, z1⟩ := bounds_u8 (hz.out.wf x1 (List.mem_of_getElem? q1))
              obtain ⟨b7, off7, rfl, c7⟩ := hcell.out i _ hx
              obtain ⟨b8, off8, rfl, c8⟩ := htime.out j x1 q1
              simp only at c7
              have hjl : j < zs.length := (List.getElem?_eq_some_iff.1 q1).1
              have hj1 : (j : Int) < len := by omega
              have hj0 : (0 : Int) ≤ j := by omega
              have hi1 : (i : Int) < (dueL now L).length := by omega
              have hi0 : (0 : Int) ≤ i := by omega
              have q6 : (now : Int) - ((K0 : Int) + 1) < x1 := by
                rcases Nat.eq_zero_or_pos now with h | h
                · omega
                · have := q4 h
                  omega
              have q7 : last ≤ x1 := by omega
              have hn50 : (n : Int) ≤ 50 := by have := hwi.out.cnt; omega
              have hn00 : (0 : Int) ≤ n := by omega
              have hi50 : (i : Int) ≤ 50 := by
                have h1 := congrArg List.length (due_split L now)
                rw [List.length_append] at h1
                have h2 := hleft.out.cnt
                omega
              clear q1 q4 hx hjl hwi h6 hlt
              generalize hdl : (dueL now L).length = dl at *
              rcases q5 with q5 | ⟨rfl, q5⟩
              · have q8 : (x1 == last) = false := by rw [beq_eq_false_iff_ne]; omega
                clear hdl
                go_wp2_with fail
                go_quiet (fail)
                go_wp2_with fail
                go_roundg (dl - (i + 1))
                case measure => omega
                case rel => exact ⟨i + 1, n + 1, x1, j, by go_num, by go_num, rfl, rfl, by omega, hnext, _, rfl⟩
              · clear hdl
                go_wp2_with fail
                go_quiet (fail)
                go_wp2_with fail
                go_roundg (dl - (i + 1))
                case measure => omega
                case rel => exact ⟨i + 1, n + 1, _, j, by go_num, by go_num, rfl, rfl, by omega, hnext, _, rfl⟩
            · obtain rfl : i = (dueL now L).length := by omega
              have hout := Lib.hid (hwi.out.out hleft.out.here hleft.out.srt)
              have h7 := Lib.hid (h6.out.drewN m)
              have hgl : (((dueL now L).length : Nat) : Int) < ((dueL now L).length : Nat) ↔ False := by simp
              clear hwi hleft hcell htime hgl
              generalize (dueL now L).length = dl at *
              generalize restL now L = R at *
              go_wp2_with fail
              go_roundg (340 - (now + (K0 + 1)))
              case measure => omega
              case rel => exact ⟨now + (K0 + 1), n, last, id, R, by go_num, rfl, rfl, rfl, by omega, hout, h7⟩
        · obtain ⟨e1, e2⟩ := hleft.out.end_ (fun z hz' => (bounds_u8 (hz.out.wf z hz')).2) (by omega) (by omega)
          subst e1
          have cl := Lib.hid (dl_len h4.out)
          have fin := Lib.hid (hb.out.trans (h4.out.below.mono hb.out.size))
          have e3 : (n : Int) = len := by omega
          have hn300 : (300 : Int) ≤ now := by omega
          clear hleft h4 e2
          go_wp2_with fail
          refine cl.out.mono ?_
          rintro e w8 ⟨rfl, rfl⟩
          go_wp2_with fail
          go_ret
          exact ⟨rfl, fin.out⟩
    · obtain ⟨i, rfl⟩ : ∃ i, j = i + 1 := ⟨j - 1, by omega⟩
      have e0 : ((i + 1 : Nat) : Int) - 1 = i := by omega
      simp only [e0]
      clear e0
      obtain ⟨hlen, h4⟩ := hD.out
      have hi : i < zs.length := by omega
      have hx : zs[i]? = some zs[i] := List.getElem?_eq_getElem hi
      generalize zs[i] = z at hx
      obtain ⟨z0, z1⟩ := bounds_u8 (hz.out.wf z (List.mem_of_getElem? hx))
      obtain ⟨bb, off, rfl, cz⟩ := (hz.out.below (hb.out.trans (h4.below.mono hb.out.size))).at_ i z hx
      have cs := Lib.hid (dial_set h4 (i : Int) z ⟨by omega, by omega⟩ (by omega) rfl)
      have fin : Hid (FromJ zs i (setL i z L) ∧ (setL i z L).length + i = len) := Lib.hid ⟨hF.out.step hx, by rw [hF.out.len]; omega⟩
      have hi0 : (0 : Int) ≤ i := by omega
      have hi1 : (i : Int) < len := by omega
      generalize setL (i : Int) z L = L2 at *
      clear hD h4 hF hlen hx hi hj0
      go_wp2_with fail
      refine cs.out.mono ?_
      rintro e w4 ⟨rfl, h5⟩
      replace h5 := Lib.hid h5
      clear cs
      go_wp2_with fail
      go_roundg (i + 1)
      case measure => omega
      case rel => exact ⟨i, L2, by go_num, rfl, by omega, Lib.hid fin.out.1, Lib.hid ⟨fin.out.2, h5.out⟩⟩
theorem orders_row {a : Option Addr} {len cap : Nat} {zs : List Int} {o : Int} {w : World} (h : IntsAt .u8 w a len zs) (w1 : (Lit.int .u8 o).wf = true) :
    Calls Try.prog 5 #[.slice a len cap, .int .u8 o] w fun e w' => e = .returned (.bool true) ∧ Below w.heap.size w w' := orders_walk a len cap zs o w h w1
end Go.Proofs.Ytldocgpnmfmnaaa
