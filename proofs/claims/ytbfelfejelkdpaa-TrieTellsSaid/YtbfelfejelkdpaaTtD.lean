/- TrieTells: a round's calls. -/
import Derived.Test.YtbfelfejelkdpaaTtC
import Derived.Test.YtbfelfejelkdpaaTrU
namespace Go.Proofs.Ytbfelfejelkdpaa
open Go.RowKit
set_option linter.unusedVariables false
set_option linter.unusedSectionVars false
set_option linter.unusedSimpArgs false
set_option maxRecDepth 100000

section
variable {B : Nat} {w0 w : World} {S F : List (Nat × Obj)} {a : Option Addr} {c tb cc xb j : Nat} {L : List Tp} {p : List UInt8} {z : Int} {d : Bool}
theorem cells12 {k : Nat} {cs : Array Value} {U : TypeId} {M : Prs} (h : TrIs B w0 w tb M ((k, .cells cs U) :: F) c) {i : Nat} {v : Value} (hi : cs[i]? = some v) : w.cell? ⟨k, i, none⟩ = some v := by
  obtain ⟨O, h1, -⟩ := h.beside
  exact h1.cell (b := k) (List.mem_append_right _ List.mem_cons_self) hi
theorem x12 {M : Prs} (h : TrIs B w0 w tb M ((xb, stO12 d p z) :: S) c) : w.cell? ⟨xb, 0, none⟩ = some (.bool d) ∧ w.cell? ⟨xb, 1, none⟩ = some (tx p) ∧ w.cell? ⟨xb, 2, none⟩ = some (.int .i64 z) := ⟨cells12 h rfl, cells12 h rfl, cells12 h rfl⟩
theorem tps_rows {M : Prs} {x : Nat × Obj} (h : TrIs B w0 w tb M (x :: S) c) (hs : TpsIs (.slice a L.length cc) L S) : ReadTp w a L := by
  obtain ⟨O, h1, -⟩ := h.beside
  exact TpsIs.read (X := O) hs (h1.sub ((List.Sublist.refl _).append (List.sublist_cons_self _ _)))
theorem drop_no (h : TrIs B w0 w tb (L.map wd) F c) (hx : (p, z) ∉ L) (hp : p.length ≤ 40) (hc : c ≤ 10000) (hL : L.length ≤ 40) :
    Calls Try.prog 8 #[np tb, tx p, .int .i64 z] w fun e w' => e = .returned (.bool false) ∧ TrIs B w0 w' tb (L.map wd) F c := by
  refine (tdrop_any h p z (by omega) (by omega) (by rw [List.length_map]; omega)).mono ?_
  rintro e w' ⟨rfl, h⟩
  have e1 : decide ((wordsL p, z) ∈ L.map wd) = false := by
    rw [show (wordsL p, z) = wd (p, z) from rfl, in_wd]
    exact decide_eq_false hx
  rw [e1]
  rw [show (wordsL p, z) = wd (p, z) from rfl, cut_wd, show cutT L (p, z) = L from List.filter_eq_self.2 fun y hy => decide_eq_true fun e => hx (e ▸ hy)] at h
  exact ⟨rfl, h⟩
theorem drop_yes (h : TrIs B w0 w tb (L.map wd) F c) (hn : L.Nodup) (hx : L[j]? = some (p, z)) (hp : p.length ≤ 40) (hc : c ≤ 10000) (hL : L.length ≤ 40) :
    Calls Try.prog 8 #[np tb, tx p, .int .i64 z] w fun e w' => e = .returned (.bool true) ∧ TrIs B w0 w' tb ((L.take j ++ L.drop (j + 1)).map wd) F c := by
  refine (tdrop_any h p z (by omega) (by omega) (by rw [List.length_map]; omega)).mono ?_
  rintro e w' ⟨rfl, h⟩
  have e1 : decide ((wordsL p, z) ∈ L.map wd) = true := by
    rw [show (wordsL p, z) = wd (p, z) from rfl, in_wd]
    exact decide_eq_true (List.mem_of_getElem? hx)
  rw [e1]
  rw [show (wordsL p, z) = wd (p, z) from rfl, cut_wd, cutT_at hn hx] at h
  exact ⟨rfl, h⟩
theorem add_old (h : TrIs B w0 w tb (L.map wd) F c) (hx : L[j]? = some (p, z)) (hp : p.length ≤ 40) (hc : c ≤ 10000) (hL : L.length ≤ 40) :
    Calls Try.prog 9 #[np tb, tx p, .int .i64 z] w fun e w' => e = .returned (.tuple #[]) ∧ TrIs B w0 w' tb (L.map wd) F (c + 42) := by
  refine (add_any h p z (by omega) (by omega) (by rw [List.length_map]; omega)).mono ?_
  rintro e w' ⟨rfl, h⟩
  rw [show (wordsL p, z) = wd (p, z) from rfl, add_wd, show addT L (p, z) = L from if_pos (List.mem_of_getElem? hx)] at h
  exact ⟨rfl, h.mono (by have := words_len p; omega)⟩
theorem add_new (h : TrIs B w0 w tb (L.map wd) F c) (hx : (p, z) ∉ L) (hp : p.length ≤ 40) (hc : c ≤ 10000) (hL : L.length ≤ 40) :
    Calls Try.prog 9 #[np tb, tx p, .int .i64 z] w fun e w' => e = .returned (.tuple #[]) ∧ TrIs B w0 w' tb ((L ++ [(p, z)]).map wd) F (c + 42) := by
  refine (add_any h p z (by omega) (by omega) (by rw [List.length_map]; omega)).mono ?_
  rintro e w' ⟨rfl, h⟩
  rw [show (wordsL p, z) = wd (p, z) from rfl, add_wd, show addT L (p, z) = L ++ [(p, z)] from if_neg hx] at h
  exact ⟨rfl, h.mono (by have := words_len p; omega)⟩
theorem tlen_is (h : TrIs B w0 w tb (L.map wd) F c) : Calls Try.prog 10 #[np tb] w fun e w' => e = .returned (.int .i64 L.length) ∧ w' = w := by
  have := len_any h
  rwa [List.length_map] at this
/-- The list cut: beside the trie. -/
theorem cut12 {M : Prs} (hs : TpsIs (.slice a L.length cc) L S) (hj : j < L.length) (hl : L.length ≤ 40) :
    ∃ a1 c1 a2 n2 c2, (∀ w, (Instr.slice 22 (.slice a L.length cc) none (some (.int .i64 j)) none).run Try.prog w = .ok (.slice a1 j c1) w) ∧
      (∀ w, (Instr.slice 22 (.slice a L.length cc) (some (.int .i64 (j + 1))) none none).run Try.prog w = .ok (.slice a2 n2 c2) w) ∧
      ∀ w, TrIs B w0 w tb M ((xb, stO12 d p z) :: S) c → ∃ a3 c3 W1, AppRun Try.prog 22 (.slice none 0 0) (.slice a1 j c1) w (.slice a3 j c3) W1 ∧
        ∃ a4 c4 W2 S', AppRun Try.prog 22 (.slice a3 j c3) (.slice a2 n2 c2) W1 (.slice a4 (L.take j ++ L.drop (j + 1)).length c4) W2 ∧
          TpsIs (.slice a4 (L.take j ++ L.drop (j + 1)).length c4) (L.take j ++ L.drop (j + 1)) S' ∧ TrIs B w0 W2 tb M S' c := by
  obtain ⟨a1, c1, a2, n2, c2, r1, r2, -⟩ := tps_cut (B := B) (w0 := w0) (X := []) hs hj (by omega)
  refine ⟨a1, c1, a2, n2, c2, r1, r2, fun w h => ?_⟩
  obtain ⟨O, h1, back⟩ := h.beside
  obtain ⟨a1', c1', a2', n2', c2', r1', r2', ap⟩ := tps_cut (B := B) (w0 := w0) (X := O) hs hj (by omega)
  have e1 := (r1 w).symm.trans (r1' w)
  have e2 := (r2 w).symm.trans (r2' w)
  simp only [Result.ok.injEq, Value.slice.injEq, and_true, true_and] at e1 e2
  obtain ⟨rfl, rfl⟩ := e1
  obtain ⟨rfl, rfl, rfl⟩ := e2
  obtain ⟨a3, c3, W1, q1, a4, c4, W2, S', q2, q3, q4⟩ := ap w (h1.sub ((List.Sublist.refl _).append (List.sublist_cons_self _ _)))
  exact ⟨a3, c3, W1, q1, a4, c4, W2, S', q2, q3, back _ _ q4⟩
/-- One put behind: beside the trie. -/
theorem push12 {M : Prs} (hs : TpsIs (.slice a L.length cc) L S) (hl : L.length ≤ 40) (h : TrIs B w0 w tb M ((xb, stO12 d p z) :: S) c) :
    ∃ a' c' W S', (Builtin.append_ #[22, 22] 0 #[.slice a L.length cc, .slice (some ⟨w.heap.size, 0, none⟩) 1 1]).run Try.prog (w.alloc (stO12 false p z)) = .ok (.slice a' (L ++ [(p, z)]).length c') W ∧
      TpsIs (.slice a' (L ++ [(p, z)]).length c') (L ++ [(p, z)]) S' ∧ TrIs B w0 W tb M S' c := by
  obtain ⟨O, h1, back⟩ := h.beside
  obtain ⟨a', c', W, S', q1, q2, q3⟩ := tps_push (X := O) hs (h1.sub ((List.Sublist.refl _).append (List.sublist_cons_self _ _))) p z (by omega)
  exact ⟨a', c', W, S', q1, q2, back _ _ q3⟩
end
theorem ReadInts.below {w w' : World} {v : Value} {l : List Int} (h : ReadInts w v l) (hb : Below w.heap.size w w') : ReadInts w' v l := by
  obtain ⟨a, cap, rfl, h⟩ := h
  refine ⟨a, cap, rfl, fun i x hx => ?_⟩
  obtain ⟨b, off, e, hc⟩ := h i x hx
  exact ⟨b, off, e, cellUp hc hb⟩
theorem answers12 {w0 : World} {S : List (Nat × Obj)} {a : Option Addr} {c tb cc kb ko : Nat} {L : List Tp} {key : List UInt8} (hs : TpsIs (.slice a L.length cc) L S) (hL : L.length ≤ 40) (hp : ∀ s ∈ L, s.1.length ≤ 40) (hk : key.length ≤ 40) (hc : c ≤ 10000)
    (hy : w0.cell? ⟨kb, ko, none⟩ = some (tx key)) :
    ∃ R : List Int, (∀ w, TrIs w0.heap.size w0 w tb (L.map wd) S c → Calls Try.prog 12 #[np tb, tx key] w fun e w' => ∃ v, e = .returned v ∧ TrIs w0.heap.size w0 w' tb (L.map wd) S c ∧ ReadInts w' v R ∧ w'.cell? ⟨kb, ko, none⟩ = some (tx key)) ∧
      (∀ w v, TrIs w0.heap.size w0 w tb (L.map wd) S c → ReadInts w v R → Calls Try.prog 13 #[.slice a L.length cc, tx key] w fun e w' => ∃ u, e = .returned u ∧ TrIs w0.heap.size w0 w' tb (L.map wd) S c ∧ ReadInts w' v R ∧ ReadInts w' u R ∧ R.length ≤ 40 ∧ w'.cell? ⟨kb, ko, none⟩ = some (tx key)) ∧
      (∀ w v u, TrIs w0.heap.size w0 w tb (L.map wd) S c → ReadInts w v R → ReadInts w u R → R.length ≤ 40 → Calls Try.prog 11 #[v, u] w fun e w' => e = .returned (.bool true) ∧ TrIs w0.heap.size w0 w' tb (L.map wd) S c ∧ w'.cell? ⟨kb, ko, none⟩ = some (tx key)) := by
  obtain ⟨r1, r2⟩ := onceI (hits (L.map wd) (wordsL key))
  refine ⟨Lib.compact (sortL (hits (L.map wd) (wordsL key))), fun w hw => ?_, fun w v hw hv => ?_, fun w v u hw hv hu hR => ?_⟩
  · refine (match_is rfl r1 r2 hw (by omega) (by omega)).mono ?_
    rintro e w' ⟨v, S1, rfl, hs1, h2⟩
    have h3 := h2.sub (List.sublist_append_right S1 S)
    exact ⟨v, rfl, h3, h2.ints hs1, cellUp hy h3.below⟩
  · have hrd : ReadTp w a L := by
      obtain ⟨O, h1, -⟩ := hw.beside
      exact TpsIs.read (X := O) hs h1
    refine (matched_any hrd hL hp hk).mono ?_
    rintro e w' ⟨u, out, S2, rfl, hf, hs2, hst⟩
    have hb := hst.below
    have eo : out = Lib.compact (sortL (hits (L.map wd) (wordsL key))) := rises_eq hf.1 r1 fun x => by rw [hf.last, r2]
    rw [← eo]
    rw [← eo] at hv
    have h3 := hw.grow hb
    refine ⟨u, rfl, h3, hv.below hb, SlIs.readInts (A := []) hs2 hst, ?_, cellUp hy h3.below⟩
    have := hf.2.1
    omega
  · refine (sameInts_true hv hu (by omega)).mono ?_
    rintro e w' ⟨rfl, n, rfl⟩
    have h3 := hw.grow (drewN_below w n)
    exact ⟨rfl, h3, cellUp hy h3.below⟩
/-- What the list keeps to. -/
def Kept12 (L : List Tp) (i : Nat) : Prop := L.Nodup ∧ L.length ≤ i ∧ ∀ s ∈ L, s.1.length ≤ 40
section
variable {L : List Tp} {p : List UInt8} {z : Int} {i j : Nat}
theorem Kept12.start : Kept12 [] 0 := ⟨List.nodup_nil, by simp, by simp⟩
theorem Kept12.same (h : Kept12 L i) : Kept12 L (i + 1) := ⟨h.1, by have := h.2.1; omega, h.2.2⟩
theorem Kept12.push (h : Kept12 L i) (hx : (p, z) ∉ L) (hp : p.length ≤ 40) : Kept12 (L ++ [(p, z)]) (i + 1) := by
  refine ⟨?_, by have := h.2.1; rw [List.length_append, List.length_singleton]; omega, fun s hs => ?_⟩
  · have := addT_nodup (x := (p, z)) h.1
    rwa [show addT L (p, z) = L ++ [(p, z)] from if_neg hx] at this
  · rw [List.mem_append, List.mem_singleton] at hs
    rcases hs with hs | rfl
    · exact h.2.2 s hs
    · exact hp
theorem Kept12.cut (h : Kept12 L i) (hx : L[j]? = some (p, z)) : Kept12 (L.take j ++ L.drop (j + 1)) (i + 1) := by
  rw [← cutT_at h.1 hx]
  refine ⟨cutT_nodup h.1, ?_, fun s hs => h.2.2 s (List.mem_filter.1 hs).1⟩
  exact Nat.le_trans (List.length_filter_le _ L) (Nat.le_trans h.2.1 (Nat.le_succ i))
end
end Go.Proofs.Ytbfelfejelkdpaa
