/- A trie: its answers written out; the law's own known. -/
import Derived.Test.YtbfelfejelkdpaaTrM
import Derived.Test.YtbfelfejelkdpaaSame
namespace Go.Proofs.Ytbfelfejelkdpaa
open Go.RowKit
open Go.ChangeMaps (setBlock)
set_option linter.unusedVariables false
set_option linter.unusedSectionVars false
set_option linter.unusedSimpArgs false
set_option maxRecDepth 100000

/-- The ids of the pairs that match. -/
def hits (M : Prs) (P : Wds) : List Int := (M.filter fun x => gl x.1 P).map (·.2)
theorem mem_hits {M : Prs} {P : Wds} {k : Int} : k ∈ hits M P ↔ ∃ p, (p, k) ∈ M ∧ gl p P = true := by
  unfold hits
  simp only [List.mem_map, List.mem_filter]
  constructor
  · rintro ⟨⟨p, k⟩, ⟨h1, h2⟩, rfl⟩
    exact ⟨p, h1, h2⟩
  · rintro ⟨p, h1, h2⟩
    exact ⟨(p, k), ⟨h1, h2⟩, rfl⟩
section
variable {B : Nat} {w0 w : World} {F S : List (Nat × Obj)} {tb c : Nat} {M : Prs} {l : List UInt8} {P : Wds}
theorem add_is {M' : Prs} {c' : Nat} {k : Int} (hP : wordsL l = P) (hM' : addM M (P, k) = M') (hc' : c + P.length + 1 ≤ c') (h : TrIs B w0 w tb M F c) (hl : l.length ≤ 1000) (hc : c ≤ 700000) (hM : M.length ≤ 100000) :
    Calls Try.prog 9 #[np tb, tx l, .int .i64 k] w fun e w' => e = .returned (.tuple #[]) ∧ TrIs B w0 w' tb M' F c' := by
  refine (add_any h l k hl hc hM).mono ?_
  rintro e w' ⟨rfl, h⟩
  rw [hP] at h
  rw [hM'] at h
  exact ⟨rfl, h.mono hc'⟩
theorem tdrop_is {M' : Prs} {k : Int} {b : Bool} (hP : wordsL l = P) (hM' : cutM M (P, k) = M') (hb : decide ((P, k) ∈ M) = b) (h : TrIs B w0 w tb M F c) (hl : l.length ≤ 1000) (hc : c ≤ 700000) (hM : M.length ≤ 100000) :
    Calls Try.prog 8 #[np tb, tx l, .int .i64 k] w fun e w' => e = .returned (.bool b) ∧ TrIs B w0 w' tb M' F c := by
  refine (tdrop_any h l k hl hc hM).mono ?_
  rintro e w' ⟨rfl, h⟩
  rw [hP, hM'] at h
  rw [hP, hb]
  exact ⟨rfl, h⟩
theorem match_is {l2 : List Int} (hP : wordsL l = P) (h2 : Rises1 l2) (hm : ∀ k, k ∈ l2 ↔ k ∈ hits M P) (h : TrIs B w0 w tb M F c) (hl : l.length ≤ 1000) (hc : c ≤ 700000) :
    Calls Try.prog 12 #[np tb, tx l] w fun e w' => ∃ v S, e = .returned v ∧ SlIs 3 1 v l2.length (l2.map encI) S ∧ TrIs B w0 w' tb M (S ++ F) c := by
  refine (match_any h l hl hc).mono ?_
  rintro e w' ⟨v, l3, S, rfl, h3, h4, h5, h6⟩
  have e : l3 = l2 := rises_eq h4 h2 fun k => by rw [h5, hP, hm, mem_hits]
  subst e
  exact ⟨v, S, rfl, h3, h6⟩
theorem TrIs.ints {v : Value} {l2 : List Int} (h : TrIs B w0 w tb M (S ++ F) c) (hs : SlIs 3 1 v l2.length (l2.map encI) S) : ReadInts w v l2 := by
  obtain ⟨O, h1, -⟩ := h.beside
  refine SlIs.readInts (A := O ++ F) hs (h1.perm ?_)
  rw [List.append_assoc]
  exact List.Perm.append_left _ List.perm_append_comm
theorem TrIs.below (h : TrIs B w0 w tb M F c) : Below B w0 w := by
  obtain ⟨O, h1, -⟩ := h.beside
  exact h1.below
end

abbrev pStarB : Wds := [[42], [98]]
abbrev pAHash : Wds := [[97], [35]]

set_option maxHeartbeats 2000000 in
theorem known12_true (w : World) : Calls Try.prog 6 #[] w fun e w' => e = .returned (.bool true) ∧ Below w.heap.size w w' := by
  have c1 := Lib.hid (new_any (St.start w))
  have k2 := Lib.hid (fun w1 tb (h : TrIs w.heap.size w w1 tb [] [] 1) => add_is (P := pStarB) (M' := [(pStarB, 2)]) (c' := 100) (l := [42, 46, 98]) (k := 2) (by decide) (by decide) (by decide) h (by decide) (by decide) (by decide))
  have k3 := Lib.hid (fun w1 tb (h : TrIs w.heap.size w w1 tb [(pStarB, 2)] [] 100) => add_is (P := pAHash) (M' := [(pStarB, 2), (pAHash, 1)]) (c' := 200) (l := [97, 46, 35]) (k := 1) (by decide) (by decide) (by decide) h (by decide) (by decide) (by decide))
  have k4 := Lib.hid (fun w1 tb (h : TrIs w.heap.size w w1 tb [(pStarB, 2), (pAHash, 1)] [] 200) => add_is (P := pAHash) (M' := [(pStarB, 2), (pAHash, 1)]) (c' := 300) (l := [97, 46, 35]) (k := 1) (by decide) (by decide) (by decide) h (by decide) (by decide) (by decide))
  have k5 := Lib.hid (fun w1 tb (h : TrIs w.heap.size w w1 tb [(pStarB, 2), (pAHash, 1)] [] 300) => match_is (P := [[97], [98]]) (l := [97, 46, 98]) (l2 := [1, 2]) (by decide) (by decide) (by
    intro k
    have : hits [(pStarB, 2), (pAHash, 1)] [[97], [98]] = [2, 1] := by decide
    rw [this]
    simp [or_comm]) h (by decide) (by decide))
  have k6 := Lib.hid (fun w1 tb S (h : TrIs w.heap.size w w1 tb [(pStarB, 2), (pAHash, 1)] (S ++ []) 300) => tdrop_is (P := pAHash) (M' := [(pStarB, 2)]) (b := true) (l := [97, 46, 35]) (k := 1) (by decide) (by decide) (by decide) h (by decide) (by decide) (by decide))
  have k7 := Lib.hid (fun w1 tb S (h : TrIs w.heap.size w w1 tb [(pStarB, 2)] (S ++ []) 300) => tdrop_is (P := pAHash) (M' := [(pStarB, 2)]) (b := false) (l := [97, 46, 35]) (k := 1) (by decide) (by decide) (by decide) h (by decide) (by decide) (by decide))
  have k8 := Lib.hid (fun w1 tb S (h : TrIs w.heap.size w w1 tb [(pStarB, 2)] (S ++ []) 300) => match_is (P := [[97]]) (l := [97]) (l2 := []) (by decide) (by decide) (by
    intro k
    have : hits [(pStarB, 2)] [[97]] = [] := by decide
    rw [this]) h (by decide) (by decide))
  go_enter Try.func6, Try.ntmps6
  go_wp2_with fail
  refine c1.out.mono ?_
  rintro e w1 ⟨tb, rfl, h⟩
  have k2 := Lib.hid (k2.out w1 tb h)
  clear h c1
  go_wp2_with fail
  refine k2.out.mono ?_
  rintro e w2 ⟨rfl, h⟩
  have k3 := Lib.hid (k3.out w2 tb h)
  clear h k2
  go_wp2_with fail
  refine k3.out.mono ?_
  rintro e w3 ⟨rfl, h⟩
  have k4 := Lib.hid (k4.out w3 tb h)
  clear h k3
  go_wp2_with fail
  refine k4.out.mono ?_
  rintro e w4 ⟨rfl, h⟩
  have k5 := Lib.hid (k5.out w4 tb h)
  clear h k4
  go_wp2_with fail
  refine k5.out.mono ?_
  rintro e w5 ⟨v, S, rfl, hS, h⟩
  have k6 := Lib.hid (k6.out w5 tb S h)
  replace hS := Lib.hid hS
  clear h k5
  go_wp2_with fail
  refine k6.out.mono ?_
  rintro e w6 ⟨rfl, h⟩
  have k7 := Lib.hid (k7.out w6 tb S h)
  clear h k6
  go_wp2_with fail
  refine k7.out.mono ?_
  rintro e w7 ⟨rfl, h⟩
  have hl := Lib.hid (len_any h)
  have k8 := Lib.hid (k8.out w7 tb S h)
  obtain ⟨a, cap, rfl, hr⟩ := h.ints hS.out
  obtain ⟨b0, off0, rfl, r0⟩ := hr 0 1 rfl
  obtain ⟨b1, off1, e1, r1⟩ := hr 1 2 rfl
  simp only [Option.some.injEq, Addr.mk.injEq, and_true] at e1
  obtain ⟨rfl, rfl⟩ := e1
  rw [Nat.add_zero] at r0
  clear h k7 hr hS
  go_wp2_with fail
  refine hl.out.mono ?_
  rintro e w8 ⟨rfl, rfl⟩
  clear hl
  go_wp2_with fail
  refine k8.out.mono ?_
  rintro e w9 ⟨v9, S9, rfl, hS9, h⟩
  have fin := Lib.hid h.below
  obtain ⟨a9, cap9, rfl, -⟩ := hS9.form
  clear h k8 hS9
  go_wp2_with fail
  go_ret
  exact ⟨rfl, fin.out⟩
end Go.Proofs.Ytbfelfejelkdpaa
