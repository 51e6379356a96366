/- The document's own slips: all up to one go, one is taken. -/
import Derived.Test.YtdkchcbmhmlhnaaSpQ
namespace Go.Proofs.Ytdkchcbmhmlhnaa
open Go.RowKit
set_option linter.unusedVariables false
set_option linter.unusedSectionVars false
set_option linter.unusedSimpArgs false
set_option maxRecDepth 100000

def goesS (t : Int) (x : Slp) : Bool := decide (t = 0 ∨ x.tag ≤ t)
theorem goes_upto {N : List Slp} (h : OkS N) (t : Int) : (N.filter fun x => goesS t x) = uptoS N (maxT t) := by
  unfold uptoS
  refine List.filter_congr fun x hx => ?_
  have := h.fit x hx
  unfold goesS maxT
  rw [decide_eq_decide]
  split <;> omega
theorem goes_over {N : List Slp} (h : OkS N) (t : Int) : (N.filter fun x => !goesS t x) = overS N (maxT t) := by
  unfold overS
  refine List.filter_congr fun x hx => ?_
  have := h.fit x hx
  unfold goesS maxT
  rw [← decide_not, decide_eq_decide]
  split <;> omega
section
variable {B : Nat} {w0 w w' : World} {fb b k i : Nat} {N L : List Slp} {a : Option Addr} {c : Nat} {F F' S So : List (Nat × Obj)} {x y : Slp} {t : Int}
def RUpJ (B : Nat) (w0 : World) (fb : Nat) (a : Option Addr) (c : Nat) (N : List Slp) (F : List (Nat × Obj)) (t : Int) (i : Nat) (v1 v2 : Value) (wr : World) : Prop :=
  ∃ a1 c1 S1 a2 c2 S2, v1 = .slice a1 ((N.take i).filter fun x => goesS t x).length c1 ∧ v2 = .slice a2 ((N.take i).filter fun x => !goesS t x).length c2 ∧
    SlsIs (.slice a1 ((N.take i).filter fun x => goesS t x).length c1) ((N.take i).filter fun x => goesS t x) S1 ∧ SlsIs (.slice a2 ((N.take i).filter fun x => !goesS t x).length c2) ((N.take i).filter fun x => !goesS t x) S2 ∧ RSlAt B w0 wr fb a c N (S1 ++ (S2 ++ F))
def RUpR (B : Nat) (w0 : World) (fb : Nat) (N : List Slp) (F : List (Nat × Obj)) (t : Int) (r : Ending) (w' : World) : Prop :=
  ∃ a1 c1 S1 a2 c2, r = .returned (.slice a1 (N.filter fun x => goesS t x).length c1) ∧ SlsIs (.slice a1 (N.filter fun x => goesS t x).length c1) (N.filter fun x => goesS t x) S1 ∧ RSlAt B w0 w' fb a2 c2 (N.filter fun x => !goesS t x) (S1 ++ F)
theorem filt_le (L : List Slp) (f : Slp → Bool) (i : Nat) : ((L.take i).filter f).length ≤ L.length := by
  refine Nat.le_trans (List.length_filter_le _ _) ?_
  rw [List.length_take]
  omega
theorem swap3 (A B C : List (Nat × Obj)) : (A ++ (B ++ C)).Perm (B ++ (A ++ C)) := by
  classical
  exact List.perm_iff_count.2 fun a => by simp only [List.count_append]; omega
set_option maxHeartbeats 4000000 in
theorem rs_upto (h : RSlAt B w0 w fb a c N F) (hl : N.length ≤ 1000) (t : Int) : Calls Try.prog 14 #[gptr fb, .int .i64 t] w (RUpR B w0 fb N F t) := by
  have hl0 : (N.length : Int) ≤ 1000 := by omega
  have stp : Hid (∀ i y v1 v2 wr, N[i]? = some y → RUpJ B w0 fb a c N F t i v1 v2 wr → ∃ a1 n1 c1 a2 n2 c2, v1 = .slice a1 n1 c1 ∧ v2 = .slice a2 n2 c2 ∧ wr.cell? ⟨fb, 0, none⟩ = some (.slice a N.length c) ∧ (∃ b o, a = some ⟨b, o, none⟩ ∧ SlRow wr b (o + i * 13) y) ∧
      (goesS t y = true → ∃ a3 n3 c3 W2, (Builtin.append_ #[27, 27] 0 #[.slice a1 n1 c1, .slice (some ⟨wr.heap.size, 0, none⟩) 1 1]).run Try.prog (wr.alloc (slO y)) = .ok (.slice a3 n3 c3) W2 ∧ RUpJ B w0 fb a c N F t (i + 1) (.slice a3 n3 c3) (.slice a2 n2 c2) W2) ∧
      (goesS t y = false → ∃ a3 n3 c3 W2, (Builtin.append_ #[27, 27] 0 #[.slice a2 n2 c2, .slice (some ⟨wr.heap.size, 0, none⟩) 1 1]).run Try.prog (wr.alloc (slO y)) = .ok (.slice a3 n3 c3) W2 ∧ RUpJ B w0 fb a c N F t (i + 1) (.slice a1 n1 c1) (.slice a3 n3 c3) W2)) := Lib.hid fun i y v1 v2 wr hy h => by
    obtain ⟨a1, c1, S1, a2, c2, S2, rfl, rfl, h1, h2, h3⟩ := h
    have e1 : N.take (i + 1) = N.take i ++ [y] := by rw [List.take_add_one, hy]; rfl
    have l1 := filt_le N (fun x => goesS t x) i
    have l2 := filt_le N (fun x => !goesS t x) i
    refine ⟨a1, _, c1, a2, _, c2, rfl, rfl, h3.rds.c0, h3.rds.rd i y hy, fun hg => ?_, fun hg => ?_⟩
    · have eg : (N.take (i + 1)).filter (fun x => goesS t x) = (N.take i).filter (fun x => goesS t x) ++ [y] := by rw [e1, List.filter_append]; simp [hg]
      have el : (N.take (i + 1)).filter (fun x => !goesS t x) = (N.take i).filter (fun x => !goesS t x) := by rw [e1, List.filter_append]; simp [hg]
      obtain ⟨a3, c3, W2, S3, q1, q2, q3⟩ := h3.push h1 y (by omega)
      rw [← eg] at q1 q2
      exact ⟨a3, _, c3, W2, q1, a3, c3, S3, a2, c2, S2, rfl, by rw [el], q2, by rw [el]; exact h2, q3⟩
    · have eg : (N.take (i + 1)).filter (fun x => goesS t x) = (N.take i).filter (fun x => goesS t x) := by rw [e1, List.filter_append]; simp [hg]
      have el : (N.take (i + 1)).filter (fun x => !goesS t x) = (N.take i).filter (fun x => !goesS t x) ++ [y] := by rw [e1, List.filter_append]; simp [hg]
      obtain ⟨a3, c3, W2, S3, q1, q2, q3⟩ := (h3.permF (swap3 _ _ _)).push h2 y (by omega)
      rw [← el] at q1 q2
      exact ⟨a3, _, c3, W2, q1, a1, c1, S1, a3, c3, S3, by rw [eg], rfl, by rw [eg]; exact h1, q2, q3.permF (swap3 _ _ _)⟩
  have hJ0 : Hid (RUpJ B w0 fb a c N F t 0 (.slice none 0 0) (.slice none 0 0) w) := Lib.hid ⟨none, 0, [], none, 0, [], by simp, by simp, by simpa using SlsIs.nil, by simpa using SlsIs.nil, h⟩
  have fin : Hid (∀ v1 v2 wr, RUpJ B w0 fb a c N F t N.length v1 v2 wr → ∃ a2 n2 c2, v2 = .slice a2 n2 c2 ∧ wr.cell? ⟨fb, 0, none⟩ = some (.slice a N.length c) ∧ wr.frozen? ⟨fb, 0, none⟩ = false ∧ RUpR B w0 fb N F t (.returned v1) (wr.setCell ⟨fb, 0, none⟩ (.slice a2 n2 c2))) := Lib.hid fun v1 v2 wr h => by
    obtain ⟨a1, c1, S1, a2, c2, S2, rfl, rfl, h1, h2, h3⟩ := h
    rw [List.take_length] at h1 h2 ⊢
    obtain ⟨f0, f1⟩ := (h3.permF (swap3 _ _ _)).turn h2
    refine ⟨a2, _, c2, rfl, h3.rds.c0, f0, a1, c1, S1, a2, c2, rfl, h1, f1⟩
  have hcN : Hid (∀ i v1 v2 wr, RUpJ B w0 fb a c N F t i v1 v2 wr → wr.cell? ⟨fb, 0, none⟩ = some (.slice a N.length c)) := Lib.hid fun i v1 v2 wr h => by
    obtain ⟨a1, c1, S1, a2, c2, S2, rfl, rfl, h1, h2, h3⟩ := h
    exact h3.rds.c0
  clear h
  go_enter Try.func14, Try.ntmps14
  go_wp2_with fail
  go_loopg [5, 6, 7] N.length (fun g v5 v6 v7 wr => ∃ i : Nat, v7 = .int .i64 i ∧ i + g = N.length ∧ Hid (RUpJ B w0 fb a c N F t i v5 v6 wr))
  case atStart => exact ⟨0, rfl, by omega, hJ0⟩
  case round =>
    clear hJ0
    obtain ⟨i, rfl, hi, hJ⟩ := hrel
    have i0 : (0 : Int) ≤ i := by omega
    by_cases hlt : i < N.length
    · have i1 : (i : Int) < N.length := by omega
      obtain ⟨y, hy⟩ : ∃ y, N[i]? = some y := ⟨_, List.getElem?_eq_getElem hlt⟩
      obtain ⟨a1, n1, c1, a2, n2, c2, rfl, rfl, c0, ⟨b, o, rfl, y0, y1, y2, y3, y4, y5, y6, y7, y8, y9, y10, y11, y12⟩, hyes, hno⟩ := stp.out i y _ _ wr hy hJ.out
      by_cases ht : t = 0
      · obtain ⟨a3, n3, c3, W2, run1, hJ2⟩ := hyes (by unfold goesS; exact decide_eq_true (.inl ht))
        replace hJ2 := Lib.hid hJ2
        have htB : (t == 0) = true := by rw [beq_iff_eq]; exact ht
        clear hy hJ stp fin hcN hyes hno ht
        go_wp2_with (at_builtin; refine wpList_append_go rfl (.tmp 31) (.tmp 39) 27 27 rfl _ _ rfl rfl run1 ?_)
        go_roundg (N.length - (i + 1))
        case measure => omega
        case rel => exact ⟨i + 1, by go_num, by omega, hJ2⟩
      · have htB : (t == 0) = false := by rw [beq_eq_false_iff_ne]; exact ht
        by_cases hle : y.tag ≤ t
        · obtain ⟨a3, n3, c3, W2, run1, hJ2⟩ := hyes (by unfold goesS; exact decide_eq_true (.inr hle))
          replace hJ2 := Lib.hid hJ2
          clear hy hJ stp fin hcN hyes hno ht
          go_wp2_with (at_builtin; refine wpList_append_go rfl (.tmp 31) (.tmp 39) 27 27 rfl _ _ rfl rfl run1 ?_)
          go_roundg (N.length - (i + 1))
          case measure => omega
          case rel => exact ⟨i + 1, by go_num, by omega, hJ2⟩
        · obtain ⟨a3, n3, c3, W2, run1, hJ2⟩ := hno (by unfold goesS; exact decide_eq_false (by omega))
          replace hJ2 := Lib.hid hJ2
          clear hy hJ stp fin hcN hyes hno ht
          go_wp2_with (at_builtin; refine wpList_append_go rfl (.tmp 41) (.tmp 49) 27 27 rfl _ _ rfl rfl run1 ?_)
          go_roundg (N.length - (i + 1))
          case measure => omega
          case rel => exact ⟨i + 1, by go_num, by omega, hJ2⟩
    · have hie : i = N.length := by omega
      subst hie
      obtain ⟨a2, n2, c2, rfl, c0, f0, f1⟩ := fin.out _ _ _ hJ.out
      replace f1 := Lib.hid f1
      clear hJ stp fin hcN hi
      go_wp2_with fail
      go_ret
      exact f1.out

/-! ### one is taken -/
theorem erase_drop (h : OkS N) (hi : N[i]? = some x) : N.eraseIdx i = dropS N x.tag := by
  induction N generalizing i with
  | nil => simp at hi
  | cons y l ih =>
    cases i with
    | zero =>
      simp at hi
      subst hi
      rw [drop_head h]
      rfl
    | succ i =>
      have hi' : l[i]? = some x := by simpa using hi
      have hlt := (List.pairwise_cons.1 h.apart).1 x (List.mem_of_getElem? hi')
      have := ih h.tail hi'
      unfold dropS at this ⊢
      rw [List.filter_cons_of_pos (by simp; omega), ← this]
      rfl
def RGone (B : Nat) (w0 : World) (fb : Nat) (a : Option Addr) (c : Nat) (N : List Slp) (F : List (Nat × Obj)) (i : Nat) (a1 : Option Addr) (c1 : Nat) (a2 : Option Addr) (m c2 : Nat) (W : World) : Prop :=
  ∃ a3 c3 W2, AppRun Try.prog 27 (.slice none 0 0) (.slice a1 i c1) W (.slice a3 i c3) W2 ∧ W2.cell? ⟨fb, 0, none⟩ = some (.slice a N.length c) ∧
    ∃ a4 n4 c4 W3, AppRun Try.prog 27 (.slice a3 i c3) (.slice a2 m c2) W2 (.slice a4 n4 c4) W3 ∧ W3.cell? ⟨fb, 0, none⟩ = some (.slice a N.length c) ∧ W3.frozen? ⟨fb, 0, none⟩ = false ∧ RSlAt B w0 (W3.setCell ⟨fb, 0, none⟩ (.slice a4 n4 c4)) fb a4 c4 (N.eraseIdx i) F
theorem RSlAt.gone (h : RSlAt B w0 w fb a c N F) (hi : i < N.length) (hl : N.length ≤ 1000) :
    ∃ a1 c1 a2 m c2, (∀ w, (Instr.slice 27 (.slice a N.length c) none (some (.int .i64 i)) none).run Try.prog w = .ok (.slice a1 i c1) w) ∧ (∀ w, (Instr.slice 27 (.slice a N.length c) (some (.int .i64 ((i : Int) + 1))) none none).run Try.prog w = .ok (.slice a2 m c2) w) ∧ RGone B w0 fb a c N F i a1 c1 a2 m c2 w := by
  obtain ⟨S, h1, h2⟩ := h
  obtain ⟨a1, c1, -, -, s1, -, r1, -⟩ := apS.piece h1 i (by omega)
  obtain ⟨-, -, a2, c2, -, s2, -, r2⟩ := apS.piece h1 (i + 1) (by omega)
  have t1 : (slsV N).take (i * 13) = slsV (N.take i) := by
    have h3 := congrArg slsV (List.take_append_drop i N)
    rw [slsV_app] at h3
    rw [← h3, List.take_append_of_le_length (by rw [slsV_len, List.length_take]; omega), List.take_of_length_le (by rw [slsV_len, List.length_take]; omega)]
  have t2 : (slsV N).drop ((i + 1) * 13) = slsV (N.drop (i + 1)) := by
    have h3 := congrArg slsV (List.take_append_drop (i + 1) N)
    rw [slsV_app] at h3
    rw [← h3, List.drop_append_of_le_length (by rw [slsV_len, List.length_take]; omega), List.drop_of_length_le (by rw [slsV_len, List.length_take]; omega), List.nil_append]
  rw [t1] at s1
  rw [t2] at s2
  refine ⟨a1, c1, a2, N.length - (i + 1), c2, r1, fun w => ?_, ?_⟩
  · have := r2 w
    rw [show ((i + 1 : Nat) : Int) = (i : Int) + 1 by omega] at this
    exact this
  · have hp : ((fb, refO (.slice a N.length c)) :: (S ++ F)).Perm (((fb, refO (.slice a N.length c)) :: F) ++ S) := by
      classical
      exact List.perm_iff_count.2 fun a => by simp only [List.count_append, List.count_cons]; omega
    have hst := h2.perm hp
    obtain ⟨a3, c3, W2, F2, hr3, hs3, hst3⟩ := apS.copy hst (s1.reads hst) (slsV_one _) (by unfold maxLen; omega) (by omega)
    have hrd2 : Reads W2 (.slice a2 (N.length - (i + 1)) c2) (N.length - (i + 1)) 13 (slsV (N.drop (i + 1))) := s2.reads (A := ((fb, refO (.slice a N.length c)) :: F) ++ F2) (hst3.perm (by
      classical
      exact List.perm_iff_count.2 fun a => by simp only [List.count_append, List.count_cons]; omega))
    obtain ⟨a4, c4, W3, F4, hr4, hs4, hst4⟩ := apS.append hs3 hst3 hrd2 (slsV_one _) (by unfold maxLen; omega) (by omega)
    have e : slsV (N.take i) ++ slsV (N.drop (i + 1)) = slsV (N.eraseIdx i) := by rw [← slsV_app, List.eraseIdx_eq_take_drop_succ]
    have el : (N.eraseIdx i).length = i + (N.length - (i + 1)) := by rw [List.length_eraseIdx, if_pos hi]; omega
    rw [e] at hs4
    have hst5 : St B w0 W3 ((fb, refO (.slice a N.length c)) :: (F4 ++ F)) := (hst4.sub (H' := ((fb, refO (.slice a N.length c)) :: F) ++ F4) ((List.sublist_append_left _ _).append (List.Sublist.refl _))).perm (by
      classical
      exact List.perm_iff_count.2 fun a => by simp only [List.count_append, List.count_cons]; omega)
    refine ⟨a3, c3, W2, ⟨hr3⟩, hst3.cell (b := fb) (i := 0) (List.mem_append_left _ (List.mem_append_left _ List.mem_cons_self)) rfl, a4, _, c4, W3, ⟨hr4⟩, hst5.cell (b := fb) (i := 0) List.mem_cons_self rfl, hst5.soft (b := fb) List.mem_cons_self 0, F4, ?_, ?_⟩
    · show SlIs _ _ _ (N.eraseIdx i).length _ _
      rw [el]
      exact hs4
    · have := hst5.set0 0 (.slice a4 (i + (N.length - (i + 1))) c4)
      rw [el]
      exact this

theorem RSlAt.slPut (h : RSlAt B w0 w fb a c N ((b, slO y) :: F)) : RSlAt B w0 (slPut w b x) fb a c N ((b, slO x) :: F) := by
  obtain ⟨S, h1, h2⟩ := h.beside
  exact h2 _ _ (((h1.perm List.perm_middle).slPut (x := x)).perm List.perm_middle.symm)

set_option maxHeartbeats 4000000 in
theorem rs_take_no (h : RSlAt B w0 w fb a c N F) (hl : N.length ≤ 1000) (ht : t ∉ tagsL N) : Calls Try.prog 11 #[gptr fb, .int .i64 t] w fun r w' => r = .returned (.tuple #[slV z0L, .bool false]) ∧ RSlAt B w0 w' fb a c N F := by
  have h1 := h.alloc (slO z0L)
  have hno : Hid (∀ (i : Nat) y, N[i]? = some y → (y.tag == t) = false) := Lib.hid fun i y hy => by
    rw [beq_eq_false_iff_ne]
    intro e
    exact ht (e ▸ List.mem_map_of_mem (List.mem_of_getElem? hy))
  have hl0 : (N.length : Int) ≤ 1000 := by omega
  obtain ⟨W1, hW1⟩ : ∃ W, W = w.alloc (slO z0L) := ⟨_, rfl⟩
  rw [← hW1] at h1
  obtain ⟨c0, hr⟩ := h1.rds
  obtain ⟨zE, zs⟩ := h1.slip (b := w.heap.size) (x := z0L) List.mem_cons_self
  have h2 := h1.slPut (x := z0L)
  have finE := Lib.hid (h2.slip (b := w.heap.size) (x := z0L) List.mem_cons_self).1
  have fin := Lib.hid (h2.sub (List.sublist_cons_self _ _))
  replace hr := Lib.hid hr
  replace zE := Lib.hid zE
  clear h h1 h2 ht
  go_enter Try.func11, Try.ntmps11
  go_wp2_with fail
  rw [← hW1]
  clear hW1
  generalize w.heap.size = ab at *
  go_loopg [6] N.length (fun g v6 wr => ∃ i : Nat, v6 = .int .i64 i ∧ i + g = N.length ∧ wr = W1)
  case atStart => exact ⟨0, rfl, by omega, rfl⟩
  case round =>
    obtain ⟨i, rfl, hi, rfl⟩ := hrel
    have i0 : (0 : Int) ≤ i := by omega
    by_cases hlt : i < N.length
    · have i1 : (i : Int) < N.length := by omega
      obtain ⟨y, hy⟩ : ∃ y, N[i]? = some y := ⟨_, List.getElem?_eq_getElem hlt⟩
      obtain ⟨b, o, rfl, y0, -⟩ := hr.out i y hy
      have hB := hno.out i y hy
      clear hy hno hr fin finE
      go_wp2_with fail
      go_roundg (N.length - (i + 1))
      case measure => omega
      case rel => exact ⟨i + 1, by go_num, by omega, rfl⟩
    · obtain ⟨z0, z1, z2, z3, z4, z5, z6, z7, z8, z9, z10, z11, z12⟩ := zE.out
      clear hno hr zE
      go_wp2_with fail
      exact bodyPost_ret (ret_slip4 rfl rfl rfl finE.out rfl) rfl ⟨rfl, fin.out⟩

set_option maxHeartbeats 4000000 in
theorem rs_take_yes (h : RSlAt B w0 w fb a c N F) (hl : N.length ≤ 1000) (hN : OkS N) (hx : x ∈ N) : Calls Try.prog 11 #[gptr fb, .int .i64 x.tag] w fun r w' => r = .returned (.tuple #[slV x, .bool true]) ∧ ∃ a' c', RSlAt B w0 w' fb a' c' (dropS N x.tag) F := by
  have h1 := h.alloc (slO z0L)
  obtain ⟨j, hj⟩ := List.getElem?_of_mem hx
  have hjl := (List.getElem?_eq_some_iff.1 hj).1
  have hno : Hid (∀ (i : Nat) y, i < j → N[i]? = some y → (y.tag == x.tag) = false) := Lib.hid fun i y hij hy => by
    rw [beq_eq_false_iff_ne]
    intro e
    have e1 := hN.inj (List.mem_of_getElem? hy) hx e
    subst e1
    have : (tagsL N).Nodup := hN.nodup
    have h2 : i = j := (List.getElem?_inj (by simp [tagsL]; omega) this).1 (by simp [tagsL, hy, hj])
    omega
  have hl0 : (N.length : Int) ≤ 1000 := by omega
  obtain ⟨W1, hW1⟩ : ∃ W, W = w.alloc (slO z0L) := ⟨_, rfl⟩
  rw [← hW1] at h1
  obtain ⟨c0, hr⟩ := h1.rds
  have h2 := h1.alloc (slO x)
  have c2 := h2.rds.c0
  obtain ⟨a1, c1, a2, m, c3, r1, r2, hg⟩ := (h2.grow (drew_b _)).gone hjl hl
  have fin : Hid (∀ (W3 : World) a4 n4 c4, RSlAt B w0 (W3.setCell ⟨fb, 0, none⟩ (.slice a4 n4 c4)) fb a4 c4 (N.eraseIdx j) ((W1.heap.size, slO x) :: (w.heap.size, slO z0L) :: F) → ∃ W4, W4 = W3.setCell ⟨fb, 0, none⟩ (.slice a4 n4 c4) ∧ SlAt W4 W1.heap.size x ∧ SlAt W4 w.heap.size z0L ∧ (∀ i, W4.frozen? ⟨w.heap.size, i, none⟩ = false) ∧
      SlAt (slPut W4 w.heap.size x) w.heap.size x ∧ ∃ a' c', RSlAt B w0 (slPut W4 w.heap.size x) fb a' c' (dropS N x.tag) F) := Lib.hid fun W3 a4 n4 c4 h => by
    rw [erase_drop hN hj] at h
    have q1 := h.slip (b := w.heap.size) (x := z0L) (List.mem_cons_of_mem _ List.mem_cons_self)
    have h5 := (h.permF (List.Perm.swap _ _ _)).slPut (x := x)
    exact ⟨_, rfl, (h.slip List.mem_cons_self).1, q1.1, q1.2, (h5.slip List.mem_cons_self).1, a4, c4, h5.sub ((List.sublist_cons_self _ _).trans (List.sublist_cons_self _ _))⟩
  have hj1 : (j : Int) < N.length := by omega
  have hj0 : (0 : Int) ≤ j := by omega
  have hwj : IntKind.i64.wrap ((j : Int) + 1) = j + 1 := IntWalk.i64_in _ (by omega)
  replace hr := Lib.hid hr
  replace hg := Lib.hid hg
  replace hj := Lib.hid hj
  replace r1 := Lib.hid r1
  replace r2 := Lib.hid r2
  replace hwj := Lib.hid hwj
  replace c2 := Lib.hid c2
  clear h h1 h2 hN hx
  go_enter Try.func11, Try.ntmps11
  go_wp2_with fail
  rw [← hW1]
  clear hW1
  generalize w.heap.size = ab at *
  go_loopg [6] N.length (fun g v6 wr => ∃ i : Nat, v6 = .int .i64 i ∧ i + g = N.length ∧ i ≤ j ∧ wr = W1)
  case atStart => exact ⟨0, rfl, by omega, by omega, rfl⟩
  case round =>
    obtain ⟨i, rfl, hi, hij, rfl⟩ := hrel
    have i0 : (0 : Int) ≤ i := by omega
    by_cases hlt : i < j
    · have i1 : (i : Int) < N.length := by omega
      obtain ⟨y, hy⟩ : ∃ y, N[i]? = some y := ⟨_, List.getElem?_eq_getElem (by omega)⟩
      obtain ⟨b, o, rfl, y0, -⟩ := hr.out i y hy
      have hB := hno.out i y hlt hy
      clear hy hno hr fin hg hj r1 r2 c2
      go_wp2_with fail
      go_roundg (N.length - (i + 1))
      case measure => omega
      case rel => exact ⟨i + 1, by go_num, by omega, by omega, rfl⟩
    · have hie : i = j := by omega
      subst hie
      obtain ⟨b, o, rfl, y0, y1, y2, y3, y4, y5, y6, y7, y8, y9, y10, y11, y12⟩ := hr.out i x hj.out
      have hB : (x.tag == x.tag) = true := beq_self_eq_true _
      clear hno hr hj hlt
      go_wp2_with fail
      obtain ⟨a5, c5, W2, run1, x2, a4, n4, c4, W3, run2, x3, f3, hR⟩ := hg.out
      have hf := Lib.hid (fin.out _ _ _ _ hR)
      have r1 := r1.out
      have r2 := r2.out
      have hwj := hwj.out
      have c2 := c2.out
      clear hg fin hR c0 y0 y1 y2 y3 y4 y5 y6 y7 y8 y9 y10 y11 y12
      generalize hxb : wr.heap.size = xb at *
      generalize wr.alloc (slO x) = V at *
      go_region_law (first
        | (refine step_app (.const (.slice none 0 0)) (.tmp 40) 27 run1 rfl rfl (by simp [Act.eval, Act.put]) (by simp [Act.eval, Act.put]) ?_)
        | (refine step_app (.tmp 41) (.tmp 48) 27 run2 rfl rfl (by simp [Act.eval, Act.put]) (by simp [Act.eval, Act.put]) ?_))
      all_goals
        clear run1 run2 r1 r2 x2 x3 f3 c2
        obtain ⟨W4, hW4, ⟨k0, k1, k2, k3, k4, k5, k6, k7, k8, k9, k10, k11, k12⟩, ⟨z0, z1, z2, z3, z4, z5, z6, z7, z8, z9, z10, z11, z12⟩, zs, fE, fR⟩ := hf.out
        replace fE := Lib.hid fE
        replace fR := Lib.hid fR
        rw [← hW4]
        clear hW4 hf
        go_wp2_with fail
        exact bodyPost_ret (ret_slip4 rfl rfl rfl fE.out rfl) rfl ⟨rfl, fR.out⟩
end
end Go.Proofs.Ytdkchcbmhmlhnaa
