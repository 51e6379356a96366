/- New. -/
import Derived.Test.YtpnkaamijjeckaaDoorBmF
import Derived.Deep.RegionLaw
namespace Go.Proofs.YtpnkaamijjeckaaDoor
open Go.RowKit
set_option linter.unusedVariables false

section
variable {B : Nat} {w0 w : World} {bb places count : Nat} {L : List (Nat × List Nat)} {ov : Value} {oF F : List (Nat × Obj)} {s : Nat → Bool}

theorem uU64s : Tryd.prog.underlying 77 = some (.slice 79) := by kernel_rfl
theorem uU64ss : Tryd.prog.underlying 74 = some (.slice 77) := by kernel_rfl
theorem infU64 : (Tryd.prog.info? 79).map (fun i => (i.zero, i.size, i.bytes)) = some (some (.int .u64 0), 1, 8) := by kernel_rfl
theorem infU64s : (Tryd.prog.info? 77).map (fun i => (i.zero, i.size, i.bytes)) = some (some (.slice none 0 0), 1, 24) := by kernel_rfl

theorem mk_words (w : World) (k : Int) (h0 : 0 ≤ k) (h1 : k ≤ 1073741824) :
    (Instr.makeSlice 77 (.int .i64 k) (.int .i64 k)).run Tryd.prog w = .ok (.slice (some ⟨w.heap.size, 0, none⟩) k.toNat k.toNat) (w.alloc (wordsObj (List.replicate k.toNat 0))) := by
  obtain ⟨i0, hi, hz0, hz1, hz2⟩ := info_parts infU64
  have h := run_make (P := Tryd.prog) w 77 79 i0 (.int .u64 0) uU64s hi hz0 .i64 .i64 k k h0 (Int.le_refl _) (by rw [hz2]; omega) (by omega)
  rw [h]
  congr 2
  unfold wordsObj
  congr 1
  apply Array.toList_inj.1
  rw [hz1, Nat.mul_one, show (Value.int .u64 0).cells = #[Value.int .u64 0] from rfl, toList_madeCells_one]
  simp [wordsV]

/-- Levels that are being made: each has room for the places, none is set; the next one is to have words / 64 words. -/
structure Made (places : Nat) (L : List (Nat × List Nat)) (m : Nat) : Prop where
  zero : ∀ (l : Nat) (x : Nat × List Nat), L[l]? = some x → ∃ n, x.2 = List.replicate n 0 ∧ n ≤ 5000 ∧ places ≤ 64 ^ (l + 1) * n
  room : places ≤ 64 ^ L.length * m
  few : L.length + m ≤ 5000
  none : m = 0 → L = []
theorem Made.start {k : Nat} (h : k ≤ 5000) : Made k [] k := ⟨fun l x hx => by simp at hx, by simp, by simpa using h, fun _ => rfl⟩
theorem Made.bare (h : Made places L 0) (hp : places ≤ 5000) : BmWf L places ∧ BitsAll (fun _ => false) L := by
  obtain rfl := h.none rfl
  have hr := h.room
  exact ⟨⟨hp, fun l x hx => by simp at hx, fun l x hx => by simp at hx, fun x hx => by simp at hx, fun _ => by simpa using hr, by simp⟩, fun l x hx => by simp at hx⟩
theorem Made.push (h : Made places L count) (hm : 0 < count) (b : Nat) :
    (∀ (l : Nat) (x : Nat × List Nat), (L ++ [(b, List.replicate ((count + 63) / 64) 0)])[l]? = some x → ∃ n, x.2 = List.replicate n 0 ∧ n ≤ 5000 ∧ places ≤ 64 ^ (l + 1) * n) ∧
    places ≤ 64 ^ (L.length + 1) * ((count + 63) / 64) := by
  have hroom : places ≤ 64 ^ (L.length + 1) * ((count + 63) / 64) := by
    refine Nat.le_trans h.room ?_
    rw [Nat.pow_succ, Nat.mul_assoc]
    exact Nat.mul_le_mul_left _ (by omega)
  refine ⟨fun l x hx => ?_, hroom⟩
  rcases Nat.lt_or_ge l L.length with hl | hl
  · rw [List.getElem?_append_left hl] at hx
    exact h.zero l x hx
  · rw [List.getElem?_append_right hl] at hx
    have e : l - L.length = 0 := by
      apply Nat.eq_zero_of_not_pos
      intro hp
      rw [List.getElem?_eq_none (by simp; omega)] at hx
      cases hx
    rw [e] at hx
    cases hx
    have e' : l = L.length := by omega
    subst e'
    exact ⟨_, rfl, by have := h.few; omega, hroom⟩
theorem Made.more (h : Made places L count) (hm : 1 < (count + 63) / 64) (b : Nat) : Made places (L ++ [(b, List.replicate ((count + 63) / 64) 0)]) ((count + 63) / 64) := by
  obtain ⟨h2, h3⟩ := h.push (by omega) b
  refine ⟨h2, by rw [List.length_append]; exact h3, ?_, fun e => by omega⟩
  have := h.few
  simp
  omega
theorem Made.done (h : Made places L count) (hp : places ≤ 5000) (hm : 0 < count) (hm1 : (count + 63) / 64 ≤ 1) (b : Nat) :
    BmWf (L ++ [(b, List.replicate ((count + 63) / 64) 0)]) places ∧ BitsAll (fun _ => false) (L ++ [(b, List.replicate ((count + 63) / 64) 0)]) := by
  obtain ⟨h2, h3⟩ := h.push hm b
  refine ⟨⟨hp, fun l x hx => ?_, fun l x hx => ?_, fun x hx => ?_, fun e => by simp at e, by have := h.few; simp; omega⟩, fun l x hx => ?_⟩
  · obtain ⟨n, e, _, h4⟩ := h2 l x hx
    rw [e, List.length_replicate]; exact h4
  · obtain ⟨n, e, h4, _⟩ := h2 l x hx
    rw [e, List.length_replicate]; exact h4
  · simp at hx
    rw [← hx]; simp; omega
  · obtain ⟨n, e, -⟩ := h2 l x hx
    rw [e]; exact Bits.blank n

/-- An append inside a region that draws its order, onto a slice that the call owns. -/
theorem step_append_sl {P : Program} {A F0 : List (Nat × Obj)} {n m : Nat} {v x : Value} {xs news : List Value} {ops : Array Oper} {o : Oper} {a : Act} {K : Act → World → Prop} {Q : Exit → Act → World → Prop} {E : Prop} (hgd : o.guard = none) (s y : Operand) (t : TypeId)
    (ho : o.op = .call { callee := .builtin .append, args := #[s, y], argTypes := #[t, t] })
    (e : TypeId) (i : TypeInfo) (z : Value) (size bytes : Nat) (ht : P.underlying t = some (.slice e)) (hi : P.info? e = some i) (hz : i.zero = some z)
    (hsize : i.size = size) (hby : i.bytes = bytes) (hzs : z.cells.size = size) (hs : SlIs e size v n xs F0) (hst : St B w0 w (A ++ F0)) (hx : Reads w x m size news) (h1 : ∀ u ∈ news, u.oneCell' = true)
    (h63 : n + m ≤ maxLen) (hbytes : (n + m) * bytes ≤ 140737488355328) (hes : a.eval s = v) (hey : a.eval y = x)
    (h : ∀ v' w' F', SlIs e size v' (n + m) (xs ++ news) F' → St B w0 w' (A ++ F') → K (a.put o.dst v') w') :
    if Region.wanted o (yielded ops a.tmps) = true then Oper.wp P o a w K Q else E := by
  have hw : Region.wanted o (yielded ops a.tmps) = true := by simp [Region.wanted, hgd]
  rw [if_pos hw]
  obtain ⟨v', w', F', hr, h2, h3⟩ := run_append_sl (P := P) t o.type e i z size bytes ht hi hz hsize hby hzs hs hst hx h1 h63 hbytes
  unfold Oper.wp execOp
  simp only [ho, resolve, invoke, builtin, Sem.run_bind, Sem.run_pure, Result.andThen_ok, List.map_toArray, List.map_cons, List.map_nil, hes, hey, hr]
  exact h v' w' F' h2 h3

theorem perm_level {α : Type} (x y : α) (A F O : List α) : (x :: ((y :: (A ++ F)) ++ O)).Perm ((y :: ((A ++ [x]) ++ F)) ++ O) := by
  simp only [List.cons_append, List.append_assoc, List.nil_append]
  exact (List.Perm.swap _ _ _).trans (.cons _ List.perm_middle.symm)

/-- One level more: the block of its words, then the header's own, behind all. -/
theorem BmAt.level (h : BmAt B w0 w bb L places count ov oF F) (ws : List Nat) :
    St B w0 ((w.alloc (wordsObj ws)).alloc (.cells #[headV (w.heap.size, ws)] 77)) ((w.heap.size + 1, .cells #[headV (w.heap.size, ws)] 77) :: (((bb, .cells #[ov, .int .i64 (places : Int), .int .i64 (count : Int)] 76) :: (lvH (L ++ [(w.heap.size, ws)]) ++ F))) ++ oF) := by
  have h1 := (h.st.alloc (wordsObj ws)).alloc (.cells #[headV (w.heap.size, ws)] 77)
  have e : (w.alloc (wordsObj ws)).heap.size = w.heap.size + 1 := by simp
  rw [e] at h1
  have e2 : lvH (L ++ [(w.heap.size, ws)]) = lvH L ++ [(w.heap.size, wordsObj ws)] := by simp [lvH]
  rw [e2]
  exact h1.perm (.cons _ (perm_level _ _ _ _ _))
/-- .. and behind the store of the header. -/
theorem BmAt.stored {w' : World} {hb : Nat} {o : Obj} {v : Value} {oF' : List (Nat × Obj)} (hs : SlIs 77 1 v L.length (L.map headV) oF')
    (h : St B w0 w' ((hb, o) :: (((bb, .cells #[ov, .int .i64 (places : Int), .int .i64 (count : Int)] 76) :: (lvH L ++ F))) ++ oF')) : BmAt B w0 (w'.setCell ⟨bb, 0, none⟩ v) bb L places count v oF' F := by
  refine ⟨hs, ?_⟩
  have h1 : St B w0 w' ((bb, .cells #[ov, .int .i64 (places : Int), .int .i64 (count : Int)] 76) :: ((lvH L ++ F) ++ oF')) := h.sub (List.sublist_cons_self _ _)
  rw [List.cons_append]
  exact h1.set0 0 v

/-- What holds at the label. -/
def MadeAt (B : Nat) (w0 : World) (k m : Nat) (F : List (Nat × Obj)) (g : Nat) (a' : Act) (w' : World) : Prop :=
  ∃ (bb : Nat) (L : List (Nat × List Nat)) (ov : Value) (oF : List (Nat × Obj)), Fr 34 [(3, bptr bb), (4, .int .i64 (g : Int))] a' ∧ Made k L g ∧ BmAt B w0 w' bb L k 0 ov oF F

/-- Behind New. -/
def NewR (B : Nat) (w0 : World) (k : Nat) (F : List (Nat × Obj)) (e : Ending) (w' : World) : Prop := ∃ bb, e = .returned (bptr bb) ∧ BmIs B w0 w' bb (fun _ => false) k F
theorem NewR.of {k : Nat} {w' : World} (hT : Tab B w0) (wf : BmWf L k) (hb : BitsAll (fun _ => false) L) (h : BmAt B w0 w' bb L k 0 ov oF F) : NewR B w0 k F (.returned (bptr bb)) w' :=
  ⟨bb, rfl, hT, (fun _ h => by cases h), L, ov, oF, wf, hb, by rw [cntB_none]; exact h⟩

set_option maxHeartbeats 2000000 in
set_option maxRecDepth 100000 in
theorem new_any (hT : Tab B w0) (hst : St B w0 w F) (n : Int) (k : Nat) (hk : k ≤ 5000) (hn : n < 0 ∧ k = 0 ∨ n = k ∨ 5000 < n ∧ k = 5000) :
    Calls Tryd.prog 34 #[.int .i64 n] w (NewR B w0 k F) := by
  have hst := Lib.hid hst
  go_enter Tryd.func34, Tryd.ntmps34
  go_wp2_with fail
  refine wp_scope_ghost 0 (MadeAt B w0 k 0 F) rfl ?_ ?_
  · rintro m a' w' ⟨bb, L, ov, oF, hfr, hm, h⟩
    obtain ⟨f, rfl, hl⟩ := hfr.lit
    clear hfr hst hn
    simp only [List.mem_cons, List.not_mem_nil, or_false, forall_eq_or_imp, forall_eq] at hl
    obtain ⟨f3, f4⟩ := hl
    simp only [List.range, List.range.loop, List.map, f3, f4]
    clear f3 f4
    have hfew := hm.few
    by_cases h0 : m = 0
    · subst h0
      obtain ⟨wf, hb⟩ := hm.bare hk
      have fin := Lib.hid (NewR.of hT wf hb h)
      clear h hm wf hb
      go_wp2_with fail
      simp only [Exit.jump]
      go_ret
      exact fin.out
    · have c0 := h.c0
      have cf := h.soft 0
      have hm0 : (0 : Int) < m := by omega
      have hm1 : (m : Int) ≤ 5000 := by omega
      obtain ⟨q, hq⟩ : ∃ q, q = (m + 63) / 64 := ⟨_, rfl⟩
      have hqi : ((m : Int) + 64 - 1) / 64 = (q : Int) := by omega
      have hqi' : ((m : Int) + 63) / 64 = (q : Int) := by omega
      have hq0 : (0 : Int) ≤ q := by omega
      have hq1 : (q : Int) ≤ 5000 := by omega
      have hlev := h.level (List.replicate q 0)
      have ehd : headV (w'.heap.size, List.replicate q 0) = .slice (some ⟨w'.heap.size, 0, none⟩) q q := by simp [headV]
      rw [ehd] at hlev
      have hrd : Reads ((w'.alloc (wordsObj (List.replicate q 0))).alloc (.cells #[.slice (some ⟨w'.heap.size, 0, none⟩) q q] 77)).drew (.slice (some ⟨w'.heap.size + 1, 0, none⟩) 1 1) 1 1 [.slice (some ⟨w'.heap.size, 0, none⟩) q q] := by
        have := (Reads.one (w'.alloc (wordsObj (List.replicate q 0))) (.slice (some ⟨w'.heap.size, 0, none⟩) q q) 77).drewN 1
        rw [show (w'.alloc (wordsObj (List.replicate q 0))).heap.size = w'.heap.size + 1 by simp] at this
        exact this
      replace hrd := Lib.hid hrd
      replace hlev := Lib.hid hlev.drew
      have hsl := Lib.hid h.sl
      have hmk := mk_words w'.drew q hq0 (by omega)
      rw [Int.toNat_natCast] at hmk
      obtain ⟨i0, hi, hz0, hz1, hz2⟩ := info_parts infU64s
      replace hi := Lib.hid hi
      replace hz0 := Lib.hid hz0
      replace hz1 := Lib.hid hz1
      replace hz2 := Lib.hid hz2
      have fin : Hid (∀ v w1 F', SlIs 77 1 v (L.length + 1) (L.map headV ++ [.slice (some ⟨w'.heap.size, 0, none⟩) q q]) F' →
          St B w0 w1 ((((w'.heap.size + 1, .cells #[.slice (some ⟨w'.heap.size, 0, none⟩) q q] 77) :: (((bb, .cells #[ov, .int .i64 (k : Int), .int .i64 0] 76) :: (lvH (L ++ [(w'.heap.size, List.replicate q 0)]) ++ F))))) ++ F') →
          (w1.cell? ⟨bb, 0, none⟩ = some ov ∧ w1.frozen? ⟨bb, 0, none⟩ = false) ∧ BmAt B w0 (w1.setCell ⟨bb, 0, none⟩ v) bb (L ++ [(w'.heap.size, List.replicate q 0)]) k 0 v F' F) := by
        refine Lib.hid fun v w1 F' h1 h2 => ⟨⟨?_, ?_⟩, ?_⟩
        · exact h2.cell (b := bb) (List.mem_append_left _ (List.mem_cons_of_mem _ List.mem_cons_self)) rfl
        · exact St.soft (b := bb) h2 (List.mem_append_left _ (List.mem_cons_of_mem _ List.mem_cons_self)) 0
        · exact BmAt.stored (by rw [List.map_append, List.map_singleton, ehd, List.length_append, List.length_singleton]; exact h1) h2
      replace ehd := Lib.hid ehd
      have hmore : 1 < q → Made k (L ++ [(w'.heap.size, List.replicate q 0)]) q := by
        rw [hq]
        exact fun h1 => hm.more h1 _
      have hdone : ¬ 1 < q → BmWf (L ++ [(w'.heap.size, List.replicate q 0)]) k ∧ BitsAll (fun _ => false) (L ++ [(w'.heap.size, List.replicate q 0)]) := by
        rw [hq]
        exact fun h1 => hm.done hk (by omega) (by omega) _
      replace hmore := Lib.hid hmore
      replace hdone := Lib.hid hdone
      have hqm : 1 < q → q < m := by omega
      replace hqm := Lib.hid hqm
      clear h hq hqi' hm
      have e1 := (World.cell?_alloc_lt w' (wordsObj (List.replicate q 0)) _ (World.block_lt_of_cell? w' _ c0)).trans c0
      have e2 := (World.cell?_alloc_lt _ (.cells #[.slice (some ⟨w'.heap.size, 0, none⟩) q q] 77) _ (World.block_lt_of_cell? _ _ e1)).trans e1
      go_wp2_with fail
      rw [hqi]
      clear hqi
      go_region_law (refine step_append_sl rfl _ _ 74 rfl 77 i0 _ 1 24 uU64ss hi.out hz0.out hz1.out hz2.out rfl hsl.out hlev.out hrd.out (by intro u hu; obtain rfl := List.mem_singleton.1 hu; rfl) (by unfold maxLen; omega) (by omega) rfl rfl ?_; intro v1 w1 F1 hs1 hst1; obtain ⟨a1, c1, rfl, -⟩ := hs1.form; obtain ⟨⟨k0, k1⟩, k2⟩ := fin.out _ _ _ hs1 hst1; replace k2 := Lib.hid k2; clear hs1 hst1)
      all_goals
        by_cases h1 : 1 < q
        · have h1i : (1 : Int) < q := by omega
          go_wp2_with fail
          refine wp_goto ?_
          exact ⟨rfl, q, hqm.out h1, bb, _, _, F1, ⟨rfl, rfl, by simp⟩, hmore.out h1, k2.out⟩
        · have h1i : ¬ (1 : Int) < q := by omega
          have fin2 := Lib.hid (NewR.of hT (hdone.out h1).1 (hdone.out h1).2 k2.out)
          go_wp2_with fail
          simp only [Exit.jump]
          go_ret
          exact fin2.out
  · intro H
    have hst1 := Lib.hid (hst.out.alloc (.cells #[.slice none 0 0, .int .i64 (k : Int), .int .i64 0] 76))
    have hin : ∀ a', Fr 34 [(3, bptr w.heap.size), (4, .int .i64 (k : Int))] a' → MadeAt B w0 k 0 F k a' (w.alloc (.cells #[.slice none 0 0, .int .i64 (k : Int), .int .i64 0] 76)) :=
      fun a' hf => ⟨w.heap.size, [], .slice none 0 0, [], hf, Made.start hk, SlIs.nil, by simpa [lvH] using hst1.out⟩
    replace hin := Lib.hid hin
    replace H := Lib.hid H
    rcases hn with ⟨hn, rfl⟩ | rfl | ⟨hn, rfl⟩
    · go_wp2_with fail
      refine wp_label ?_
      go_step
      go_step
      exact H.out _ _ _ (hin.out _ ⟨rfl, rfl, by simp⟩)
    · have hk0 : (0 : Int) ≤ k := by omega
      have hk1 : (k : Int) ≤ 5000 := by omega
      rcases Nat.eq_zero_or_pos k with rfl | hk2
      · go_wp2_with fail
        refine wp_label ?_
        go_step
        go_step
        exact H.out _ _ _ (hin.out _ ⟨rfl, rfl, by simp⟩)
      · go_wp2_with fail
        refine wp_label ?_
        go_step
        go_step
        exact H.out _ _ _ (hin.out _ ⟨rfl, rfl, by simp⟩)
    · go_wp2_with fail
      refine wp_label ?_
      go_step
      go_step
      exact H.out _ _ _ (hin.out _ ⟨rfl, rfl, by simp⟩)
end
end Go.Proofs.YtpnkaamijjeckaaDoor
