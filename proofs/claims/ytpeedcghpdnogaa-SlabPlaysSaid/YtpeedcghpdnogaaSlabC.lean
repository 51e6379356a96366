/- The slab's cells: take (a spare cell, or a new one) and write (a text laid into as many cells as its class has). -/
import Derived.Test.YtpeedcghpdnogaaSlabB
import Derived.Laws.CopyOwn
import Derived.StillTailTactics
import Derived.Lib.Strings
import Derived.Lib.Hide
import Derived.Deep.RegionHeld3
namespace Go.Proofs.Ytpeedcghpdnogaa
open Go.RowKit

/-! ### copy out of a string -/
theorem run_copy_str {P : Program} (w : World) (dT sT ty elem : TypeId) (g dLen dCap : Nat) (s : ByteArray) (cur : List Value) (t : TypeId) (n : Nat)
    (hu : P.underlying dT = some (.slice elem)) (hs : (P.info? elem).map (·.size) = some 1)
    (hg : w.heap[g]? = some (.cells cur.toArray t (0, 0))) (hn : n = Nat.min s.size dLen) (hfit : n ≤ cur.length) :
    (Builtin.copy_ #[dT, sT] ty #[.slice (some ⟨g, 0, none⟩) dLen dCap, .string s]).run P w =
      .ok (goInt n) (w.setRow g ((s.data.toList.take n).map u8v ++ cur.drop n).toArray) := by
  have hle : n ≤ s.size := by rw [hn]; exact Nat.min_le_left _ _
  have hle' : n ≤ s.data.toList.length := hle
  obtain ⟨cs, hcs⟩ : ∃ cs, cs = (s.data.toList.take n).map u8v := ⟨_, rfl⟩
  have hc : (s.extract 0 n).data.map (fun b => Value.int .u8 b.toNat) = cs.toArray := by
    apply Array.toList_inj.1
    rw [Array.toList_map, Lib.extract_data, hcs]
    simp
    rfl
  have hlen : cs.length = n := by rw [hcs, List.length_map, List.length_take]; omega
  have hone : ∀ v ∈ cs, v.oneCell' = true := by
    intro v hv
    rw [hcs] at hv
    obtain ⟨c, _, rfl⟩ := List.mem_map.1 hv
    rfl
  have hst := run_storeCells_at P g 0 t cs 0 cur.toArray w hg (by rw [hlen]; simpa using hfit) hone
  rw [← hcs]
  clear hcs
  cases hq : P.info? elem with
  | none => simp [hq] at hs
  | some i =>
    have hi : i.size = 1 := by simpa [hq] using hs
    have hf : (Builtin.firstCells 1 n (.string s)).run P w = .ok cs.toArray w := by
      show Sem.run P (pure ((s.extract 0 n).data.map fun b => Value.int .u8 b.toNat)) w = _
      rw [hc]
      rfl
    have hz : (sizeOf elem).run P w = .ok 1 w := by simp [sizeOf, typeInfo, hq, hi]
    have h0 : (Builtin.copy_ #[dT, sT] ty #[.slice (some ⟨g, 0, none⟩) dLen dCap, .string s]) = (do
      let .slice elem ← underlying dT | stuck "copy: slice type expected"
      let n := Nat.min (← Builtin.lenOf (.string s)) dLen
      let cells ← Builtin.firstCells (← sizeOf elem) n (.string s)
      storeCells ⟨g, 0, none⟩ cells.toList
      pure (goInt n)) := rfl
    rw [h0]
    simp only [Builtin.lenOf, Sem.run_bind, run_underlying hu, Result.andThen, Sem.run_pure, ← hn, hz, hf, hst]
    simp [hlen]

theorem step_copy_str {P : Program} {ops : Array Oper} {o : Oper} {a : Act} {w : World} {K : Act → World → Prop} {Q : Exit → Act → World → Prop} {E : Prop} (hgd : o.guard = none) (d s : Operand) (dT sT : TypeId)
    (ho : o.op = .call { callee := .builtin .copy, args := #[d, s], argTypes := #[dT, sT] }) (elem : TypeId) (hu : P.underlying dT = some (.slice elem)) (hsz : (P.info? elem).map (·.size) = some 1)
    (g dLen dCap : Nat) (b : ByteArray) (hd : a.eval d = .slice (some ⟨g, 0, none⟩) dLen dCap) (hs : a.eval s = .string b)
    (cur : List Value) (t : TypeId) (hg : w.heap[g]? = some (.cells cur.toArray t (0, 0))) (n : Nat) (hn : n = Nat.min b.size dLen) (hfit : n ≤ cur.length)
    (h : ∀ w', Hid (w' = w.setRow g ((b.data.toList.take n).map u8v ++ cur.drop n).toArray) → K (a.put o.dst (goInt n)) w') :
    if Region.wanted o (yielded ops a.tmps) = true then Oper.wp P o a w K Q else E := by
  have hw : Region.wanted o (yielded ops a.tmps) = true := by simp [Region.wanted, hgd]
  rw [if_pos hw]
  have hrun := run_copy_str (P := P) w dT sT o.type elem g dLen dCap b cur t n hu hsz hg hn hfit
  have h := h _ rfl
  generalize ((b.data.toList.take n).map u8v ++ cur.drop n).toArray = cs at h hrun
  unfold Oper.wp
  simp [execOp, ho, resolve, invoke, builtin, hd, hs, hrun, Result.andThen]
  exact h

theorem St.setRow0 {B : Nat} {w0 w : World} {b : Nat} {c : Array Value} {T : TypeId} {C : List (Nat × Obj)} (h : St B w0 w ((b, .cells c T) :: C)) (c' : Array Value) :
    St B w0 (w.setRow b c') ((b, .cells c' T) :: C) := by
  have hb := h.get (b := b) (o := .cells c T) (by simp)
  exact St.write (A := []) h (setRow_heap w b c c' T (0, 0) hb) (fun k hk => setRow_other w b k c' hk) (by simp [World.setRow]) rfl rfl rfl

def zero32 : List UInt8 := List.replicate 32 0

section
variable {B : Nat} {w0 w : World} {g : SlabG} {F : List (Nat × Obj)}

theorem uBytes : Try.prog.underlying 52 = some (.slice 5) := by kernel_rfl
theorem iU8 : (Try.prog.info? 5).map (·.size) = some 1 := by kernel_rfl

/-! ### take -/
set_option maxHeartbeats 400000 in
theorem take_new (h : St B w0 w (g.heap ++ F)) (hs : g.spare = []) :
    Calls Try.prog 30 #[ptr g.sb] w fun e w' => e = .returned (ptr w.heap.size) ∧ St B w0 w' ((w.heap.size, cellObj zero32 (.pointer none)) :: (g.heap ++ F)) := by
  have h2 := h.s2
  rw [hs] at h2
  simp only [headP] at h2
  have HF : Hid (St B w0 (w.alloc (cellObj zero32 (.pointer none))) ((w.heap.size, cellObj zero32 (.pointer none)) :: (g.heap ++ F))) := h.alloc _
  clear h hs
  go_enter Try.func30, Try.ntmps30
  go_wp2
  go_ret
  exact ⟨rfl, HF.out⟩

set_option maxHeartbeats 400000 in
theorem take_old (h : St B w0 w (g.heap ++ F)) {b : Nat} {cs : List UInt8} {r : Chain} (hs : g.spare = (b, cs) :: r) (hc : cs.length = 32) :
    Calls Try.prog 30 #[ptr g.sb] w fun e w' => e = .returned (ptr b) ∧ St B w0 w' ((b, cellObj cs (headP r)) :: ({ g with spare := r }.heap ++ F)) := by
  have h2 := h.s2
  rw [hs] at h2
  simp only [headP] at h2
  have hf := h.sf 2
  have hm : (b, cellObj cs (headP r)) ∈ g.heap ++ F := by simp [SlabG.heap, hs, cellsH]
  have h32 : w.cell? ⟨b, 32, none⟩ = some (headP r) := h.cell hm (by simp [hc])
  have HF : Hid (St B w0 (w.setCell ⟨g.sb, 2, none⟩ (headP r)) ((b, cellObj cs (headP r)) :: ({ g with spare := r }.heap ++ F))) := by
    have h1 := h.slab.set0 2 (headP r)
    rw [hs] at h1
    exact h1.perm (perm_pull _ _ g.mapH _ F)
  clear h hs hm
  obtain ⟨p, hp⟩ := headP_ptr r
  rw [hp] at h32
  rw [hp] at HF
  rw [hp]
  clear hp
  go_enter Try.func30, Try.ntmps30
  go_wp2
  go_ret
  exact ⟨rfl, HF.out⟩

def Full (c : Chain) : Prop := ∀ x ∈ c, x.2.length = 32

theorem full_nil : Full [] := fun _ hx => absurd hx (List.not_mem_nil)
theorem zero32_len : zero32.length = 32 := List.length_replicate

/-- A cell, spare or new. -/
theorem take_any (h : St B w0 w (g.heap ++ F)) (hs : Full g.spare) :
    Calls Try.prog 30 #[ptr g.sb] w fun e w' => ∃ b cs nx sp, e = .returned (ptr b) ∧ cs.length = 32 ∧ Full sp ∧ St B w0 w' ((b, cellObj cs nx) :: ({ g with spare := sp }.heap ++ F)) := by
  cases hsp : g.spare with
  | nil =>
    refine (take_new h hsp).mono fun e w' ⟨he, hw⟩ => ⟨_, zero32, .pointer none, [], he, zero32_len, full_nil, ?_⟩
    have : ({ g with spare := [] } : SlabG) = g := by rw [← hsp]
    rw [this]
    exact hw
  | cons x r =>
    obtain ⟨b, cs⟩ := x
    rw [hsp] at hs
    exact (take_old h hsp (hs (b, cs) (by simp))).mono fun e w' ⟨he, hw⟩ => ⟨_, _, _, r, he, hs (b, cs) (by simp), fun x hx => hs x (by simp [hx]), hw⟩

theorem cellObj_set (cs : List UInt8) (v v' : Value) (hc : cs.length = 32) : (.cells (((cs.map u8v ++ [v]).toArray).setIfInBounds 32 v') 73 : Obj) = cellObj cs v' := by
  unfold cellObj
  congr 1
  simp [hc]

theorem cellObj_copy (cs s : List UInt8) (v : Value) (n : Nat) (hc : cs.length = 32) (hn : n ≤ 32) :
    (.cells ((s.take n).map u8v ++ (cs.map u8v ++ [v]).drop n).toArray 73 : Obj) = cellObj (s.take n ++ cs.drop n) v := by
  unfold cellObj
  congr 2
  rw [List.drop_append_of_le_length (by simp; omega)]
  simp

theorem piece_step (s cs : List UInt8) (acc : List UInt8) (k n : Nat) (hn : n = min (s.length - 32 * k) 32) (hcs : cs.length = 32) (hacc : acc.take (s.length - 32 * (k + 1)) = s.drop (32 * (k + 1))) :
    (((s.drop (32 * k)).take n ++ cs.drop n) ++ acc).take (s.length - 32 * k) = s.drop (32 * k) := by
  by_cases h : s.length - 32 * k ≤ 32
  · have : n = s.length - 32 * k := by omega
    have hl : (s.drop (32 * k)).length = n := by rw [List.length_drop]; omega
    rw [List.append_assoc, List.take_append_of_le_length (by rw [List.length_take]; omega), List.take_take]
    rw [show min (s.length - 32 * k) n = (s.drop (32 * k)).length by omega, List.take_length]
  · have : n = 32 := by omega
    subst this
    have hl : ((s.drop (32 * k)).take 32).length = 32 := by rw [List.length_take, List.length_drop]; omega
    rw [List.drop_of_length_le (l := cs) (by omega), List.append_nil, List.take_append, hl]
    rw [show s.length - 32 * k - 32 = s.length - 32 * (k + 1) by omega, hacc, List.take_of_length_le (by omega)]
    rw [show 32 * (k + 1) = 32 * k + 32 by omega, ← List.drop_drop, List.take_append_drop]

def Wrote (B : Nat) (w0 : World) (g : SlabG) (F : List (Nat × Obj)) (s : List UInt8) (k : Nat) (acc sp : Chain) (w' : World) : Prop :=
  St B w0 w' ({ g with spare := sp }.heap ++ (cellsH acc ++ F)) ∧ Full sp ∧ Full acc ∧ ((acc.length + k : Nat) : Int) * 32 = cls s.length ∧ (acc.flatMap (·.2)).take (s.length - 32 * k) = s.drop (32 * k)

theorem cell_fit {cs : List UInt8} (hc : cs.length = 32) (v : Value) (m : Nat) : Nat.min m 32 ≤ (cs.map u8v ++ [v]).length := by
  have := Nat.min_le_right m 32
  simp only [List.length_append, List.length_map, hc, List.length_cons, List.length_nil]
  exact Nat.le_succ_of_le this

theorem wrote_next {s : List UInt8} {k b : Nat} {cs : List UInt8} {nx : Value} {acc sp : Chain} (h : St B w0 w ((b, cellObj cs nx) :: ({ g with spare := sp }.heap ++ (cellsH acc ++ F)))) (hc : cs.length = 32)
    (h1 : Full sp) (h2 : Full acc) (h3 : ((acc.length + (k + 1) : Nat) : Int) * 32 = cls s.length) (h4 : ((cs ++ acc.flatMap (·.2)).take (s.length - 32 * k) = s.drop (32 * k))) :
    Wrote B w0 g F s k ((b, cs) :: acc) sp (w.setCell ⟨b, 32, none⟩ (headP acc)) := by
  refine ⟨?_, h1, ?_, ?_, ?_⟩
  · have h5 := St.set0 (c := (cs.map u8v ++ [nx]).toArray) (T := 73) (fr := (0, 0)) h 32 (headP acc)
    rw [cellObj_set cs _ _ hc] at h5
    exact h5.perm List.perm_middle.symm
  · intro x hx
    rcases List.mem_cons.1 hx with rfl | hx
    · exact hc
    · exact h2 x hx
  · rw [← h3]; simp only [List.length_cons]; congr 2; omega
  · simpa using h4

set_option maxHeartbeats 1000000 in
theorem write_any (h : St B w0 w (g.heap ++ F)) (hs : Full g.spare) (s : ByteArray) (hl : s.size ≤ 256) :
    Calls Try.prog 26 #[ptr g.sb, .string s] w fun e w' => ∃ acc sp, e = .returned (headP acc) ∧ Wrote B w0 g F s.data.toList 0 acc sp w' := by
  have H0 : ∃ k : Nat, 32 * (k : Int) = cls s.size ∧ Wrote B w0 g F s.data.toList k [] g.spare w := by
    have hz : (s.data.toList.length : Int) = s.size := by simp
    have hc : ∃ k : Nat, 32 * (k : Int) = cls s.size ∧ s.size ≤ 32 * k := by
      unfold cls
      by_cases h0 : (s.size : Int) ≤ 0
      · exact ⟨0, by rw [if_pos h0]; rfl, by omega⟩
      by_cases h1 : (s.size : Int) ≤ 32
      · exact ⟨1, by rw [if_neg h0, if_pos h1]; rfl, by omega⟩
      by_cases h2 : (s.size : Int) ≤ 64
      · exact ⟨2, by rw [if_neg h0, if_neg h1, if_pos h2]; rfl, by omega⟩
      by_cases h3 : (s.size : Int) ≤ 128
      · exact ⟨4, by rw [if_neg h0, if_neg h1, if_neg h2, if_pos h3]; rfl, by omega⟩
      · exact ⟨8, by rw [if_neg h0, if_neg h1, if_neg h2, if_neg h3, if_pos (by omega)]; rfl, by omega⟩
    obtain ⟨k, hk, hle⟩ := hc
    refine ⟨k, hk, h, hs, full_nil, by simp; omega, ?_⟩
    rw [List.drop_of_length_le (by simpa using hle)]
    simp
  clear h hs
  have hcl := class_any s.size
  go_enter Try.func26, Try.ntmps26
  go_wp2_with fail
  refine wp_scope_label 0 (fun a' w' => ∃ (k : Nat) (c : Int) (acc sp : Chain), Hid (c = 32 * k) ∧ Fr 35 [(0, ptr g.sb), (1, .string s), (5, headP acc), (7, .int .i64 c)] a' ∧ Wrote B w0 g F s.data.toList k acc sp w') (fun a' _ => (intOf (a'.tmps.getD 7 undef)).toNat) rfl ?_ ?_
  · rintro a' w' ⟨k, c, acc, sp, hk, hf, hw⟩
    obtain ⟨f, rfl, hl⟩ := hf.lit
    clear hf
    simp only [List.mem_cons, List.not_mem_nil, or_false, forall_eq_or_imp, forall_eq] at hl
    obtain ⟨f0, f1, f5, f7⟩ := hl
    simp only [List.range, List.range.loop, List.map, f0, f1, f5, f7]
    clear f0 f1 f5 f7 H0
    obtain ⟨p, hp⟩ := headP_ptr acc
    have hp := Lib.hid hp
    cases k with
    | zero =>
      have h0 : c = 0 := hk.out
      subst h0
      rw [hp.out]
      go_wp2_with fail
      simp only [Exit.jump]
      go_ret
      exact ⟨acc, sp, by rw [hp.out]; rfl, hw⟩
    | succ k =>
      have h0 : (c == 0) = false := by have := hk.out; rw [beq_eq_false_iff_ne]; omega
      have h1 : 32 ≤ c := by have := hk.out; omega
      have h2 : c ≤ 256 := by have := hk.out; have := hw.2.2.2.1; have := (cls_le s.data.toList.length).2; omega
      rw [hp.out]
      have hw := Lib.hid hw
      go_wp2_with fail
      refine (take_any hw.out.1 hw.out.2.1).mono ?_
      rintro e w1 ⟨b, cs, nx, sp', rfl, hcs, hsp', h3⟩
      have hcell := h3.get (b := b) (o := cellObj cs nx) (by simp)
      have g32 := h3.cell (b := b) (c := (cs.map u8v ++ [nx]).toArray) List.mem_cons_self (i := 32) (v := nx) (by simp [hcs])
      have gf := h3.soft (b := b) (c := (cs.map u8v ++ [nx]).toArray) List.mem_cons_self 32
      have hcs := Lib.hid hcs
      have hcell := Lib.hid hcell
      have h3 := Lib.hid h3
      by_cases hlt : c - 32 < (s.size : Int)
      · have h5 : 0 ≤ c - 32 := by omega
        have h6 : c - 32 ≤ (s.size : Int) := by omega
        go_wp2_with fail
        have hcell' : Hid (w1.drew.heap[b]? = some (.cells (cs.map u8v ++ [nx]).toArray 73 (0, 0))) := hcell.out
        have hfit := Lib.hid (cell_fit hcs.out nx)
        go_region_held3 (fun _ => True) (trivial) ((refine step_copy_str (w := w1.drew) rfl (.tmp 25) (.tmp 28) 52 9 rfl 5 uBytes iU8 b 32 32 _ rfl rfl (cs.map u8v ++ [nx]) 73 hcell'.out _ rfl (hfit.out _) ?_; intro w2 hw2))
        have hz : s.data.toList.length = s.size := by simp
        have hc0 : (c - 32).toNat = 32 * k := by have := hk.out; omega
        have hx : (s.extract (c - 32).toNat s.size).data.toList = s.data.toList.drop (32 * k) := by
          rw [Lib.extract_data, hc0, List.take_of_length_le (by rw [List.length_drop]; omega)]
        have hn : (s.extract (c - 32).toNat s.size).size = s.size - 32 * k := by
          have := congrArg List.length hx
          rw [List.length_drop] at this
          rw [← hz, ← this]
          simp
        obtain ⟨n, hnn⟩ : ∃ n, n = Nat.min (s.extract (c - 32).toNat s.size).size 32 := ⟨_, rfl⟩
        have hn32 : n ≤ 32 := by rw [hnn]; exact Nat.min_le_right _ _
        have h4 : St B w0 w2 ((b, cellObj ((s.data.toList.drop (32 * k)).take n ++ cs.drop n) nx) :: ({ g with spare := sp' }.heap ++ (cellsH acc ++ F))) := by
          rw [hw2.out, hx, ← hnn, ← cellObj_copy cs _ nx n hcs.out hn32]
          exact St.setRow0 (c := (cs.map u8v ++ [nx]).toArray) (T := 73) h3.out.drew _
        have hlen : ((s.data.toList.drop (32 * k)).take n ++ cs.drop n).length = 32 := by
          have := hcs.out
          have hnl : n ≤ s.size - 32 * k := by rw [hnn, ← hn]; exact Nat.min_le_left _ _
          simp only [List.length_append, List.length_take, List.length_drop]
          omega
        have hfin := Lib.hid (wrote_next h4 hlen hsp' hw.out.2.2.1 hw.out.2.2.2.1 (piece_step s.data.toList cs _ k n (by rw [hnn, hn, hz]) hcs.out hw.out.2.2.2.2))
        have g32 := h4.cell (b := b) (c := (((s.data.toList.drop (32 * k)).take n ++ cs.drop n).map u8v ++ [nx]).toArray) List.mem_cons_self (i := 32) (v := nx) (by
          rw [List.getElem?_toArray, List.getElem?_append_right (by rw [List.length_map, hlen]; exact Nat.le_refl _), List.length_map, hlen]
          rfl)
        have gf := h4.soft (b := b) (c := (((s.data.toList.drop (32 * k)).take n ++ cs.drop n).map u8v ++ [nx]).toArray) List.mem_cons_self 32
        have hlen := Lib.hid hlen
        generalize hcs' : (s.data.toList.drop (32 * k)).take n ++ cs.drop n = cs' at *
        clear h4 hx hn hz hc0 hnn hn32 hfit hcell' hw2 hcs'
        go_wp2_with fail
        refine wp_goto ?_
        refine ⟨rfl, ⟨k, c - 32, (b, cs') :: acc, sp', ?_, ⟨rfl, rfl, by simp [headP]⟩, ?_⟩, ?_⟩
        · have := hk.out
          show c - 32 = _
          omega
        · rw [← hp.out]
          exact hfin.out
        · simp [intOf]
          omega
      · go_wp2_with fail
        refine wp_goto ?_
        refine ⟨rfl, ⟨k, c - 32, (b, cs) :: acc, sp', ?_, ⟨rfl, rfl, by simp [headP]⟩, ?_⟩, ?_⟩
        · have := hk.out
          show c - 32 = _
          omega
        · rw [← hp.out]
          refine wrote_next h3.out hcs.out hsp' hw.out.2.2.1 hw.out.2.2.2.1 ?_
          have := hk.out
          have hz : s.data.toList.length = s.size := by simp
          rw [hz, show s.size - 32 * k = 0 by omega, List.take_zero, List.drop_of_length_le (by omega)]
        · simp [intOf]
          omega
  · intro H
    obtain ⟨k, hk, hw⟩ := H0
    have hk := Lib.hid hk
    go_wp2_with fail
    refine (hcl w).mono ?_
    rintro e w' ⟨rfl, rfl⟩
    go_wp2_with fail
    refine wp_label ?_
    go_step
    go_step
    exact H _ _ ⟨k, _, [], g.spare, hk.out.symm, ⟨rfl, rfl, by simp [headP]⟩, hw⟩
end
end Go.Proofs.Ytpeedcghpdnogaa
