/- The slab's text: the bytes of a body, put together out of its cells. -/
import Derived.Test.YtpeedcghpdnogaaSlabD
import Derived.Laws.BytesArg
namespace Go.Proofs.Ytpeedcghpdnogaa
open Go.RowKit

theorem infU8 : (Try.prog.info? 5).map (fun i => (i.zero, i.size, i.bytes)) = some (some (.int .u8 0), 1, 1) := by kernel_rfl
theorem uStr : Try.prog.underlying 9 = some .string := by kernel_rfl
theorem uU8 : Try.prog.underlying 5 = some (.int .u8) := by kernel_rfl

def bstr (l : List UInt8) : Value := .string ⟨l.toArray⟩

theorem strOfNums_bytes (l : List UInt8) : strOfNums (l.map fun c => (c.toNat : Int)) = ⟨l.toArray⟩ := by
  unfold strOfNums
  congr 2
  rw [List.map_map]
  conv => rhs; rw [← List.map_id l]
  refine List.map_congr_left fun c _ => ?_
  simp

theorem run_conv_row {w : World} {base n g cap : Nat} {l : List UInt8} (ho : w.ownsRow base 5 1 (.slice (some ⟨g, 0, none⟩) n cap) n (l.map u8v)) (m : Nat) (hm : m ≤ n) :
    (convert 52 9 (.slice (some ⟨g, 0, none⟩) m cap)).run Try.prog w = .ok (bstr (l.take m)) w := by
  have hl : l.length = n := by have := ho.1; simpa using this
  have h := run_convert_bytes_arg (P := Try.prog) w 52 5 uBytes uU8 g 0 m cap ((l.take m).map fun c => (c.toNat : Int)) (by rw [List.length_map, List.length_take]; omega)
    (fun i hi => by
      have hil : i < l.length := by omega
      rw [Nat.zero_add, ho.cellAt i (by omega)]
      have e1 : ((l.take m).map fun c => (c.toNat : Int)).getD i 0 = (l[i].toNat : Int) := by
        rw [List.getD_eq_getElem?_getD, List.getElem?_map, List.getElem?_take, if_pos hi, List.getElem?_eq_getElem hil]
        rfl
      rw [e1, List.getElem?_map, List.getElem?_eq_getElem hil]
      rfl) 9 uStr
  rw [h, strOfNums_bytes]
  rfl

section
variable {B : Nat} {w0 w : World} {g : SlabG} {F : List (Nat × Obj)}

theorem St.blocks {H : List (Nat × Obj)} (h : St B w0 w H) : ∀ k, w.heap.size ≤ k → k ∉ H.map (·.1) := by
  intro k hk hm
  obtain ⟨p, hp, rfl⟩ := List.mem_map.1 hm
  have := h.lt (b := p.1) (o := p.2) hp
  omega

theorem St.cellAt {H : List (Nat × Obj)} (_h : St B w0 w H) {k : Nat} {cs : List UInt8} {v : Value} (hk : w.heap[k]? = some (cellObj cs v)) (hl : cs.length = 32) : w.cell? ⟨k, 32, none⟩ = some v := by
  unfold cellObj at hk
  simp only [World.cell?, hk]
  simp [hl]

set_option maxHeartbeats 1000000 in
theorem text_any (h : St B w0 w (g.heap ++ F)) {b : BodyG} (hb : b ∈ g.bs) (wf : b.Wf) :
    Calls Try.prog 29 #[ptr b.blk] w fun e w' => e = .returned (bstr b.text) ∧ St B w0 w' (g.heap ++ F) := by
  have c0 := h.b0 hb
  have c1 := h.b1 hb
  have hcell : ∀ (wx : World), St B w0 wx (g.heap ++ F) → ∀ (l1 l2 : Chain) (k : Nat) (cs : List UInt8), b.cells = l1 ++ (k, cs) :: l2 → wx.heap[k]? = some (cellObj cs (headP l2)) := by
    intro wx hx l1 l2 k cs e
    refine hx.get ?_
    rw [SlabG.heap, List.cons_append, List.append_assoc, List.append_assoc]
    refine List.mem_cons_of_mem _ (List.mem_append_right _ (List.mem_append_right _ (List.mem_append_left _ (List.mem_flatMap.2 ⟨b, hb, ?_⟩))))
    rw [BodyG.heap, e]
    exact List.mem_cons_of_mem _ mem_cellsH
  obtain ⟨p, hp⟩ := headP_ptr b.cells
  rw [hp] at c0
  have hp := Lib.hid hp
  have hcell := Lib.hid hcell
  have h := Lib.hid h
  obtain ⟨i0, hi, hz0, hz1, hz2⟩ := info_parts infU8
  go_enter Try.func29, Try.ntmps29
  go_wp2_with fail
  refine wp_scope_ghost 0 (fun n a' w' => ∃ (l1 l2 : Chain) (v : Value), n = l2.length ∧ Hid (b.cells = l1 ++ l2) ∧ Fr 28 [(0, ptr b.blk), (3, v), (4, headP l2)] a' ∧ St B w0 w' (g.heap ++ F) ∧ w.heap.size ≤ w'.heap.size ∧
    w'.ownsRow w.heap.size 5 1 v (32 * l1.length) ((l1.flatMap (·.2)).map u8v)) rfl ?_ ?_
  · rintro n a' w' ⟨l1, l2, v, rfl, he, hfr, hst, hge, hown⟩
    obtain ⟨f, rfl, hl⟩ := hfr.lit
    clear hfr
    simp only [List.mem_cons, List.not_mem_nil, or_false, forall_eq_or_imp, forall_eq] at hl
    obtain ⟨f0, f3, f4⟩ := hl
    simp only [List.range, List.range.loop, List.map, f0, f3, f4]
    clear f0 f3 f4 c0 c1
    have hst := Lib.hid hst
    have hown := Lib.hid hown
    cases l2 with
    | nil =>
      have c1 := hst.out.b1 hb
      have hcl : l1 = b.cells := by have := he.out; simpa using this.symm
      have hfl : ((l1.length : Int)) * 32 = cls b.size := by rw [hcl]; exact wf.cells
      have s0 := wf.size0
      have s1 := wf.size1
      have hsz : b.size.toNat ≤ 32 * l1.length := by
        have : b.size ≤ cls b.size := by unfold cls; repeat' split <;> omega
        omega
      simp only [headP]
      rcases hown.out.2 with ⟨rfl, hn⟩ | ⟨g1, cap, cur, rfl, _, _, hcap, hmax, _⟩
      · have hz : b.size = 0 := by omega
        rw [hz] at c1
        have hcv := run_convert_bytes_nil (P := Try.prog) w' 52 5 uBytes uU8 0 0 9 uStr
        have ht : bstr b.text = .string ByteArray.empty := by
          unfold BodyG.text
          rw [hz]
          rfl
        have ht := Lib.hid ht
        clear hz hfl hcl s0 s1 hsz
        go_wp2_with fail
        simp only [Exit.jump]
        go_ret
        exact ⟨by rw [ht.out]; rfl, hst.out⟩
      · have hcv := run_conv_row hown.out b.size.toNat hsz
        have hcap' : b.size ≤ (cap : Int) := by omega
        have hm : cap ≤ 9223372036854775807 := hmax
        have ht : bstr b.text = bstr ((l1.flatMap (·.2)).take b.size.toNat) := by
          unfold BodyG.text
          rw [hcl]
        have ht := Lib.hid ht
        generalize (l1.flatMap (·.2)).take b.size.toNat = tx at *
        clear hfl hcl hsz
        go_wp2_with fail
        simp only [Exit.jump]
        go_ret
        exact ⟨by rw [ht.out]; rfl, hst.out⟩
    | cons y l2 =>
      obtain ⟨k, cs⟩ := y
      have hcs := hcell.out w' hst.out l1 l2 k cs he.out
      rw [show headP ((k, cs) :: l2) = ptr k from rfl]
      have hlen : cs.length = 32 := wf.full (k, cs) (by rw [he.out]; simp)
      have hkc : ∀ j u, (cs.map u8v)[j]? = some u → w'.cell? ((⟨k, 0, none⟩ : Addr).add j) = some u := by
        intro j u hj
        have hjl : j < (cs.map u8v).length := (List.getElem?_eq_some_iff.1 hj).1
        have e : (⟨k, 0, none⟩ : Addr).add j = ⟨k, j, none⟩ := by unfold Addr.add; split <;> simp_all
        rw [e]
        unfold cellObj at hcs
        simp only [World.cell?, hcs]
        rw [List.getElem?_toArray, List.getElem?_append_left hjl]
        simpa using hj
      have hc1 : (cs.map u8v).length = 32 * 1 := by simp [hlen]
      have hc2 : ∀ u ∈ cs.map u8v, u.oneCell' = true := by
        intro u hu
        obtain ⟨c, _, rfl⟩ := List.mem_map.1 hu
        rfl
      have hl8 : l1.length ≤ 8 := by
        have h1 := wf.cells
        have h2 := (cls_le b.size).2
        have h3 : b.cells.length = l1.length + (l2.length + 1) := by rw [he.out]; simp
        omega
      have hc3 : 32 * l1.length + 32 ≤ maxLen := by unfold maxLen; omega
      have hc4 : (32 * l1.length + 32) * 1 ≤ 140737488355328 := by omega
      have hlen := Lib.hid hlen
      have hcs := Lib.hid hcs
      obtain ⟨p2, hp2⟩ := headP_ptr l2
      have hp2 := Lib.hid hp2
      have hkc := Lib.hid hkc
      have hc1 := Lib.hid hc1
      have hc2 := Lib.hid hc2
      go_wp2_with (at_builtin; refine wpList_append_own _ rfl (.tmp 11) (.tmp 15) 52 rfl w.heap.size 5 i0 (.int .u8 0) 1 1 uBytes hi hz0 hz1 hz2 rfl (by decide) _ _ _ rfl hown.out ⟨k, 0, none⟩ 32 32 (cs.map u8v) rfl hc1.out hkc.out hc2.out hc3 hc4 hge ?_; intro v2 w2 hown2 hgrow2 _; have hown3 := Lib.hid hown2; have hgrow := Lib.hid hgrow2; clear hown2 hgrow2; have hst2 := Lib.hid (hst.out.grown hgrow.out (fun j hj => ⟨Nat.le_trans h.out.base (hown.out.lt j hj).1, h.out.blocks j (hown.out.lt j hj).1⟩)); have c32 := (hst2.out.cellAt (hcell.out w2 hst2.out l1 l2 k cs he.out) hlen.out); rw [hp2.out] at c32)
      refine wp_goto ?_
      refine ⟨rfl, l2.length, Nat.lt_succ_self _, l1 ++ [(k, cs)], l2, v2, rfl, ?_, ⟨rfl, rfl, by rw [hp2.out]; simp⟩, hst2.out, Nat.le_trans hge hgrow.out.size, ?_⟩
      · rw [he.out]
        simp [Hid]
      · have h3 := hown3.out
        rw [← List.map_append] at h3
        have e1 : 32 * (l1 ++ [(k, cs)]).length = 32 * l1.length + 32 := by simp [Nat.mul_add]
        have e2 : (l1 ++ [(k, cs)]).flatMap (·.2) = l1.flatMap (·.2) ++ cs := by simp
        rw [e1, e2]
        exact h3
  · intro H
    go_wp2_with fail
    refine wp_label ?_
    go_step
    go_step
    refine H b.cells.length _ _ ⟨[], b.cells, _, rfl, Lib.hid rfl, ⟨rfl, rfl, ?_⟩, h.out, Nat.le_refl _, World.ownsRow_nil _ _ _ _⟩
    rw [hp.out]
    simp
end
end Go.Proofs.Ytpeedcghpdnogaa
