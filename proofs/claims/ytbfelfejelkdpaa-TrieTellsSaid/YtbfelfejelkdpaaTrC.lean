/- Tables of ids: counted, asked, put into. -/
import Derived.Test.YtbfelfejelkdpaaChecked
import Derived.Test.YtbfelfejelkdpaaTrB
import Derived.WalkKit
import Derived.Deep.DeepCutAuto
import Derived.Deep.CutBlock
import Derived.StillTailTactics
import Derived.Lib.Hide
import Derived.Deep.QuietTactic
import Derived.BigQuiet
import Derived.Deep.LoopGhost
namespace Go.Proofs.Ytbfelfejelkdpaa
open Go.RowKit
open Go.ChangeMaps (setBlock)
set_option linter.unusedVariables false
set_option linter.unusedSectionVars false
set_option linter.unusedSimpArgs false
set_option maxRecDepth 100000

/-! ### what a table holds -/
structure Tb (α : Type) where
  mv : Option Nat
  es : List (Ent α)
  clk : Nat
  most : Nat
section
variable {α : Type} [DecidableEq α]
def Tb.new : Tb α := ⟨none, [], 0, 0⟩
def Tb.rows (t : Tb α) : List (α × Value) := t.es.map fun e => (e.1, e.2.1)
def tabH (enc : α → Value) (t : Tb α) : List (Nat × Obj) := match t.mv with
  | none => []
  | some b => [(b, .map (entsE enc t.es) t.clk)]
structure TbOk (t : Tb α) (n : Nat) : Prop where
  keys : (t.es.map (·.1)).Nodup
  born : Born t.es t.clk
  bare : t.mv = none → t.es = [] ∧ t.clk = 0
  len : t.es.length ≤ n
  most : t.most ≤ n
theorem TbOk.new (n : Nat) : TbOk (Tb.new : Tb α) n := ⟨by simp [Tb.new], ⟨by simp [Tb.new], by simp [Tb.new]⟩, fun _ => ⟨rfl, rfl⟩, Nat.zero_le _, Nat.zero_le _⟩
theorem TbOk.mono {t : Tb α} {n m : Nat} (h : TbOk t n) (hm : n ≤ m) : TbOk t m := ⟨h.keys, h.born, h.bare, Nat.le_trans h.len hm, Nat.le_trans h.most hm⟩

/-- A table with a row more. -/
structure TbPut (t t' : Tb α) (k : α) (v : Value) : Prop where
  rows : t'.rows = t.rows ++ [(k, v)]
/-- .. without one. -/
structure TbCut (t t' : Tb α) (k : α) : Prop where
  rows : t'.rows.Perm (t.rows.filter fun x => decide (x.1 ≠ k))

theorem seek_none {l : List (Ent α)} {k : α} : seek l k = none ↔ k ∉ l.map (·.1) := by
  unfold seek
  rw [List.find?_eq_none]
  simp only [decide_eq_true_eq, List.mem_map, not_exists, not_and]
theorem seek_mem {l : List (Ent α)} {k : α} {e : Ent α} (h : seek l k = some e) : e ∈ l ∧ e.1 = k := by
  unfold seek at h
  exact ⟨List.mem_of_find?_eq_some h, by simpa using List.find?_some h⟩
theorem seek_some {l : List (Ent α)} {e : Ent α} (hn : (l.map (·.1)).Nodup) (h : e ∈ l) : seek l e.1 = some e := by
  cases hs : seek l e.1 with
  | none => exact absurd (List.mem_map_of_mem h) (seek_none.1 hs)
  | some x =>
    obtain ⟨h1, h2⟩ := seek_mem hs
    obtain ⟨i, hi⟩ := List.getElem?_of_mem h
    obtain ⟨j, hj⟩ := List.getElem?_of_mem h1
    have hil := (List.getElem?_eq_some_iff.1 hi).1
    have : i = j := (List.getElem?_inj (by simpa using hil) hn).1 (by simp [hi, hj, h2])
    subst this
    rw [hi] at hj; cases hj; rfl
theorem seek_isSome {l : List (Ent α)} {k : α} : (seek l k).isSome = decide (k ∈ l.map (·.1)) := by
  cases hs : seek l k with
  | none => simpa using seek_none.1 hs
  | some e =>
    obtain ⟨h1, h2⟩ := seek_mem hs
    have : k ∈ l.map (·.1) := h2 ▸ List.mem_map_of_mem h1
    simp only [Option.isSome_some, true_eq_decide_iff] 
    exact this
theorem keys_rows (t : Tb α) : t.rows.map (·.1) = t.es.map (·.1) := by simp [Tb.rows, Function.comp_def]

/-- What is read of a table at the cells o, o + 1 of block b. -/
structure TbAt (w : World) (b o : Nat) (enc : α → Value) (t : Tb α) : Prop where
  c0 : w.cell? ⟨b, o, none⟩ = some (.map t.mv)
  c1 : w.cell? ⟨b, o + 1, none⟩ = some (.int .i64 t.most)
  map : ∀ mb, t.mv = some mb → w.heap[mb]? = some (.map (entsE enc t.es) t.clk)
end

/-! ### ids -/
abbrev encI : Int → Value := fun k => .int .i64 k
theorem uInt12 : Try.prog.underlying 3 = some (.int .i64) := by kernel_rfl
theorem uMapI : Try.prog.underlying 45 = some (.map 3 54) := by kernel_rfl
theorem keyI : KeyBy Try.prog 3 encI (fun _ _ => True) := keyBy_now uInt12 (fun em n k w => by simp [Instr.checkKey, run_underlying uInt12])
  (fun a b => by
    have h : Instr.sameNow (.int .i64) (encI a) (encI b) = some (a == b) := rfl
    rw [h, Option.some.injEq, Bool.eq_iff_iff, beq_iff_eq, decide_eq_true_iff]
    exact eq_comm) (fun k => by
    have h : Instr.sameBits 10000 (encI k) (encI k) = (IntKind.i64 == IntKind.i64 && k == k) := rfl
    rw [h, beq_self_eq_true k]
    rfl)
theorem zUnit (w : World) : (zeroValue 54).run Try.prog w = .ok (.agg #[]) w := Try.zeroValue54 w

section
variable {B : Nat} {w0 w : World} {F : List (Nat × Obj)} {b o : Nat} {c : Array Value} {T : TypeId} {t : Tb Int} {n : Nat} {k : Int}

theorem countI_any (h : TbAt w b o encI t) (hb : t.mv = none → t.es = []) : Calls Try.prog 27 #[.pointer (some ⟨b, o, none⟩)] w fun e w' => e = .returned (.int .i64 t.es.length) ∧ w' = w := by
  obtain ⟨c0, -, hm⟩ := h
  cases hmv : t.mv with
  | none =>
    rw [hmv] at c0
    have hl := fun ty => run_lenE_nil (P := Try.prog) (w := w) (ty := ty) uMapI
    rw [hb hmv]
    go_enter Try.func27, Try.ntmps27
    go_wp2_with fail
    go_ret
    exact ⟨rfl, rfl⟩
  | some mb =>
    rw [hmv] at c0
    have hl := fun ty => run_lenE (P := Try.prog) (ty := ty) uMapI (hm mb hmv)
    generalize t.es.length = L at *
    go_enter Try.func27, Try.ntmps27
    go_wp2_with fail
    go_ret
    exact ⟨rfl, rfl⟩

/-- Of ids nothing is told but that they are there. -/
def Bare (t : Tb Int) : Prop := ∀ e ∈ t.es, e.2.1 = .agg #[]
theorem Bare.look (h : Bare t) (k : Int) : ((seek t.es k).map (·.2.1)).getD (.agg #[]) = .agg #[] := by
  cases hs : seek t.es k with
  | none => rfl
  | some e => exact h e (seek_mem hs).1

theorem hasI_any (h : TbAt w b o encI t) (hb : t.mv = none → t.es = []) (hv : Bare t) (k : Int) : Calls Try.prog 15 #[.pointer (some ⟨b, o, none⟩), .int .i64 k] w fun e w' => e = .returned (.bool (decide (k ∈ t.es.map (·.1)))) ∧ Below w.heap.size w w' := by
  obtain ⟨c0, -, hm⟩ := h
  have hnew := Lib.hid (new_below w (.cells #[] 54))
  cases hmv : t.mv with
  | none =>
    rw [hmv] at c0
    have hl := run_lookE_nil (c := true) keyI uMapI (zUnit w) (k := k) trivial
    rw [hb hmv]
    simp only [List.map_nil, List.not_mem_nil, decide_false]
    go_enter Try.func15, Try.ntmps15
    go_wp2_with fail
    go_ret
    exact ⟨rfl, hnew.out⟩
  | some mb =>
    rw [hmv] at c0
    have hl := run_lookE (c := true) keyI uMapI (zUnit w) (hm mb hmv) (k := k) trivial (fun _ _ => trivial)
    rw [hv.look, seek_isSome] at hl
    clear hm hv hb
    generalize decide (k ∈ t.es.map (·.1)) = r at *
    go_enter Try.func15, Try.ntmps15
    go_wp2_with fail
    go_ret
    exact ⟨rfl, hnew.out⟩

theorem uEqMapI (w : World) (m : Option Nat) : (binOp .eql 45 (.map m) (.map none)).run Try.prog w = .ok (.bool m.isNone) w := by
  simp only [binOp]
  simp [run_equal_map_nil w 45 _ _ m uMapI]

theorem Tb.rows_push (t : Tb Int) (k : Int) (v : Value) (m : Option Nat) (q : Nat) : (⟨m, t.es ++ [(k, v, t.clk)], t.clk + 1, q⟩ : Tb Int).rows = t.rows ++ [(k, v)] := by simp [Tb.rows]
theorem TbOk.push {α : Type} [DecidableEq α] {t : Tb α} {n : Nat} {k : α} (h : TbOk t n) (hk : k ∉ t.es.map (·.1)) (v : Value) (mb : Nat) : TbOk (⟨some mb, t.es ++ [(k, v, t.clk)], t.clk + 1, max t.most (t.es.length + 1)⟩ : Tb α) (n + 1) := by
  refine ⟨?_, ⟨?_, ?_⟩, (fun e => nomatch e), ?_, ?_⟩
  · simp only [List.map_append, List.map_cons, List.map_nil]
    rw [List.nodup_append]
    exact ⟨h.keys, by simp, by rintro a ha b hb rfl; rw [List.mem_singleton] at hb; subst hb; exact hk ha⟩
  · simp only [List.map_append, List.map_cons, List.map_nil]
    rw [List.nodup_append]
    refine ⟨h.born.1, by simp, ?_⟩
    rintro a ha b hb rfl
    rw [List.mem_singleton] at hb
    subst hb
    obtain ⟨e, he, e1⟩ := List.mem_map.1 ha
    have := h.born.2 e he
    omega
  · intro e he
    rcases List.mem_append.1 he with he | he
    · have := h.born.2 e he
      show _ < t.clk + 1
      omega
    · rw [List.mem_singleton] at he
      subst he
      exact Nat.lt_succ_self _
  · have := h.len
    simp only [List.length_append, List.length_singleton]
    omega
  · have := h.len
    have := h.most
    show max _ _ ≤ _
    omega

/-- A block's cells with a table at o, o + 1. -/
def tabC (c : Array Value) (o : Nat) (m : Option Nat) (q : Nat) : Array Value := (c.setIfInBounds o (.map m)).setIfInBounds (o + 1) (.int .i64 q)
theorem tabC_tabC (c : Array Value) (o : Nat) (m m' : Option Nat) (q q' : Nat) : tabC (tabC c o m q) o m' q' = tabC c o m' q' := by
  unfold tabC
  apply Array.ext_getElem?
  intro i
  simp only [Array.getElem?_setIfInBounds, Array.size_setIfInBounds]
  by_cases h1 : o + 1 = i
  · simp [h1]
  · by_cases h2 : o = i
    · simp [h1, h2]
    · simp [h1, h2]
theorem tabC_same {c : Array Value} {o : Nat} {m : Option Nat} {q : Nat} (h0 : c[o]? = some (.map m)) (h1 : c[o + 1]? = some (.int .i64 q)) : tabC c o m q = c := by
  unfold tabC
  apply Array.ext_getElem?
  intro i
  have l0 := (Array.getElem?_eq_some_iff.1 h0).1
  have l1 := (Array.getElem?_eq_some_iff.1 h1).1
  simp only [Array.getElem?_setIfInBounds, Array.size_setIfInBounds]
  by_cases e1 : o + 1 = i
  · subst e1; rw [h1]; simp [l1]
  · by_cases e2 : o = i
    · subst e2; rw [h0]; simp [l0]
    · simp [e1, e2]
theorem tabC_0 {c : Array Value} {o : Nat} (m : Option Nat) (q : Nat) (h : o < c.size) : (tabC c o m q)[o]? = some (.map m) := by
  unfold tabC
  simp [Array.getElem?_setIfInBounds, h]
theorem tabC_1 {c : Array Value} {o : Nat} (m : Option Nat) (q : Nat) (h : o + 1 < c.size) : (tabC c o m q)[o + 1]? = some (.int .i64 q) := by
  unfold tabC
  simp [Array.getElem?_setIfInBounds, h]

/-- What a call leaves that turned a table. -/
def TabR {α : Type} (enc : α → Value) (B : Nat) (w0 : World) (b o : Nat) (c : Array Value) (T : TypeId) (F : List (Nat × Obj)) (ok : Tb α → Prop) (e : Ending) (w' : World) : Prop :=
  e = .returned (.tuple #[]) ∧ ∃ t', ok t' ∧ St B w0 w' ((b, .cells (tabC c o t'.mv t'.most) T) :: (tabH enc t' ++ F))

/-- What put leaves. -/
def PutR {α : Type} (enc : α → Value) (B : Nat) (w0 : World) (b o : Nat) (c : Array Value) (T : TypeId) (F : List (Nat × Obj)) (t : Tb α) (k : α) (v : Value) (n : Nat) (e : Ending) (w' : World) : Prop :=
  e = .returned (.tuple #[]) ∧ ∃ mb, St B w0 w' ((b, .cells ((c.setIfInBounds o (.map (some mb))).setIfInBounds (o + 1) (.int .i64 (max t.most (t.es.length + 1) : Nat))) T) :: ((mb, .map (entsE enc (t.es ++ [(k, v, t.clk)])) (t.clk + 1)) :: F))

set_option maxHeartbeats 1000000 in
theorem putI_any (hst : St B w0 w ((b, .cells c T) :: (tabH encI t ++ F))) (h0 : c[o]? = some (.map t.mv)) (h1 : c[o + 1]? = some (.int .i64 t.most)) (hok : TbOk t n) (hn : n ≤ 1000000) (hk : k ∉ t.es.map (·.1)) :
    Calls Try.prog 19 #[.pointer (some ⟨b, o, none⟩), .int .i64 k, .agg #[]] w (PutR encI B w0 b o c T F t k (.agg #[]) n) := by
  have hmk := fun w : World => run_makeMap (P := Try.prog) 45 w
  have heq := uEqMapI
  have hnew : St B w0 (w.alloc (.cells #[] 54)) ((b, .cells c T) :: (tabH encI t ++ F)) := (hst.alloc _).sub (List.sublist_cons_self _ _)
  have hso : (w.alloc (.cells #[] 54)).cell? ⟨b, o, none⟩ = some (.map t.mv) := hnew.cell (b := b) List.mem_cons_self h0
  have hbx : (w.alloc (.cells #[] 54)).heap[w.heap.size]? = some (.cells #[] 54) := (MapKept.heap_alloc w _).1
  have hlen := hok.len
  have hmost := hok.most
  replace hok := Lib.hid hok
  replace hnew := Lib.hid hnew
  replace h0 := Lib.hid h0
  replace h1 := Lib.hid h1
  go_enter Try.func19, Try.ntmps19
  go_upto_if 10 with fail
  go_cut [] (fun wy => ∃ mb, Hid (St B w0 wy ((b, .cells (c.setIfInBounds o (.map (some mb))) T) :: ((mb, .map (entsE encI t.es) t.clk) :: F))) ∧ wy.heap[w.heap.size]? = some (.cells #[] 54))
  case first =>
    cases hmv : t.mv with
    | none =>
      rw [hmv] at hso
      obtain ⟨he, hclk⟩ := hok.out.bare hmv
      have hs2 := hnew.out.alloc (.map #[] 0)
      have hsz : (w.alloc (.cells #[] 54)).heap.size = w.heap.size + 1 := by simp
      rw [hsz] at hs2
      unfold tabH at hs2
      rw [hmv] at hs2
      have hs2' := hs2.perm (List.Perm.swap _ _ _)
      have f2 := hs2'.soft (b := b) List.mem_cons_self o
      have c2 := hs2'.cell (b := b) List.mem_cons_self h0.out
      have hs3 := hs2'.set0 o (.map (some (w.heap.size + 1)))
      have hbx2 : (((w.alloc (.cells #[] 54)).alloc (.map #[] 0)).setCell ⟨b, o, none⟩ (.map (some (w.heap.size + 1)))).heap[w.heap.size]? = some (.cells #[] 54) := by
        have hbl : b ≠ w.heap.size := by
          have := hst.lt (b := b) (o := .cells c T) List.mem_cons_self
          omega
        rw [Below.heap_setCell _ _ _ _ (by simpa using Ne.symm hbl), Below.heap_alloc _ _ _ (by simp)]
        exact hbx
      have fin : Hid (∃ mb, Hid (St B w0 (((w.alloc (.cells #[] 54)).alloc (.map #[] 0)).setCell ⟨b, o, none⟩ (.map (some (w.heap.size + 1)))) ((b, .cells (c.setIfInBounds o (.map (some mb))) T) :: ((mb, .map (entsE encI t.es) t.clk) :: F))) ∧ (((w.alloc (.cells #[] 54)).alloc (.map #[] 0)).setCell ⟨b, o, none⟩ (.map (some (w.heap.size + 1)))).heap[w.heap.size]? = some (.cells #[] 54)) := by
        refine Lib.hid ⟨w.heap.size + 1, Lib.hid ?_, hbx2⟩
        rw [he, hclk]
        exact hs3
      clear hs2 hs2' hs3 hbx2 hst
      go_wp2_with fail
      go_meet
      case rel => exact fin.out
    | some mb =>
      rw [hmv] at hso
      have hs2 := hnew.out
      unfold tabH at hs2
      rw [hmv] at hs2
      have hsame : c.setIfInBounds o (.map (some mb)) = c := by
        rw [hmv] at h0
        have := h0.out
        apply Array.ext_getElem?
        intro i
        rw [Array.getElem?_setIfInBounds]
        split
        · rename_i e
          subst e
          rw [this, if_pos (Array.getElem?_eq_some_iff.1 this).1]
        · rfl
      have fin : Hid (∃ mb, Hid (St B w0 (w.alloc (.cells #[] 54)) ((b, .cells (c.setIfInBounds o (.map (some mb))) T) :: ((mb, .map (entsE encI t.es) t.clk) :: F))) ∧ (w.alloc (.cells #[] 54)).heap[w.heap.size]? = some (.cells #[] 54)) := Lib.hid ⟨mb, Lib.hid (by rw [hsame]; exact hs2), hbx⟩
      clear hs2 hsame hst
      go_wp2_with fail
      go_meet
      case rel => exact fin.out
  case rest =>
    clear hst
    obtain ⟨mb, hst, hby⟩ := hcut
    clear hso hbx hnew heq hmk
    have hlt : o < c.size := (Array.getElem?_eq_some_iff.1 h0.out).1
    have e0 := hst.out.cell (b := b) (i := o) (v := .map (some mb)) List.mem_cons_self (by simp [hlt])
    have hg : wc.drew.heap[mb]? = some (.map (entsE encI t.es) t.clk) := hst.out.get (b := mb) (List.mem_cons_of_mem _ List.mem_cons_self)
    have hmu := run_mapE_new keyI uMapI hg (k := k) trivial (fun _ _ => trivial) (.agg #[]) (seek_none.2 hk)
    have hs2 := (hst.out.drew.perm (List.Perm.swap _ _ _)).block0 (o' := .map (entsE encI (t.es ++ [(k, .agg #[], t.clk)])) (t.clk + 1))
    generalize hW : setBlock wc.drew mb (.map (entsE encI (t.es ++ [(k, .agg #[], t.clk)])) (t.clk + 1)) = W at *
    replace hW := Lib.hid hW
    have g0 := hs2.cell (b := b) (i := o) (v := .map (some mb)) (List.mem_cons_of_mem _ List.mem_cons_self) (by simp [hlt])
    have g1 := hs2.cell (b := b) (i := o + 1) (v := .int .i64 t.most) (List.mem_cons_of_mem _ List.mem_cons_self) (by rw [Array.getElem?_setIfInBounds_ne (by omega)]; exact h1.out)
    have gf := hs2.soft (b := b) (List.mem_cons_of_mem _ List.mem_cons_self) (o + 1)
    have gl := fun ty => run_lenE (P := Try.prog) (ty := ty) uMapI (hs2.drew.get (b := mb) List.mem_cons_self)
    rw [List.length_append, List.length_singleton] at gl
    have hs3 := (hs2.perm (List.Perm.swap _ _ _)).set0 (o + 1) (.int .i64 (max t.most (t.es.length + 1) : Nat))
    have hs3d := (hs2.drew.perm (List.Perm.swap _ _ _)).set0 (o + 1) (.int .i64 (max t.most (t.es.length + 1) : Nat))
    have fin : Hid (PutR encI B w0 b o c T F t k (.agg #[]) n (.returned (.tuple #[])) (W.drew.setCell ⟨b, o + 1, none⟩ (.int .i64 (max t.most (t.es.length + 1) : Nat)))) := Lib.hid ⟨rfl, mb, hs3d⟩
    have hL : (t.es.length + 1 : Nat) ≤ 1000001 := by omega
    generalize t.es.length + 1 = L at *
    generalize t.most = q at *
    clear hs2 hs3 hs3d hst
    go_upto_region 3 with fail
    go_still_tail 6, (by kernel_rfl)
    change wpList _ _ _ _ _ wc.drew
    go_wp2_with fail
    clear e0 hg hmu hby hW
    by_cases hm : q < L
    · rw [Nat.max_eq_right (Nat.le_of_lt hm)] at fin
      have hm1 : (q : Int) < L := by omega
      go_still_tail 13, (by kernel_rfl)
      change wpList _ _ _ _ _ W.drew
      go_wp2_with fail
      exact bodyPost_end (results_none rfl _ _ _) rfl fin.out
    · rw [Nat.max_eq_left (by omega)] at fin
      have hm1 : ¬ (q : Int) < L := by omega
      go_still_tail 13, (by kernel_rfl)
      change wpList _ _ _ _ _ W.drew
      go_wp2_with fail
      exact bodyPost_end (results_none rfl _ _ _) rfl fin.out

theorem putI_is (hst : St B w0 w ((b, .cells c T) :: (tabH encI t ++ F))) (h0 : c[o]? = some (.map t.mv)) (h1 : c[o + 1]? = some (.int .i64 t.most)) (hok : TbOk t n) (hn : n ≤ 1000000) (hk : k ∉ t.es.map (·.1)) :
    Calls Try.prog 19 #[.pointer (some ⟨b, o, none⟩), .int .i64 k, .agg #[]] w (TabR encI B w0 b o c T F (fun t' => t'.rows = t.rows ++ [(k, .agg #[])] ∧ TbOk t' (n + 1))) := by
  refine (putI_any hst h0 h1 hok hn hk).mono ?_
  rintro e w' ⟨rfl, mb, h⟩
  exact ⟨rfl, ⟨some mb, _, _, _⟩, ⟨by simp [Tb.rows], hok.push hk _ mb⟩, h⟩
end
end Go.Proofs.Ytbfelfejelkdpaa
