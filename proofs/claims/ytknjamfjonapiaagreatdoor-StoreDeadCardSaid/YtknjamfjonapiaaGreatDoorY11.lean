import Derived.Test.YtknjamfjonapiaaGreatDoorY10
import Derived.Test.YtknjamfjonapiaaGreatDoorChecked
import Derived.Test.YtknjamfjonapiaaGreatDoorY05
import Derived.WalkKit
import Derived.Deep.DeepCutAuto
import Derived.Deep.CutBlock
import Derived.StillTailTactics
import Derived.Lib.Hide
import Derived.Deep.QuietTactic
import Derived.BigQuiet
import Derived.Deep.LoopGhost
import Derived.Test.YtknjamfjonapiaaGreatDoorY02
import Derived.Test.YtknjamfjonapiaaGreatDoorY03
namespace Go.Proofs.YtknjamfjonapiaaGreatDoor
open Go.RowKit
set_option linter.unusedVariables false
structure FitE (e : Ent) : Prop where
 exch : e.exch.length ≤ 1000
 key : e.key.length ≤ 1000
 hops : -9223372036854775808 ≤ e.hops
structure FitO (o : Opt) : Prop where
 dead : o.dead.length ≤ 1000
 deadKey : o.deadKey.length ≤ 1000
theorem FitE.for_ {e : Ent} (h : FitE e) (o : Opt) (now : Int) : FitE (forE e o now) := ⟨h.exch, h.key, h.hops⟩
structure FitQ (k : Nat) (p : Plq) : Prop where
 opts : FitO p.o
 ents : ∀ e ∈ p.M, FitE e
 len : p.M.length ≤ k
 ok : RkOk p.M
def Tsk.Fit (n : Nat) : Tsk → Prop
 | .mail _ e way => FitE e ∧ ∀ i ∈ way, i < n
 | .dead i W => (∀ x ∈ W, FitE x) ∧ i < n
 | .owed _ => True
structure Cf.Ok (K : Int) (k : Nat) (c : Cf) : Prop where
 few : c.S.A.length ≤ 40
 k60 : 60 ≤ k
 last : c.S.last + c.pot ≤ K
 held : ∀ x ∈ c.S.sl.bs, x.2.1 + c.pot ≤ K
 qs : ∀ p ∈ c.S.L, FitQ k p
 ts : ∀ t ∈ c.R, t.Fit c.S.L.length
theorem moreM_mem {top : Bool} {e : Ent} {way : List Nat} {R : List Tsk} {t : Tsk} (h : t ∈ moreM top e way R) : t = .mail top e way ∨ t ∈ R := by
 unfold moreM at h
 split at h
 ·exact .inr h
 ·exact List.mem_cons.1 h
theorem moreD_mem {i : Nat} {W : List Ent} {R : List Tsk} {t : Tsk} (h : t ∈ moreD i W R) : t = .dead i W ∨ t ∈ R := by
 unfold moreD at h
 split at h
 ·exact .inr h
 ·exact List.mem_cons.1 h
theorem turn_held {V : SV} {k c : Int} {x : Int × Int × List UInt8} (h : x ∈ (V.turn k c).bs) : ∃ y ∈ V.bs, x.2.1 = y.2.1 ∨ x.2.1 = y.2.1 + c := by
 unfold SV.turn at h
 obtain ⟨y, hy, rfl⟩ := List.mem_map.1 h
 refine ⟨y, hy, ?_⟩
 split
 ·exact .inr rfl
 ·exact .inl rfl
theorem hold_held {S : Sto} {b : Int} {x : Int × Int × List UInt8} (h : x ∈ (S.hold b).sl.bs) : ∃ y ∈ S.sl.bs, x.2.1 ≤ y.2.1 + 1 := by
 unfold Sto.hold SV.hold at h
 split at h
 ·split at h
  ·exact ⟨x, h, by omega⟩
  ·obtain ⟨y, hy, h⟩ := turn_held h
   exact ⟨y, hy, by omega⟩
 ·exact ⟨x, h, by omega⟩
theorem drop_held {V : SV} {b : Int} {x : Int × Int × List UInt8} (h : x ∈ (V.drop b).2.bs) : ∃ y ∈ V.bs, x.2.1 ≤ y.2.1 := by
 unfold SV.drop at h
 split at h
 ·exact ⟨x, h, Int.le_refl _⟩
 ·split at h
  ·obtain ⟨y, hy, h⟩ := turn_held h
   exact ⟨y, hy, by omega⟩
  ·exact ⟨x, List.eraseP_sublist.subset h, Int.le_refl _⟩
theorem letGo_held {S : Sto} {b : Int} {x : Int × Int × List UInt8} (h : x ∈ (S.letGo b).sl.bs) : ∃ y ∈ S.sl.bs, x.2.1 ≤ y.2.1 := by
 unfold Sto.letGo at h
 split at h
 ·exact drop_held h
 ·exact ⟨x, h, Int.le_refl _⟩
theorem shed_ok : ∀ (n : Nat) {M : List Ent}, RkOk M → RkOk (shedF n M).2
 | 0, M, h => h
 | n + 1, M, h => by
  unfold shedF
  split
  ·exact h
  ·exact shed_ok n (h.del _)
theorem put_ok2 {o : Opt} {M : List Ent} {e : Ent} (h : RkOk M) : RkOk (putF o M e).2.2 := by
 unfold putF
 split
 ·exact h
 ·rename_i hn
  have hp : putOk M e = true := by simpa using hn
  unfold putOk at hp
  obtain ⟨h1, h2⟩ := of_decide_eq_true hp
  have h3 : ∀ x ∈ M, x.id ≠ e.id := fun x hx he => h1 (List.mem_map.2 ⟨x, hx, he⟩)
  split
  ·exact h.ins h2 h3
  ·split
   ·exact h
   ·exact (shed_ok _ h).ins h2 fun x hx => h3 x (mem_shed _ _ (.inr hx))
theorem FitQ.put {k : Nat} {p : Plq} {e : Ent} (h : FitQ k p) (hk : 60 ≤ k) (he : FitE e) : FitQ k { p with M := (putF p.o p.M e).2.2 } :=
 ⟨h.opts, fun x hx => by
  rcases mem_put (.inr hx) with rfl | hx
  ·exact he
  ·exact h.ents x hx, put_len _ _ _ hk h.len, put_ok2 h.ok⟩
theorem Tsk.Fit.len {n m : Nat} {t : Tsk} (h : t.Fit n) (e : n = m) : t.Fit m := e ▸ h
theorem tos_lt {S : Sto} {ex key : List UInt8} {i : Nat} (h : i ∈ S.tos ex key) : i < S.L.length := by
 obtain ⟨n, -, hn⟩ := List.mem_filterMap.1 h
 exact (List.findIdx?_eq_some_iff_getElem.1 hn).1
theorem letter_fit {S : Sto} {o : Opt} {x y : Ent} (h : S.letter o x = some y) (hx : FitE x) (ho : FitO o) : FitE y := by
 obtain ⟨h1, rfl⟩ := letter_some h
 have := hx.hops
 refine ⟨ho.dead, ?_, by simp only; omega⟩
 show (if o.deadKey = [] then x.key else o.deadKey).length ≤ 1000
 split
 ·exact hx.key
 ·exact ho.deadKey
theorem mem_set {l : List Plq} {i : Nat} {p q : Plq} (h : q ∈ l.set i p) : q = p ∨ q ∈ l := (List.mem_or_eq_of_mem_set h).symm
theorem Cf.Ok.step {K : Int} {k : Nat} {c : Cf} (h : c.Ok K k) (hR : c.R ≠ []) : (stepF c).Ok K k := by
 have hp := step_pot c h.few hR
 have hA := step_A c
 obtain ⟨S, R, r⟩ := c
 have hf := h.few
 have hl := h.last
 have hh := h.held
 have hq := h.qs
 have ht := h.ts
 simp only at hf hl hh hq ht
 cases R with
 | nil => exact absurd rfl hR
 | cons t R =>
  have hts : ∀ u ∈ R, u.Fit S.L.length := fun u hu => ht u (List.mem_cons_of_mem _ hu)
  have ht0 := ht t List.mem_cons_self
  cases t with
  | owed b =>
   simp only [stepF] at hp hA ⊢
   refine ⟨by rw [hA]; exact hf, h.k60, ?_, fun x hx => ?_, by rw [letGo_L]; exact hq, by rw [letGo_L]; exact hts⟩
   ·have : (S.letGo b).last = S.last := by unfold Sto.letGo; split <;> rfl
    simp only [this]; omega
   ·obtain ⟨y, hy, hle⟩ := letGo_held hx
    have := hh y hy
    omega
  | mail top e way =>
   cases way with
   | nil =>
    simp only [stepF] at hp hA ⊢
    exact ⟨hf, h.k60, by simp only; omega, fun x hx => by have := hh x hx; omega, hq, hts⟩
   | cons i way =>
    have hmore : ∀ u ∈ moreM top e way R, u.Fit S.L.length := fun u hu => by
     rcases moreM_mem hu with rfl | hu
     ·exact ⟨ht0.1, fun j hj => ht0.2 j (List.mem_cons_of_mem _ hj)⟩
     ·exact hts u hu
    cases hi : S.L[i]? with
    | none =>
     simp only [stepF, hi] at hp hA ⊢
     exact ⟨hf, h.k60, by simp only; omega, fun x hx => by have := hh x hx; omega, hq, hmore⟩
    | some p =>
     have hpm := List.mem_of_getElem? hi
     have hfit := hq p hpm
     simp only [stepF, hi] at hp hA ⊢
     have eL : ∀ N, ((S.hold e.body).setM i p N).L = S.L.set i { p with M := N } := fun N => by show (S.hold e.body).L.set i _ = _; rw [hold_L]
     have elast : ∀ N, ((S.hold e.body).setM i p N).last = S.last := fun N => by show (S.hold e.body).last = _; unfold Sto.hold; split <;> rfl
     have hheld : ∀ N, ∀ x ∈ ((S.hold e.body).setM i p N).sl.bs, ∃ y ∈ S.sl.bs, x.2.1 ≤ y.2.1 + 1 := fun N x hx => hold_held hx
     have hqs : ∀ q ∈ S.L.set i { p with M := (putF p.o p.M (forE e p.o S.now)).2.2 }, FitQ k q := fun q hq0 => by
      rcases mem_set hq0 with rfl | hq0
      ·exact hfit.put h.k60 (ht0.1.for_ _ _)
      ·exact hq q hq0
     have hdead : ∀ u ∈ Tsk.dead i (putF p.o p.M (forE e p.o S.now)).2.1 :: moreM top e way R, u.Fit S.L.length := fun u hu => by
      rcases List.mem_cons.1 hu with rfl | hu
      ·refine ⟨fun x hx => ?_, ht0.2 i List.mem_cons_self⟩
       rcases mem_put (.inl hx) with rfl | hx
       ·exact ht0.1.for_ _ _
       ·exact hfit.ents x hx
      ·exact hmore u hu
     generalize hpot : Cf.pot _ = pt at hp
     refine ⟨by rw [hA]; exact hf, h.k60, ?_, fun x hx => ?_, ?_, ?_⟩
     ·rw [hpot]
      split
      ·rw [elast]; omega
      ·have : ∀ (S : Sto) b, (S.letGo b).last = S.last := fun S b => by unfold Sto.letGo; split <;> rfl
       rw [this, elast]; omega
     ·rw [hpot]
      have : ∃ y ∈ S.sl.bs, x.2.1 ≤ y.2.1 + 1 := by
       simp only at hx
       split at hx
       ·exact hheld _ x hx
       ·obtain ⟨y, hy, hle⟩ := letGo_held hx
        obtain ⟨z, hz, hle2⟩ := hheld _ y hy
        exact ⟨z, hz, by omega⟩
      obtain ⟨y, hy, hle⟩ := this
      have := hh y hy
      omega
     ·simp only
      split
      ·rw [eL]; exact hqs
      ·rw [letGo_L, eL]; exact hqs
     ·simp only
      split
      ·rw [eL, List.length_set]; exact hdead
      ·rw [letGo_L, eL, List.length_set]; exact hdead
  | dead i W =>
   cases W with
   | nil =>
    simp only [stepF] at hp hA ⊢
    exact ⟨hf, h.k60, by simp only; omega, fun x hx => by have := hh x hx; omega, hq, hts⟩
   | cons x W =>
    have hmore : ∀ u ∈ Tsk.owed x.body :: moreD i W R, u.Fit S.L.length := fun u hu => by
     rcases List.mem_cons.1 hu with rfl | hu
     ·trivial
     ·rcases moreD_mem hu with rfl | hu
      ·exact ⟨fun z hz => ht0.1 z (List.mem_cons_of_mem _ hz), ht0.2⟩
      ·exact hts u hu
    cases hy : (S.L[i]?).bind fun p => S.letter p.o x with
    | none =>
     simp only [stepF, hy] at hp hA ⊢
     exact ⟨hf, h.k60, by simp only; omega, fun z hz => by have := hh z hz; omega, hq, hmore⟩
    | some y =>
     obtain ⟨p, hi, hl2⟩ := Option.bind_eq_some_iff.1 hy
     have hfy := letter_fit hl2 (ht0.1 x List.mem_cons_self) (hq p (List.mem_of_getElem? hi)).opts
     simp only [stepF, hy] at hp hA ⊢
     refine ⟨hf, h.k60, ?_, fun z hz => ?_, hq, fun u hu => ?_⟩
     ·have : S.born.last = S.last + 1 := rfl
      simp only [this]; omega
     ·have := hh z hz
      omega
     ·rcases List.mem_cons.1 hu with rfl | hu
      ·exact ⟨⟨hfy.exch, hfy.key, hfy.hops⟩, fun j hj => tos_lt hj⟩
      ·exact hmore u hu
end Go.Proofs.YtknjamfjonapiaaGreatDoor
namespace Go.Proofs.YtknjamfjonapiaaGreatDoor
open Go.RowKit
open Go.ChangeMaps (setBlock)
set_option linter.unusedVariables false
set_option linter.unusedSectionVars false
set_option linter.unusedSimpArgs false
set_option maxRecDepth 100000
structure Tb (α : Type) where
 mv : Option Nat
 es : List (MapRow α)
 clk : Nat
 most : Nat
section
variable {α : Type} [DecidableEq α]
def Tb.new : Tb α := ⟨none, [], 0, 0⟩
def Tb.rows (t : Tb α) : List (α × Value) := t.es.map fun e => (e.1, e.2.1)
def tabH (enc : α → Value) (t : Tb α) : List (Nat × Obj) := match t.mv with
 | none => []
 | some b => [(b, .map (entsE enc t.es) t.clk)]
structure TbOk (t : Tb α) (n : Nat) : Prop where
 keys : (t.es.map (·.1)).Nodup
 born : Born t.es t.clk
 bare : t.mv = none → t.es = [] ∧ t.clk = 0
 len : t.es.length ≤ n
 most : t.most ≤ n
theorem TbOk.new (n : Nat) : TbOk (Tb.new : Tb α) n := ⟨by simp [Tb.new], ⟨by simp [Tb.new], by simp [Tb.new]⟩, fun _ => ⟨rfl, rfl⟩, Nat.zero_le _, Nat.zero_le _⟩
theorem TbOk.mono {t : Tb α} {n m : Nat} (h : TbOk t n) (hm : n ≤ m) : TbOk t m := ⟨h.keys, h.born, h.bare, Nat.le_trans h.len hm, Nat.le_trans h.most hm⟩
theorem keys_rows (t : Tb α) : t.rows.map (·.1) = t.es.map (·.1) := by simp [Tb.rows, Function.comp_def]
structure TbAt (w : World) (b o : Nat) (enc : α → Value) (t : Tb α) : Prop where
 c0 : w.cell? ⟨b, o, none⟩ = some (.map t.mv)
 c1 : w.cell? ⟨b, o + 1, none⟩ = some (.int .i64 t.most)
 map : ∀ mb, t.mv = some mb → w.heap[mb]? = some (.map (entsE enc t.es) t.clk)
end
theorem uMapI : Tryz.prog.underlying 314 = some (.map 3 322) := by kernel_rfl
theorem zUnit (w : World) : (zeroValue 322).run Tryz.prog w = .ok (.agg #[]) w := Tryz.zeroValue322 w
section
variable {B : Nat} {w0 w : World} {F : List (Nat × Obj)} {b o : Nat} {c : Array Value} {T : TypeId} {t : Tb Int} {n : Nat} {k : Int}
theorem countI_any (h : TbAt w b o encI t) (hb : t.mv = none → t.es = []) : Calls Tryz.prog 303 #[.pointer (some ⟨b, o, none⟩)] w fun e w' => e = .returned (.int .i64 t.es.length) ∧ w' = w := by
 obtain ⟨c0, -, hm⟩ := h
 cases hmv : t.mv with
 | none =>
  rw [hmv] at c0
  have hl := fun ty => run_lenE_nil (P := Tryz.prog) (w := w) (ty := ty) uMapI
  rw [hb hmv]
  go_enter Tryz.func303, Tryz.ntmps303
  go_wp2_with fail
  go_ret
  exact ⟨rfl, rfl⟩
 | some mb =>
  rw [hmv] at c0
  have hl := fun ty => run_lenE (P := Tryz.prog) (ty := ty) uMapI (hm mb hmv)
  generalize t.es.length = L at *
  go_enter Tryz.func303, Tryz.ntmps303
  go_wp2_with fail
  go_ret
  exact ⟨rfl, rfl⟩
def Bare (t : Tb Int) : Prop := ∀ e ∈ t.es, e.2.1 = .agg #[]
theorem Bare.look (h : Bare t) (k : Int) : ((seek t.es k).map (·.2.1)).getD (.agg #[]) = .agg #[] := by
 cases hs : seek t.es k with
 | none => rfl
 | some e => exact h e (seek_mem hs).1
theorem hasI_any (h : TbAt w b o encI t) (hb : t.mv = none → t.es = []) (hv : Bare t) (k : Int) : Calls Tryz.prog 244 #[.pointer (some ⟨b, o, none⟩), .int .i64 k] w fun e w' => e = .returned (.bool (decide (k ∈ t.es.map (·.1)))) ∧ Below w.heap.size w w' := by
 obtain ⟨c0, -, hm⟩ := h
 have hnew := Lib.hid (new_below w (.cells #[] 322))
 cases hmv : t.mv with
 | none =>
  rw [hmv] at c0
  have hl := run_lookE_nil (c := true) keyI uMapI (zUnit w) (k := k) trivial
  rw [hb hmv]
  simp only [List.map_nil, List.not_mem_nil, decide_false]
  go_enter Tryz.func244, Tryz.ntmps244
  go_wp2_with fail
  go_ret
  exact ⟨rfl, hnew.out⟩
 | some mb =>
  rw [hmv] at c0
  have hl := run_lookE (c := true) keyI uMapI (zUnit w) (hm mb hmv) (k := k) trivial (fun _ _ => trivial)
  rw [hv.look, seek_isSome] at hl
  clear hm hv hb
  generalize decide (k ∈ t.es.map (·.1)) = r at *
  go_enter Tryz.func244, Tryz.ntmps244
  go_wp2_with fail
  go_ret
  exact ⟨rfl, hnew.out⟩
theorem uEqMapI (w : World) (m : Option Nat) : (binOp .eql 314 (.map m) (.map none)).run Tryz.prog w = .ok (.bool m.isNone) w := by
 simp only [binOp]
 simp [run_equal_map_nil w 314 _ _ m uMapI]
theorem TbOk.push {α : Type} [DecidableEq α] {t : Tb α} {n : Nat} {k : α} (h : TbOk t n) (hk : k ∉ t.es.map (·.1)) (v : Value) (mb : Nat) : TbOk (⟨some mb, t.es ++ [(k, v, t.clk)], t.clk + 1, max t.most (t.es.length + 1)⟩ : Tb α) (n + 1) := by
 refine ⟨?_, ⟨?_, ?_⟩, (fun e => nomatch e), ?_, ?_⟩
 ·simp only [List.map_append, List.map_cons, List.map_nil]
  rw [List.nodup_append]
  exact ⟨h.keys, by simp, by rintro a ha b hb rfl; rw [List.mem_singleton] at hb; subst hb; exact hk ha⟩
 ·simp only [List.map_append, List.map_cons, List.map_nil]
  rw [List.nodup_append]
  refine ⟨h.born.1, by simp, ?_⟩
  rintro a ha b hb rfl
  rw [List.mem_singleton] at hb
  subst hb
  obtain ⟨e, he, e1⟩ := List.mem_map.1 ha
  have := h.born.2 e he
  omega
 ·intro e he
  rcases List.mem_append.1 he with he | he
  ·have := h.born.2 e he
   show _ < t.clk + 1
   omega
  ·rw [List.mem_singleton] at he
   subst he
   exact Nat.lt_succ_self _
 ·have := h.len
  simp only [List.length_append, List.length_singleton]
  omega
 ·have := h.len
  have := h.most
  show max _ _ ≤ _
  omega
def tabC (c : Array Value) (o : Nat) (m : Option Nat) (q : Nat) : Array Value := (c.setIfInBounds o (.map m)).setIfInBounds (o + 1) (.int .i64 q)
def TabR {α : Type} (enc : α → Value) (B : Nat) (w0 : World) (b o : Nat) (c : Array Value) (T : TypeId) (F : List (Nat × Obj)) (ok : Tb α → Prop) (e : Ending) (w' : World) : Prop :=
 e = .returned (.tuple #[]) ∧ ∃ t', ok t' ∧ St B w0 w' ((b, .cells (tabC c o t'.mv t'.most) T) :: (tabH enc t' ++ F))
def TPutR {α : Type} (enc : α → Value) (B : Nat) (w0 : World) (b o : Nat) (c : Array Value) (T : TypeId) (F : List (Nat × Obj)) (t : Tb α) (k : α) (v : Value) (n : Nat) (e : Ending) (w' : World) : Prop :=
 e = .returned (.tuple #[]) ∧ ∃ mb, St B w0 w' ((b, .cells ((c.setIfInBounds o (.map (some mb))).setIfInBounds (o + 1) (.int .i64 (max t.most (t.es.length + 1) : Nat))) T) :: ((mb, .map (entsE enc (t.es ++ [(k, v, t.clk)])) (t.clk + 1)) :: F))
set_option maxHeartbeats 1000000 in
theorem putI_any (hst : St B w0 w ((b, .cells c T) :: (tabH encI t ++ F))) (h0 : c[o]? = some (.map t.mv)) (h1 : c[o + 1]? = some (.int .i64 t.most)) (hok : TbOk t n) (hn : n ≤ 1000000) (hk : k ∉ t.es.map (·.1)) :
  Calls Tryz.prog 245 #[.pointer (some ⟨b, o, none⟩), .int .i64 k, .agg #[]] w (TPutR encI B w0 b o c T F t k (.agg #[]) n) := by
 have hmk := fun w : World => run_makeMap (P := Tryz.prog) 314 w
 have heq := uEqMapI
 have hnew : St B w0 (w.alloc (.cells #[] 322)) ((b, .cells c T) :: (tabH encI t ++ F)) := (hst.alloc _).sub (List.sublist_cons_self _ _)
 have hso : (w.alloc (.cells #[] 322)).cell? ⟨b, o, none⟩ = some (.map t.mv) := hnew.cell (b := b) List.mem_cons_self h0
 have hbx : (w.alloc (.cells #[] 322)).heap[w.heap.size]? = some (.cells #[] 322) := (MapKept.heap_alloc w _).1
 have hlen := hok.len
 have hmost := hok.most
 replace hok := Lib.hid hok
 replace hnew := Lib.hid hnew
 replace h0 := Lib.hid h0
 replace h1 := Lib.hid h1
 go_enter Tryz.func245, Tryz.ntmps245
 go_upto_if 10 with fail
 go_cut [] (fun wy => ∃ mb, Hid (St B w0 wy ((b, .cells (c.setIfInBounds o (.map (some mb))) T) :: ((mb, .map (entsE encI t.es) t.clk) :: F))) ∧ wy.heap[w.heap.size]? = some (.cells #[] 322))
 case first =>
  cases hmv : t.mv with
  | none =>
   rw [hmv] at hso
   obtain ⟨he, hclk⟩ := hok.out.bare hmv
   have hs2 := hnew.out.alloc (.map #[] 0)
   have hsz : (w.alloc (.cells #[] 322)).heap.size = w.heap.size + 1 := by simp
   rw [hsz] at hs2
   unfold tabH at hs2
   rw [hmv] at hs2
   have hs2' := hs2.perm (List.Perm.swap _ _ _)
   have f2 := hs2'.soft (b := b) List.mem_cons_self o
   have c2 := hs2'.cell (b := b) List.mem_cons_self h0.out
   have hs3 := hs2'.set0 o (.map (some (w.heap.size + 1)))
   have hbx2 : (((w.alloc (.cells #[] 322)).alloc (.map #[] 0)).setCell ⟨b, o, none⟩ (.map (some (w.heap.size + 1)))).heap[w.heap.size]? = some (.cells #[] 322) := by
    have hbl : b ≠ w.heap.size := by
     have := hst.lt (b := b) (o := .cells c T) List.mem_cons_self
     omega
    rw [Below.heap_setCell _ _ _ _ (by simpa using Ne.symm hbl), Below.heap_alloc _ _ _ (by simp)]
    exact hbx
   have fin : Hid (∃ mb, Hid (St B w0 (((w.alloc (.cells #[] 322)).alloc (.map #[] 0)).setCell ⟨b, o, none⟩ (.map (some (w.heap.size + 1)))) ((b, .cells (c.setIfInBounds o (.map (some mb))) T) :: ((mb, .map (entsE encI t.es) t.clk) :: F))) ∧ (((w.alloc (.cells #[] 322)).alloc (.map #[] 0)).setCell ⟨b, o, none⟩ (.map (some (w.heap.size + 1)))).heap[w.heap.size]? = some (.cells #[] 322)) := by
    refine Lib.hid ⟨w.heap.size + 1, Lib.hid ?_, hbx2⟩
    rw [he, hclk]
    exact hs3
   clear hs2 hs2' hs3 hbx2 hst
   go_wp2_with fail
   go_meet
   case rel => exact fin.out
  | some mb =>
   rw [hmv] at hso
   have hs2 := hnew.out
   unfold tabH at hs2
   rw [hmv] at hs2
   have hsame : c.setIfInBounds o (.map (some mb)) = c := by
    rw [hmv] at h0
    have := h0.out
    apply Array.ext_getElem?
    intro i
    rw [Array.getElem?_setIfInBounds]
    split
    ·rename_i e
     subst e
     rw [this, if_pos (Array.getElem?_eq_some_iff.1 this).1]
    ·rfl
   have fin : Hid (∃ mb, Hid (St B w0 (w.alloc (.cells #[] 322)) ((b, .cells (c.setIfInBounds o (.map (some mb))) T) :: ((mb, .map (entsE encI t.es) t.clk) :: F))) ∧ (w.alloc (.cells #[] 322)).heap[w.heap.size]? = some (.cells #[] 322)) := Lib.hid ⟨mb, Lib.hid (by rw [hsame]; exact hs2), hbx⟩
   clear hs2 hsame hst
   go_wp2_with fail
   go_meet
   case rel => exact fin.out
 case rest =>
  clear hst
  obtain ⟨mb, hst, hby⟩ := hcut
  clear hso hbx hnew heq hmk
  have hlt : o < c.size := (Array.getElem?_eq_some_iff.1 h0.out).1
  have e0 := hst.out.cell (b := b) (i := o) (v := .map (some mb)) List.mem_cons_self (by simp [hlt])
  have hg : wc.drew.heap[mb]? = some (.map (entsE encI t.es) t.clk) := hst.out.get (b := mb) (List.mem_cons_of_mem _ List.mem_cons_self)
  have hmu := run_mapE_new keyI uMapI hg (k := k) trivial (fun _ _ => trivial) (.agg #[]) (seek_none.2 hk)
  have hs2 := (hst.out.drew.perm (List.Perm.swap _ _ _)).block0 (o' := .map (entsE encI (t.es ++ [(k, .agg #[], t.clk)])) (t.clk + 1))
  generalize hW : setBlock wc.drew mb (.map (entsE encI (t.es ++ [(k, .agg #[], t.clk)])) (t.clk + 1)) = W at *
  replace hW := Lib.hid hW
  have g0 := hs2.cell (b := b) (i := o) (v := .map (some mb)) (List.mem_cons_of_mem _ List.mem_cons_self) (by simp [hlt])
  have g1 := hs2.cell (b := b) (i := o + 1) (v := .int .i64 t.most) (List.mem_cons_of_mem _ List.mem_cons_self) (by rw [Array.getElem?_setIfInBounds_ne (by omega)]; exact h1.out)
  have gf := hs2.soft (b := b) (List.mem_cons_of_mem _ List.mem_cons_self) (o + 1)
  have gl := fun ty => run_lenE (P := Tryz.prog) (ty := ty) uMapI (hs2.drew.get (b := mb) List.mem_cons_self)
  rw [List.length_append, List.length_singleton] at gl
  have hs3 := (hs2.perm (List.Perm.swap _ _ _)).set0 (o + 1) (.int .i64 (max t.most (t.es.length + 1) : Nat))
  have hs3d := (hs2.drew.perm (List.Perm.swap _ _ _)).set0 (o + 1) (.int .i64 (max t.most (t.es.length + 1) : Nat))
  have fin : Hid (TPutR encI B w0 b o c T F t k (.agg #[]) n (.returned (.tuple #[])) (W.drew.setCell ⟨b, o + 1, none⟩ (.int .i64 (max t.most (t.es.length + 1) : Nat)))) := Lib.hid ⟨rfl, mb, hs3d⟩
  have hL : (t.es.length + 1 : Nat) ≤ 1000001 := by omega
  generalize t.es.length + 1 = L at *
  generalize t.most = q at *
  clear hs2 hs3 hs3d hst
  go_upto_region 3 with fail
  go_still_tail 6, (by kernel_rfl)
  change wpList _ _ _ _ _ wc.drew
  go_wp2_with fail
  clear e0 hg hmu hby hW
  by_cases hm : q < L
  ·rw [Nat.max_eq_right (Nat.le_of_lt hm)] at fin
   have hm1 : (q : Int) < L := by omega
   go_still_tail 13, (by kernel_rfl)
   change wpList _ _ _ _ _ W.drew
   go_wp2_with fail
   exact bodyPost_end (results_none rfl _ _ _) rfl fin.out
  ·rw [Nat.max_eq_left (by omega)] at fin
   have hm1 : ¬ (q : Int) < L := by omega
   go_still_tail 13, (by kernel_rfl)
   change wpList _ _ _ _ _ W.drew
   go_wp2_with fail
   exact bodyPost_end (results_none rfl _ _ _) rfl fin.out
theorem putI_is (hst : St B w0 w ((b, .cells c T) :: (tabH encI t ++ F))) (h0 : c[o]? = some (.map t.mv)) (h1 : c[o + 1]? = some (.int .i64 t.most)) (hok : TbOk t n) (hn : n ≤ 1000000) (hk : k ∉ t.es.map (·.1)) :
  Calls Tryz.prog 245 #[.pointer (some ⟨b, o, none⟩), .int .i64 k, .agg #[]] w (TabR encI B w0 b o c T F (fun t' => t'.rows = t.rows ++ [(k, .agg #[])] ∧ TbOk t' (n + 1))) := by
 refine (putI_any hst h0 h1 hok hn hk).mono ?_
 rintro e w' ⟨rfl, mb, h⟩
 exact ⟨rfl, ⟨some mb, _, _, _⟩, ⟨by simp [Tb.rows], hok.push hk _ mb⟩, h⟩
end
end Go.Proofs.YtknjamfjonapiaaGreatDoor
namespace Go.Proofs.YtknjamfjonapiaaGreatDoor
open Go.RowKit
open Go.ChangeMaps (setBlock)
set_option linter.unusedVariables false
set_option linter.unusedSectionVars false
set_option linter.unusedSimpArgs false
set_option maxRecDepth 100000
section
variable {α : Type} [DecidableEq α]
theorem TbOk.rest {t : Tb α} {n : Nat} (h : TbOk t n) (hm : t.mv ≠ none) (k : α) : TbOk (⟨t.mv, restE t.es k, t.clk, t.most⟩ : Tb α) n :=
 ⟨((rest_sub t.es k).map _).nodup h.keys, ⟨((rest_sub t.es k).map _).nodup h.born.1, fun e he => h.born.2 e ((rest_sub t.es k).subset he)⟩, fun e => absurd e hm, Nat.le_trans (rest_sub t.es k).length_le h.len, h.most⟩
end
section
variable {B : Nat} {w0 w : World} {F : List (Nat × Obj)} {b o : Nat} {c : Array Value} {T : TypeId} {t : Tb Int} {n : Nat} {k : Int}
end
end Go.Proofs.YtknjamfjonapiaaGreatDoor
namespace Go.Proofs.YtknjamfjonapiaaGreatDoor
open Go.RowKit
set_option linter.unusedVariables false
set_option linter.unusedSectionVars false
set_option linter.unusedSimpArgs false
set_option maxRecDepth 100000
abbrev encS : List UInt8 → Value := fun l => tx l
theorem uStr12 : Tryz.prog.underlying 9 = some .string := by kernel_rfl
theorem tx_beq (a b : List UInt8) : ((⟨a.toArray⟩ : ByteArray) == ⟨b.toArray⟩) = decide (b = a) := by
 show (a.toArray == b.toArray) = _
 rw [Bool.eq_iff_iff, beq_iff_eq, decide_eq_true_iff]
 constructor
 ·intro h
  have := congrArg Array.toList h
  simpa using this.symm
 ·rintro rfl; rfl
theorem keyS : KeyBy Tryz.prog 9 encS (fun _ _ => True) := keyBy_now uStr12 (fun em n k w => by simp [Instr.checkKey, run_underlying uStr12])
 (fun a b => by
  have h : Instr.sameNow .string (encS a) (encS b) = some ((⟨a.toArray⟩ : ByteArray) == ⟨b.toArray⟩) := rfl
  rw [h, tx_beq]) (fun k => by
  have h : Instr.sameBits 10000 (encS k) (encS k) = ((⟨k.toArray⟩ : ByteArray) == ⟨k.toArray⟩) := rfl
  rw [h, tx_beq]
  simp)
end Go.Proofs.YtknjamfjonapiaaGreatDoor
namespace Go.Proofs.YtknjamfjonapiaaGreatDoor
open Go.RowKit
open Go.ChangeMaps (setBlock)
set_option linter.unusedVariables false
set_option linter.unusedSectionVars false
set_option linter.unusedSimpArgs false
set_option maxRecDepth 100000
abbrev np (b : Nat) : Value := .pointer (some ⟨b, 0, none⟩)
theorem uMapS : Tryz.prog.underlying 311 = some (.map 9 310) := by kernel_rfl
theorem zNode (w : World) : (zeroValue 310).run Tryz.prog w = .ok (.pointer none) w := Tryz.zeroValue310 w
section
variable {B : Nat} {w0 w : World} {F : List (Nat × Obj)} {b o : Nat} {c : Array Value} {T : TypeId} {t : Tb (List UInt8)} {n : Nat} {k : List UInt8} {v : Value}
theorem countS_any (h : TbAt w b o encS t) (hb : t.mv = none → t.es = []) : Calls Tryz.prog 304 #[.pointer (some ⟨b, o, none⟩)] w fun e w' => e = .returned (.int .i64 t.es.length) ∧ w' = w := by
 obtain ⟨c0, -, hm⟩ := h
 cases hmv : t.mv with
 | none =>
  rw [hmv] at c0
  have hl := fun ty => run_lenE_nil (P := Tryz.prog) (w := w) (ty := ty) uMapS
  rw [hb hmv]
  go_enter Tryz.func304, Tryz.ntmps304
  go_wp2_with fail
  go_ret
  exact ⟨rfl, rfl⟩
 | some mb =>
  rw [hmv] at c0
  have hl := fun ty => run_lenE (P := Tryz.prog) (ty := ty) uMapS (hm mb hmv)
  generalize t.es.length = L at *
  go_enter Tryz.func304, Tryz.ntmps304
  go_wp2_with fail
  go_ret
  exact ⟨rfl, rfl⟩
theorem uEqMapS (w : World) (m : Option Nat) : (binOp .eql 311 (.map m) (.map none)).run Tryz.prog w = .ok (.bool m.isNone) w := by
 simp only [binOp]
 simp [run_equal_map_nil w 311 _ _ m uMapS]
set_option maxHeartbeats 1000000 in
theorem putS_any (hst : St B w0 w ((b, .cells c T) :: (tabH encS t ++ F))) (h0 : c[o]? = some (.map t.mv)) (h1 : c[o + 1]? = some (.int .i64 t.most)) (hok : TbOk t n) (hn : n ≤ 1000000) (hk : k ∉ t.es.map (·.1)) :
  Calls Tryz.prog 294 #[.pointer (some ⟨b, o, none⟩), tx k, v] w (TPutR encS B w0 b o c T F t k v n) := by
 have hmk := fun w : World => run_makeMap (P := Tryz.prog) 311 w
 have heq := uEqMapS
 have hso : w.cell? ⟨b, o, none⟩ = some (.map t.mv) := hst.cell (b := b) List.mem_cons_self h0
 have hlen := hok.len
 have hmost := hok.most
 replace hok := Lib.hid hok
 replace h0 := Lib.hid h0
 replace h1 := Lib.hid h1
 replace hst := Lib.hid hst
 go_enter Tryz.func294, Tryz.ntmps294
 go_upto_if 10 with fail
 go_cut [] (fun wy => ∃ mb, Hid (St B w0 wy ((b, .cells (c.setIfInBounds o (.map (some mb))) T) :: ((mb, .map (entsE encS t.es) t.clk) :: F))))
 case first =>
  cases hmv : t.mv with
  | none =>
   rw [hmv] at hso
   obtain ⟨he, hclk⟩ := hok.out.bare hmv
   have hs2 := hst.out.alloc (.map #[] 0)
   unfold tabH at hs2
   rw [hmv] at hs2
   have hs2' := hs2.perm (List.Perm.swap _ _ _)
   have f2 := hs2'.soft (b := b) List.mem_cons_self o
   have c2 := hs2'.cell (b := b) List.mem_cons_self h0.out
   have hs3 := hs2'.set0 o (.map (some w.heap.size))
   have fin : Hid (∃ mb, Hid (St B w0 ((w.alloc (.map #[] 0)).setCell ⟨b, o, none⟩ (.map (some w.heap.size))) ((b, .cells (c.setIfInBounds o (.map (some mb))) T) :: ((mb, .map (entsE encS t.es) t.clk) :: F)))) := by
    refine Lib.hid ⟨w.heap.size, Lib.hid ?_⟩
    rw [he, hclk]
    exact hs3
   clear hs2 hs2' hs3 hst
   go_wp2_with fail
   go_meet
   case rel => exact fin.out
  | some mb =>
   rw [hmv] at hso
   have hs2 := hst.out
   unfold tabH at hs2
   rw [hmv] at hs2
   have hsame : c.setIfInBounds o (.map (some mb)) = c := by
    rw [hmv] at h0
    have := h0.out
    apply Array.ext_getElem?
    intro i
    rw [Array.getElem?_setIfInBounds]
    split
    ·rename_i e
     subst e
     rw [this, if_pos (Array.getElem?_eq_some_iff.1 this).1]
    ·rfl
   have fin : Hid (∃ mb, Hid (St B w0 w ((b, .cells (c.setIfInBounds o (.map (some mb))) T) :: ((mb, .map (entsE encS t.es) t.clk) :: F)))) := Lib.hid ⟨mb, Lib.hid (by rw [hsame]; exact hs2)⟩
   clear hs2 hsame hst
   go_wp2_with fail
   go_meet
   case rel => exact fin.out
 case rest =>
  clear hst
  obtain ⟨mb, hst⟩ := hcut
  clear hso heq hmk
  have hlt : o < c.size := (Array.getElem?_eq_some_iff.1 h0.out).1
  have e0 := hst.out.cell (b := b) (i := o) (v := .map (some mb)) List.mem_cons_self (by simp [hlt])
  have hg : wc.heap[mb]? = some (.map (entsE encS t.es) t.clk) := hst.out.get (b := mb) (List.mem_cons_of_mem _ List.mem_cons_self)
  have hmu := run_mapE_new keyS uMapS hg (k := k) trivial (fun _ _ => trivial) v (seek_none.2 hk)
  have hs2 := (hst.out.perm (List.Perm.swap _ _ _)).block0 (o' := .map (entsE encS (t.es ++ [(k, v, t.clk)])) (t.clk + 1))
  generalize hW : setBlock wc mb (.map (entsE encS (t.es ++ [(k, v, t.clk)])) (t.clk + 1)) = W at *
  replace hW := Lib.hid hW
  have g0 := hs2.cell (b := b) (i := o) (v := .map (some mb)) (List.mem_cons_of_mem _ List.mem_cons_self) (by simp [hlt])
  have g1 := hs2.cell (b := b) (i := o + 1) (v := .int .i64 t.most) (List.mem_cons_of_mem _ List.mem_cons_self) (by rw [Array.getElem?_setIfInBounds_ne (by omega)]; exact h1.out)
  have gf := hs2.soft (b := b) (List.mem_cons_of_mem _ List.mem_cons_self) (o + 1)
  have gl := fun ty => run_lenE (P := Tryz.prog) (ty := ty) uMapS (hs2.drew.get (b := mb) List.mem_cons_self)
  rw [List.length_append, List.length_singleton] at gl
  have hs3d := (hs2.drew.perm (List.Perm.swap _ _ _)).set0 (o + 1) (.int .i64 (max t.most (t.es.length + 1) : Nat))
  have fin : Hid (TPutR encS B w0 b o c T F t k v n (.returned (.tuple #[])) (W.drew.setCell ⟨b, o + 1, none⟩ (.int .i64 (max t.most (t.es.length + 1) : Nat)))) := Lib.hid ⟨rfl, mb, hs3d⟩
  have hL : (t.es.length + 1 : Nat) ≤ 1000001 := by omega
  generalize t.es.length + 1 = L at *
  generalize t.most = q at *
  clear hs2 hs3d hst
  go_upto_region 3 with fail
  clear e0 hg hmu hW
  by_cases hm : q < L
  ·rw [Nat.max_eq_right (Nat.le_of_lt hm)] at fin
   have hm1 : (q : Int) < L := by omega
   go_still_tail 13, (by kernel_rfl)
   change wpList _ _ _ _ _ W.drew
   go_wp2_with fail
   exact bodyPost_end (results_none rfl _ _ _) rfl fin.out
  ·rw [Nat.max_eq_left (by omega)] at fin
   have hm1 : ¬ (q : Int) < L := by omega
   go_still_tail 13, (by kernel_rfl)
   change wpList _ _ _ _ _ W.drew
   go_wp2_with fail
   exact bodyPost_end (results_none rfl _ _ _) rfl fin.out
theorem putS_is (hst : St B w0 w ((b, .cells c T) :: (tabH encS t ++ F))) (h0 : c[o]? = some (.map t.mv)) (h1 : c[o + 1]? = some (.int .i64 t.most)) (hok : TbOk t n) (hn : n ≤ 1000000) (hk : k ∉ t.es.map (·.1)) :
  Calls Tryz.prog 294 #[.pointer (some ⟨b, o, none⟩), tx k, v] w (TabR encS B w0 b o c T F (fun t' => t'.rows = t.rows ++ [(k, v)] ∧ TbOk t' (n + 1))) := by
 refine (putS_any hst h0 h1 hok hn hk).mono ?_
 rintro e w' ⟨rfl, mb, h⟩
 exact ⟨rfl, ⟨some mb, _, _, _⟩, ⟨by simp [Tb.rows], hok.push hk _ mb⟩, h⟩
end
end Go.Proofs.YtknjamfjonapiaaGreatDoor
namespace Go.Proofs.YtknjamfjonapiaaGreatDoor
open Go.RowKit
open Go.ChangeMaps (setBlock)
set_option linter.unusedVariables false
set_option linter.unusedSectionVars false
set_option linter.unusedSimpArgs false
set_option maxRecDepth 100000
structure Nd where
 p : Wds
 b : Nat
 u : Option Nat
 s : Tb (List UInt8)
 i : Tb Int
 x : List Value
 y : TypeId
def lastW (p : Wds) : List UInt8 := p.getLastD []
theorem lastW_snoc (p : Wds) (w : List UInt8) : lastW (p ++ [w]) = w := by simp [lastW]
theorem snoc_inj {p q : Wds} {w v : List UInt8} (h : p ++ [w] = q ++ [v]) : p = q ∧ w = v := by
 have := List.append_inj' h rfl
 exact ⟨this.1, by simpa using this.2⟩
def upV (u : Option Nat) : Value := .pointer (u.map fun a => ⟨a, 0, none⟩)
def Nd.cells (n : Nd) : Array Value := ([upV n.u, tx (lastW n.p), .map n.s.mv, .int .i64 n.s.most, .map n.i.mv, .int .i64 n.i.most] ++ n.x).toArray
def Nd.objs (n : Nd) : List (Nat × Obj) := (n.b, .cells n.cells n.y) :: (tabH encS n.s ++ tabH encI n.i)
def objsL (L : List Nd) : List (Nat × Obj) := L.flatMap Nd.objs
structure TreeOk (L : List Nd) (tb c : Nat) : Prop where
 paths : (L.map Nd.p).Nodup
 blocks : (L.map Nd.b).Nodup
 root : ∃ n ∈ L, n.p = [] ∧ n.b = tb
 ups : ∀ n ∈ L, (n.p = [] ∧ n.u = none) ∨ ∃ q ∈ L, ∃ w, n.p = q.p ++ [w] ∧ n.u = some q.b ∧ (w, np n.b) ∈ q.s.rows
 downs : ∀ n ∈ L, ∀ r ∈ n.s.rows, ∃ m ∈ L, m.p = n.p ++ [r.1] ∧ r.2 = np m.b
 bare : ∀ n ∈ L, Bare n.i
 oks : ∀ n ∈ L, TbOk n.s c ∧ TbOk n.i c
 few : L.length ≤ c
theorem map_inj {α β : Type} {f : α → β} {L : List α} (h : (L.map f).Nodup) {m n : α} (hm : m ∈ L) (hn : n ∈ L) (e : f m = f n) : m = n := by
 obtain ⟨i, hi⟩ := List.getElem?_of_mem hm
 obtain ⟨j, hj⟩ := List.getElem?_of_mem hn
 have hil := (List.getElem?_eq_some_iff.1 hi).1
 have : i = j := (List.getElem?_inj (by simpa using hil) h).1 (by simp [hi, hj, e])
 subst this
 rw [hi] at hj; cases hj; rfl
def nd (L : List Nd) (p : Wds) : Option Nd := L.find? fun n => decide (n.p = p)
def ptrP (L : List Nd) (p : Wds) : Value := match nd L p with
 | some n => np n.b
 | none => .pointer none
def HasId (L : List Nd) (p : Wds) (k : Int) : Prop := ∃ n ∈ L, n.p = p ∧ k ∈ n.i.es.map (·.1)
section
variable {L : List Nd} {tb c : Nat} {n m : Nd} {p : Wds}
theorem nd_mem (h : nd L p = some n) : n ∈ L ∧ n.p = p := ⟨List.mem_of_find?_eq_some h, by simpa using List.find?_some h⟩
theorem nd_none : nd L p = none ↔ ∀ n ∈ L, n.p ≠ p := by
 unfold nd
 rw [List.find?_eq_none]
 simp
theorem TreeOk.nd_some (h : TreeOk L tb c) (hn : n ∈ L) : nd L n.p = some n := by
 cases hs : nd L n.p with
 | none => exact absurd rfl (nd_none.1 hs n hn)
 | some m =>
  obtain ⟨h1, h2⟩ := nd_mem hs
  rw [map_inj h.paths h1 hn h2]
theorem TreeOk.ptr (h : TreeOk L tb c) (hn : n ∈ L) : ptrP L n.p = np n.b := by
 unfold ptrP
 rw [h.nd_some hn]
theorem TreeOk.kid (h : TreeOk L tb c) (hn : n ∈ L) (w : List UInt8) : ((seek n.s.es w).map (·.2.1)).getD (.pointer none) = ptrP L (n.p ++ [w]) := by
 cases hs : seek n.s.es w with
 | none =>
  have : nd L (n.p ++ [w]) = none := by
   rw [nd_none]
   intro m hm e
   rcases h.ups m hm with ⟨h1, _⟩ | ⟨q, hq, w', h1, _, h2⟩
   ·rw [h1] at e; simp at e
   ·rw [h1] at e
    obtain ⟨e1, rfl⟩ := snoc_inj e
    obtain rfl := map_inj h.paths hq hn e1
    refine seek_none.1 hs ?_
    rw [← keys_rows]
    exact List.mem_map_of_mem (f := (·.1)) h2
  unfold ptrP
  rw [this]
  rfl
 | some e =>
  obtain ⟨h1, rfl⟩ := seek_mem hs
  obtain ⟨m, hm, h2, h3⟩ := h.downs n hn (e.1, e.2.1) (List.mem_map_of_mem (f := fun e => (e.1, e.2.1)) h1)
  rw [← h2, h.ptr hm]
  exact h3
theorem TreeOk.up (h : TreeOk L tb c) (hn : n ∈ L) : (n.p = [] ∧ upV n.u = .pointer none) ∨ ∃ q ∈ L, ∃ w, n.p = q.p ++ [w] ∧ upV n.u = np q.b := by
 rcases h.ups n hn with ⟨h1, h2⟩ | ⟨q, hq, w, h1, h2, _⟩
 ·exact .inl ⟨h1, by rw [h2]; rfl⟩
 ·exact .inr ⟨q, hq, w, h1, by rw [h2]; rfl⟩
theorem HasId.of (h : TreeOk L tb c) (hn : n ∈ L) (k : Int) : HasId L n.p k ↔ k ∈ n.i.es.map (·.1) := by
 constructor
 ·rintro ⟨m, hm, e, hk⟩
  rwa [map_inj h.paths hm hn e] at hk
 ·exact fun hk => ⟨n, hn, rfl, hk⟩
theorem TreeOk.sim {L' : List Nd} {c' : Nat} (h : TreeOk L tb c) (hf : ∀ m ∈ L, ∃ m' ∈ L', m'.p = m.p ∧ m'.b = m.b ∧ m'.u = m.u ∧ m'.s = m.s) (hg : ∀ m' ∈ L', ∃ m ∈ L, m'.p = m.p ∧ m'.b = m.b ∧ m'.u = m.u ∧ m'.s = m.s)
  (h1 : (L'.map Nd.p).Nodup) (h2 : (L'.map Nd.b).Nodup) (h3 : ∀ n ∈ L', Bare n.i) (h4 : ∀ n ∈ L', TbOk n.s c' ∧ TbOk n.i c') (h5 : L'.length ≤ c') : TreeOk L' tb c' := by
 refine ⟨h1, h2, ?_, ?_, ?_, h3, h4, h5⟩
 ·obtain ⟨n, hn, e1, e2⟩ := h.root
  obtain ⟨m, hm, g1, g2, -⟩ := hf n hn
  exact ⟨m, hm, g1.trans e1, g2.trans e2⟩
 ·intro m' hm'
  obtain ⟨m, hm, g1, g2, g3, g4⟩ := hg m' hm'
  rw [g1, g2, g3]
  rcases h.ups m hm with e | ⟨q, hq, w, e1, e2, e3⟩
  ·exact .inl e
  ·obtain ⟨q', hq', k1, k2, k3, k4⟩ := hf q hq
   exact .inr ⟨q', hq', w, by rw [e1, k1], by rw [e2, k2], by rw [k4]; exact e3⟩
 ·intro m' hm' r hr
  obtain ⟨m, hm, g1, g2, g3, g4⟩ := hg m' hm'
  rw [g4] at hr
  obtain ⟨q, hq, e1, e2⟩ := h.downs m hm r hr
  obtain ⟨q', hq', k1, k2, k3, k4⟩ := hf q hq
  exact ⟨q', hq', by rw [k1, e1, g1], by rw [e2, k2]⟩
theorem TreeOk.perm {L' : List Nd} (h : TreeOk L tb c) (hp : L.Perm L') : TreeOk L' tb c :=
 h.sim (fun m hm => ⟨m, hp.mem_iff.1 hm, rfl, rfl, rfl, rfl⟩) (fun m hm => ⟨m, hp.mem_iff.2 hm, rfl, rfl, rfl, rfl⟩) ((hp.map _).nodup_iff.1 h.paths) ((hp.map _).nodup_iff.1 h.blocks)
  (fun m hm => h.bare m (hp.mem_iff.2 hm)) (fun m hm => h.oks m (hp.mem_iff.2 hm)) (by rw [← hp.length_eq]; exact h.few)
theorem TreeOk.mono {c' : Nat} (h : TreeOk L tb c) (hc : c ≤ c') : TreeOk L tb c' :=
 ⟨h.paths, h.blocks, h.root, h.ups, h.downs, h.bare, fun n hn => ⟨(h.oks n hn).1.mono hc, (h.oks n hn).2.mono hc⟩, Nat.le_trans h.few hc⟩
theorem TreeOk.ids {R : List Nd} {c' : Nat} {i' : Tb Int} {x' : List Value} (h : TreeOk (n :: R) tb c) (hb : Bare i') (hc : c ≤ c') (hok : TbOk i' c') : TreeOk ({ n with i := i', x := x' } :: R) tb c' := by
 refine h.sim ?_ ?_ h.paths h.blocks ?_ ?_ (Nat.le_trans h.few hc)
 ·intro m hm
  rcases List.mem_cons.1 hm with rfl | hm
  ·exact ⟨_, List.mem_cons_self, rfl, rfl, rfl, rfl⟩
  ·exact ⟨m, List.mem_cons_of_mem _ hm, rfl, rfl, rfl, rfl⟩
 ·intro m hm
  rcases List.mem_cons.1 hm with rfl | hm
  ·exact ⟨n, List.mem_cons_self, rfl, rfl, rfl, rfl⟩
  ·exact ⟨m, List.mem_cons_of_mem _ hm, rfl, rfl, rfl, rfl⟩
 ·intro m hm
  rcases List.mem_cons.1 hm with rfl | hm
  ·exact hb
  ·exact h.bare m (List.mem_cons_of_mem _ hm)
 ·intro m hm
  rcases List.mem_cons.1 hm with rfl | hm
  ·exact ⟨(h.oks n List.mem_cons_self).1.mono hc, hok⟩
  ·exact ⟨(h.oks m (List.mem_cons_of_mem _ hm)).1.mono hc, (h.oks m (List.mem_cons_of_mem _ hm)).2.mono hc⟩
abbrev newNd (n : Nd) (w : List UInt8) (nb : Nat) (y : TypeId) : Nd := ⟨n.p ++ [w], nb, some n.b, Tb.new, Tb.new, [], y⟩
theorem TreeOk.grow {R : List Nd} {w : List UInt8} {nb : Nat} {y : TypeId} {s' : Tb (List UInt8)} (h : TreeOk (n :: R) tb c) (hw : ∀ m ∈ n :: R, m.p ≠ n.p ++ [w]) (hnb : ∀ m ∈ n :: R, m.b ≠ nb)
  (hs : s'.rows = n.s.rows ++ [(w, np nb)]) (hok : TbOk s' (c + 1)) : TreeOk (newNd n w nb y :: { n with s := s' } :: R) tb (c + 1) := by
 have hf : ∀ m ∈ n :: R, ∃ m' ∈ newNd n w nb y :: { n with s := s' } :: R, m'.p = m.p ∧ m'.b = m.b ∧ m'.u = m.u ∧ (∀ r ∈ m.s.rows, r ∈ m'.s.rows) := by
  intro m hm
  rcases List.mem_cons.1 hm with rfl | hm
  ·exact ⟨{ m with s := s' }, by simp, rfl, rfl, rfl, fun r hr => by show r ∈ s'.rows; rw [hs]; exact List.mem_append_left _ hr⟩
  ·exact ⟨m, by simp [hm], rfl, rfl, rfl, fun r hr => hr⟩
 refine ⟨?_, ?_, ?_, ?_, ?_, ?_, ?_, by have := h.few; simpa using this⟩
 ·show ((n.p ++ [w]) :: ((n :: R).map Nd.p)).Nodup
  rw [List.nodup_cons]
  refine ⟨fun hm => ?_, h.paths⟩
  obtain ⟨m, hm, e⟩ := List.mem_map.1 hm
  exact hw m hm e
 ·show (nb :: ((n :: R).map Nd.b)).Nodup
  rw [List.nodup_cons]
  refine ⟨fun hm => ?_, h.blocks⟩
  obtain ⟨m, hm, e⟩ := List.mem_map.1 hm
  exact hnb m hm e
 ·obtain ⟨r, hr, e1, e2⟩ := h.root
  obtain ⟨r', hr', g1, g2, -⟩ := hf r hr
  exact ⟨r', hr', g1.trans e1, g2.trans e2⟩
 ·have key : ∀ m ∈ n :: R, (m.p = [] ∧ m.u = none) ∨ ∃ q ∈ newNd n w nb y :: { n with s := s' } :: R, ∃ w', m.p = q.p ++ [w'] ∧ m.u = some q.b ∧ (w', np m.b) ∈ q.s.rows := by
   intro m hm
   rcases h.ups m hm with e | ⟨q, hq, w', e1, e2, e3⟩
   ·exact .inl e
   ·obtain ⟨q', hq', k1, k2, k3, k4⟩ := hf q hq
    exact .inr ⟨q', hq', w', by rw [e1, k1], by rw [e2, k2], k4 _ e3⟩
  intro m hm
  rcases List.mem_cons.1 hm with rfl | hm
  ·exact .inr ⟨{ n with s := s' }, by simp, w, rfl, rfl, by show _ ∈ s'.rows; rw [hs]; simp⟩
  rcases List.mem_cons.1 hm with rfl | hm
  ·exact key n List.mem_cons_self
  ·exact key m (List.mem_cons_of_mem _ hm)
 ·have key : ∀ m ∈ n :: R, ∀ r ∈ m.s.rows, ∃ m' ∈ newNd n w nb y :: { n with s := s' } :: R, m'.p = m.p ++ [r.1] ∧ r.2 = np m'.b := by
   intro m hm r hr
   obtain ⟨q, hq, e1, e2⟩ := h.downs m hm r hr
   obtain ⟨q', hq', k1, k2, k3, k4⟩ := hf q hq
   exact ⟨q', hq', by rw [k1, e1], by rw [e2, k2]⟩
  intro m hm r hr
  rcases List.mem_cons.1 hm with rfl | hm
  ·exact absurd hr (by show r ∉ (Tb.new : Tb (List UInt8)).rows; simp [Tb.new, Tb.rows])
  rcases List.mem_cons.1 hm with rfl | hm
  ·have hr : r ∈ s'.rows := hr
   rw [hs] at hr
   rcases List.mem_append.1 hr with hr | hr
   ·exact key n List.mem_cons_self r hr
   ·rw [List.mem_singleton] at hr
    subst hr
    exact ⟨newNd n w nb y, by simp, rfl, rfl⟩
  ·exact key m (List.mem_cons_of_mem _ hm) r hr
 ·intro m hm
  rcases List.mem_cons.1 hm with rfl | hm
  ·intro e he
   exact absurd he (by simp [Tb.new])
  rcases List.mem_cons.1 hm with rfl | hm
  ·exact h.bare n List.mem_cons_self
  ·exact h.bare m (List.mem_cons_of_mem _ hm)
 ·intro m hm
  rcases List.mem_cons.1 hm with rfl | hm
  ·exact ⟨TbOk.new _, TbOk.new _⟩
  rcases List.mem_cons.1 hm with rfl | hm
  ·exact ⟨hok, (h.oks n List.mem_cons_self).2.mono (Nat.le_succ _)⟩
  ·exact ⟨(h.oks m (List.mem_cons_of_mem _ hm)).1.mono (Nat.le_succ _), (h.oks m (List.mem_cons_of_mem _ hm)).2.mono (Nat.le_succ _)⟩
theorem TreeOk.cut {R : List Nd} {w : List UInt8} {s' : Tb (List UInt8)} (h : TreeOk (m :: n :: R) tb c) (hm : m.p = n.p ++ [w]) (h0 : m.s.rows = [])
  (hs : s'.rows.Perm (n.s.rows.filter fun x => decide (x.1 ≠ w))) (hok : TbOk s' c) : TreeOk ({ n with s := s' } :: R) tb c := by
 have hmp : m.p ≠ [] := by rw [hm]; simp
 have nm : ∀ k ∈ n :: R, k.p ≠ m.p := fun k hk e => by
  have := h.paths
  rw [List.map_cons, List.nodup_cons] at this
  exact this.1 (e ▸ List.mem_map_of_mem hk)
 have nn : ∀ k ∈ R, k.p ≠ n.p := fun k hk e => by
  have := h.paths
  rw [List.map_cons, List.nodup_cons, List.map_cons, List.nodup_cons] at this
  exact this.2.1 (e ▸ List.mem_map_of_mem hk)
 have hin : ∀ k ∈ m :: n :: R, k.p ≠ m.p → ∃ k' ∈ { n with s := s' } :: R, k'.p = k.p ∧ k'.b = k.b := by
  intro k hk hne
  rcases List.mem_cons.1 hk with rfl | hk
  ·exact absurd rfl hne
  rcases List.mem_cons.1 hk with rfl | hk
  ·exact ⟨_, List.mem_cons_self, rfl, rfl⟩
  ·exact ⟨k, List.mem_cons_of_mem _ hk, rfl, rfl⟩
 have mem : ∀ r, r ∈ s'.rows ↔ r ∈ n.s.rows ∧ r.1 ≠ w := fun r => by rw [hs.mem_iff, List.mem_filter]; simp
 refine ⟨?_, ?_, ?_, ?_, ?_, ?_, ?_, ?_⟩
 ·have := h.paths
  rw [List.map_cons, List.nodup_cons] at this
  exact this.2
 ·have := h.blocks
  rw [List.map_cons, List.nodup_cons] at this
  exact this.2
 ·obtain ⟨r, hr, e1, e2⟩ := h.root
  obtain ⟨r', hr', g1, g2⟩ := hin r hr (by rw [e1]; exact Ne.symm hmp)
  exact ⟨r', hr', g1.trans e1, g2.trans e2⟩
 ·have key : ∀ k ∈ n :: R, (k.p = [] ∧ k.u = none) ∨ ∃ q ∈ { n with s := s' } :: R, ∃ w', k.p = q.p ++ [w'] ∧ k.u = some q.b ∧ (w', np k.b) ∈ q.s.rows := by
   intro k hk
   rcases h.ups k (List.mem_cons_of_mem _ hk) with e | ⟨q, hq, w', e1, e2, e3⟩
   ·exact .inl e
   ·refine .inr ?_
    rcases List.mem_cons.1 hq with rfl | hq
    ·rw [h0] at e3
     exact absurd e3 (by simp)
    rcases List.mem_cons.1 hq with rfl | hq
    ·refine ⟨_, List.mem_cons_self, w', e1, e2, (mem _).2 ⟨e3, fun e => ?_⟩⟩
     have e : w' = w := e
     rw [e, ← hm] at e1
     exact nm k hk e1
    ·exact ⟨q, List.mem_cons_of_mem _ hq, w', e1, e2, e3⟩
  intro k hk
  rcases List.mem_cons.1 hk with rfl | hk
  ·exact key n List.mem_cons_self
  ·exact key k (List.mem_cons_of_mem _ hk)
 ·intro k hk r hr
  rcases List.mem_cons.1 hk with rfl | hk
  ·obtain ⟨h1, h2⟩ := (mem r).1 hr
   obtain ⟨q, hq, e1, e2⟩ := h.downs n (by simp) r h1
   obtain ⟨q', hq', k1, k2⟩ := hin q hq (by rw [e1, hm]; intro e; exact h2 (snoc_inj e).2)
   exact ⟨q', hq', by rw [k1, e1], by rw [e2, k2]⟩
  ·obtain ⟨q, hq, e1, e2⟩ := h.downs k (by simp [hk]) r hr
   obtain ⟨q', hq', k1, k2⟩ := hin q hq (by rw [e1, hm]; intro e; exact nn k hk (snoc_inj e).1)
   exact ⟨q', hq', by rw [k1, e1], by rw [e2, k2]⟩
 ·intro k hk
  rcases List.mem_cons.1 hk with rfl | hk
  ·exact h.bare n (by simp)
  ·exact h.bare k (by simp [hk])
 ·intro k hk
  rcases List.mem_cons.1 hk with rfl | hk
  ·exact ⟨hok, (h.oks n (by simp)).2⟩
  ·exact h.oks k (by simp [hk])
 ·have := h.few
  simp only [List.length_cons] at this ⊢
  omega
end
section
variable {B : Nat} {w0 w : World} {F : List (Nat × Obj)} {L : List Nd} {tb c : Nat} {n m : Nd}
theorem objs_perm {L' : List Nd} (h : L.Perm L') : (objsL L).Perm (objsL L') := List.Perm.flatMap_right _ h
theorem objs_cons (n : Nd) (R : List Nd) : objsL (n :: R) = n.objs ++ objsL R := rfl
theorem mem_cells (hn : n ∈ L) : (n.b, (.cells n.cells n.y : Obj)) ∈ objsL L ++ F := List.mem_append_left _ (List.mem_flatMap.2 ⟨n, hn, List.mem_cons_self⟩)
theorem St.node (h : St B w0 w (objsL L ++ F)) (hn : n ∈ L) {j : Nat} {v : Value} (hj : n.cells[j]? = some v) : w.cell? ⟨n.b, j, none⟩ = some v := h.cell (b := n.b) (mem_cells hn) hj
theorem St.nodeSoft (h : St B w0 w (objsL L ++ F)) (hn : n ∈ L) (j : Nat) : w.frozen? ⟨n.b, j, none⟩ = false := h.soft (b := n.b) (mem_cells hn) j
theorem St.nodeIn (h : St B w0 w (objsL L ++ F)) (hn : n ∈ L) : w.heap[n.b]? = some (.cells n.cells n.y) := h.get (b := n.b) (mem_cells hn)
theorem St.tabS (h : St B w0 w (objsL L ++ F)) (hn : n ∈ L) : TbAt w n.b 2 encS n.s :=
 ⟨h.node hn rfl, h.node hn rfl, fun mb e => h.get (b := mb) (List.mem_append_left _ (List.mem_flatMap.2 ⟨n, hn, by unfold Nd.objs tabH; rw [e]; simp⟩))⟩
theorem St.tabI (h : St B w0 w (objsL L ++ F)) (hn : n ∈ L) : TbAt w n.b 4 encI n.i :=
 ⟨h.node hn rfl, h.node hn rfl, fun mb e => h.get (b := mb) (List.mem_append_left _ (List.mem_flatMap.2 ⟨n, hn, by unfold Nd.objs; simp only [tabH, e]; simp⟩))⟩
theorem run_kid (h : St B w0 w (objsL L ++ F)) (ht : TreeOk L tb c) (hn : n ∈ L) (v : List UInt8) :
  (Instr.lookup 311 (.map n.s.mv) (tx v) false).run Tryz.prog w = .ok (ptrP L (n.p ++ [v])) w := by
 have hk := ht.kid hn v
 cases hmv : n.s.mv with
 | none =>
  have := run_lookE_nil (c := false) keyS uMapS (zNode w) (k := v) trivial
  rw [((ht.oks n hn).1.bare hmv).1] at hk
  rw [← hk]
  exact this
 | some mb =>
  have := run_lookE (c := false) keyS uMapS (zNode w) ((h.tabS hn).map mb hmv) (k := v) trivial (fun _ _ => trivial)
  rw [hk] at this
  exact this
end
end Go.Proofs.YtknjamfjonapiaaGreatDoor
