/- Walks over a tree, plain: where a walk is behind some words of a key, A row of bytes read as a text, What of texts stands alone: two of them as one, a row of bytes that is made, one letter taken, strings.Clone, strings.Cut at a point, What a walk is told of arguments: a slice of integers that came in, A slice of texts that came in, A slice that the call owns, wherever in its block it begins: SlIs T size v n xs F says that the value v is a slice of n elements with the cells xs, and that F lists the block that it lies in (or nothing). Appended to and cut, it is one again, A slice of texts that the call owns. -/
import Derived.Test.YtoecaonmehbfeaaGreatR03
import Derived.Test.YtoecaonmehbfeaaGreatR01
import Derived.Test.YtoecaonmehbfeaaGreatProg
import Derived.Laws.BytesArg
import Derived.Laws.Concat
import Derived.Laws.DeepStrings4
import Derived.Lib.Hide
import Derived.Lib.UnsafeStr
import Derived.Deep.QuietTactic
import Derived.BigQuiet
import Derived.Laws.MakeOwn
import Derived.Lib.BufferWrite
import Derived.Deep.RegionHeld3
import Derived.Lib.Strings
import Derived.Lib.Slices
import Derived.Lib.Walk
import Derived.OpenShut
import Derived.ShutString
import Derived.Deep.Slices
import Derived.Deep.Fields
import Derived.Maps.AppendAt
/- Walks over a tree, plain: where a walk is behind some words of a key. -/
namespace Go.Proofs.YtoecaonmehbfeaaGreat
open Go.RowKit
set_option linter.unusedVariables false
set_option linter.unusedSectionVars false
set_option linter.unusedSimpArgs false

section
variable {L : List Nd} {tb c : Nat} {K K' K0 : Kn} {n m : Nd} {A X H : List Nd} {o0 o : Option Nd} {ks : Wds} {w : List UInt8}
/-- Nothing is left to look at. -/
def Stop (K : Kn) (o : Option Nd) : Prop := ∀ y, o = some y → K y.p ≠ 0

structure Here (L : List Nd) (ks : Wds) (K : Kn) (H : List Nd) : Prop where
  ok : KOk L K
  nodup : H.Nodup
  mem : ∀ y ∈ H, y ∈ L
  sound : ∀ y ∈ H, gl y.p ks = true
  hash : ∀ y ∈ H, ∀ p, y.p = p ++ [[35]] → K y.p ≠ 0
  kids : ∀ y ∈ H, ∀ z ∈ L, z.p = y.p ++ [[35]] → K z.p ≠ 0
  one : ∀ n ∈ L, K n.p = 1 → n ∈ H
  all : ∀ q ∈ L, gl q.p ks = true → q ∈ H ∨ K q.p = 2

theorem KOk.cases (h : KOk L K) {p : Wds} (h0 : K p ≠ 0) : K p = 1 ∨ K p = 2 := by
  have := h.few p
  omega
theorem Here.start (ht : TreeOk L tb c) (hn : n ∈ L) (h0 : n.p = []) (R : ReachOk L (fun _ => 0) [] (some n) K X o) (hs : Stop K o) : Here L [] K X := by
  have one : ∀ m ∈ L, K m.p = 1 → m ∈ X := by
    intro m hm h1
    rcases R.turn m.p with e | e | ⟨_, y, hy, e⟩
    · rw [h1] at e; cases e
    · rw [h1] at e; cases e
    · rw [← map_inj ht.paths (R.mem y (by simpa using hy)) hm e]
      exact hy
  have kids : ∀ y ∈ X, ∀ z ∈ L, z.p = y.p ++ [[35]] → K z.p ≠ 0 := fun y hy z hz e => (R.kids y hy z hz e).elim id fun e => hs z e
  refine ⟨R.ok, by simpa using R.nodup, fun y hy => R.mem y (by simpa using hy), ?_, fun y hy => R.hash y (by simpa using hy), kids, one, ?_⟩
  · intro y hy
    obtain ⟨x, j, e1, e2⟩ := R.form y hy
    cases e1
    rw [e2, h0]
    exact gl_hashes rfl j
  · have key : ∀ d, ∀ q ∈ L, q.p.length = d → gl q.p [] = true → q ∈ X ∨ K q.p = 2 := by
      intro d
      induction d with
      | zero =>
        intro q hq hd _
        have e : q.p = [] := List.eq_nil_of_length_eq_zero hd
        obtain rfl := map_inj ht.paths hq hn (e.trans h0.symm)
        rcases R.first q rfl with ⟨e1, e2⟩ | e1
        · right
          rcases R.ok.cases (hs q e2) with e3 | e3
          · have := one q hq e3
            rw [e1] at this
            simp at this
          · exact e3
        · exact .inl e1
      | succ d ih =>
        intro q hq hd hg
        rcases ht.ups q hq with ⟨e, _⟩ | ⟨x, hx, v, e, _, _⟩
        · rw [e] at hd; cases hd
        · rw [e] at hg
          by_cases hv : v = [35]
          · subst hv
            obtain ⟨j, hj, hg⟩ := gl_last_hash.1 hg
            rw [List.take_nil] at hg
            have hxd : x.p.length = d := by
              rw [e, List.length_append, List.length_singleton] at hd
              omega
            have hk : K q.p ≠ 0 := by
              rcases ih x hx hxd hg with h1 | h1
              · exact kids x h1 q hq e
              · exact (R.ok.two x hx h1).2 q hq _ e
            rcases R.ok.cases hk with h1 | h1
            · exact .inl (one q hq h1)
            · exact .inr h1
          · rw [gl_last_short hv] at hg
            cases hg
    exact fun q hq => key _ q hq rfl

/-- While a word is taken: of those in stays it is done whether they stay, of those in led where they lead. -/
structure Taking (L : List Nd) (ks : Wds) (w : List UInt8) (K0 : Kn) (H : List Nd) (stays : Nd → Prop) (led : Nd → List UInt8 → Prop) (K : Kn) (A : List Nd) : Prop where
  here : Here L ks K0 H
  ok : KOk L K
  nodup : A.Nodup
  mem : ∀ y ∈ A, y ∈ L
  sound : ∀ y ∈ A, gl y.p (ks ++ [w]) = true
  hash : ∀ y ∈ A, ∀ p, y.p = p ++ [[35]] → K y.p ≠ 0
  kids : ∀ y ∈ A, ∀ z ∈ L, z.p = y.p ++ [[35]] → K z.p ≠ 0
  turn : ∀ q, K q = K0 q ∨ K q = 2 ∨ (K0 q = 0 ∧ ∃ y ∈ A, y.p = q)
  stay : ∀ n ∈ H, stays n → K n.p = 1 → n ∈ A
  lead : ∀ n ∈ H, ∀ v, led n v → ∀ z ∈ L, z.p = n.p ++ [v] → z ∈ A ∨ K z.p ≠ 0
  from_ : ∀ y ∈ A, (∀ p, y.p ≠ p ++ [[35]]) → ∃ n ∈ H, ∃ v, y.p = n.p ++ [v] ∧ led n v
  back : ∀ y ∈ A, y ∈ H → ∀ p, y.p = p ++ [[35]] → stays y
variable {stays : Nd → Prop} {led : Nd → List UInt8 → Prop}

theorem Taking.start (h : Here L ks K H) (w : List UInt8) : Taking L ks w K H (fun _ => False) (fun _ _ => False) K [] :=
  ⟨h, h.ok, by simp, by simp, by simp, by simp, by simp, fun q => .inl rfl, fun _ _ e => e.elim, fun _ _ _ e => e.elim, by simp, by simp⟩
theorem Taking.up (h : Taking L ks w K0 H stays led K A) {q : Wds} (hq : K0 q ≠ 0) : K q ≠ 0 := by
  rcases h.turn q with e | e | ⟨e, _⟩
  · rw [e]; exact hq
  · rw [e]; decide
  · exact absurd e hq
theorem Taking.stay0 (h : Taking L ks w K0 H stays led K A) (hk : K n.p ≠ 1) : Taking L ks w K0 H (fun x => stays x ∨ x = n) led K A :=
  ⟨h.here, h.ok, h.nodup, h.mem, h.sound, h.hash, h.kids, h.turn, fun m hm hs h1 => hs.elim (fun hs => h.stay m hm hs h1) fun e => absurd (e ▸ h1) hk, h.lead, h.from_, fun y hy hyH p e => .inl (h.back y hy hyH p e)⟩
theorem Taking.fresh (h : Taking L ks w K0 H stays led K A) (hn : n ∈ H) (hs : ¬ stays n) (hk : K n.p = 1) : n ∉ A := fun hA => by
  obtain ⟨p, e⟩ := h.ok.one n (h.here.mem n hn) hk
  exact hs (h.back n hA hn p e)
theorem Taking.stay1 (h : Taking L ks w K0 H stays led K A) (hn : n ∈ H) (hs : ¬ stays n) (hk : K n.p = 1) : Taking L ks w K0 H (fun x => stays x ∨ x = n) led K (A ++ [n]) := by
  obtain ⟨p, e⟩ := h.ok.one n (h.here.mem n hn) hk
  have hnA := h.fresh hn hs hk
  have all : ∀ {Q : Nd → Prop}, (∀ y ∈ A, Q y) → Q n → ∀ y ∈ A ++ [n], Q y := by
    intro Q h1 h2 y hy
    rcases List.mem_append.1 hy with hy | hy
    · exact h1 y hy
    · rw [List.mem_singleton] at hy
      subst hy
      exact h2
  refine ⟨h.here, h.ok, ?_, all h.mem (h.here.mem n hn), all h.sound ?_, all h.hash (fun _ _ => by rw [hk]; decide), all h.kids (fun z hz e2 => h.up (h.here.kids n hn z hz e2)), ?_, ?_, ?_, ?_, ?_⟩
  · rw [List.nodup_append]
    exact ⟨h.nodup, by simp, by rintro a ha b hb rfl; rw [List.mem_singleton] at hb; subst hb; exact hnA ha⟩
  · have := h.here.sound n hn
    rw [e] at this ⊢
    exact gl_hash_on.2 (.inr this)
  · intro q
    rcases h.turn q with g | g | ⟨g, y, hy, e2⟩
    · exact .inl g
    · exact .inr (.inl g)
    · exact .inr (.inr ⟨g, y, by simp [hy], e2⟩)
  · intro m hm hs h1
    rcases hs with hs | rfl
    · exact List.mem_append_left _ (h.stay m hm hs h1)
    · simp
  · intro m hm v hv z hz e2
    exact (h.lead m hm v hv z hz e2).imp (fun x => List.mem_append_left _ x) id
  · exact all h.from_ (fun hno => absurd e (hno p))
  · exact all (fun y hy hyH p e => .inl (h.back y hy hyH p e)) (fun _ _ _ => .inr rfl)
/-- What is asked of where it leads. -/
theorem Taking.ask (h : Taking L ks w K0 H stays led K A) (ht : TreeOk L tb c) (hn : n ∈ H) {v : List UInt8} (hl : ¬ led n v) : ∀ y, nd L (n.p ++ [v]) = some y → y ∈ L ∧ (K y.p = 0 → y ∉ A) := by
  intro y hy
  obtain ⟨h1, h2⟩ := nd_mem hy
  refine ⟨h1, fun hk hA => ?_⟩
  by_cases hv : v = [35]
  · subst hv
    exact h.hash y hA _ h2 hk
  · obtain ⟨m, hm, v', e1, e2⟩ := h.from_ y hA (fun p e => hv (by rw [h2] at e; exact (snoc_inj e).2))
    rw [h2] at e1
    obtain ⟨e3, rfl⟩ := snoc_inj e1
    obtain rfl := map_inj ht.paths (h.here.mem n hn) (h.here.mem m hm) e3
    exact hl e2
theorem Taking.reach (h : Taking L ks w K0 H stays led K A) (ht : TreeOk L tb c) (hn : n ∈ H) {v : List UInt8} (hv : stands v w = true ∨ v = [35]) (R : ReachOk L K A (nd L (n.p ++ [v])) K' X o) (hs : Stop K' o) :
    Taking L ks w K0 H stays (fun x u => led x u ∨ (x = n ∧ u = v)) K' (A ++ X) := by
  have hnL := h.here.mem n hn
  have all : ∀ {Q : Nd → Prop}, (∀ y ∈ A, Q y) → (∀ y ∈ X, Q y) → ∀ y ∈ A ++ X, Q y := fun h1 h2 y hy => (List.mem_append.1 hy).elim (h1 y) (h2 y)
  refine ⟨h.here, R.ok, R.nodup, R.mem, all h.sound ?_, R.hash, all (fun y hy z hz e => R.up (h.kids y hy z hz e)) (fun y hy z hz e => (R.kids y hy z hz e).elim id fun e => hs z e), ?_, ?_, ?_, all ?_ ?_, all h.back ?_⟩
  · intro y hy
    obtain ⟨x, j, e1, e2⟩ := R.form y hy
    obtain ⟨-, e3⟩ := nd_mem e1
    rw [e2, e3]
    refine gl_hashes ?_ j
    have hg := h.here.sound n hn
    by_cases h35 : v = [35]
    · subst h35
      exact gl_hash_on.2 (.inr (gl_hash_more hg))
    · exact (gl_last_one h35).2 ⟨hg, hv.elim id fun e => absurd e h35⟩
  · intro q
    rcases R.turn q with e | e | ⟨e, y, hy, e2⟩
    · rcases h.turn q with g | g | ⟨g, y, hy, e2⟩
      · exact .inl (e.trans g)
      · exact .inr (.inl (e.trans g))
      · exact .inr (.inr ⟨g, y, by simp [hy], e2⟩)
    · exact .inr (.inl e)
    · rcases h.turn q with g | g | ⟨g, -⟩
      · exact .inr (.inr ⟨by rw [← g, e], y, by simp [hy], e2⟩)
      · rw [e] at g; cases g
      · exact .inr (.inr ⟨g, y, by simp [hy], e2⟩)
  · intro m hm hsm h1
    rcases R.turn m.p with e | e | ⟨e, y, hy, e2⟩
    · exact List.mem_append_left _ (h.stay m hm hsm (e ▸ h1))
    · rw [h1] at e; cases e
    · rw [← map_inj ht.paths (R.mem y (by simp [hy])) (h.here.mem m hm) e2]
      exact List.mem_append_right _ hy
  · intro m hm u hu z hz e
    rcases hu with hu | ⟨rfl, rfl⟩
    · exact (h.lead m hm u hu z hz e).imp (fun x => List.mem_append_left _ x) R.up
    · have : nd L (m.p ++ [u]) = some z := by rw [← e]; exact ht.nd_some hz
      rcases R.first z this with ⟨_, e2⟩ | e2
      · exact .inr (hs z e2)
      · exact .inl (List.mem_append_right _ e2)
  · intro y hy hno
    obtain ⟨x, hx, u, e1, e2⟩ := h.from_ y hy hno
    exact ⟨x, hx, u, e1, .inl e2⟩
  · intro y hy hno
    obtain ⟨x, j, e1, e2⟩ := R.form y hy
    obtain ⟨-, e3⟩ := nd_mem e1
    cases j with
    | zero => exact ⟨n, hn, v, by simpa [e3] using e2, .inr ⟨rfl, rfl⟩⟩
    | succ j =>
      rw [List.replicate_succ', ← List.append_assoc] at e2
      exact absurd e2 (hno _)
  · intro y hy hyH p e
    exact absurd (R.zero y hy) (h.up (h.here.hash y hyH p e))
theorem Taking.done (h : Taking L ks w K0 H stays led K A) (ht : TreeOk L tb c) (h1 : ∀ n ∈ H, stays n) (h2 : ∀ n ∈ H, ∀ v, v ≠ [35] → stands v w = true → led n v) : Here L (ks ++ [w]) K A := by
  have one : ∀ n ∈ L, K n.p = 1 → n ∈ A := by
    intro n hn hk
    rcases h.turn n.p with e | e | ⟨_, y, hy, e⟩
    · have := h.here.one n hn (e ▸ hk)
      exact h.stay n this (h1 n this) hk
    · rw [hk] at e; cases e
    · rw [← map_inj ht.paths (h.mem y hy) hn e]
      exact hy
  have two : ∀ q, K0 q = 2 → K q = 2 := fun q hq => by
    rcases h.turn q with e | e | ⟨e, _⟩
    · rw [e, hq]
    · exact e
    · rw [hq] at e; cases e
  refine ⟨h.ok, h.nodup, h.mem, h.sound, h.hash, h.kids, one, ?_⟩
  have fin : ∀ q ∈ L, K q.p ≠ 0 → q ∈ A ∨ K q.p = 2 := fun q hq hk => (h.ok.cases hk).imp (one q hq) id
  have key : ∀ d, ∀ q ∈ L, q.p.length = d → gl q.p (ks ++ [w]) = true → q ∈ A ∨ K q.p = 2 := by
    intro d
    induction d with
    | zero =>
      intro q hq hd hg
      rw [List.eq_nil_of_length_eq_zero hd, gl_none] at hg
      cases hg
    | succ d ih =>
      intro q hq hd hg
      rcases ht.ups q hq with ⟨e, _⟩ | ⟨x, hx, v, e, _, _⟩
      · rw [e] at hd; cases hd
      · have hxd : x.p.length = d := by
          rw [e, List.length_append, List.length_singleton] at hd
          omega
        rw [e] at hg
        by_cases hv : v = [35]
        · subst hv
          rcases gl_hash_on.1 hg with hg | hg
          · refine fin q hq ?_
            rcases ih x hx hxd hg with g | g
            · exact h.kids x g q hq e
            · exact (h.ok.two x hx g).2 q hq _ e
          · rw [← e] at hg
            rcases h.here.all q hq hg with g | g
            · exact fin q hq (h.up (h.here.hash q g _ e))
            · exact .inr (two _ g)
        · obtain ⟨hg, hst⟩ := (gl_last_one hv).1 hg
          rcases h.here.all x hx hg with g | g
          · rcases h.lead x g v (h2 x g v hv hst) q hq e with k | k
            · exact .inl k
            · exact fin q hq k
          · exact fin q hq ((h.ok.two x hx (two _ g)).2 q hq _ e)
  exact fun q hq => key _ q hq rfl
theorem Here.none (h : Here L ks K []) (ht : TreeOk L tb c) (more : Wds) : Here L (ks ++ more) K [] := by
  induction more generalizing ks with
  | nil => simpa using h
  | cons w more ih =>
    have := ih ((Taking.start h w).done ht (by simp) (by simp))
    simpa using this
theorem Here.len (h : Here L ks K H) : H.length ≤ L.length := nodup_len h.nodup h.mem
theorem Here.ids (h : Here L ks K H) (k : Int) : (∃ n ∈ H, k ∈ n.i.es.map (·.1)) ↔ ∃ p, HasId L p k ∧ gl p ks = true := by
  constructor
  · rintro ⟨n, hn, hk⟩
    exact ⟨n.p, ⟨n, h.mem n hn, rfl, hk⟩, h.sound n hn⟩
  · rintro ⟨p, ⟨n, hn, rfl, hk⟩, hg⟩
    rcases h.all n hn hg with g | g
    · exact ⟨n, g, hk⟩
    · rw [(h.ok.two n hn g).1] at hk
      simp at hk
end
end Go.Proofs.YtoecaonmehbfeaaGreat

/- A row of bytes read as a text. -/
namespace Go.Proofs.YtoecaonmehbfeaaGreat
open Go.RowKit
set_option linter.unusedVariables false
set_option maxRecDepth 100000

theorem uStr6 : Tryz.prog.underlying 9 = some .string := by kernel_rfl
theorem uU86 : Tryz.prog.underlying 5 = some (.int .u8) := by kernel_rfl
theorem uBytes6 : Tryz.prog.underlying 55 = some (.slice 5) := by kernel_rfl

set_option maxRecDepth 100000 in
theorem run_conv_bytes {w : World} {b off n cap : Nat} {l : List UInt8} (hl : l.length = n) (hc : ∀ i c, l[i]? = some c → w.cell? ⟨b, off + i, none⟩ = some (.int .u8 c.toNat)) :
    (convert 55 9 (.slice (some ⟨b, off, none⟩) n cap)).run Tryz.prog w = .ok (tx l) w := by
  have h := run_convert_bytes_arg (P := Tryz.prog) w 55 5 uBytes6 uU86 b off n cap (l.map fun c => (c.toNat : Int)) (by rw [List.length_map, hl])
    (fun i hi => by
      have e : l[i]? = some l[i] := List.getElem?_eq_getElem (by omega)
      rw [hc i _ e]
      simp [List.getD_eq_getElem?_getD, e]) 9 uStr6
  rw [h]
  congr 2
  simp only [strOfNums, List.map_map]
  congr 2
  conv => rhs; rw [← List.map_id l]
  apply List.map_congr_left
  intro c _
  simp
end Go.Proofs.YtoecaonmehbfeaaGreat

/- What of texts stands alone: two of them as one, a row of bytes that is made, one letter taken. -/
namespace Go.Proofs.YtoecaonmehbfeaaGreat
open Go.RowKit
set_option linter.unusedVariables false
set_option maxRecDepth 100000

theorem tx_add (a b : List UInt8) : (⟨a.toArray⟩ : ByteArray) ++ (⟨b.toArray⟩ : ByteArray) = ⟨(a ++ b).toArray⟩ := ByteArray.mk_append_mk a b

theorem infU86 : (Tryz.prog.info? 5).map (fun i => (i.zero, i.size, i.bytes)) = some (some (.int .u8 0), 1, 1) := by kernel_rfl

def rowOf (l : List UInt8) : Obj := .cells (Lib.byteCells l).toArray 5
theorem mk_row (w : World) (n : Nat) (hn : n ≤ 140737488351232) :
    (Instr.makeSlice 55 (.int .i64 (n : Int)) (.int .i64 (n : Int))).run Tryz.prog w = .ok (.slice (some ⟨w.heap.size, 0, none⟩) n n) (w.alloc (rowOf (List.replicate n 0))) := by
  obtain ⟨i0, hi, hz0, hz1, hz2⟩ := info_parts infU86
  have h := run_make (P := Tryz.prog) w 55 5 i0 (.int .u8 0) uBytes6 hi hz0 .i64 .i64 n n (by omega) (Int.le_refl _) (by rw [hz2]; omega) (by omega)
  rw [h, Int.toNat_natCast]
  congr 2
  unfold rowOf
  congr 1
  apply Array.toList_inj.1
  rw [hz1, Nat.mul_one, show (Value.int .u8 0).cells = #[Value.int .u8 0] from rfl, toList_madeCells_one]
  simp [Lib.byteCells]

theorem drewN_below (w : World) (n : Nat) : Below w.heap.size w (w.drewN n) := ⟨rfl, rfl, rfl, Nat.le_refl _, fun _ _ => rfl⟩
theorem takeL_nil1 : takeL [] 1 = (0, [], 11) := by decide
theorem takeL_cons1 (b : UInt8) (r : List UInt8) : takeL (b :: r) 1 = (b.toNat, r, 0) := by
  unfold takeL
  rw [show heldN 1 = 1 from rfl, if_neg (by simp)]
  simp [num]
/-- What is new to one is new to who came ahead. -/
theorem bel {a b c : World} (h : Below a.heap.size a b) (k : Below b.heap.size b c) : Below a.heap.size a c := h.trans (k.mono h.size)

theorem zeros_conv (w : World) (k : Nat) : (convert 55 9 (.slice (some ⟨w.heap.size, 0, none⟩) k k)).run Tryz.prog (w.alloc (rowOf (List.replicate k 0))) = .ok (tx (List.replicate k 0)) (w.alloc (rowOf (List.replicate k 0))) :=
  run_conv_bytes (by simp) fun i c hi => by
    rw [Nat.zero_add, rowOf, World.cell?_alloc_mark]
    show ((List.replicate k (0 : UInt8)).map _).toArray[i]? = _
    rw [List.getElem?_toArray, List.getElem?_map, hi]
    rfl
/-- One byte read as a text. -/
theorem conv_byte10 {w : World} {b : Nat} {z : Int} (h : w.cell? ⟨b, 0, none⟩ = some (.int .u8 z)) (h0 : 0 ≤ z) (h1 : z ≤ 255) : (convert 55 9 (.slice (some ⟨b, 0, none⟩) 1 1)).run Tryz.prog w = .ok (tx [oct z]) w :=
  run_conv_bytes (l := [oct z]) rfl fun i c hi => by
    have hi0 : i = 0 := by
      have := (List.getElem?_eq_some_iff.1 hi).1
      simp at this
      omega
    subst hi0
    simp only [List.getElem?_cons_zero, Option.some.injEq] at hi
    subst hi
    rw [oct_nat, Nat.add_zero, h]
    congr 2
    omega
end Go.Proofs.YtoecaonmehbfeaaGreat

/- strings.Clone. -/
namespace Go.Proofs.YtoecaonmehbfeaaGreat
open Go.RowKit
set_option linter.unusedVariables false
set_option maxRecDepth 100000

/-! ### strings.Clone -/
theorem uPu8 : Tryz.prog.underlying 127 = some (.pointer 5) := by kernel_rfl

/-- The row with the text in it. -/
abbrev laidW (w : World) (l : List UInt8) : World := (w.alloc (rowOf (List.replicate l.length 0))).setRow w.heap.size (Lib.byteCells l).toArray
theorem laid_at (w : World) (l : List UInt8) : (laidW w l).heap[w.heap.size]? = some (.cells (Lib.byteCells l).toArray 5 (0, 0)) :=
  setRow_heap _ _ _ _ _ (0, 0) (heap_alloc_new w _)
theorem laid_below (w : World) (l : List UInt8) : Below w.heap.size w (laidW w l) :=
  ((Below.refl _ w).alloc (Nat.le_refl _) _).trans ⟨rfl, rfl, rfl, by simp, fun k hk => setRow_other _ _ _ _ (by omega)⟩
theorem run_lay (w : World) (l : List UInt8) (ty : TypeId) :
    (Builtin.copy_ #[55, 9] ty #[.slice (some ⟨w.heap.size, 0, none⟩) l.length l.length, tx l]).run Tryz.prog (w.alloc (rowOf (List.replicate l.length 0))) = .ok (goInt l.length) (laidW w l) := by
  have h := Lib.run_copy_row_string (P := Tryz.prog) (w.alloc (rowOf (List.replicate l.length 0))) 55 9 ty 5 w.heap.size 0 l.length l.length ⟨l.toArray⟩ (Lib.byteCells (List.replicate l.length 0)).toArray 5 uBytes6
    (by obtain ⟨i0, hi, hz0, hz1, hz2⟩ := info_parts infU86; rw [hi]; simp [hz1]) (heap_alloc_new w _) (Nat.le_refl _) (by simp [Lib.byteCells, ByteArray.size])
  rw [h]
  simp [Lib.byteCells, ByteArray.size, laidW]
theorem run_told (w : World) (l : List UInt8) (ty : TypeId) (h0 : l ≠ []) (hl : l.length ≤ 140737488351232) :
    (Builtin.unsafeString_ #[127, 3] ty #[.pointer (some ⟨w.heap.size, 0, none⟩), .int .i64 l.length]).run Tryz.prog (laidW w l) = .ok (tx l) ((laidW w l).freeze ⟨w.heap.size, 0, none⟩ l.length) := by
  obtain ⟨i0, hi, hz0, hz1, hz2⟩ := info_parts infU86
  refine Lib.run_unsafeString_row (P := Tryz.prog) (laidW w l) 127 3 ty 5 uPu8 (by simp [Program.cellsOf, hi, hz1]) w.heap.size l.length ?_ l h0 (Nat.le_refl _) (by omega) fun j x hx => ?_
  · unfold World.shape?
    rw [laid_at]
    simp [Lib.byteCells]
  · rw [Go.WideShapes.add_plain]
    have e : (laidW w l).cell? ⟨w.heap.size, 0 + j, none⟩ = (Lib.byteCells l).toArray[0 + j]? := by
      unfold World.cell?
      simp only [laid_at]
      rfl
    rw [e]
    simp [Lib.byteCells, hx]

set_option maxRecDepth 100000 in
theorem sclone_any (l : List UInt8) (w : World) (hl : l.length ≤ 140737488351232) : Calls Tryz.prog 81 #[tx l] w fun e w' => e = .returned (tx l) ∧ Below w.heap.size w w' := by
  by_cases h0 : l = []
  · subst h0
    go_enter Tryz.func81, Tryz.ntmps81
    go_wp2_with fail
    go_ret
    exact ⟨rfl, Below.refl _ _⟩
  · have hpos : (0 : Int) < l.length := by
      have := List.length_pos_iff.2 h0
      omega
    have h1 := mk_row w l.length hl
    have h2 := run_lay w l 3
    have h3 := run_told w l 9 h0 hl
    have hb := Lib.hid (Lib.below_freeze (laid_below w l) (p := ⟨w.heap.size, 0, none⟩) (Nat.le_refl _) l.length)
    clear hl
    generalize laidW w l = w2 at *
    generalize w2.freeze ⟨w.heap.size, 0, none⟩ l.length = w3 at *
    go_enter Tryz.func81, Tryz.ntmps81
    go_wp2_with fail
    go_ret
    exact ⟨rfl, hb.out⟩

set_option maxRecDepth 100000 in
theorem clone_any (l : List UInt8) (w : World) (hl : l.length ≤ 140737488351232) : Calls Tryz.prog 57 #[tx l] w fun e w' => e = .returned (tx l) ∧ Below w.heap.size w w' := by
  have c1 := Lib.hid (fun w => sclone_any l w hl)
  clear hl
  go_enter Tryz.func57, Tryz.ntmps57
  go_wp2_with fail
  refine (c1.out _).mono ?_
  rintro e w1 ⟨rfl, hb⟩
  replace hb := Lib.hid hb
  go_wp2_with fail
  go_ret
  exact ⟨rfl, hb.out⟩

end Go.Proofs.YtoecaonmehbfeaaGreat

/- strings.Cut at a point. -/
namespace Go.Proofs.YtoecaonmehbfeaaGreat
open Go.RowKit
set_option linter.unusedVariables false
set_option maxRecDepth 100000

/-- Where the first point stands: the model's own entry. -/
theorem point_ext (l : List UInt8) (W : World) : (callFunc 139 #[tx l, .int .u8 46]).run Tryz.prog W = .ok (.value (.int .i64 (Lib.indexByte l 46))) W := by
  have h := run_callFunc_extern (P := Tryz.prog) Tryz.func139 (by kernel_rfl) (by kernel_rfl) (by kernel_rfl) (e := Extern.BytealgIndexByte.indexByte) (by kernel_rfl) #[tx l, .int .u8 46] W
  have k := Lib.run_indexByteString (P := Tryz.prog) ⟨l.toArray⟩ 46 W
  rw [show (Extern.BytealgIndexByte.indexByte #[tx l, .int .u8 46]).run Tryz.prog W = .ok (.int .i64 (Lib.indexByte l 46)) W from k] at h
  exact h

theorem point_byte (l : List UInt8) (w : World) : Calls Tryz.prog 134 #[tx l, .int .u8 46] w fun e w' => e = .returned (.int .i64 (Lib.indexByte l 46)) ∧ w' = w := by
  have h := point_ext l w
  generalize Lib.indexByte l 46 = z at *
  go_enter Tryz.func134, Tryz.ntmps134
  go_wp2_with fail
  go_ret
  exact ⟨rfl, rfl⟩

set_option maxRecDepth 100000 in
set_option maxHeartbeats 1000000 in
theorem point_at (l : List UInt8) (w : World) : Calls Tryz.prog 127 #[tx l, tx [46]] w fun e w' => e = .returned (.int .i64 (Lib.indexByte l 46)) ∧ w' = w := by
  by_cases h : l = [46]
  · subst h
    go_enter Tryz.func127, Tryz.ntmps127
    go_wp2_with fail
    go_ret
    exact ⟨rfl, rfl⟩
  · have hn : ([46] == l) = false := by
      rw [beq_eq_false_iff_ne]
      exact fun e => h e.symm
    have c := Lib.hid (point_byte l w)
    clear h
    generalize Lib.indexByte l 46 = z at *
    go_enter Tryz.func127, Tryz.ntmps127
    go_wp2_with fail
    refine c.out.mono ?_
    rintro e w1 ⟨rfl, rfl⟩
    go_wp2_with fail
    go_ret
    exact ⟨rfl, rfl⟩

set_option maxHeartbeats 1000000 in
theorem slicut_none {l : List UInt8} (h : 46 ∉ l) (w : World) : Calls Tryz.prog 115 #[tx l, tx [46]] w fun e w' => e = .returned (.tuple #[tx l, tx [], .bool false]) ∧ w' = w := by
  have c1 := point_at l w
  rw [index_none h] at c1
  replace c1 := Lib.hid c1
  clear h
  go_enter Tryz.func115, Tryz.ntmps115
  go_wp2_with fail
  refine c1.out.mono ?_
  rintro e w1 ⟨rfl, rfl⟩
  go_wp2_with fail
  go_ret3
  exact ⟨rfl, rfl⟩
set_option maxHeartbeats 1000000 in
theorem slicut_some {x r : List UInt8} (h : 46 ∉ x) (hl : (x ++ 46 :: r).length ≤ maxLen) (w : World) : Calls Tryz.prog 115 #[tx (x ++ 46 :: r), tx [46]] w fun e w' => e = .returned (.tuple #[tx x, tx r, .bool true]) ∧ Below w.heap.size w w' := by
  have c1 := point_at (x ++ 46 :: r) w
  rw [index_some h] at c1
  replace c1 := Lib.hid c1
  have hlen : (x ++ 46 :: r).length = x.length + 1 + r.length := by simp; omega
  have e1 : (⟨(x ++ 46 :: r).toArray⟩ : ByteArray).extract 0 x.length = ⟨x.toArray⟩ := by
    rw [ByteArray.extract_mk]
    simp
  have e2 : (⟨(x ++ 46 :: r).toArray⟩ : ByteArray).extract (x.length + 1) (x.length + 1 + r.length) = ⟨r.toArray⟩ := by
    rw [ByteArray.extract_mk]
    simp
  have h0 : (0 : Int) ≤ x.length := by omega
  unfold maxLen at hl
  have h1 : (x.length : Int) ≤ (x ++ 46 :: r).length := by omega
  have h2 : (x.length : Int) + 1 ≤ (x ++ 46 :: r).length := by omega
  generalize hL : x ++ 46 :: r = L at *
  generalize hn : x.length = n at *
  clear h hL
  go_enter Tryz.func115, Tryz.ntmps115
  go_wp2_with fail
  refine c1.out.mono ?_
  rintro e w1 ⟨rfl, rfl⟩
  go_wp2_with fail
  go_quiet (fail)
  go_wp2_with fail
  go_ret3
  exact ⟨rfl, drewN_below _ _⟩
theorem cut_none {l : List UInt8} (h : 46 ∉ l) (w : World) : Calls Tryz.prog 107 #[tx l, tx [46]] w fun e w' => e = .returned (.tuple #[tx l, tx [], .bool false]) ∧ Below w.heap.size w w' := by
  have c1 := Lib.hid (slicut_none h w)
  clear h
  go_enter Tryz.func107, Tryz.ntmps107
  go_wp2_with fail
  refine c1.out.mono ?_
  rintro e w1 ⟨rfl, rfl⟩
  go_wp2_with fail
  go_ret3
  exact ⟨rfl, Below.refl _ _⟩
theorem cut_some {x r : List UInt8} (h : 46 ∉ x) (hl : (x ++ 46 :: r).length ≤ maxLen) (w : World) : Calls Tryz.prog 107 #[tx (x ++ 46 :: r), tx [46]] w fun e w' => e = .returned (.tuple #[tx x, tx r, .bool true]) ∧ Below w.heap.size w w' := by
  have c1 := Lib.hid (slicut_some h hl w)
  clear h hl
  generalize x ++ 46 :: r = L at *
  go_enter Tryz.func107, Tryz.ntmps107
  go_wp2_with fail
  refine c1.out.mono ?_
  rintro e w1 ⟨rfl, hb⟩
  replace hb := Lib.hid hb
  go_wp2_with fail
  go_ret3
  exact ⟨rfl, hb.out⟩
end Go.Proofs.YtoecaonmehbfeaaGreat

/- What a walk is told of arguments: a slice of integers that came in. -/
namespace Go.Proofs.YtoecaonmehbfeaaGreat
open Go.RowKit
set_option maxRecDepth 100000

/-- The slice at a with len elements reads as the integers zs (of kind k, each within its bounds). -/
structure IntsAt (k : IntKind) (w : World) (a : Option Addr) (len : Nat) (zs : List Int) : Prop where
  size : zs.length = len
  top : len ≤ maxLen
  wf : ∀ n ∈ zs, (Lit.int k n).wf = true
  at_ : ∀ i n, zs[i]? = some n → ∃ b off, a = some ⟨b, off, none⟩ ∧ w.cell? ⟨b, off + i, none⟩ = some (.int k n)

theorem IntsAt.of {k : IntKind} {w : World} {a : Option Addr} {len cap : Nat} {zs : List Int}
    (h : (a = none ∧ len = 0 ∧ cap = 0 ∧ zs = []) ∨ ∃ x, a = some x ∧ len ≤ cap ∧ cap ≤ maxLen ∧ zs.length = cap ∧ (∀ i, i < zs.length → w.cell? (x.add i) = some (.int k (zs.getD i 0))) ∧ ∀ n ∈ zs, (Lit.int k n).wf = true) :
    IntsAt k w a len (zs.take len) := by
  rcases h with ⟨rfl, rfl, rfl, rfl⟩ | ⟨x, rfl, hl, hm, hz, hc, hw⟩
  · exact ⟨rfl, Nat.zero_le _, by simp, by simp⟩
  · refine ⟨by rw [List.length_take]; omega, by omega, fun n hn => hw n (List.mem_of_mem_take hn), fun i n hn => ?_⟩
    have hlt : i < len := by
      have := (List.getElem?_eq_some_iff.1 hn).1
      rw [List.length_take] at this
      omega
    rw [List.getElem?_take, if_pos hlt] at hn
    have hc' := hc i (by omega)
    obtain ⟨b, off, spot⟩ := x
    have hspot : spot = none := by
      have hc0 := hc 0 (by omega)
      simpa [Addr.add] using World.cell?_spot hc0
    subst hspot
    rw [Go.WideShapes.add_plain] at hc'
    refine ⟨b, off, rfl, hc'.trans ?_⟩
    simp [List.getD_eq_getElem?_getD, hn]

theorem IntsAt.below {k : IntKind} {w w' : World} {a : Option Addr} {len : Nat} {zs : List Int} (h : IntsAt k w a len zs) (hb : Below w.heap.size w w') : IntsAt k w' a len zs :=
  ⟨h.size, h.top, h.wf, fun i n hn => by
    obtain ⟨b, off, e, hc⟩ := h.at_ i n hn
    exact ⟨b, off, e, (hb.cell (p := ⟨b, off + i, none⟩) (World.block_lt_of_cell? w _ hc)).trans hc⟩⟩

/-! ### whatever came in, opened step by step -/
/-- The cells cs read as a datum of type t in w. -/
def Read (P : Program) (w : World) (t : TypeId) (cs : List Value) : Prop :=
  ∃ (H : Type) (enc : TypeId × Value → H) (base : Nat) (spare : Nat → Bool) (held : Bool) (fuel : Nat) (x : DataW H × List MemPlace), DataW.trod enc P w base spare held fuel t cs = some x

section
variable {P : Program} {w : World} {t e : TypeId} {cs : List Value}

theorem Read.int {k : IntKind} (ht : P.underlying t = some (.int k)) (h : Read P w t cs) : ∃ n, cs = [.int k n] ∧ (Lit.int k n).wf = true := by
  obtain ⟨_, _, _, _, _, _, _, h⟩ := h
  obtain ⟨n, h1, _, h2⟩ := Go.DataW.trod_int ht h
  exact ⟨n, h1, h2⟩
theorem Read.bool (ht : P.underlying t = some .bool) (h : Read P w t cs) : ∃ b, cs = [.bool b] := by
  obtain ⟨_, _, _, _, _, _, _, h⟩ := h
  obtain ⟨b, h1, _⟩ := Go.DataW.trod_bool ht h
  exact ⟨b, h1⟩
theorem Read.string (ht : P.underlying t = some .string) (h : Read P w t cs) : ∃ s : ByteArray, cs = [.string s] ∧ s.size ≤ maxLen := by
  obtain ⟨_, _, _, _, _, _, _, h⟩ := h
  obtain ⟨s, h1, _, h2⟩ := Go.DataW.trod_string ht h
  exact ⟨s, h1, h2⟩
theorem Read.struct {fs : Array Field} (ht : P.underlying t = some (.struct fs)) (h : Read P w t cs) :
    cs.length = P.cellsOf t ∧ ∀ (i : Nat) (f : Field), fs[i]? = some f → Read P w f.type ((cs.drop f.offset).take (P.cellsOf f.type)) := by
  obtain ⟨H, enc, b, sp, held, _, _, h⟩ := h
  obtain ⟨ys, n, _, _, h1, h2, hg⟩ := Go.DataW.trod_struct ht h
  refine ⟨h1, fun i f hf => ?_⟩
  have hi : i < ys.length := by
    have := (Array.getElem?_eq_some_iff.1 hf).1
    omega
  exact ⟨H, enc, b, sp, held, n, ys[i], (hg i f hf).trans (List.getElem?_eq_getElem hi)⟩

/-- The elements of a slice that came in: each lies where it lies, and reads as the element's type. -/
structure RowsAt (P : Program) (w : World) (e : TypeId) (a : Option Addr) (len : Nat) (rd : Nat → List Value) : Prop where
  top : len ≤ maxLen
  at_ : ∀ i, i < len → Read P w e (rd i) ∧ (rd i).length = P.cellsOf e ∧ ∃ b off, a = some ⟨b, off, none⟩ ∧ ∀ j u, (rd i)[j]? = some u → w.cell? ⟨b, off + i * P.cellsOf e + j, none⟩ = some u

theorem Read.slice {a : Option Addr} {len cap : Nat} (ht : P.underlying t = some (.slice e)) (hc : 0 < P.cellsOf e) (h : Read P w t [.slice a len cap]) : ∃ rd, RowsAt P w e a len rd := by
  obtain ⟨H, enc, b, sp, held, _, _, h⟩ := h
  rcases Go.Deep.open_slice ht h with ⟨hcs, _⟩ | ⟨a', len', cap', m, fuel', D, Pl, hcs, _, hl, hm, hmm, _, hi⟩
  · simp at hcs
    obtain ⟨rfl, rfl, rfl⟩ := hcs
    exact ⟨fun _ => [], Nat.zero_le _, fun i hi => by omega⟩
  · simp at hcs
    obtain ⟨rfl, rfl, rfl⟩ := hcs
    have hlm : len ≤ m := by rw [hmm]; split <;> omega
    have key : ∀ i, ∃ cs, i < len → Read P w e cs ∧ cs.length = P.cellsOf e ∧ ∃ b off, (some a' : Option Addr) = some ⟨b, off, none⟩ ∧ ∀ j u, cs[j]? = some u → w.cell? ⟨b, off + i * P.cellsOf e + j, none⟩ = some u := by
      intro i
      by_cases hil : i < len
      · obtain ⟨cs, hcs, hr⟩ := hi i (by omega)
        obtain ⟨_, hlc, hat⟩ := World.cells?_some hcs
        obtain ⟨bb, off, spot⟩ := a'
        have hspot : spot = none := by
          obtain ⟨_, hc', _⟩ := hi 0 (by omega)
          obtain ⟨_, hl', hat'⟩ := World.cells?_some hc'
          have cz := (hat' 0 hc).trans (List.getElem?_eq_getElem (by omega))
          simpa [Addr.add] using World.cell?_spot cz
        subst hspot
        refine ⟨cs, fun _ => ⟨⟨H, enc, b, sp, held, _, _, hr⟩, hlc, bb, off, rfl, fun j u hj => ?_⟩⟩
        have hjl : j < P.cellsOf e := by rw [← hlc]; exact (List.getElem?_eq_some_iff.1 hj).1
        have := hat j hjl
        rw [Go.WideShapes.add_plain, Go.WideShapes.add_plain] at this
        exact this.trans hj
      · exact ⟨[], fun h => absurd h hil⟩
    exact ⟨fun i => (key i).choose, by omega, fun i hil => (key i).choose_spec hil⟩

theorem RowsAt.cell {a : Option Addr} {len : Nat} {rd : Nat → List Value} (h : RowsAt P w e a len rd) {w' : World} (hb : Below w.heap.size w w') {i : Nat} (hi : i < len) :
    ∃ b off, a = some ⟨b, off, none⟩ ∧ ∀ j u, (rd i)[j]? = some u → w'.cell? ⟨b, off + i * P.cellsOf e + j, none⟩ = some u := by
  obtain ⟨_, _, b, off, ha, hc⟩ := h.at_ i hi
  exact ⟨b, off, ha, fun j u hj => (hb.cell (p := ⟨b, off + i * P.cellsOf e + j, none⟩) (World.block_lt_of_cell? w _ (hc j u hj))).trans (hc j u hj)⟩
end
end Go.Proofs.YtoecaonmehbfeaaGreat

/- A slice of texts that came in. -/
namespace Go.Proofs.YtoecaonmehbfeaaGreat
open Go.RowKit
set_option linter.unusedVariables false
set_option maxRecDepth 100000

/-- The slice at a with len elements reads as these texts. -/
structure TextsAt (w : World) (a : Option Addr) (len : Nat) (L : List (List UInt8)) : Prop where
  size : L.length = len
  at_ : ∀ (i : Nat) x, L[i]? = some x → x.length ≤ maxLen ∧ ∃ b off, a = some ⟨b, off, none⟩ ∧ w.cell? ⟨b, off + i, none⟩ = some (tx x)
theorem TextsAt.below {w w' : World} {a : Option Addr} {len : Nat} {L : List (List UInt8)} (h : TextsAt w a len L) (hb : Below w.heap.size w w') : TextsAt w' a len L :=
  ⟨h.size, fun i x hx => by
    obtain ⟨h1, b, off, e, hc⟩ := h.at_ i x hx
    exact ⟨h1, b, off, e, (hb.cell (p := ⟨b, off + i, none⟩) (World.block_lt_of_cell? w _ hc)).trans hc⟩⟩
theorem TextsAt.of {w : World} {a : Option Addr} {len : Nat} {rd : Nat → List Value} (h : RowsAt Tryz.prog w 9 a len rd) : ∃ L, TextsAt w a len L := by
  have hco : Tryz.prog.cellsOf 9 = 1 := by kernel_rfl
  have key : ∀ i, ∃ x : List UInt8, i < len → rd i = [tx x] ∧ x.length ≤ maxLen := by
    intro i
    by_cases hi : i < len
    · obtain ⟨s, h1, h2⟩ := (h.at_ i hi).1.string uStr6
      exact ⟨s.data.toList, fun _ => ⟨h1, h2⟩⟩
    · exact ⟨[], fun h => absurd h hi⟩
  refine ⟨(List.range len).map fun i => (key i).choose, by simp, fun i x hx => ?_⟩
  have hi : i < len := by
    have := (List.getElem?_eq_some_iff.1 hx).1
    simpa using this
  rw [List.getElem?_map, List.getElem?_range hi, Option.map_some, Option.some.injEq] at hx
  obtain ⟨h1, h2⟩ := (key i).choose_spec hi
  rw [hx] at h1 h2
  obtain ⟨_, _, b, off, ha, hc⟩ := h.at_ i hi
  refine ⟨h2, b, off, ha, ?_⟩
  have := hc 0 (tx x) (by rw [h1]; rfl)
  rwa [hco, Nat.mul_one] at this
end Go.Proofs.YtoecaonmehbfeaaGreat

/- A slice that the call owns, wherever in its block it begins: SlIs T size v n xs F says that the value v is a slice of n elements with the cells xs, and that F lists the block that it lies in (or nothing). Appended to and cut, it is one again. -/
namespace Go.Proofs.YtoecaonmehbfeaaGreat
open Go.RowKit
set_option maxRecDepth 100000

def SlIs (T : TypeId) (size : Nat) (v : Value) (n : Nat) (xs : List Value) (F : List (Nat × Obj)) : Prop :=
  xs.length = n * size ∧ ((v = .slice none 0 0 ∧ n = 0 ∧ F = []) ∨
    ∃ g off cap cur, v = .slice (some ⟨g, off, none⟩) n cap ∧ F = [(g, .cells cur T (0, 0))] ∧ n ≤ cap ∧ cap ≤ maxLen ∧ off + cap * size ≤ cur.size ∧ (cur.toList.drop off).take (n * size) = xs)

/-- In w the value x reads as m elements with the cells news. -/
def Reads (w : World) (x : Value) (m size : Nat) (news : List Value) : Prop :=
  news.length = m * size ∧ ((x = .slice none 0 0 ∧ m = 0) ∨ ∃ ad c, x = .slice (some ad) m c ∧ ∀ j u, news[j]? = some u → w.cell? (ad.add j) = some u)

section
variable {P : Program} {B : Nat} {w0 w w' : World} {A F : List (Nat × Obj)} {T : TypeId} {size n m : Nat} {v x : Value} {xs news : List Value}

theorem SlIs.nil : SlIs T size (.slice none 0 0) 0 [] [] := ⟨by simp, .inl ⟨rfl, rfl, rfl⟩⟩
theorem SlIs.made {g : Nat} {cs : List Value} (hl : cs.length = n * size) (hm : n ≤ maxLen) : SlIs T size (.slice (some ⟨g, 0, none⟩) n n) n cs [(g, .cells cs.toArray T (0, 0))] :=
  ⟨hl, .inr ⟨g, 0, n, _, rfl, rfl, Nat.le_refl _, hm, by simp [hl], by rw [List.drop_zero, List.take_of_length_le (by simp [hl])]⟩⟩

theorem SlIs.len (h : SlIs T size v n xs F) : xs.length = n * size := h.1
theorem SlIs.form (h : SlIs T size v n xs F) : ∃ a cap, v = .slice a n cap ∧ n ≤ cap ∧ cap ≤ maxLen ∧ ∀ k, k < n → ∃ g off, a = some ⟨g, off, none⟩ := by
  obtain ⟨_, ⟨h1, h2, _⟩ | ⟨g, off, cap, cur, h1, _, h3, h4, _⟩⟩ := h
  · exact ⟨none, 0, by rw [h1, h2], by omega, Nat.zero_le _, fun k hk => by omega⟩
  · exact ⟨_, cap, h1, h3, h4, fun _ _ => ⟨g, off, rfl⟩⟩

/-- The cells where the value says. -/
theorem SlIs.cellAt {g off cap : Nat} (h : SlIs T size (.slice (some ⟨g, off, none⟩) n cap) n xs F) (hst : St B w0 w (A ++ F)) {j : Nat} {u : Value} (hj : xs[j]? = some u) : w.cell? ⟨g, off + j, none⟩ = some u := by
  obtain ⟨hl, ⟨h1, _⟩ | ⟨g', off', cap', cur, h1, hF, h3, h4, h5, h6⟩⟩ := h
  · cases h1
  · cases h1
    subst hF
    have hlt : j < xs.length := (List.getElem?_eq_some_iff.1 hj).1
    have hle : n * size ≤ cap * size := Nat.mul_le_mul_right _ h3
    refine hst.cell (b := g) (c := cur) (T := T) (fr := (0, 0)) (by simp) ?_
    rw [← h6, List.getElem?_take, if_pos (by omega), List.getElem?_drop] at hj
    rw [← hj]
    simp
theorem SlIs.soft {g off cap : Nat} (h : SlIs T size (.slice (some ⟨g, off, none⟩) n cap) n xs F) (hst : St B w0 w (A ++ F)) (j : Nat) : w.frozen? ⟨g, j, none⟩ = false := by
  obtain ⟨hl, ⟨h1, _⟩ | ⟨g', off', cap', cur, h1, hF, h3, h4, h5, h6⟩⟩ := h
  · cases h1
  · cases h1
    subst hF
    exact hst.soft (b := g) (c := cur) (T := T) (by simp) j

/-- A cell of the slice turned. -/
theorem SlIs.set {g off cap : Nat} (h : SlIs T size (.slice (some ⟨g, off, none⟩) n cap) n xs F) (hst : St B w0 w (A ++ F)) (j : Nat) (u : Value) :
    ∃ F', SlIs T size (.slice (some ⟨g, off, none⟩) n cap) n (xs.set j u) F' ∧ St B w0 (w.setCell ⟨g, off + j, none⟩ u) (A ++ F') ∧ F'.map (·.1) = F.map (·.1) := by
  obtain ⟨hl, ⟨h1, _⟩ | ⟨g', off', cap', cur, h1, hF, h3, h4, h5, h6⟩⟩ := h
  · cases h1
  · cases h1
    subst hF
    refine ⟨[(g, .cells (cur.setIfInBounds (off + j) u) T (0, 0))], ⟨by simp [hl], .inr ⟨g, off, cap, _, rfl, rfl, h3, h4, by simpa using h5, ?_⟩⟩, hst.set (off + j) u, rfl⟩
    rw [Array.toList_setIfInBounds, ← h6, List.drop_set, if_neg (by omega), Nat.add_sub_cancel_left, List.take_set]

theorem SlIs.reads (h : SlIs T size v n xs F) (hst : St B w0 w (A ++ F)) : Reads w v n size xs := by
  refine ⟨h.1, ?_⟩
  have h' := h
  obtain ⟨hl, ⟨rfl, rfl, _⟩ | ⟨g', off', cap', cur, rfl, hF, h3, h4, h5, h6⟩⟩ := h
  · exact .inl ⟨rfl, rfl⟩
  · refine .inr ⟨_, _, rfl, fun j u hj => ?_⟩
    rw [Go.WideShapes.add_plain]
    exact h'.cellAt hst hj
theorem Reads.one (w : World) (u : Value) (T : TypeId) : Reads (w.alloc (.cells #[u] T)) (.slice (some ⟨w.heap.size, 0, none⟩) 1 1) 1 1 [u] := ⟨rfl, .inr ⟨_, _, rfl, cell_one_new w u T⟩⟩
theorem Reads.block {b : Nat} {cs : List Value} {fr : Nat × Nat} (h : w.heap[b]? = some (.cells cs.toArray T fr)) (hl : cs.length = n * size) (c : Nat) : Reads w (.slice (some ⟨b, 0, none⟩) n c) n size cs := by
  refine ⟨hl, .inr ⟨_, _, rfl, fun j u hj => ?_⟩⟩
  rw [Go.WideShapes.add_plain, Nat.zero_add]
  simp [World.cell?, h, hj]
theorem Reads.alloc (h : Reads w x m size news) (o : Obj) : Reads (w.alloc o) x m size news := by
  obtain ⟨hl, h | ⟨ad, c, rfl, h⟩⟩ := h
  · exact ⟨hl, .inl h⟩
  · exact ⟨hl, .inr ⟨ad, c, rfl, fun j u hj => (World.cell?_alloc_lt w o _ (World.block_lt_of_cell? w _ (h j u hj))).trans (h j u hj)⟩⟩

theorem Reads.drewN (h : Reads w x m size news) (k : Nat) : Reads (w.drewN k) x m size news := by
  obtain ⟨hl, h | ⟨ad, c, rfl, h⟩⟩ := h
  · exact ⟨hl, .inl h⟩
  · exact ⟨hl, .inr ⟨ad, c, rfl, fun j u hj => h j u hj⟩⟩

/-- 'append', into the room that there is, wherever the slice begins. -/
theorem run_append_room_off (w : World) (t ty e : TypeId) (i : TypeInfo) (ht : P.underlying t = some (.slice e)) (hi : P.info? e = some i)
    (g off sLen sCap : Nat) (cur : Array Value) (hg : w.heap[g]? = some (.cells cur e (0, 0)))
    (a : Addr) (m c : Nat) (news : List Value) (hl : news.length = m * i.size) (hnews : ∀ j u, news[j]? = some u → w.cell? (a.add j) = some u) (h1 : ∀ u ∈ news, u.oneCell' = true)
    (hroom : sLen + m ≤ sCap) (hfit : off + sLen * i.size + news.length ≤ cur.size) :
    (Builtin.append_ #[t, t] ty #[.slice (some ⟨g, off, none⟩) sLen sCap, .slice (some a) m c]).run P w =
      .ok (.slice (some ⟨g, off, none⟩) (sLen + m) sCap) (w.setRow g (cur.toList.take (off + sLen * i.size) ++ news ++ cur.toList.drop (off + sLen * i.size + news.length)).toArray) := by
  have hf := run_firstCells_some (P := P) w i.size m a m c news hl hnews
  have hst := run_storeCells_at P g (off + sLen * i.size) e news 0 cur w hg (by simpa using hfit) h1
  simp only [Nat.add_zero] at hst
  simp [Builtin.append_, run_underlying ht, sizeOf, typeInfo, hi, Builtin.lenOf, hroom, hf, Go.WideShapes.add_plain, hst]

theorem run_append_room_none (w : World) (t ty e : TypeId) (i : TypeInfo) (ht : P.underlying t = some (.slice e)) (hi : P.info? e = some i)
    (b : Option Addr) (sLen sCap : Nat) (hroom : sLen ≤ sCap) :
    (Builtin.append_ #[t, t] ty #[.slice b sLen sCap, .slice none 0 0]).run P w = .ok (.slice b sLen sCap) w := by
  have hf := run_firstCells_none (P := P) w i.size 0 0 0
  cases b with
  | none => simp [Builtin.append_, run_underlying ht, sizeOf, typeInfo, hi, Builtin.lenOf, hroom, hf]
  | some a => simp [Builtin.append_, run_underlying ht, sizeOf, typeInfo, hi, Builtin.lenOf, hroom, hf, storeCells]

theorem St.fresh (h : St B w0 w A) (o : Obj) : St B w0 (w.drew.alloc o) (A ++ [(w.heap.size, o)]) :=
  (h.drew.alloc o).perm (by simpa using (List.perm_middle (a := (w.heap.size, o)) (l₁ := A) (l₂ := [])).symm)

theorem St.setRow {b : Nat} {c c' : Array Value} {fr : Nat × Nat} (h : St B w0 w (A ++ [(b, .cells c T fr)])) : St B w0 (w.setRow b c') (A ++ [(b, .cells c' T fr)]) := by
  have hb := h.get (b := b) (o := .cells c T fr) (by simp)
  exact h.write (C := []) (setRow_heap w b c c' T fr hb) (fun k hk => setRow_other w b k c' hk) (by simp [World.setRow]) rfl rfl rfl

/-- 'append' onto a slice that the call owns, of whatever reads as cells: it is owned again, beside all else. -/
theorem run_append_sl (t ty e : TypeId) (i : TypeInfo) (z : Value) (size bytes : Nat) (ht : P.underlying t = some (.slice e)) (hi : P.info? e = some i) (hz : i.zero = some z)
    (hsize : i.size = size) (hby : i.bytes = bytes) (hzs : z.cells.size = size) (hs : SlIs e size v n xs F) (hst : St B w0 w (A ++ F)) (hx : Reads w x m size news) (h1 : ∀ u ∈ news, u.oneCell' = true)
    (h63 : n + m ≤ maxLen) (hbytes : (n + m) * bytes ≤ 140737488355328) :
    ∃ v' w' F', (Builtin.append_ #[t, t] ty #[v, x]).run P w = .ok v' w' ∧ SlIs e size v' (n + m) (xs ++ news) F' ∧ St B w0 w' (A ++ F') := by
  subst hsize hby
  have hsmall : n + m ≤ 9223372036854775807 := by simp only [maxLen] at h63; omega
  obtain ⟨hxl, ⟨rfl, rfl⟩ | ⟨ad, c, rfl, hnews⟩⟩ := hx
  · have hn : news = [] := List.eq_nil_of_length_eq_zero (by simpa using hxl)
    subst hn
    rw [List.append_nil, Nat.add_zero]
    obtain ⟨a, cap, rfl, hcap, _, _⟩ := hs.form
    exact ⟨_, _, _, run_append_room_none w t ty e i ht hi a n cap hcap, hs, hst⟩
  · have hlen : (xs ++ news).length = (n + m) * i.size := by rw [List.length_append, hs.1, hxl, Nat.add_mul]
    have grown : ∀ (old : Nat) (A' : List (Nat × Obj)), St B w0 w A' → SlIs e i.size (.slice (some ⟨w.heap.size, 0, none⟩) (n + m) (grownCap w (n + m) old e)) (n + m) (xs ++ news) [(w.heap.size, .cells (xs.toArray ++ news.toArray ++ Builtin.zeroCells z.cells (grownCap w (n + m) old e - (n + m))) e (0, 0))] ∧
        St B w0 (w.drew.alloc (.cells (xs.toArray ++ news.toArray ++ Builtin.zeroCells z.cells (grownCap w (n + m) old e - (n + m))) e)) (A' ++ [(w.heap.size, .cells (xs.toArray ++ news.toArray ++ Builtin.zeroCells z.cells (grownCap w (n + m) old e - (n + m))) e (0, 0))]) := by
      intro old A' hA'
      have hge := grownCap_ge w (n + m) old e
      refine ⟨⟨hlen, .inr ⟨_, _, _, _, rfl, rfl, hge, grownCap_le_maxLen w (n + m) old e h63, ?_, ?_⟩⟩, hA'.fresh _⟩
      · simp only [Array.size_append, List.size_toArray, size_zeroCells, hzs, hs.1, hxl, ← Nat.add_mul, Nat.zero_add]
        refine Nat.mul_le_mul_right _ ?_
        omega
      · simp only [Array.toList_append, List.append_assoc, List.drop_zero]
        rw [← List.append_assoc, ← hlen]
        exact List.take_left
    obtain ⟨hl, ⟨rfl, rfl, rfl⟩ | ⟨g, off, cap, cur, rfl, rfl, h3, h4, h5, h6⟩⟩ := hs
    · have hx0 : xs = [] := List.eq_nil_of_length_eq_zero (by simpa using hl)
      subst hx0
      by_cases hm : m = 0
      · subst hm
        have hn : news = [] := List.eq_nil_of_length_eq_zero (by simpa using hxl)
        subst hn
        refine ⟨.slice none 0 0, w, [], ?_, SlIs.nil, by simpa using hst⟩
        simp [Builtin.append_, run_underlying ht, sizeOf, typeInfo, hi, Builtin.lenOf, Builtin.firstCells, loadCells, loadCellsFrom]
      · have hr := run_append_nil (P := P) w t ty e i z ht hi hz ad m c news hxl hnews (by omega) (by omega) (by have hb := hbytes; simp only [Nat.zero_add] at hb; omega)
        obtain ⟨e1, e2⟩ := grown 0 A (by simpa using hst)
        simp only [Nat.zero_add, List.nil_append, Array.empty_append] at e1 e2 ⊢
        exact ⟨_, _, _, hr, e1, e2⟩
    · by_cases hroom : n + m ≤ cap
      · have hb := hst.get (b := g) (o := .cells cur e (0, 0)) (by simp)
        have hfit : off + n * i.size + news.length ≤ cur.size := by
          have : (n + m) * i.size ≤ cap * i.size := Nat.mul_le_mul_right _ hroom
          rw [Nat.add_mul] at this
          omega
        have hr := run_append_room_off (P := P) w t ty e i ht hi g off n cap cur hb ad m c news hxl hnews h1 hroom hfit
        refine ⟨_, _, _, hr, ⟨hlen, .inr ⟨g, off, cap, _, rfl, rfl, hroom, h4, ?_, ?_⟩⟩, hst.setRow⟩
        · simp only [List.size_toArray, List.length_append, List.length_take, List.length_drop, Array.length_toList]
          omega
        · show List.take ((n + m) * i.size) (List.drop off (cur.toList.take (off + n * i.size) ++ news ++ cur.toList.drop (off + n * i.size + news.length))) = xs ++ news
          have h7 : cur.toList.take (off + n * i.size) = cur.toList.take off ++ xs := by rw [← h6, List.take_add]
          have h8 : (cur.toList.take off).length = off := by rw [List.length_take, Array.length_toList]; omega
          rw [h7, List.append_assoc, List.append_assoc, List.drop_left' h8, ← List.append_assoc, ← hlen]
          exact List.take_left
      · have holds : ∀ j u, xs[j]? = some u → w.cell? ((⟨g, off, none⟩ : Addr).add j) = some u := fun j u hj => by
          rw [Go.WideShapes.add_plain]
          exact SlIs.cellAt ⟨hl, .inr ⟨g, off, cap, cur, rfl, rfl, h3, h4, h5, h6⟩⟩ hst hj
        have hr := run_append_grow (P := P) w t ty e i z ht hi hz ⟨g, off, none⟩ n cap xs hl holds ad m c news hxl hnews (by omega) (by omega) (growslice_fits (by omega) hbytes)
        obtain ⟨e1, e2⟩ := grown cap A (hst.sub (List.sublist_append_left _ _))
        exact ⟨_, _, _, hr, e1, e2⟩

/-- .. at the operation, for the walk. -/
theorem wpList_append_sl {ops : Array Oper} {rest : List Oper} {o : Oper} {a : Act} {Q : Exit → Act → World → Prop} (hgd : o.guard = none) (s y : Operand) (t : TypeId)
    (ho : o.op = .call { callee := .builtin .append, args := #[s, y], argTypes := #[t, t] })
    (e : TypeId) (i : TypeInfo) (z : Value) (size bytes : Nat) (ht : P.underlying t = some (.slice e)) (hi : P.info? e = some i) (hz : i.zero = some z)
    (hsize : i.size = size) (hby : i.bytes = bytes) (hzs : z.cells.size = size) (hs : SlIs e size v n xs F) (hst : St B w0 w (A ++ F)) (hx : Reads w x m size news) (h1 : ∀ u ∈ news, u.oneCell' = true)
    (h63 : n + m ≤ maxLen) (hbytes : (n + m) * bytes ≤ 140737488355328) (hes : a.eval s = v) (hey : a.eval y = x)
    (h : ∀ v' w' F', SlIs e size v' (n + m) (xs ++ news) F' → St B w0 w' (A ++ F') → wpList P ops Q rest (a.put o.dst v') w') :
    wpList P ops Q (o :: rest) a w := by
  refine wpList_plain hgd fun K hK => ?_
  obtain ⟨v', w', F', hr, h2, h3⟩ := run_append_sl (P := P) t o.type e i z size bytes ht hi hz hsize hby hzs hs hst hx h1 h63 hbytes
  unfold Oper.wp execOp
  simp only [ho, resolve, invoke, builtin, Sem.run_bind, Sem.run_pure, Result.andThen_ok, List.map_toArray, List.map_cons, List.map_nil, hes, hey, hr]
  exact hK _ _ (h v' w' F' h2 h3)

/-! ### a piece of it -/
theorem SlIs.piece (h : SlIs T size v n xs F) (lo hi : Nat) (h1 : lo ≤ hi) (h2 : hi ≤ n) :
    ∀ {a : Option Addr} {cap : Nat}, v = .slice a n cap → SlIs T size (.slice (if cap = lo then a else a.map (·.add (lo * size))) (hi - lo) (cap - lo)) (hi - lo) ((xs.drop (lo * size)).take ((hi - lo) * size)) F := by
  intro a cap e
  obtain ⟨hl, ⟨rfl, rfl, rfl⟩ | ⟨g, off, cap', cur, rfl, hF, h3, h4, h5, h6⟩⟩ := h
  · cases e
    obtain rfl : lo = 0 := by omega
    obtain rfl : hi = 0 := by omega
    refine ⟨by simp, .inl ⟨by simp, rfl, rfl⟩⟩
  · cases e
    have hlen : ((xs.drop (lo * size)).take ((hi - lo) * size)).length = (hi - lo) * size := by
      rw [List.length_take, List.length_drop, hl]
      have : hi * size ≤ n * size := Nat.mul_le_mul_right _ h2
      have e : (hi - lo) * size = hi * size - lo * size := Nat.sub_mul _ _ _
      omega
    refine ⟨hlen, .inr ?_⟩
    by_cases hc : cap = lo
    · rw [if_pos hc]
      have e0 : hi - lo = 0 := by omega
      refine ⟨g, off, cap - lo, cur, rfl, hF, by omega, by omega, ?_, ?_⟩
      · have : (cap - lo) * size ≤ cap * size := Nat.mul_le_mul_right _ (by omega)
        omega
      · rw [e0, Nat.zero_mul, List.take_zero, List.take_zero]
    · rw [if_neg hc]
      refine ⟨g, off + lo * size, cap - lo, cur, by simp [Go.WideShapes.add_plain], hF, by omega, by omega, ?_, ?_⟩
      · have : (cap - lo) * size = cap * size - lo * size := Nat.sub_mul _ _ _
        have : lo * size ≤ cap * size := Nat.mul_le_mul_right _ (by omega)
        omega
      · rw [← h6, List.drop_take, List.drop_drop, List.take_take]
        congr 1
        have e : (hi - lo) * size = hi * size - lo * size := Nat.sub_mul _ _ _
        have : hi * size ≤ n * size := Nat.mul_le_mul_right _ h2
        omega

/-- 's[lo:hi]' of a slice of that type, where the bounds serve: its run, and what it is. -/
theorem run_piece {t e : TypeId} {i : TypeInfo} (ht : P.underlying t = some (.slice e)) (hi : P.info? e = some i) (hsz : i.size = size) (h : SlIs e size v n xs F) (lo hi' : Nat) (h1 : lo ≤ hi') (h2 : hi' ≤ n) :
    ∃ v', SlIs e size v' (hi' - lo) ((xs.drop (lo * size)).take ((hi' - lo) * size)) F ∧
      (∀ w, (Instr.slice t v (some (.int .i64 lo)) (some (.int .i64 hi')) none).run P w = .ok v' w) ∧
      (hi' = n → ∀ w, (Instr.slice t v (some (.int .i64 lo)) none none).run P w = .ok v' w) ∧
      (lo = 0 → ∀ w, (Instr.slice t v none (some (.int .i64 hi')) none).run P w = .ok v' w) := by
  obtain ⟨a, cap, rfl, hc, _, _⟩ := h.form
  have e1 : hi' ≤ cap := by omega
  refine ⟨_, h.piece lo hi' h1 h2 rfl, fun w => ?_, fun e w => ?_, fun e w => ?_⟩
  · simp [Instr.slice, run_underlying ht, Instr.sliceBounds, Instr.sliceBound, asIntOf, e1, h1, sizeOf, typeInfo, hi, hsz]
  · subst e
    simp [Instr.slice, run_underlying ht, Instr.sliceBounds, Instr.sliceBound, asIntOf, h1, sizeOf, typeInfo, hi, hsz]
  · subst e
    simp [Instr.slice, run_underlying ht, Instr.sliceBounds, Instr.sliceBound, asIntOf, e1, sizeOf, typeInfo, hi]
end
end Go.Proofs.YtoecaonmehbfeaaGreat

/- A slice of texts that the call owns. -/
namespace Go.Proofs.YtoecaonmehbfeaaGreat
open Go.RowKit
set_option linter.unusedVariables false
set_option maxRecDepth 100000

theorem uStrs0 : Tryz.prog.underlying 45 = some (.slice 9) := by kernel_rfl
theorem infStr0 : (Tryz.prog.info? 9).map (fun i => (i.zero, i.size, i.bytes)) = some (some (tx []), 1, 16) := by kernel_rfl

def TssIs (v : Value) (l : List (List UInt8)) (S : List (Nat × Obj)) : Prop := SlIs 9 1 v l.length (l.map tx) S
theorem TssIs.nil : TssIs (.slice none 0 0) [] [] := SlIs.nil
theorem TssIs.form {v : Value} {l : List (List UInt8)} {S : List (Nat × Obj)} (h : TssIs v l S) : ∃ a cap, v = .slice a l.length cap := by
  obtain ⟨a, cap, e, _⟩ := SlIs.form h
  exact ⟨a, cap, e⟩
section
variable {B : Nat} {w0 w : World} {S X : List (Nat × Obj)} {v : Value} {l : List (List UInt8)}
/-- The slice value reads as these texts in w, wherever it lies. -/
def ReadTs (w : World) (v : Value) (l : List (List UInt8)) : Prop := ∃ a cap, v = .slice a l.length cap ∧ TextsAt w a l.length l
theorem ReadTs.below {w w' : World} (h : ReadTs w v l) (hb : Below w.heap.size w w') : ReadTs w' v l := by
  obtain ⟨a, cap, e, h⟩ := h
  exact ⟨a, cap, e, h.below hb⟩
theorem TssIs.read (h : TssIs v l S) (hst : St B w0 w (X ++ S)) (hl : ∀ x ∈ l, x.length ≤ maxLen) : ReadTs w v l := by
  have h' : SlIs _ _ _ _ _ _ := h
  obtain ⟨a, cap, rfl, _, _, ha⟩ := h'.form
  refine ⟨a, cap, rfl, rfl, fun i x hx => ⟨hl x (List.mem_of_getElem? hx), ?_⟩⟩
  obtain ⟨g, off, rfl⟩ := ha i (List.getElem?_eq_some_iff.1 hx).1
  exact ⟨g, off, rfl, h'.cellAt hst (by rw [List.getElem?_map, hx]; rfl)⟩
theorem TssIs.append (hs : TssIs v l S) (hst : St B w0 w (X ++ S)) (t : List UInt8) (hl : l.length ≤ 1000000) :
    ∃ a cap W2 F2, (Builtin.append_ #[45, 45] 0 #[v, .slice (some ⟨w.heap.size, 0, none⟩) 1 1]).run Tryz.prog (w.alloc (.cells #[tx t] 9)) = .ok (.slice a (l.length + 1) cap) W2 ∧
      TssIs (.slice a (l.length + 1) cap) (l ++ [t]) F2 ∧ St B w0 W2 (X ++ F2) := by
  obtain ⟨i0, hi0, hz0, hz1, hz2⟩ := info_parts infStr0
  have hrd := Reads.one w (tx t) 9
  obtain ⟨v2, W2, F2, hr, hs2, hst2⟩ := run_append_sl (P := Tryz.prog) 45 0 9 i0 _ 1 16 uStrs0 hi0 hz0 hz1 hz2 rfl hs (A := (w.heap.size, .cells #[tx t] 9) :: X) (hst.alloc _) hrd
    (by intro u hu; rw [List.mem_singleton] at hu; subst hu; rfl) (by unfold maxLen; omega) (by omega)
  obtain ⟨a, cap, rfl, -⟩ := hs2.form
  refine ⟨a, cap, W2, F2, hr, ?_, hst2.sub (List.sublist_cons_self _ _)⟩
  unfold TssIs
  rw [List.length_append, List.length_singleton, List.map_append]
  exact hs2
end
end Go.Proofs.YtoecaonmehbfeaaGreat
