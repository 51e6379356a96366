/- The document's slab (package mailcoachref1), each method told by what it answers and by what its memory holds behind it: the small ones. -/
import Derived.Test.YtpeedcghpdnogaaSlabN
import Derived.Deep.QuietTactic
import Derived.BigQuiet
namespace Go.Proofs.Ytpeedcghpdnogaa
open Go.RowKit

/-- append([]T(nil), x...): a copy in new memory, or nil. -/
theorem wpList_append_copy {P : Program} {w : World} {ops : Array Oper} {rest : List Oper} {o : Oper} {a : Act} {Q : Exit → Act → World → Prop} (hgd : o.guard = none) (s x : Operand) (t : TypeId)
    (ho : o.op = .call { callee := .builtin .append, args := #[s, x], argTypes := #[t, t] })
    (base : Nat) (e : TypeId) (i : TypeInfo) (z : Value) (size bytes : Nat) (ht : P.underlying t = some (.slice e)) (hi : P.info? e = some i) (hz : i.zero = some z)
    (hsize : i.size = size) (hby : i.bytes = bytes) (hzs : z.cells.size = size) (hsz : 0 < size)
    (hs : a.eval s = .slice none 0 0) (v : Value) (hx : a.eval x = v) (n : Nat) (xs : List Value) (hown : w.ownsRow base e size v n xs) (h1 : ∀ u ∈ xs, u.oneCell' = true)
    (h63 : n ≤ maxLen) (hbytes : n * bytes ≤ 140737488355328) (hbase : base ≤ w.heap.size)
    (h : ∀ v' w', w'.ownsRow base e size v' n xs → w.grownBy w' none → (v'.ownBlock = none ∨ v'.ownBlock = some w.heap.size) → wpList P ops Q rest (a.put o.dst v') w') :
    wpList P ops Q (o :: rest) a w := by
  rcases hown.2 with ⟨rfl, rfl⟩ | ⟨g, cap, cur, rfl, hb, hg, hc1, hc2, hc3, hc4⟩
  · have hxs : xs = [] := List.eq_nil_of_length_eq_zero (by simpa using hown.1)
    subst hxs
    refine wpList_plain hgd fun K hK => ?_
    have hrun : (Builtin.append_ #[t, t] o.type #[.slice none 0 0, .slice none 0 0]).run P w = .ok (.slice none 0 0) w := by
      simp [Builtin.append_, run_underlying ht, sizeOf, typeInfo, hi, Builtin.lenOf, Builtin.firstCells]
    unfold Oper.wp
    simp [execOp, ho, resolve, invoke, builtin, hs, hx, hrun, Result.andThen]
    exact hK _ _ (h _ _ (World.ownsRow_nil w base e size) ⟨rfl, rfl, rfl, Nat.le_refl _, fun _ _ _ => rfl⟩ (.inl rfl))
  · have hcells := hown.cells (g := g) rfl
    refine wpList_append_own_at w hgd s x t ho base e i z size bytes ht hi hz hsize hby hzs hsz (.slice none 0 0) 0 [] hs (World.ownsRow_nil w base e size) ⟨g, 0, none⟩ n cap xs hx hown.1 hcells h1 (by omega) (by simpa using hbytes) hbase ?_
    intro v' w' h2 h3 _ h5
    simp only [Nat.zero_add, List.nil_append] at h2
    exact h v' w' h2 h3 h5

theorem SliceIs.shape {T : TypeId} {size n : Nat} {v : Value} {xs : List Value} {F : List (Nat × Obj)} (h : SliceIs T size v n xs F) : ∃ a cap, v = .slice a n cap ∧ n ≤ cap ∧ cap ≤ maxLen ∧ ∀ k, k < n → ∃ g, a = some ⟨g, 0, none⟩ := by
  obtain ⟨_, ⟨h1, h2, _⟩ | ⟨g, cap, cur, h1, _, h3, h4, _⟩⟩ := h
  · exact ⟨none, 0, by rw [h1, h2], by omega, Nat.zero_le _, fun k hk => by omega⟩
  · exact ⟨_, cap, h1, h3, h4, fun _ _ => ⟨g, rfl⟩⟩

theorem uRBodies : Try.prog.underlying 43 = some (.slice 65) := by kernel_rfl
theorem infRBody : (Try.prog.info? 65).map (fun i => (i.zero, i.size, i.bytes)) = some (some (.agg #[.string ⟨#[]⟩, .int .i64 0]), 2, 24) := by kernel_rfl

def rbody (x : ByteArray × Int) : List Value := [.string x.1, .int .i64 x.2]
def rcells (L : List (ByteArray × Int)) : List Value := L.flatMap rbody

theorem rcells_len (L : List (ByteArray × Int)) : (rcells L).length = L.length * 2 := by
  unfold rcells
  induction L with
  | nil => rfl
  | cons x L ih => rw [List.flatMap_cons, List.length_append, ih, List.length_cons]; simp [rbody]; omega
theorem rcells_one (L : List (ByteArray × Int)) : ∀ u ∈ rcells L, u.oneCell' = true := by
  intro u hu
  obtain ⟨x, _, hx⟩ := List.mem_flatMap.1 hu
  simp only [rbody, List.mem_cons, List.not_mem_nil, or_false] at hx
  rcases hx with rfl | rfl <;> rfl
theorem rcells_append (L M : List (ByteArray × Int)) : rcells (L ++ M) = rcells L ++ rcells M := by simp [rcells]
theorem rcells_at : ∀ {L : List (ByteArray × Int)} {i : Nat} {x : ByteArray × Int}, L[i]? = some x → (rcells L)[i * 2]? = some (.string x.1) ∧ (rcells L)[i * 2 + 1]? = some (.int .i64 x.2)
  | [], i, x, h => by simp at h
  | y :: L, 0, x, h => by
    simp at h
    subst h
    exact ⟨rfl, rfl⟩
  | y :: L, i + 1, x, h => by
    have ih := rcells_at (L := L) (i := i) (x := x) (by simpa using h)
    have e : rcells (y :: L) = .string y.1 :: .int .i64 y.2 :: rcells L := rfl
    rw [e, show (i + 1) * 2 = i * 2 + 1 + 1 by omega, show i * 2 + 1 + 1 + 1 = (i * 2 + 1) + 1 + 1 by omega]
    simpa using ih
theorem rcells_set : ∀ {L : List (ByteArray × Int)} {i : Nat} {x : ByteArray × Int} (c : Int), L[i]? = some x → (rcells L).set (i * 2 + 1) (.int .i64 c) = rcells (L.set i (x.1, c))
  | [], i, x, c, h => by simp at h
  | y :: L, 0, x, c, h => by
    simp at h
    subst h
    rfl
  | y :: L, i + 1, x, c, h => by
    have ih := rcells_set (L := L) (i := i) (x := x) c (by simpa using h)
    have e : rcells (y :: L) = .string y.1 :: .int .i64 y.2 :: rcells L := rfl
    have e2 : rcells ((y :: L).set (i + 1) (x.1, c)) = .string y.1 :: .int .i64 y.2 :: rcells (L.set i (x.1, c)) := rfl
    rw [e, e2, ← ih, show (i + 1) * 2 + 1 = (i * 2 + 1) + 1 + 1 by omega]
    rfl

def RefIs (B : Nat) (w0 w : World) (rb : Nat) (L : List (ByteArray × Int)) (room used live : Int) (A : List (Nat × Obj)) : Prop :=
  ∃ v F, SliceIs 65 2 v L.length (rcells L) F ∧ St B w0 w ((rb, .cells #[v, .int .i64 room, .int .i64 used, .int .i64 live] 45) :: (F ++ A))

section
variable {B : Nat} {w0 w : World} {rb : Nat} {L : List (ByteArray × Int)} {room used live : Int} {A : List (Nat × Obj)}

theorem RefIs.perm {A' : List (Nat × Obj)} (h : RefIs B w0 w rb L room used live A) (hp : A.Perm A') : RefIs B w0 w rb L room used live A' := by
  obtain ⟨v, F, h1, h2⟩ := h
  exact ⟨v, F, h1, h2.perm (.cons _ (hp.append_left F))⟩

set_option maxHeartbeats 400000 in
theorem rnew_is (h : St B w0 w A) (r : Int) : Calls Try.prog 10 #[.int .i64 r] w fun e w' => e = .returned (ptr w.heap.size) ∧ RefIs B w0 w' w.heap.size [] (min (max r 0) 100000) 0 0 A := by
  have key : ∀ q : Int, q = min (max r 0) 100000 → RefIs B w0 (w.alloc (.cells #[.slice none 0 0, .int .i64 q, .int .i64 0, .int .i64 0] 45)) w.heap.size [] (min (max r 0) 100000) 0 0 A := by
    intro q hq
    subst hq
    exact ⟨_, [], SliceIs.nil, h.alloc _⟩
  have key := Lib.hid key
  clear h
  go_enter Try.func10, Try.ntmps10
  go_wp2_with fail
  all_goals
    go_ret
    exact ⟨rfl, key.out _ (by omega)⟩

set_option maxHeartbeats 400000 in
theorem rfree_is (h : RefIs B w0 w rb L room used live A) (hr0 : 0 ≤ room) (hr1 : room ≤ 100000) (hu0 : 0 ≤ used) (hu1 : used ≤ 100000) :
    Calls Try.prog 18 #[ptr rb] w fun e w' => e = .returned (.int .i64 (room - used)) ∧ ∃ n, w' = w.drewN n := by
  obtain ⟨v, F, hs, hst⟩ := h
  have c1 := hst.cell (b := rb) (i := 1) (v := .int .i64 room) List.mem_cons_self rfl
  have c2 := hst.cell (b := rb) (i := 2) (v := .int .i64 used) List.mem_cons_self rfl
  clear hst hs
  go_enter Try.func18, Try.ntmps18
  go_wp2_with fail
  go_quiet (fail)
  go_wp2_with fail
  go_ret
  exact ⟨rfl, _, rfl⟩

def rcount (L : List (ByteArray × Int)) (h : Int) : Int := if h < 1 then 0 else match L[(h - 1).toNat]? with | some x => x.2 | none => 0

set_option maxHeartbeats 400000 in
theorem rcount_is (h : RefIs B w0 w rb L room used live A) (hl : L.length ≤ 1000) (k : Int) : Calls Try.prog 23 #[ptr rb, .int .i64 k] w fun e w' => e = .returned (.int .i64 (rcount L k)) ∧ w = w' := by
  obtain ⟨v, F, hs, hst⟩ := h
  have c0 := hst.cell (b := rb) (i := 0) (v := v) List.mem_cons_self rfl
  obtain ⟨av, cap, rfl, h1, h2, h3⟩ := hs.shape
  have hst' : St B w0 w ((((rb, .cells #[.slice av L.length cap, .int .i64 room, .int .i64 used, .int .i64 live] 45) :: A) ++ F)) := hst.perm (by
    refine .cons _ ?_
    exact List.perm_append_comm)
  have hrow := hs.row hst'
  by_cases hk : k < 1
  · clear hst hst' hrow hs
    have e : rcount L k = 0 := by unfold rcount; rw [if_pos hk]
    rw [e]
    go_enter Try.func23, Try.ntmps23
    go_wp2_with fail
    go_ret
    exact ⟨rfl, rfl⟩
  · by_cases hk2 : (L.length : Int) < k
    · have e : rcount L k = 0 := by
        unfold rcount
        rw [if_neg hk, List.getElem?_eq_none (by omega)]
      rw [e]
      clear hst hst' hrow hs
      go_enter Try.func23, Try.ntmps23
      go_wp2_with fail
      go_ret
      exact ⟨rfl, rfl⟩
    · obtain ⟨j, rfl⟩ : ∃ j : Nat, k = (j : Int) + 1 := ⟨(k - 1).toNat, by omega⟩
      have hkl : j < L.length := by omega
      obtain ⟨g, rfl⟩ := h3 _ hkl
      have hx : L[j]? = some L[j] := List.getElem?_eq_getElem hkl
      have e : rcount L ((j : Int) + 1) = L[j].2 := by
        unfold rcount
        rw [if_neg hk, Int.add_sub_cancel, Int.toNat_natCast, hx]
      rw [e]
      have hcell := (hrow.cellAt (j * 2 + 1) (by omega)).trans (rcells_at hx).2
      generalize L[j].2 = c at *
      have hlc : (L.length : Int) ≤ 1000 := by omega
      clear hst hst' hrow hs hx e
      go_enter Try.func23, Try.ntmps23
      go_wp2_with fail
      go_ret
      exact ⟨rfl, rfl⟩
end
end Go.Proofs.Ytpeedcghpdnogaa
