/- What is due, as a sorted row of times and IDs; a heap's marks are such a row in another order. -/
import Derived.Test.YtldocgpnmfmnaaaDlP
namespace Go.Proofs.Ytldocgpnmfmnaaa
open Go.RowKit

def lt2 (a b : Int × Int) : Prop := a.1 < b.1 ∨ (a.1 = b.1 ∧ a.2 < b.2)
instance (a b : Int × Int) : Decidable (lt2 a b) := inferInstanceAs (Decidable (_ ∨ _))
def Srt (L : List (Int × Int)) : Prop := L.Pairwise lt2
def key (m : Mk) : Int × Int := (m.t, m.id)
def del (id : Int) (L : List (Int × Int)) : List (Int × Int) := L.filter fun x => x.2 != id
def ins (x : Int × Int) : List (Int × Int) → List (Int × Int)
  | [] => [x]
  | y :: L => if lt2 x y then x :: y :: L else y :: ins x L
def setL (id t : Int) (L : List (Int × Int)) : List (Int × Int) := ins (t, id) (del id L)
def whenL (id : Int) (L : List (Int × Int)) : Option Int := (L.find? fun x => x.2 == id).map (·.1)
def dueL (now : Int) (L : List (Int × Int)) : List (Int × Int) := L.takeWhile fun x => decide (x.1 ≤ now)
def restL (now : Int) (L : List (Int × Int)) : List (Int × Int) := L.dropWhile fun x => decide (x.1 ≤ now)

theorem lt2_trans {a b c : Int × Int} (h1 : lt2 a b) (h2 : lt2 b c) : lt2 a c := by unfold lt2 at *; omega
theorem lt2_irrefl (a : Int × Int) : ¬ lt2 a a := by unfold lt2; omega
theorem lt2_total {a b : Int × Int} (h : ¬ lt2 a b) (hne : a ≠ b) : lt2 b a := by
  obtain ⟨a1, a2⟩ := a
  obtain ⟨b1, b2⟩ := b
  simp only [lt2, ne_eq, Prod.mk.injEq] at *
  omega

theorem ins_perm (x : Int × Int) (L : List (Int × Int)) : (ins x L).Perm (x :: L) := by
  induction L with
  | nil => exact .refl _
  | cons y L ih =>
    unfold ins
    split
    · exact .refl _
    · exact (ih.cons y).trans (.swap _ _ _)
theorem ins_len (x : Int × Int) (L : List (Int × Int)) : (ins x L).length = L.length + 1 := (ins_perm x L).length_eq
theorem ins_srt {x : Int × Int} {L : List (Int × Int)} (h : Srt L) (hx : x ∉ L) : Srt (ins x L) := by
  induction L with
  | nil => exact List.pairwise_singleton _ _
  | cons y L ih =>
    obtain ⟨h1, h2⟩ := List.pairwise_cons.1 h
    unfold ins
    split
    · rename_i hlt
      refine List.pairwise_cons.2 ⟨fun z hz => ?_, h⟩
      rcases List.mem_cons.1 hz with rfl | hz
      · exact hlt
      · exact lt2_trans hlt (h1 z hz)
    · rename_i hlt
      have hyx : lt2 y x := lt2_total hlt (fun e => hx (e ▸ List.mem_cons_self))
      refine List.pairwise_cons.2 ⟨fun z hz => ?_, ih h2 (fun hm => hx (List.mem_cons_of_mem _ hm))⟩
      rcases List.mem_cons.1 ((ins_perm x L).mem_iff.1 hz) with rfl | hz
      · exact hyx
      · exact h1 z hz
theorem del_srt {id : Int} {L : List (Int × Int)} (h : Srt L) : Srt (del id L) := List.Pairwise.filter _ h
theorem mem_del {id : Int} {L : List (Int × Int)} {x : Int × Int} : x ∈ del id L ↔ x ∈ L ∧ x.2 ≠ id := by simp [del]
theorem setL_srt {id t : Int} {L : List (Int × Int)} (h : Srt L) : Srt (setL id t L) := ins_srt (del_srt h) fun hm => (mem_del.1 hm).2 rfl

/-- The marks M, in whatever order, are those of the row L. -/
structure Row (M : List Mk) (L : List (Int × Int)) : Prop where
  perm : (M.map key).Perm L
  srt : Srt L
  ids : (M.map Mk.id).Nodup

section
variable {M M' : List Mk} {L : List (Int × Int)} {m : Mk} {i : Nat} {id t now : Int}

theorem Row.len (h : Row M L) : M.length = L.length := by simpa using h.perm.length_eq
theorem Row.nil : Row [] [] := ⟨.refl _, List.Pairwise.nil, List.nodup_nil⟩
theorem Row.reorder (h : Row M L) (hp : M'.Perm M) : Row M' L := ⟨(hp.map key).trans h.perm, h.srt, (hp.map Mk.id).nodup_iff.2 h.ids⟩
theorem Row.mem (h : Row M L) (hm : m ∈ M) : (m.t, m.id) ∈ L := h.perm.mem_iff.1 (List.mem_map_of_mem (f := key) hm)
theorem Row.back {x : Int × Int} (h : Row M L) (hx : x ∈ L) : ∃ m ∈ M, key m = x := List.mem_map.1 (h.perm.mem_iff.2 hx)
theorem Row.id_iff (h : Row M L) : id ∈ M.map Mk.id ↔ ∃ x ∈ L, x.2 = id := by
  constructor
  · intro hm
    obtain ⟨m, hm1, rfl⟩ := List.mem_map.1 hm
    exact ⟨_, h.mem hm1, rfl⟩
  · rintro ⟨x, hx, rfl⟩
    obtain ⟨m, hm, rfl⟩ := h.back hx
    exact List.mem_map.2 ⟨m, hm, rfl⟩

theorem Row.when_none (h : Row M L) (hid : id ∉ M.map Mk.id) : whenL id L = none := by
  unfold whenL
  rw [Option.map_eq_none_iff, List.find?_eq_none]
  intro x hx he
  exact hid (h.id_iff.2 ⟨x, hx, by simpa using he⟩)
theorem nodup_ids_inj {M : List Mk} (hn : (M.map Mk.id).Nodup) {a b : Mk} (ha : a ∈ M) (hb : b ∈ M) (he : a.id = b.id) : a = b := by
  induction M with
  | nil => cases ha
  | cons x M ih =>
    rw [List.map_cons, List.nodup_cons] at hn
    rcases List.mem_cons.1 ha with e1 | ha1
    · rcases List.mem_cons.1 hb with e2 | hb1
      · rw [e1, e2]
      · exact absurd (List.mem_map.2 ⟨b, hb1, by rw [← he, e1]⟩) hn.1
    · rcases List.mem_cons.1 hb with e2 | hb1
      · exact absurd (List.mem_map.2 ⟨a, ha1, by rw [he, e2]⟩) hn.1
      · exact ih hn.2 ha1 hb1
theorem Row.when_some (h : Row M L) (hm : m ∈ M) : whenL m.id L = some m.t := by
  unfold whenL
  cases hf : L.find? (fun x => x.2 == m.id) with
  | none =>
    rw [List.find?_eq_none] at hf
    exact absurd (by simp) (hf _ (h.mem hm))
  | some x =>
    have h1 := List.mem_of_find?_eq_some hf
    have h2 : x.2 = m.id := by simpa using List.find?_some hf
    obtain ⟨o, ho, rfl⟩ := h.back h1
    have := nodup_ids_inj h.ids ho hm h2
    subst this
    rfl
theorem Row.del_none (h : Row M L) (hid : id ∉ M.map Mk.id) : del id L = L := by
  unfold del
  rw [List.filter_eq_self]
  intro x hx
  simp only [bne_iff_ne, ne_eq]
  exact fun e => hid (h.id_iff.2 ⟨x, hx, e⟩)
theorem filter_none {M' : List Mk} (h : id ∉ M'.map Mk.id) : (M'.map key).filter (fun x => x.2 != id) = M'.map key := by
  rw [List.filter_eq_self]
  intro x hx
  obtain ⟨o, ho, rfl⟩ := List.mem_map.1 hx
  simp only [bne_iff_ne, ne_eq]
  exact fun e => h (List.mem_map.2 ⟨o, ho, e⟩)
theorem Row.del_perm (h : Row M L) (hp : M.Perm (m :: M')) : (M'.map key).Perm (del m.id L) := by
  have hn := (hp.map Mk.id).nodup_iff.1 h.ids
  rw [List.map_cons, List.nodup_cons] at hn
  have h1 := (h.perm.symm.trans (hp.map key)).filter (fun x => x.2 != m.id)
  rw [List.map_cons, List.filter_cons_of_neg (by simp [key]), filter_none hn.1] at h1
  exact h1.symm
theorem Row.drop (h : Row M L) (hp : M.Perm (m :: M')) : Row M' (del m.id L) := by
  refine ⟨h.del_perm hp, del_srt h.srt, ?_⟩
  have hn := (hp.map Mk.id).nodup_iff.1 h.ids
  rw [List.map_cons, List.nodup_cons] at hn
  exact hn.2
theorem set_perms {M : List Mk} (hi : M[i]? = some m) (m' : Mk) : ∃ R, M.Perm (m :: R) ∧ (M.set i m').Perm (m' :: R) := by
  obtain ⟨hlt, he⟩ := List.getElem?_eq_some_iff.1 hi
  refine ⟨M.take i ++ M.drop (i + 1), ?_, ?_⟩
  · have : M = M.take i ++ m :: M.drop (i + 1) := by rw [← he, List.getElem_cons_drop, List.take_append_drop]
    conv => lhs; rw [this]
    exact List.perm_middle
  · rw [List.set_eq_take_append_cons_drop.trans (if_pos hlt)]
    exact List.perm_middle
theorem Row.set (h : Row M L) (hi : M[i]? = some m) (t : Int) : Row (M.set i ⟨m.b, m.id, t⟩) (setL m.id t L) := by
  obtain ⟨R, h1, h2⟩ := set_perms hi ⟨m.b, m.id, t⟩
  refine ⟨?_, setL_srt h.srt, ?_⟩
  · refine (h2.map key).trans ?_
    refine List.Perm.trans ?_ (ins_perm _ _).symm
    exact (h.del_perm h1).cons (t, m.id)
  · have := (h1.map Mk.id).nodup_iff.1 h.ids
    exact (h2.map Mk.id).nodup_iff.2 this
/-- A mark that is added, whatever its time was. -/
theorem Row.add (h : Row M L) (hid : m.id ∉ M.map Mk.id) (t : Int) : Row (M ++ [⟨m.b, m.id, t⟩]) (setL m.id t L) := by
  refine ⟨?_, setL_srt h.srt, ?_⟩
  · rw [List.map_append]
    refine List.Perm.trans ?_ (ins_perm _ _).symm
    rw [h.del_none hid]
    exact (List.perm_append_singleton _ _).trans (h.perm.cons _)
  · rw [List.map_append]
    refine List.nodup_append.2 ⟨h.ids, by simp, ?_⟩
    rintro a ha b hb rfl
    obtain rfl := List.mem_singleton.1 hb
    exact hid ha
theorem setL_len : (setL id t L).length ≤ L.length + 1 := by
  unfold setL
  rw [ins_len]
  have := List.length_filter_le (fun x : Int × Int => x.2 != id) L
  unfold del
  omega

/-- The first of the heap is the first of the row. -/
theorem Row.head (h : Row M L) (hh : Heap M) (hi : M[0]? = some m) : ∃ L', L = (m.t, m.id) :: L' := by
  have hm := List.mem_of_getElem? hi
  cases hL : L with
  | nil => subst hL; have := h.mem hm; cases this
  | cons x L' =>
    subst hL
    have h1 := h.mem hm
    rcases List.mem_cons.1 h1 with h1 | h1
    · exact ⟨L', by rw [h1]⟩
    · exfalso
      have h2 := (List.pairwise_cons.1 h.srt).1 _ h1
      obtain ⟨o, ho, rfl⟩ := h.back List.mem_cons_self
      obtain ⟨k, hk⟩ := List.getElem?_of_mem ho
      have h3 := hh.first k (List.getElem?_eq_some_iff.1 hk).1
      rw [V_eq hi, V_eq hk] at h3
      simp only [lt2, key, le] at h2 h3
      omega
theorem Row.tail {L' : List (Int × Int)} (h : Row M ((m.t, m.id) :: L')) (hp : M.Perm (m :: M')) : Row M' L' := by
  refine ⟨?_, (List.pairwise_cons.1 h.srt).2, ?_⟩
  · have h1 := h.perm.symm.trans (hp.map key)
    rw [List.map_cons] at h1
    exact (List.Perm.cons_inv h1).symm
  · have hn := (hp.map Mk.id).nodup_iff.1 h.ids
    rw [List.map_cons, List.nodup_cons] at hn
    exact hn.2
end
end Go.Proofs.Ytldocgpnmfmnaaa
