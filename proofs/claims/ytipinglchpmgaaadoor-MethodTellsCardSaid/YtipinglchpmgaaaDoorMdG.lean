/- Bytes, by the program. -/
import Derived.Test.YtipinglchpmgaaaDoorMdD
import Derived.Test.YtipinglchpmgaaaDoorOcC
namespace Go.Proofs.YtipinglchpmgaaaDoor
open Go.RowKit
set_option linter.unusedVariables false

theorem uStrs8 : Tryd.prog.underlying 22 = some (.slice 9) := by kernel_rfl
theorem uInts8 : Tryd.prog.underlying 23 = some (.slice 3) := by kernel_rfl
theorem infStr8 : (Tryd.prog.info? 9).map (fun i => (i.zero, i.size, i.bytes)) = some (some (tx []), 1, 16) := by kernel_rfl
theorem infInt8 : (Tryd.prog.info? 3).map (fun i => (i.zero, i.size, i.bytes)) = some (some (.int .i64 0), 1, 8) := by kernel_rfl

/-- 's[1:]' of a slice of one cell an element. -/
theorem run_tail {P : Program} {t e : TypeId} {i : TypeInfo} (ht : P.underlying t = some (.slice e)) (hi : P.info? e = some i) (hsz : i.size = 1) (b off q cap : Nat) (hq : 0 < q) (hc : q ≤ cap) (w : World) :
    (Instr.slice t (.slice (some ⟨b, off, none⟩) q cap) (some (.int .i64 1)) none none).run P w = .ok (.slice (if cap = 1 then some ⟨b, off, none⟩ else some ⟨b, off + 1, none⟩) (q - 1) (cap - 1)) w := by
  simp [Instr.slice, run_underlying ht, Instr.sliceBounds, Instr.sliceBound, asIntOf, sizeOf, typeInfo, hi, hsz, Go.WideShapes.add_plain]
  intro h
  exact absurd h (by omega)

section
variable {w w' : World} {v : Value}
theorem TxtS.uncons {t : List UInt8} {S : List (List UInt8)} (h : TxtS w v (t :: S)) :
    ∃ b off q cap v', v = .slice (some ⟨b, off, none⟩) q cap ∧ (0 : Int) < q ∧ w.cell? ⟨b, off, none⟩ = some (tx t) ∧ TxtS w v' S ∧
      ∀ w2, (Instr.slice 22 (.slice (some ⟨b, off, none⟩) q cap) (some (.int .i64 1)) none none).run Tryd.prog w2 = .ok v' w2 := by
  obtain ⟨a, cap, rfl, hl, hm, hx⟩ := h
  obtain ⟨_, b, off, rfl, hc⟩ := hx 0 t rfl
  obtain ⟨i0, hi0, hz0, hz1, hz2⟩ := info_parts infStr8
  rw [List.length_cons] at hl
  refine ⟨b, off, S.length + 1, cap, .slice (if cap = 1 then some ⟨b, off, none⟩ else some ⟨b, off + 1, none⟩) S.length (cap - 1), rfl, by omega, hc, ⟨_, cap - 1, rfl, by omega, by omega, fun i x hi => ?_⟩, fun w2 => run_tail uStrs8 hi0 hz1 b off (S.length + 1) cap (by omega) hl w2⟩
  obtain ⟨h1, b', off', e, h2⟩ := hx (i + 1) x (by simpa using hi)
  cases e
  have hlt := (List.getElem?_eq_some_iff.1 hi).1
  rw [if_neg (by omega)]
  exact ⟨h1, b, off + 1, rfl, by rw [Nat.add_assoc, Nat.add_comm 1 i]; exact h2⟩
theorem NumS.uncons {t : Int} {S : List Int} (h : NumS w v (t :: S)) :
    ∃ b off q cap v', v = .slice (some ⟨b, off, none⟩) q cap ∧ (0 : Int) < q ∧ w.cell? ⟨b, off, none⟩ = some (.int .i64 t) ∧ NumS w v' S ∧
      ∀ w2, (Instr.slice 23 (.slice (some ⟨b, off, none⟩) q cap) (some (.int .i64 1)) none none).run Tryd.prog w2 = .ok v' w2 := by
  obtain ⟨a, cap, rfl, hl, hm, hx⟩ := h
  obtain ⟨b, off, rfl, hc⟩ := hx 0 t rfl
  obtain ⟨i0, hi0, hz0, hz1, hz2⟩ := info_parts infInt8
  rw [List.length_cons] at hl
  refine ⟨b, off, S.length + 1, cap, .slice (if cap = 1 then some ⟨b, off, none⟩ else some ⟨b, off + 1, none⟩) S.length (cap - 1), rfl, by omega, hc, ⟨_, cap - 1, rfl, by omega, by omega, fun i x hi => ?_⟩, fun w2 => run_tail uInts8 hi0 hz1 b off (S.length + 1) cap (by omega) hl w2⟩
  obtain ⟨b', off', e, h2⟩ := hx (i + 1) x (by simpa using hi)
  cases e
  have hlt := (List.getElem?_eq_some_iff.1 hi).1
  rw [if_neg (by omega)]
  exact ⟨b, off + 1, rfl, by rw [Nat.add_assoc, Nat.add_comm 1 i]; exact h2⟩

/-- The struct's own cells, beside whatever is new. -/
structure MdHeld (w wr : World) (b : Nat) (k : Int) (s n : Value) (x : Int) : Prop where
  below : Below w.heap.size w wr
  lt : b < wr.heap.size
  c0 : wr.cell? ⟨b, 0, none⟩ = some (.int .i64 k)
  c1 : wr.cell? ⟨b, 1, none⟩ = some s
  c2 : wr.cell? ⟨b, 2, none⟩ = some n
  c3 : wr.cell? ⟨b, 3, none⟩ = some (.int .i64 x)
theorem MdHeld.start (w : World) (k : Int) (s n : Value) (x : Int) : MdHeld w (w.alloc (mO k s n x)) w.heap.size k s n x :=
  ⟨new_below w _, by simp, by simp, by simp, by simp, by simp⟩
theorem MdHeld.step {w wr wr' : World} {b : Nat} {k : Int} {s n : Value} {x : Int} (h : MdHeld w wr b k s n x) (hb : Below wr.heap.size wr wr') : MdHeld w wr' b k s n x :=
  ⟨bel h.below hb, Nat.lt_of_lt_of_le h.lt hb.size, (hb.cell h.lt).trans h.c0, (hb.cell h.lt).trans h.c1, (hb.cell h.lt).trans h.c2, (hb.cell h.lt).trans h.c3⟩
theorem MdHeld.kinds {w wr : World} {b : Nat} {k : Int} {s n : Value} {x : Int} (h : MdHeld w wr b k s n x) (hT : Kinds w.heap.size w) : Kinds wr.heap.size wr := (hT.below h.below).mono h.below.size
theorem MdHeld.drewN {w wr : World} {b : Nat} {k : Int} {s n : Value} {x : Int} (h : MdHeld w wr b k s n x) (q : Nat) : MdHeld w (wr.drewN q) b k s n x := h.step (drewN_below _ _)
end

/-- On the way: what is put, what is left to put. -/
def PutAt (w : World) (b : Nat) (k : Int) (s n : Value) (x : Int) (R : List UInt8) (g : Nat) (a' : Act) (wr : World) : Prop :=
  ∃ (acc : List UInt8) (S : List (List UInt8)) (N : List Int) (c : Bool) (pv tv nv : Value),
    Fr 57 [(1, .pointer (some ⟨b, 0, none⟩)), (3, tx acc), (4, pv), (5, tx (lay S.length N.length c)), (6, tv), (7, nv)] a' ∧ MdHeld w wr b k s n x ∧ TxtS wr tv S ∧ NumS wr nv N ∧
    acc ++ (rawT S ++ (rawN N ++ rawB c x)) = R ∧ (∀ t ∈ S, t.length ≤ 255) ∧ S.length + N.length + c.toNat = g

theorem low4_app (acc l m : List UInt8) (R : List UInt8) (h : acc ++ (l ++ m) = R) : (acc ++ l) ++ m = R := by rw [List.append_assoc]; exact h

set_option maxHeartbeats 4000000 in
theorem bytesM_any {m : Meth} {v : Value} {w : World} (hT : Kinds w.heap.size w) (h : RdM w v m) : Calls Tryd.prog 18 #[v] w fun e w' => e = .returned (tx (bytesM m)) ∧ Below w.heap.size w w' := by
  have hb0 : ∀ k s n x, Below w.heap.size w (w.alloc (mO k s n x)) := fun k s n x => new_below w _
  have hk0 : ∀ k s n x, Kinds (w.alloc (mO k s n x)).heap.size (w.alloc (mO k s n x)) := fun k s n x => (hT.below (hb0 k s n x)).mono (hb0 k s n x).size
  obtain ⟨s, n, rfl, hs, hn⟩ := id h
  have hH := Lib.hid (MdHeld.start w m.kind s n m.bits)
  have c1 := Lib.hid (is_any (hk0 m.kind s n m.bits) (h.below (hb0 m.kind s n m.bits)))
  cases hM : isM m with
  | false =>
    rw [bytesM_none hM]
    rw [hM] at c1
    obtain ⟨k, S, N, x⟩ := m
    simp only at *
    go_enter Tryd.func18, Tryd.ntmps18
    go_wp2_with fail
    refine wp_scope_ghost 0 (fun _ _ _ => False) rfl (fun _ _ _ h => h.elim) fun _ => ?_
    go_wp2_with fail
    refine c1.out.mono ?_
    rintro e w1 ⟨rfl, hb1⟩
    have hb2 := Lib.hid (hH.out.step hb1)
    clear hb1
    go_wp2_with fail
    simp only [Exit.jump]
    go_ret
    exact ⟨rfl, hb2.out.below⟩
  | true =>
    have hI := isM_iff.1 hM
    rw [bytesM_of hI]
    rw [hM] at c1
    have hlen := (rawM_len hI).2
    obtain ⟨k, S, N, x⟩ := m
    simp only at *
    have hot := Lib.hid hI.ot
    have hT' : Hid (∀ wr, MdHeld w wr w.heap.size k s n x → wr.cell? ⟨0, k.toNat * 2, none⟩ = some (tx (lay S.length N.length (shB k)))) := Lib.hid fun wr hw => by
      have hkd := isKd_iff.1 hI.kd
      have := (hw.kinds hT).parts (k := k.toNat) (by simp only at hkd; omega)
      rw [show ((k.toNat : Nat) : Int) = k by simp only at hkd; omega, partsK_lay, ← hI.lt, ← hI.ln] at this
      exact this
    obtain ⟨kn, rfl⟩ := Int.eq_ofNat_of_zero_le (show (0 : Int) ≤ k by have := isKd_iff.1 hI.kd; simp only at this; omega)
    have hkn : kn < 50 := by have := isKd_iff.1 hI.kd; simp only at this; omega
    have hk1 : (0 : Int) ≤ kn := by omega
    have hk2 : (kn : Int) < 50 := by omega
    rw [Int.toNat_natCast] at hT'
    have c2 := Lib.hid (fun wr => num_b kn 2 wr (l := low 2 kn) rfl)
    have hstart : Hid (low 2 kn ++ (rawT S ++ (rawN N ++ rawB (shB kn) x)) = rawM ⟨kn, S, N, x⟩) := Lib.hid rfl
    generalize rawM ⟨kn, S, N, x⟩ = R at *
    generalize low 2 (kn : Int) = acc0 at *
    generalize shB (kn : Int) = D at *
    clear hI hM
    go_enter Tryd.func18, Tryd.ntmps18
    go_wp2_with fail
    refine wp_scope_ghost 0 (PutAt w w.heap.size kn s n x R) rfl ?_ ?_
    · rintro g a' wr ⟨acc, S', N', c, pv, tv, nv, hfr, hHr, hts, hns, hsum, hot', hg⟩
      clear hH c1 c2 hstart hT' hot hs hn h hb0 hk0
      obtain ⟨f, rfl, hl'⟩ := hfr.lit
      clear hfr
      simp only [List.mem_cons, List.not_mem_nil, or_false, forall_eq_or_imp, forall_eq] at hl'
      obtain ⟨f1, f3, f4, f5, f6, f7⟩ := hl'
      simp only [List.range, List.range.loop, List.map, f1, f3, f4, f5, f6, f7]
      clear f1 f3 f4 f5 f6 f7
      have hacc : acc.length ≤ 1000 := by
        have := congrArg List.length hsum
        rw [List.length_append] at this
        omega
      have q3 := hHr.c3
      replace hHr := Lib.hid hHr
      cases S' with
      | cons t S' =>
        have ht := hot' t List.mem_cons_self
        obtain ⟨b, off, q, cap, v', rfl, hq, hc, htl, hrun⟩ := hts.uncons
        have cT := Lib.hid (text_to (textL_eq ht) (by omega))
        rw [List.length_cons, lay_T]
        rw [rawT_cons] at hsum
        have hadd := fun W => run_string_add_lists (P := Tryd.prog) W acc (oct t.length :: t) (by omega) (by rw [List.length_cons]; omega)
        have fin : Hid (∀ wr', Below wr.heap.size wr wr' → ∀ a', Fr 57 [(1, .pointer (some ⟨w.heap.size, 0, none⟩)), (3, tx (acc ++ (oct t.length :: t))), (4, tx (oct t.length :: t)), (5, tx (lay S'.length N'.length c)), (6, v'), (7, nv)] a' → ∃ m, m < g ∧ PutAt w w.heap.size kn s n x R m a' wr') :=
          Lib.hid fun wr' hbw a' hf => ⟨S'.length + N'.length + c.toNat, by rw [List.length_cons] at hg; omega, acc ++ (oct t.length :: t), S', N', c, _, v', nv, hf, hHr.out.step hbw, htl.below hbw, hns.below hbw, by rw [List.append_assoc, ← hsum, List.append_assoc], fun t' h' => hot' t' (List.mem_cons_of_mem _ h'), rfl⟩
        generalize acc ++ (oct t.length :: t) = acc2 at *
        generalize lay S'.length N'.length c = L at *
        have ex := cut_one 116 L
        clear hHr htl hns hsum hot' hg
        clear hts
        go_wp2_with fail
        refine (cT.out _).mono ?_
        rintro e w1 ⟨rfl, hb1⟩
        replace fin := Lib.hid (fin.out _ hb1)
        clear hb1 cT
        go_wp2_with fail
        refine wp_goto ?_
        exact ⟨rfl, fin.out _ ⟨rfl, rfl, by simp⟩⟩
      | nil =>
        cases N' with
        | cons t N' =>
          obtain ⟨b, off, q, cap, v', rfl, hq, hc, htl, hrun⟩ := hns.uncons
          have cT := Lib.hid (fun wr => num_b t 4 wr (l := low 4 t) rfl)
          have h4 := low_length 4 t
          rw [List.length_nil, List.length_cons, lay_N]
          rw [rawN_cons] at hsum
          have hadd := fun W => run_string_add_lists (P := Tryd.prog) W acc (low 4 t) (by omega) (by omega)
          have fin : Hid (∀ wr', Below wr.heap.size wr wr' → ∀ a', Fr 57 [(1, .pointer (some ⟨w.heap.size, 0, none⟩)), (3, tx (acc ++ low 4 t)), (4, tx (low 4 t)), (5, tx (lay 0 N'.length c)), (6, tv), (7, v')] a' → ∃ m, m < g ∧ PutAt w w.heap.size kn s n x R m a' wr') :=
            Lib.hid fun wr' hbw a' hf => ⟨0 + N'.length + c.toNat, by rw [List.length_nil, List.length_cons] at hg; omega, acc ++ low 4 t, [], N', c, _, tv, v', hf, hHr.out.step hbw, hts.below hbw, htl.below hbw, by rw [← hsum, List.append_assoc]; simp [rawT], fun t' h' => absurd h' (by simp), rfl⟩
          generalize low 4 t = T4 at *
          generalize acc ++ T4 = acc2 at *
          generalize lay 0 N'.length c = L at *
          have ex := cut_one 110 L
          clear hHr htl hts hsum hot' hg hns h4
          go_wp2_with fail
          refine (cT.out _).mono ?_
          rintro e w1 ⟨rfl, hb1⟩
          replace fin := Lib.hid (fin.out _ hb1)
          clear hb1 cT
          go_wp2_with fail
          refine wp_goto ?_
          exact ⟨rfl, fin.out _ ⟨rfl, rfl, by simp⟩⟩
        | nil =>
          cases c with
          | true =>
            have cT := Lib.hid (fun wr => num_b x 1 wr (l := low 1 x) rfl)
            have h4 := low_length 1 x
            rw [List.length_nil, List.length_nil, lay_B]
            have hadd := fun W => run_string_add_lists (P := Tryd.prog) W acc (low 1 x) (by omega) (by omega)
            have fin : Hid (∀ wr', Below wr.heap.size wr wr' → ∀ a', Fr 57 [(1, .pointer (some ⟨w.heap.size, 0, none⟩)), (3, tx (acc ++ low 1 x)), (4, tx (low 1 x)), (5, tx []), (6, tv), (7, nv)] a' → ∃ m, m < g ∧ PutAt w w.heap.size kn s n x R m a' wr') :=
              Lib.hid fun wr' hbw a' hf => ⟨0, by rw [List.length_nil, List.length_nil] at hg; have : true.toNat = 1 := rfl; omega, acc ++ low 1 x, [], [], false, _, tv, nv, hf, hHr.out.step hbw, hts.below hbw, hns.below hbw, by rw [← hsum]; simp [rawT, rawN, rawB], fun t' h' => absurd h' (by simp), rfl⟩
            generalize low 1 x = T4 at *
            generalize acc ++ T4 = acc2 at *
            clear hHr hts hsum hot' hg hns h4
            go_wp2_with fail
            refine (cT.out _).mono ?_
            rintro e w1 ⟨rfl, hb1⟩
            replace fin := Lib.hid (fin.out _ hb1)
            clear hb1 cT
            go_wp2_with fail
            refine wp_goto ?_
            exact ⟨rfl, fin.out _ ⟨rfl, rfl, by simp; rfl⟩⟩
          | false =>
            rw [List.length_nil, List.length_nil, lay_nil]
            have e : R = acc := by rw [← hsum]; simp [rawT, rawN, rawB]
            subst e
            have fin := Lib.hid hHr.out.below
            clear hHr hts hsum hot' hg hns
            go_wp2_with fail
            simp only [Exit.jump]
            go_ret
            exact ⟨rfl, fin.out⟩
    · intro H
      go_wp2_with fail
      refine c1.out.mono ?_
      rintro e w1 ⟨rfl, hb1⟩
      replace hH := Lib.hid (hH.out.step hb1)
      have q0 := hH.out.c0
      clear hb1 c1
      go_wp2_with fail
      refine (c2.out _).mono ?_
      rintro e w2 ⟨rfl, hb1⟩
      replace hH := Lib.hid (hH.out.step hb1)
      have q0 := hH.out.c0
      have q1 := hH.out.c1
      have q2 := hH.out.c2
      have q3 := hT'.out _ hH.out
      clear hb1 c2
      go_wp2_with fail
      go_quiet (fail)
      go_wp2_with fail
      refine wp_label ?_
      go_step
      go_step
      exact H _ _ _ ⟨acc0, S, N, D, tx [], s, n, ⟨rfl, rfl, by simp⟩, hH.out.drewN _, (hs.below hH.out.below).below (drewN_below _ _), (hn.below hH.out.below).below (drewN_below _ _), hstart.out, hot.out, rfl⟩
end Go.Proofs.YtipinglchpmgaaaDoor
