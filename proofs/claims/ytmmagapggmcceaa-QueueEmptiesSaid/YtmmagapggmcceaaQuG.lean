/- What is known of a queue by hand. -/
import Derived.Test.YtmmagapggmcceaaQuF
import Derived.Test.YtmmagapggmcceaaRkRo
namespace Go.Proofs.Ytmmagapggmcceaa
open Go.RowKit
open Go.ChangeMaps (setBlock)
set_option linter.unusedVariables false
set_option linter.unusedSectionVars false
set_option linter.unusedSimpArgs false
set_option maxRecDepth 100000

/-- Options of numbers alone. -/
abbrev oO (m t p b : Int) : Opt := ⟨[], [], m, t, p, b⟩
abbrev oOV (m t p b : Int) : Value := .agg #[tx [], tx [], .int .i64 m, .int .i64 t, .int .i64 p, .int .i64 b]
section
variable {o : Opt} {M W N : List Ent} {e : Ent} {ok : Bool} {n p now : Int}
theorem for_plain (h0 : 0 ≤ p) (h1 : p ≤ o.prio) (h2 : o.ttl = 0) : forE (oE n p 0) o now = oE n p 0 := by
  have h3 : ¬ 0 < shorter (oE n p 0).ttl o.ttl := by
    rw [h2]
    simp [shorter]
  unfold forE
  rw [if_neg h3]
  show (⟨n, 0, 0, [], [], max (min p o.prio) 0, 0, 0, false, 0⟩ : Ent) = _
  rw [show max (min p o.prio) 0 = p by omega]
theorem PutP.room (h : PutP o M e ok W N) (h1 : putOk M e = true) (h2 : (M.length : Int) < limitO o) : ok = true ∧ W = [] ∧ N = insM e M := by
  rcases h with ⟨a, -⟩ | ⟨-, -, h⟩ | ⟨-, a, -⟩ | ⟨-, a, -⟩
  · rw [h1] at a; cases a
  · exact h
  · omega
  · omega
theorem PutP.full (h : PutP o M e ok W N) (hM : RkOk M) (h1 : putOk M e = true) (h2 : (M.length : Int) = limitO o) (h3 : rejO o = false) : ok = true ∧ ∃ x, W = [x] ∧ IsWorst M x ∧ N = insM e (delM M x.id) := by
  rcases h with ⟨a, -⟩ | ⟨-, a, -⟩ | ⟨-, -, a, -⟩ | ⟨-, -, -, rfl, N1, h4, h5, rfl⟩
  · rw [h1] at a; cases a
  · omega
  · rw [h3] at a; cases a
  · have := h4.len hM
    obtain ⟨x, rfl, hx, rfl⟩ := h4.one (by omega)
    exact ⟨rfl, x, rfl, hx, rfl⟩
theorem PutP.refuse (h : PutP o M e ok W N) (h1 : putOk M e = true) (h2 : limitO o ≤ M.length) (h3 : rejO o = true) : ok = false ∧ W = [] ∧ N = M := by
  rcases h with ⟨a, -⟩ | ⟨-, a, -⟩ | ⟨-, -, -, h⟩ | ⟨-, -, a, -⟩
  · rw [h1] at a; cases a
  · omega
  · exact h
  · rw [h3] at a; cases a
end
section
variable {B : Nat} {w0 w w' : World} {qb rk b k l : Nat} {o : Opt} {M L : List Ent} {F F' S Y : List (Nat × Obj)} {e e0 : Ent}
theorem new_to {m t p b : Int} (h : St B w0 w F) : Calls Try.prog 8 #[oOV m t p b] w fun r w' => ∃ qb, r = .returned (rptr qb) ∧ QuIs B w0 w' qb (oO m t p b) [] F := qu_new (o := oO m t p b) h (by simp) (by simp)
theorem put_q {n p now : Int} {e' : Ent} (he : forE (oE n p 0) o now = e') (h : QuIs B w0 w qb o M F) (hl : M.length < 90000) : Calls Try.prog 9 #[rptr qb, oV n p 0, .int .i64 now] w (PutR B w0 qb o M F e') := by
  subst he
  exact qu_put (e := oE n p 0) h (by simp) (by simp) hl now

abbrev q1 : Ent := oE 1 0 0
abbrev q2 : Ent := oE 2 0 0
abbrev o16 : Opt := oO 1 0 0 0
theorem kput1 (h : QuIs B w0 w qb o16 [] F) : Calls Try.prog 9 #[rptr qb, oV 1 0 0, .int .i64 0] w fun r w' => ∃ a c S, r = .returned (.tuple #[.bool true, .slice a 0 c]) ∧ QuIs B w0 w' qb o16 [q1] (S ++ F) := by
  refine (put_q (for_plain (by decide) (by decide) rfl) h (by simp)).mono ?_
  rintro r w' ⟨ok, W, N, a, c, S, rfl, hp, hs, h'⟩
  obtain ⟨rfl, rfl, rfl⟩ := hp.room (by decide) (by decide)
  exact ⟨a, c, S, rfl, h'⟩
theorem kput2 (h : QuIs B w0 w qb o16 [q1] F) : Calls Try.prog 9 #[rptr qb, oV 2 0 0, .int .i64 0] w fun r w' => ∃ a c S, r = .returned (.tuple #[.bool true, .slice a 1 c]) ∧ EnsIs (.slice a 1 c) [q1] S ∧ QuIs B w0 w' qb o16 [q2] (S ++ F) := by
  refine (put_q (for_plain (by decide) (by decide) rfl) h (by simp)).mono ?_
  rintro r w' ⟨ok, W, N, a, c, S, rfl, hp, hs, h'⟩
  obtain ⟨rfl, x, rfl, hx, rfl⟩ := hp.full h.ok (by decide) (by decide) (by decide)
  obtain rfl : x = q1 := by simpa using hx.mem
  exact ⟨a, c, S, rfl, hs, h'⟩
theorem kback (h : QuIs B w0 w qb o16 [q2] F) : Calls Try.prog 12 #[rptr qb, oV 1 0 0] w fun r w' => r = .returned (.bool true) ∧ QuIs B w0 w' qb o16 [againE q1, q2] F := by
  refine (qu_back (e := q1) h (by simp) (by simp) (by simp)).mono ?_
  rintro r w' ⟨rfl, h'⟩
  exact ⟨rfl, h'⟩
theorem ktake (h : QuIs B w0 w qb o16 [againE q1, q2] F) : Calls Try.prog 11 #[rptr qb] w fun r w' => r = .returned (.tuple #[.agg #[.int .i64 1, .int .i64 0, .int .i64 0, tx [], tx [], .int .i64 0, .int .i64 0, .int .i64 0, .bool true, .int .i64 0], .bool true]) ∧
    QuIs B w0 (w'.alloc (.cells #[.int .i64 1, .int .i64 0, .int .i64 0, tx [], tx [], .int .i64 0, .int .i64 0, .int .i64 0, .bool true, .int .i64 0] 32)) qb o16 [q2] ((w'.heap.size, enO (againE q1)) :: F) := by
  refine (qu_take h).mono ?_
  rintro r w' ⟨rfl, h'⟩
  exact ⟨rfl, h'.alloc (enO (againE q1))⟩

theorem uOpt16 : ∃ fs f, Try.prog.underlying 25 = some (.struct fs) ∧ fs[2]? = some f ∧ f.type = 3 ∧ f.offset = 2 := by
  have h : (Try.prog.underlying 25).map (fun t => match t with | .struct fs => (fs[2]?).map (fun f => (f.type, f.offset)) | _ => none) = some (some (3, 2)) := by kernel_rfl
  rw [Option.map_eq_some_iff] at h
  obtain ⟨t, h1, h2⟩ := h
  cases t <;> simp only at h2 <;> try (cases h2; done)
  rw [Option.map_eq_some_iff] at h2
  obtain ⟨f, h3, h4⟩ := h2
  simp only [Prod.mk.injEq] at h4
  exact ⟨_, _, h1, h3, h4.1, h4.2⟩
theorem field_len (v : Int) (x0 x1 x3 x4 x5 : Value) (W : World) : (Instr.field 25 (.agg #[x0, x1, .int .i64 v, x3, x4, x5]) 2).run Try.prog W = .ok (.int .i64 v) W := by
  obtain ⟨fs, f, h1, h2, h3, h4⟩ := uOpt16
  simp [Instr.field, go_sem, asAgg, h1, h2, h3, h4]
set_option maxHeartbeats 4000000 in
theorem known16_true (w : World) : Calls Try.prog 7 #[] w fun e w' => e = .returned (.bool true) ∧ Below w.heap.size w w' := by
  have c0 := Lib.hid (new_to (m := 1) (t := 0) (p := 0) (b := 0) (St.start w))
  go_enter Try.func7, Try.ntmps7
  go_wp2_with fail
  refine c0.out.mono ?_
  rintro r w1 ⟨qb, rfl, h1⟩
  have c1 := Lib.hid (kput1 h1)
  clear c0 h1
  go_wp2_with fail
  refine c1.out.mono ?_
  rintro r w2 ⟨a1, n1, S1, rfl, h2⟩
  have c2 := Lib.hid (kput2 h2)
  clear c1 h2
  go_wp2_with fail
  refine c2.out.mono ?_
  rintro r w3 ⟨a2, n2, S2, rfl, hs2, h3⟩
  have c3 := Lib.hid (kback h3)
  clear c2 h3
  go_wp2_with fail
  refine c3.out.mono ?_
  rintro r w4 ⟨rfl, h4⟩
  have c4 := Lib.hid (ktake h4)
  clear c3 h4
  go_wp2_with fail
  refine c4.out.mono ?_
  rintro r w5 ⟨rfl, h5⟩
  have c5 := Lib.hid (qu_purge h5 (by simp))
  clear c4 h5
  go_wp2_with fail
  refine c5.out.mono ?_
  rintro r w6 ⟨a3, n3, S3, rfl, hs3, h6⟩
  have rd2 := h6.reads (X := S3 ++ (w5.heap.size, enO (againE q1)) :: (S1 ++ [])) hs2 (by
    classical
    exact List.perm_iff_count.2 fun a => by simp only [List.count_append, List.count_cons, List.count_nil]; omega)
  have rd3 := h6.reads (X := (w5.heap.size, enO (againE q1)) :: (S2 ++ (S1 ++ []))) hs3 (by
    classical
    exact List.perm_iff_count.2 fun a => by simp only [List.count_append, List.count_cons, List.count_nil]; omega)
  obtain ⟨b2, o2, rfl, d2, -⟩ := rd2 0 _ rfl
  obtain ⟨b3, o3, rfl, d3, -⟩ := rd3 0 _ rfl
  have hx := (h6.at_block (k := w5.heap.size) (e := againE q1) (by simp)).1
  have x0 : w6.cell? ⟨w5.heap.size, 0, none⟩ = some (.int .i64 1) := hx.1
  have x8 : w6.cell? ⟨w5.heap.size, 8, none⟩ = some (.bool true) := hx.2.2.2.2.2.2.2.2.1
  have c6 := Lib.hid (qu_len h6)
  clear c5 rd2 rd3 hs2 hs3 hx
  simp only [Nat.zero_mul, Nat.add_zero] at d2 d3
  go_wp2_with fail
  refine c6.out.mono ?_
  rintro r w7 ⟨rfl, h7⟩
  have c7 : Hid (Calls Try.prog 16 #[rptr qb] w7 fun r w' => r = .returned (.agg #[tx [], tx [], .int .i64 1, .int .i64 0, .int .i64 0, .int .i64 0]) ∧ QuIs w.heap.size w w' qb o16 [] (S3 ++ (w5.heap.size, enO (againE q1)) :: (S2 ++ (S1 ++ [])))) := Lib.hid (qu_opts h7)
  clear c6 h6 h7 d2 d3 x0 x8
  simp only [List.length_nil, Int.cast_ofNat_Int] at *
  go_wp2_with fail
  refine c7.out.mono ?_
  rintro r w8 ⟨rfl, h8⟩
  have c8 := Lib.hid (qu_gone h8 9)
  clear c7 h8
  have hfl := fun W => field_len 1 (tx []) (tx []) (.int .i64 0) (.int .i64 0) (.int .i64 0) W
  go_wp2_with fail
  refine c8.out.mono ?_
  rintro r w9 ⟨a4, n4, S4, rfl, hs4, h9⟩
  have fin := Lib.hid h9.below
  clear c8 hs4 h9
  simp only [List.filter_nil, List.length_nil]
  go_wp2_with fail
  go_ret
  exact ⟨rfl, fin.out⟩
end
end Go.Proofs.Ytmmagapggmcceaa
