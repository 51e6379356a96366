import Derived.Test.YtknjamfjonapiaaGreatDoorZ23
import Derived.Test.YtknjamfjonapiaaGreatDoorZ18
import Derived.Test.YtknjamfjonapiaaGreatDoorZ05
namespace Go.Proofs.YtknjamfjonapiaaGreatDoor
open Go.RowKit
set_option linter.unusedVariables false
set_option linter.unusedSectionVars false
set_option linter.unusedSimpArgs false
set_option maxRecDepth 100000
section
variable {qT : Bool} {B : Nat} {w0 w w' : World} {sb slb xb pb qb gb c c' i k b : Nat} {bs : List Nat} {S S' : Sto} {L : List Pq} {xv v : Value} {d d' : Plq} {R SX SS F F' Z : List (Nat × Obj)} {o : Opt} {M : List Ent} {G : List Gst} {T : Nat} {n : List UInt8} {q z bt : Int} {e e0 : Ent} {g : Gst}
theorem StoIs.gsAt (h : StoIs qT B w0 w sb bs S F c) (hm : (k, gsO g) ∈ F) : GsAt w k g :=
 ⟨h.cell hm rfl, h.cell hm rfl, h.cell hm rfl, h.cell hm rfl, h.cell hm rfl, h.cell hm rfl⟩
theorem setG_same (hi : S.L[i]? = some d) : S.setG i d d.G d.T = S := by
 unfold Sto.setG
 obtain ⟨hl, rfl⟩ := List.getElem?_eq_some_iff.1 hi
 rw [List.set_getElem_self]
theorem StoIs.placeG (h : StoIs qT B w0 w sb bs S F c) (hi : S.L[i]? = some d) (hb : bs[i]? = some pb) : ∃ gb Z, w.cell? ⟨pb, 4, none⟩ = some (gup gb) ∧ GuIsX qT B w0 w gb d.G d.T (Z ++ F) ∧
  ∀ w' G T F', GuIsX qT B w0 w' gb G T (Z ++ F') → w'.cell? ⟨pb, 4, none⟩ = some (gup gb) ∧ StoIs qT B w0 w' sb bs (S.setG i d G T) F' c := by
 obtain ⟨pb', qb, gb, h1, h2, -, ⟨Z, h3, h4⟩⟩ := h.place hi
 rw [hb] at h1
 obtain rfl := Option.some.inj h1
 exact ⟨gb, Z, h2.c4, h3, fun w' G T F' h' => ⟨(h4 w' G T F' h').1.c4, (h4 w' G T F' h').2⟩⟩
theorem pl_sole (h : StoIs qT B w0 w sb bs S F c) (hi : S.L[i]? = some d) (hb : bs[i]? = some pb) (hc : w.cell? ⟨pb, 4, none⟩ = some (gup gb)) {s : Bool} (hs : soleG d.G = s) :
  Calls Tryz.prog 86 #[gup gb] w fun r w' => r = .returned (.bool s) ∧ w'.cell? ⟨pb, 4, none⟩ = some (gup gb) ∧ StoIs qT B w0 w' sb bs S F c := by
 obtain ⟨gb', Z, h1, h2, h3⟩ := h.placeG hi hb
 rw [hc] at h1
 cases h1
 refine (gu_sole h2 hs).mono ?_
 rintro r w' ⟨rfl, h4⟩
 have := h3 _ _ _ _ h4
 rw [setG_same hi] at this
 exact ⟨rfl, this⟩
theorem pl_glen (h : StoIs qT B w0 w sb bs S F c) (hi : S.L[i]? = some d) (hb : bs[i]? = some pb) (hc : w.cell? ⟨pb, 4, none⟩ = some (gup gb)) {m : Nat} (hm : d.G.length = m) :
  Calls Tryz.prog 72 #[gup gb] w fun r w' => r = .returned (.int .i64 m) ∧ w'.cell? ⟨pb, 4, none⟩ = some (gup gb) ∧ StoIs qT B w0 w' sb bs S F c := by
 obtain ⟨gb', Z, h1, h2, h3⟩ := h.placeG hi hb
 rw [hc] at h1
 cases h1
 refine (gu_len h2).mono ?_
 rintro r w' ⟨rfl, h4⟩
 have := h3 _ _ _ _ h4
 rw [setG_same hi] at this
 exact ⟨by rw [hm], this⟩
set_option maxHeartbeats 4000000 in
theorem st_consume (h : StoIs qT B w0 w sb bs S F c) (n : List UInt8) (g : Gst) (hf : g.tag.length ≤ 140737488351232) (hl : ∀ p ∈ S.L, p.G.length < 60000) {S' : Sto} {z : Int} (hS : S.consume n g = (S', z)) :
  Calls Tryz.prog 35 #[bpt sb, tx n, gsV g] w fun r w' => r = .returned (.int .i64 z) ∧ StoIs qT B w0 w' sb bs S' F c := by
 have h0 := h.alloc (gsO g)
 unfold Sto.consume at hS
 have hsub : Hid (∀ w' S', StoIs qT B w0 w' sb bs S' ((w.heap.size, gsO g) :: F) c → StoIs qT B w0 w' sb bs S' F c) := Lib.hid fun w' S' h' => h'.sub (List.sublist_cons_self _ _)
 rcases open_ways S n g.conn with ⟨y, ho, hy⟩ | ⟨i, d, ho, e1, hi, e2, -⟩
 ·rw [ho] at hS
  simp only [Prod.mk.injEq] at hS
  obtain ⟨rfl, rfl⟩ := hS
  have co := Lib.hid (st_open_no h0 ho)
  have hyb : (y != 0) = true := by rcases hy with rfl | rfl <;> rfl
  clear h h0 ho hy hl hf
  go_enter Tryz.func35, Tryz.ntmps35
  go_wp2_with fail
  refine co.out.mono ?_
  rintro r w1 ⟨rfl, hx⟩
  have fin := Lib.hid (hsub.out _ _ hx)
  clear co hx hsub
  go_wp2_with fail
  go_ret
  exact ⟨rfl, fin.out⟩
 ·rw [ho] at hS
  simp only at hS
  obtain ⟨pb, hpb⟩ := h.blk hi
  have co := Lib.hid (st_open_yes h0 ho hpb)
  have hlen := hl d (List.mem_of_getElem? hi)
  have see : Hid (∀ w1, StoIs qT B w0 w1 sb bs S ((w.heap.size, gsO g) :: F) c → (∃ gb, w1.cell? ⟨pb, 4, none⟩ = some (gup gb) ∧ Calls Tryz.prog 86 #[gup gb] w1 fun r w' => r = .returned (.bool (soleG d.G)) ∧ w'.cell? ⟨pb, 4, none⟩ = some (gup gb) ∧ w'.cell? ⟨w.heap.size, 5, none⟩ = some (.bool g.sole) ∧ StoIs qT B w0 w' sb bs S ((w.heap.size, gsO g) :: F) c)) := Lib.hid fun w1 h' => by
   obtain ⟨gb, Z, h1, -⟩ := h'.placeG hi hpb
   refine ⟨gb, h1, (pl_sole h' hi hpb h1 rfl).mono ?_⟩
   rintro r w' ⟨rfl, k4, h2⟩
   exact ⟨rfl, k4, h2.cell List.mem_cons_self rfl, h2⟩
  have see2 : Hid (∀ w1 gb, w1.cell? ⟨pb, 4, none⟩ = some (gup gb) → StoIs qT B w0 w1 sb bs S ((w.heap.size, gsO g) :: F) c → Calls Tryz.prog 72 #[gup gb] w1 fun r w' => r = .returned (.int .i64 d.G.length) ∧ w'.cell? ⟨pb, 4, none⟩ = some (gup gb) ∧ StoIs qT B w0 w' sb bs S ((w.heap.size, gsO g) :: F) c) := Lib.hid fun w1 gb h1 h' => pl_glen h' hi hpb h1 rfl
  have hcell := Lib.hid (fun w1 (h' : StoIs qT B w0 w1 sb bs S ((w.heap.size, gsO g) :: F) c) => h'.gsAt (g := g) List.mem_cons_self)
  have add : Hid (∀ w1 gb ok S', addOkG d.G g = ok → S.setG i d (addG d.G g) d.T = S' → w1.cell? ⟨pb, 4, none⟩ = some (gup gb) → StoIs qT B w0 w1 sb bs S ((w.heap.size, gsO g) :: F) c → Calls Tryz.prog 87 #[gup gb, gsV g] w1 fun r w' => r = .returned (.bool ok) ∧ StoIs qT B w0 w' sb bs S' ((w.heap.size, gsO g) :: F) c ∧ (w'.cell? ⟨pb, 4, none⟩ = some (gup gb) ∧ GsAt w' w.heap.size g)) := Lib.hid fun w1 gb ok S' hok hS' h1 h' => by
   obtain ⟨gb', Z, k1, k2, k3⟩ := h'.placeG hi hpb
   rw [h1] at k1
   cases k1
   refine (gu_add k2 hf hlen hok rfl).mono ?_
   rintro r w' ⟨rfl, h4⟩
   have k5 := k3 _ _ _ _ h4
   rw [hS'] at k5
   exact ⟨rfl, k5.2, k5.1, k5.2.gsAt (g := g) List.mem_cons_self⟩
  have hok1 : addOkG d.G g = false → S.setG i d (addG d.G g) d.T = S := fun hk => by
   rw [show addG d.G g = d.G by unfold addG; rw [hk]; rfl, setG_same hi]
  generalize hso : soleG d.G = so at *
  generalize hml : d.G.length = ml at *
  cases so with
  | true =>
   rw [if_pos (.inl rfl)] at hS
   obtain ⟨rfl, rfl⟩ := Prod.mk.inj hS
   clear h h0 ho hl hf e1 e2 hi hpb hlen see2 hcell add hok1 hml hso hS
   go_enter Tryz.func35, Tryz.ntmps35
   go_wp2_with fail
   refine co.out.mono ?_
   rintro r w1 ⟨rfl, hx⟩
   obtain ⟨gb, k4, cs⟩ := see.out w1 hx
   replace cs := Lib.hid cs
   clear co hx see
   go_wp2_with fail
   refine cs.out.mono ?_
   rintro r w2 ⟨rfl, k4', k5, h2⟩
   have fin := Lib.hid (hsub.out _ _ h2)
   clear cs h2 hsub
   go_wp2_with fail
   go_ret
   exact ⟨rfl, fin.out⟩
  | false =>
   by_cases hA : g.sole = true ∧ 0 < ml
   ·rw [if_pos (.inr hA)] at hS
    obtain ⟨rfl, rfl⟩ := Prod.mk.inj hS
    obtain ⟨hA1, hA2⟩ := hA
    rw [hA1] at see
    have hA3 : (0 : Int) < ml := by omega
    clear h h0 ho hl hf e1 e2 hi hpb hlen hcell add hok1 hml hso hS hA2 hA1
    go_enter Tryz.func35, Tryz.ntmps35
    go_wp2_with fail
    refine co.out.mono ?_
    rintro r w1 ⟨rfl, hx⟩
    obtain ⟨gb, k4, cs⟩ := see.out w1 hx
    replace cs := Lib.hid cs
    clear co hx see
    go_wp2_with fail
    refine cs.out.mono ?_
    rintro r w2 ⟨rfl, k4', k5, h2⟩
    have cl := Lib.hid (see2.out _ _ k4' h2)
    clear cs h2 see2
    go_wp2_with fail
    refine cl.out.mono ?_
    rintro r w3 ⟨rfl, k6, h3⟩
    have fin := Lib.hid (hsub.out _ _ h3)
    clear cl h3 hsub
    go_wp2_with fail
    go_ret
    exact ⟨rfl, fin.out⟩
   ·rw [if_neg (by rintro (h | h); cases h; exact hA h)] at hS
    have hw : g.sole = false ∨ (g.sole = true ∧ ml = 0) := by
     cases hg : g.sole with
     | false => exact .inl rfl
     | true => exact .inr ⟨rfl, by rw [hg] at hA; simp at hA; omega⟩
    cases hok : addOkG d.G g with
    | false =>
     rw [hok, if_neg (by decide)] at hS
     obtain ⟨rfl, rfl⟩ := Prod.mk.inj hS
     have ca := Lib.hid (fun w1 gb => add.out w1 gb false S hok (hok1 hok))
     rcases hw with hg | ⟨hg, hm⟩
     ·rw [hg] at see
      clear h h0 ho hl hf e1 e2 hi hpb hlen add hok1 hml hso hS hA hok see2 hg
      go_enter Tryz.func35, Tryz.ntmps35
      go_wp2_with fail
      refine co.out.mono ?_
      rintro r w1 ⟨rfl, hx⟩
      obtain ⟨gb, k4, cs⟩ := see.out w1 hx
      replace cs := Lib.hid cs
      clear co hx see
      go_wp2_with fail
      refine cs.out.mono ?_
      rintro r w2 ⟨rfl, k4', k5, h2⟩
      have h3 := h2.grow (drew_b w2)
      have hs0 : Hid (w2.drew.cell? ⟨pb, 4, none⟩ = some (gup gb) ∧ GsAt w2.drew w.heap.size g) := Lib.hid ⟨k4', hcell.out _ h3⟩
      clear cs h2 k4 hcell
      generalize w.heap.size = nb at *
      go_wp2_with fail
      go_region_held3 (fun X => X.cell? ⟨pb, 4, none⟩ = some (gup gb) ∧ X.cell? ⟨nb, 0, none⟩ = some (.int .i64 g.conn) ∧ X.cell? ⟨nb, 1, none⟩ = some (.int .i64 g.chan) ∧ X.cell? ⟨nb, 2, none⟩ = some (tx g.tag) ∧ X.cell? ⟨nb, 3, none⟩ = some (.int .i64 g.most) ∧ X.cell? ⟨nb, 4, none⟩ = some (.bool g.noack) ∧ X.cell? ⟨nb, 5, none⟩ = some (.bool g.sole)) (first | with_reducible exact kS | with_reducible exact hs0.out)
       ((go_at_call 87; refine (ca.out _ _ hs0.out.1 (by assumption)).mono ?_; rintro r w'' ⟨rfl, hL, kS⟩))
      have fin := Lib.hid (hsub.out _ _ hL)
      clear hL kS hs0 hsub ca h3
      go_wp2_with fail
      go_ret
      exact ⟨rfl, fin.out⟩
     ·rw [hg] at see
      subst hm
      clear h h0 ho hl hf e1 e2 hi hpb hlen add hok1 hml hso hS hA hok hg
      go_enter Tryz.func35, Tryz.ntmps35
      go_wp2_with fail
      refine co.out.mono ?_
      rintro r w1 ⟨rfl, hx⟩
      obtain ⟨gb, k4, cs⟩ := see.out w1 hx
      replace cs := Lib.hid cs
      clear co hx see
      go_wp2_with fail
      refine cs.out.mono ?_
      rintro r w2 ⟨rfl, k4', k5, h2⟩
      have cl := Lib.hid (see2.out _ _ k4' h2)
      clear cs h2 see2 k4
      go_wp2_with fail
      refine cl.out.mono ?_
      rintro r w3 ⟨rfl, k6, h2⟩
      have h3 := h2.grow (drew_b w3)
      have hs0 : Hid (w3.drew.cell? ⟨pb, 4, none⟩ = some (gup gb) ∧ GsAt w3.drew w.heap.size g) := Lib.hid ⟨k6, hcell.out _ h3⟩
      clear cl h2 hcell
      generalize w.heap.size = nb at *
      go_wp2_with fail
      go_region_held3 (fun X => X.cell? ⟨pb, 4, none⟩ = some (gup gb) ∧ X.cell? ⟨nb, 0, none⟩ = some (.int .i64 g.conn) ∧ X.cell? ⟨nb, 1, none⟩ = some (.int .i64 g.chan) ∧ X.cell? ⟨nb, 2, none⟩ = some (tx g.tag) ∧ X.cell? ⟨nb, 3, none⟩ = some (.int .i64 g.most) ∧ X.cell? ⟨nb, 4, none⟩ = some (.bool g.noack) ∧ X.cell? ⟨nb, 5, none⟩ = some (.bool g.sole)) (first | with_reducible exact kS | with_reducible exact hs0.out)
       ((go_at_call 87; refine (ca.out _ _ hs0.out.1 (by assumption)).mono ?_; rintro r w'' ⟨rfl, hL, kS⟩))
      have fin := Lib.hid (hsub.out _ _ hL)
      clear hL kS hs0 hsub ca h3
      go_wp2_with fail
      go_ret
      exact ⟨rfl, fin.out⟩
    | true =>
     rw [hok, if_pos rfl] at hS
     obtain ⟨rfl, rfl⟩ := Prod.mk.inj hS
     have ca := Lib.hid (fun w1 gb => add.out w1 gb true _ hok rfl)
     generalize S.setG i d (addG d.G g) d.T = S2 at *
     rcases hw with hg | ⟨hg, hm⟩
     ·rw [hg] at see
      clear h h0 ho hl hf e1 e2 hi hpb hlen add hok1 hml hso hS hA hok see2 hg
      go_enter Tryz.func35, Tryz.ntmps35
      go_wp2_with fail
      refine co.out.mono ?_
      rintro r w1 ⟨rfl, hx⟩
      obtain ⟨gb, k4, cs⟩ := see.out w1 hx
      replace cs := Lib.hid cs
      clear co hx see
      go_wp2_with fail
      refine cs.out.mono ?_
      rintro r w2 ⟨rfl, k4', k5, h2⟩
      have h3 := h2.grow (drew_b w2)
      have hs0 : Hid (w2.drew.cell? ⟨pb, 4, none⟩ = some (gup gb) ∧ GsAt w2.drew w.heap.size g) := Lib.hid ⟨k4', hcell.out _ h3⟩
      clear cs h2 k4 hcell
      generalize w.heap.size = nb at *
      go_wp2_with fail
      go_region_held3 (fun X => X.cell? ⟨pb, 4, none⟩ = some (gup gb) ∧ X.cell? ⟨nb, 0, none⟩ = some (.int .i64 g.conn) ∧ X.cell? ⟨nb, 1, none⟩ = some (.int .i64 g.chan) ∧ X.cell? ⟨nb, 2, none⟩ = some (tx g.tag) ∧ X.cell? ⟨nb, 3, none⟩ = some (.int .i64 g.most) ∧ X.cell? ⟨nb, 4, none⟩ = some (.bool g.noack) ∧ X.cell? ⟨nb, 5, none⟩ = some (.bool g.sole)) (first | with_reducible exact kS | with_reducible exact hs0.out)
       ((go_at_call 87; refine (ca.out _ _ hs0.out.1 (by assumption)).mono ?_; rintro r w'' ⟨rfl, hL, kS⟩))
      have fin := Lib.hid (hsub.out _ _ hL)
      clear hL kS hs0 hsub ca h3
      go_wp2_with fail
      go_ret
      exact ⟨rfl, fin.out⟩
     ·rw [hg] at see
      subst hm
      clear h h0 ho hl hf e1 e2 hi hpb hlen add hok1 hml hso hS hA hok hg
      go_enter Tryz.func35, Tryz.ntmps35
      go_wp2_with fail
      refine co.out.mono ?_
      rintro r w1 ⟨rfl, hx⟩
      obtain ⟨gb, k4, cs⟩ := see.out w1 hx
      replace cs := Lib.hid cs
      clear co hx see
      go_wp2_with fail
      refine cs.out.mono ?_
      rintro r w2 ⟨rfl, k4', k5, h2⟩
      have cl := Lib.hid (see2.out _ _ k4' h2)
      clear cs h2 see2 k4
      go_wp2_with fail
      refine cl.out.mono ?_
      rintro r w3 ⟨rfl, k6, h2⟩
      have h3 := h2.grow (drew_b w3)
      have hs0 : Hid (w3.drew.cell? ⟨pb, 4, none⟩ = some (gup gb) ∧ GsAt w3.drew w.heap.size g) := Lib.hid ⟨k6, hcell.out _ h3⟩
      clear cl h2 hcell
      generalize w.heap.size = nb at *
      go_wp2_with fail
      go_region_held3 (fun X => X.cell? ⟨pb, 4, none⟩ = some (gup gb) ∧ X.cell? ⟨nb, 0, none⟩ = some (.int .i64 g.conn) ∧ X.cell? ⟨nb, 1, none⟩ = some (.int .i64 g.chan) ∧ X.cell? ⟨nb, 2, none⟩ = some (tx g.tag) ∧ X.cell? ⟨nb, 3, none⟩ = some (.int .i64 g.most) ∧ X.cell? ⟨nb, 4, none⟩ = some (.bool g.noack) ∧ X.cell? ⟨nb, 5, none⟩ = some (.bool g.sole)) (first | with_reducible exact kS | with_reducible exact hs0.out)
       ((go_at_call 87; refine (ca.out _ _ hs0.out.1 (by assumption)).mono ?_; rintro r w'' ⟨rfl, hL, kS⟩))
      have fin := Lib.hid (hsub.out _ _ hL)
      clear hL kS hs0 hsub ca h3
      go_wp2_with fail
      go_ret
      exact ⟨rfl, fin.out⟩
end
theorem uPqs : Tryz.prog.underlying 90 = some (.slice 131) := by kernel_rfl
theorem infPqs : (Tryz.prog.info? 131).map (fun i => (i.zero, i.size, i.bytes)) = some (some (.pointer none), 1, 8) := by kernel_rfl
theorem zeroPqs (w : World) : (zeroValue 131).run Tryz.prog w = .ok (.pointer none) w := by
 obtain ⟨i0, hi0, hz0, hz1, hz2⟩ := info_parts infPqs
 simp [zeroValue, typeInfo, hi0, hz0]
section
variable {B : Nat} {w0 w w' : World} {F R S X : List (Nat × Obj)} {g off n cap i j : Nat} {v : Value} {xs : List Value} {bs : List Nat} {a : Option Addr}
theorem qcut3 (h1 : i ≤ j) (h2 : j ≤ n) (h3 : n ≤ cap) (h4 : i < n) : ∀ w, (Instr.slice 90 (.slice (some ⟨g, off, none⟩) n cap) (some (.int .i64 i)) (some (.int .i64 j)) (some (.int .i64 n))).run Tryz.prog w = .ok (.slice (some ⟨g, off + i, none⟩) (j - i) (n - i)) w := by
 obtain ⟨i0, hi, hz0, hz1, hz2⟩ := info_parts infPqs
 intro w
 have e3 : ¬ n = i := by omega
 simp [Instr.slice, run_underlying uPqs, Instr.sliceBounds, Instr.sliceBound, asIntOf, h1, h2, h3, e3, sizeOf, typeInfo, hi, hz1, Go.WideShapes.add_plain]
theorem qcut_to (h1 : i ≤ cap) : ∀ w, (Instr.slice 90 (.slice (some ⟨g, off, none⟩) n cap) none (some (.int .i64 i)) none).run Tryz.prog w = .ok (.slice (some ⟨g, off, none⟩) i cap) w := by
 obtain ⟨i0, hi, hz0, hz1, hz2⟩ := info_parts infPqs
 intro w
 simp [Instr.slice, run_underlying uPqs, Instr.sliceBounds, Instr.sliceBound, asIntOf, h1, sizeOf, typeInfo, hi, Go.WideShapes.add_plain]
theorem qcut_from (h1 : j ≤ n) (h2 : n ≤ cap) : ∃ o, (j < n → o = off + j) ∧ ∀ w, (Instr.slice 90 (.slice (some ⟨g, off, none⟩) n cap) (some (.int .i64 j)) none none).run Tryz.prog w = .ok (.slice (some ⟨g, o, none⟩) (n - j) (cap - j)) w := by
 obtain ⟨i0, hi, hz0, hz1, hz2⟩ := info_parts infPqs
 by_cases h : cap = j
 ·exact ⟨off, fun _ => by omega, fun w => by simp [Instr.slice, run_underlying uPqs, Instr.sliceBounds, Instr.sliceBound, asIntOf, h1, h, sizeOf, typeInfo, hi]⟩
 ·exact ⟨off + j, fun _ => rfl, fun w => by simp [Instr.slice, run_underlying uPqs, Instr.sliceBounds, Instr.sliceBound, asIntOf, h1, h, sizeOf, typeInfo, hi, hz1, Go.WideShapes.add_plain]⟩
theorem qcut_one (h1 : i < cap) (h2 : j = i + 1) : ∀ w, (Instr.slice 90 (.slice (some ⟨g, off, none⟩) i cap) (some (.int .i64 i)) (some (.int .i64 j)) none).run Tryz.prog w = .ok (.slice (some ⟨g, off + i, none⟩) 1 (cap - i)) w := by
 obtain ⟨i0, hi, hz0, hz1, hz2⟩ := info_parts infPqs
 intro w
 have e1 : j ≤ cap := by omega
 have e2 : i ≤ j := by omega
 have e3 : ¬ cap = i := by omega
 have e4 : j - i = 1 := by omega
 simp [Instr.slice, run_underlying uPqs, Instr.sliceBounds, Instr.sliceBound, asIntOf, e1, e2, e3, e4, sizeOf, typeInfo, hi, hz1, Go.WideShapes.add_plain]
set_option maxHeartbeats 2000000 in
theorem deleteq_any (hs : SlIs 131 1 v n xs R) (hst : St B w0 w (X ++ R)) (hi : i < n) (hn : n ≤ 100000) (h1 : ∀ u ∈ xs, u.oneCell' = true) :
  Calls Tryz.prog 133 #[v, .int .i64 i, .int .i64 ((i : Int) + 1)] w fun e w' => ∃ v' R', e = .returned v' ∧ SlIs 131 1 v' (n - 1) (xs.eraseIdx i) R' ∧ St B w0 w' (X ++ R') := by
 obtain ⟨a, cap, rfl, -, -, ha⟩ := hs.form
 obtain ⟨g, off, rfl⟩ := ha i hi
 obtain ⟨i0, hi0, hz0, hz1, hz2⟩ := info_parts infPqs
 have hs1 := hs
 obtain ⟨L, rfl, hnc, hcm, hLl, hLx⟩ := hs.block
 rw [Nat.mul_one] at hLl hLx
 have hxl : xs.length = n := by rw [← hLx, List.length_take, List.length_drop]; omega
 obtain ⟨j, hj⟩ : ∃ j, j = i + 1 := ⟨_, rfl⟩
 have hji : ((i : Int) + 1) = (j : Int) := by omega
 have r1 := qcut3 (g := g) (off := off) (n := n) (cap := cap) (i := i) (j := j) (by omega) (by omega) hnc hi
 have r2 := qcut_to (g := g) (off := off) (n := n) (cap := cap) (i := i) (by omega)
 obtain ⟨o2, ho2, r3⟩ := qcut_from (g := g) (off := off) (n := n) (cap := cap) (j := j) (by omega) hnc
 have hdl : (xs.drop j).length = n - j := by rw [List.length_drop, hxl]
 have hrd : Reads w.drew (.slice (some ⟨g, o2, none⟩) (n - j) (cap - j)) (n - j) 1 (xs.drop j) := by
  refine ⟨by rw [hdl, Nat.mul_one], .inr ⟨_, _, rfl, fun k u hk => ?_⟩⟩
  have hk' := (List.getElem?_eq_some_iff.1 hk).1
  rw [Go.WideShapes.add_plain, ho2 (by omega), Nat.add_assoc]
  rw [List.getElem?_drop] at hk
  exact hs1.cellAt hst.drew hk
 obtain ⟨W1, hr1, hst1⟩ := run_append_room_st (P := Tryz.prog) (w := w.drew) (off := off) (sLen := i) (sCap := cap) 90 0 131 i0 uPqs hi0 hz1 hst.drew hrd (fun u hu => h1 u (List.mem_of_mem_drop hu)) (by omega) (by rw [hdl]; omega)
 rw [Nat.mul_one] at hst1
 obtain ⟨m, hm⟩ : ∃ m, m = n - 1 := ⟨_, rfl⟩
 rw [show i + (n - j) = m by omega] at hr1
 have r4 := qcut_one (g := g) (off := off) (cap := cap) (i := m) (j := n) (by omega) (by omega)
 obtain ⟨W2, c, hr2, hcl, hst2⟩ := run_clear_st (P := Tryz.prog) (k := 1) (cap := cap - m) (dp := some ⟨g, off + m, none⟩) (off := off + m) 90 0 131 uPqs zeroPqs (size := 1) rfl ptr_one hst1 (fun _ => rfl) (by rw [length_splice _ _ _ (by omega)]; omega)
 have fin : Hid (∃ v' R', Ending.returned (.slice (some ⟨g, off, none⟩) m cap) = .returned v' ∧ SlIs 131 1 v' m (xs.eraseIdx i) R' ∧ St B w0 W2 (X ++ R')) := Lib.hid (by
  refine ⟨_, _, rfl, SlIs.of (by omega) hcm ?_ ?_, hst2⟩
  ·rw [length_splice _ _ _ (by rw [length_splice _ _ _ (by omega)]; omega), length_splice _ _ _ (by omega)]; omega
  ·rw [Nat.mul_one, hm, hj]
   exact erase_splice hi (by omega) hLx (by omega))
 rw [← hm, hji]
 have hz3 : ((i : Int) == (j : Int)) = false := by rw [beq_eq_false_iff_ne]; omega
 clear hs hs1 hst hrd hst1 hst2 hz0 hz1 hz2 hi0 hLx hLl hcm hnc hi hn ho2 hcl hj hm hxl hdl h1 hji ha
 go_enter Tryz.func133, Tryz.ntmps133
 go_wp2_with fail
 go_still_tail 6, (by kernel_rfl)
 change wpList _ _ _ _ _ w.drew
 generalize w.drew = w4 at *
 go_wp2_with (first | refine wpList_append_go rfl (.tmp 22) (.tmp 25) 90 90 rfl _ _ rfl rfl hr1 ?_ | refine wpList_clear_go rfl (.tmp 31) 90 rfl _ rfl hr2 ?_)
 go_ret
 exact fin.out
set_option maxHeartbeats 1000000 in
theorem indexq_any {pb k : Nat} (hrows : ∀ (i : Nat) b, bs[i]? = some b → ∃ g off, a = some ⟨g, off, none⟩ ∧ w.cell? ⟨g, off + i, none⟩ = some (bpt b)) (hnd : bs.Nodup) (hob : ∀ b ∈ bs, ∃ c, w.heap[b]? = some (.cells c 135 (0, 0))) (hl : bs.length ≤ 100000) (hk : bs[k]? = some pb) :
  Calls Tryz.prog 132 #[.slice a bs.length cap, bpt pb] w fun e w' => e = .returned (.int .i64 k) ∧ w' = w := by
 replace hrows := Lib.hid hrows
 replace hnd := Lib.hid hnd
 replace hob := Lib.hid hob
 have uPl : Tryz.prog.underlying 131 = some (.pointer 135) := by kernel_rfl
 obtain ⟨j0, hj0, hj1⟩ : ∃ j, Tryz.prog.info? 135 = some j ∧ j.size = 5 := by
  have h : (Tryz.prog.info? 135).map (fun i => i.size) = some 5 := by kernel_rfl
  simpa [Option.map_eq_some_iff] using h
 have heq := Lib.hid (run_eql_ptr_same (P := Tryz.prog) w ⟨pb, 0, none⟩ uPl hj0)
 obtain ⟨cp, hcp⟩ := hob.out pb (List.mem_of_getElem? hk)
 have hoth : Hid (∀ x ∈ bs, x ≠ pb → (binOp .eql 131 (bpt pb) (bpt x)).run Tryz.prog w = .ok (.bool false) w) := Lib.hid fun x hx hne => by
  obtain ⟨cx, hcx⟩ := hob.out x hx
  exact run_eql_ptr_other (P := Tryz.prog) (a := ⟨pb, 0, none⟩) (b := ⟨x, 0, none⟩) w uPl hj0 (by rw [hj1]; decide) (fun e => hne (congrArg Addr.block e).symm) hcp hcx
 clear hcp hj0 hj1 uPl hob
 go_enter Tryz.func132, Tryz.ntmps132
 go_wp2_with fail
 go_loopg [8] bs.length (fun g i wt => ∃ q : Nat, i = .int .i64 q ∧ q + g = bs.length ∧ Hid (q ≤ k) ∧ wt = w)
 case atStart => exact ⟨0, rfl, by omega, Lib.hid (by omega), rfl⟩
 case round =>
  obtain ⟨q, rfl, hq, hle, rfl⟩ := hrel
  have hq0 : (0 : Int) ≤ q := by omega
  have hkl := (List.getElem?_eq_some_iff.1 hk).1
  have hlt : q < bs.length := by have := hle.out; omega
  have hx : bs[q]? = some bs[q] := List.getElem?_eq_getElem hlt
  generalize bs[q] = x at hx
  obtain ⟨a1, o1, rfl, k1⟩ := hrows.out q x hx
  have hq1 : (q : Int) < bs.length := by omega
  by_cases hb : x = pb
  ·subst hb
   have e : q = k := (List.getElem?_inj (l := bs) hlt hnd.out).1 (by rw [hx, hk])
   subst e
   have hq := heq.out
   clear hx hk hle hrows hnd hoth
   go_wp2_with fail
   go_ret
   exact ⟨rfl, rfl⟩
  ·have hne : q < k := by
    have := hle.out
    rcases Nat.lt_or_ge q k with h | h
    ·exact h
    ·exfalso
     obtain rfl : q = k := by omega
     rw [hx] at hk
     cases hk
     exact hb rfl
   replace hne := Lib.hid hne
   have hq := hoth.out x (List.mem_of_getElem? hx) hb
   clear hx hle hrows hnd hb
   go_wp2_with fail
   go_roundg (bs.length - (q + 1))
   case measure => omega
   case rel => exact ⟨q + 1, by go_num, by omega, Lib.hid (by have := hne.out; omega), rfl⟩
theorem apQ : Ap Tryz.prog 90 131 1 8 := ⟨uPqs, by
 obtain ⟨i0, hi0, hz0, hz1, hz2⟩ := info_parts infPqs
 exact ⟨i0, _, hi0, hz0, hz1, hz2, rfl⟩⟩
theorem bpts_one (bs : List Nat) : ∀ u ∈ bs.map bpt, u.oneCell' = true := fun u hu => by
 obtain ⟨b, -, rfl⟩ := List.mem_map.1 hu
 rfl
def CloneQ (B : Nat) (w0 : World) (X : List (Nat × Obj)) (bs : List Nat) (e : Ending) (w' : World) : Prop := ∃ a c S', e = .returned (.slice a bs.length c) ∧ SlIs 131 1 (.slice a bs.length c) bs.length (bs.map bpt) S' ∧ St B w0 w' (X ++ S')
set_option maxHeartbeats 1000000 in
theorem cloneq_any {s : Value} (hs : SlIs 131 1 s bs.length (bs.map bpt) S) (hst : St B w0 w (X ++ S)) (hn : bs.length ≤ 100000) :
  Calls Tryz.prog 125 #[s] w (CloneQ B w0 (X ++ S) bs) := by
 have hst1 := hst.alloc (.cells #[] 131)
 have hst2 := hst1.perm (H' := (X ++ S) ++ [(w.heap.size, .cells #[] 131)]) (List.perm_append_singleton _ _).symm
 have hrd := SlIs.reads (A := (w.heap.size, .cells #[] 131) :: X) hs hst1
 have hemp : SlIs 131 1 (.slice (some ⟨w.heap.size, 0, none⟩) 0 0) 0 [] [(w.heap.size, .cells #[] 131)] := SlIs.made rfl (by unfold maxLen; omega)
 obtain ⟨a2, c2, W2, F2, hr2, hs2, hst3⟩ := apQ.append hemp hst2 hrd (bpts_one bs) (by unfold maxLen; omega) (by omega)
 rw [Nat.zero_add] at hr2 hs2
 rw [List.nil_append] at hs2
 have fin : CloneQ B w0 (X ++ S) bs (.returned (.slice a2 bs.length c2)) W2 := ⟨a2, c2, F2, rfl, hs2, hst3⟩
 have fin0 : s = .slice none 0 0 → CloneQ B w0 (X ++ S) bs (.returned (.slice none 0 0)) w := fun e => by
  subst e
  obtain ⟨a, cap, e, -⟩ := SlIs.form hs
  cases bs with
  | nil => exact ⟨none, 0, [], rfl, SlIs.nil, by simpa using hst⟩
  | cons y M => cases e
 obtain ⟨a, cap, rfl, hc1, hc2, ha⟩ := SlIs.form hs
 replace fin := Lib.hid fin
 replace fin0 := Lib.hid fin0
 have hq := fun w => Lib.run_eql_slice_nil (P := Tryz.prog) w 90 131 a bs.length cap 0 0 uPqs
 have hnil : a = none → (Value.slice a bs.length cap) = .slice none 0 0 := fun e => by
  subst e
  obtain ⟨_, ⟨h, _⟩ | ⟨_, _, _, _, h, _⟩⟩ := hs
  ·exact h
  ·cases h
 replace hnil := Lib.hid hnil
 clear hs hst hst1 hst2 hrd hemp hs2 hst3 hc1 hc2 ha
 cases a with
 | none =>
  have h := hnil.out rfl
  simp only [Value.slice.injEq, true_and] at h
  obtain ⟨h1, rfl⟩ := h
  obtain rfl : bs = [] := List.eq_nil_of_length_eq_zero h1
  simp only [List.length_nil] at *
  clear hnil fin hr2
  go_enter Tryz.func125, Tryz.ntmps125
  go_wp2_with fail
  go_ret
  exact fin0.out trivial
 | some ad =>
  clear hnil fin0
  go_enter Tryz.func125, Tryz.ntmps125
  go_wp2_with (refine wpList_append_go rfl (.tmp 5) (.tmp 6) 90 90 rfl _ _ rfl rfl hr2 ?_)
  go_ret
  exact fin.out
end
def EachJ (sb : Nat) (fv : Value) (bs : List Nat) (J : List (Nat × Obj) → Nat → World → Prop) (g : Nat) (a' : Act) (w' : World) : Prop :=
 ∃ (i cp : Nat) (a : Option Addr) (Y : List (Nat × Obj)), i + g = bs.length ∧ Fr 23 [(0, bpt sb), (1, fv), (4, .slice a bs.length cp), (5, .int .i64 i)] a' ∧ SlIs 131 1 (.slice a bs.length cp) bs.length (bs.map bpt) Y ∧ J Y i w'
section
variable {qT : Bool} {B : Nat} {w0 w w' : World} {sb slb xb pb qb gb c c' i k b : Nat} {bs : List Nat} {S S' : Sto} {L : List Pq} {xv v : Value} {d d' : Plq} {R SX SS F F' Z : List (Nat × Obj)} {o : Opt} {M : List Ent} {G : List Gst} {T : Nat} {n : List UInt8} {q z bt : Int} {e e0 : Ent} {g : Gst}
set_option maxHeartbeats 2000000 in
theorem seach_any {g : Nat} {cb : Array Value} {J : List (Nat × Obj) → Nat → World → Prop} (hgo : ∀ args w, (callFunc g args).run Tryz.prog w = .ok (.enter g args) w) (h : StoIs qT B w0 w sb bs S F c)
  (h0 : ∀ Y w', StoIs qT B w0 w' sb bs S (Y ++ F) c → J Y 0 w')
  (hr : ∀ Y i w', J Y i w' → ∃ O, St B w0 w' (O ++ Y))
  (hs : ∀ Y (i b : Nat) w', bs[i]? = some b → J Y i w' → Calls Tryz.prog g (#[bpt b] ++ cb) w' fun e w2 => e = noneV ∧ J Y (i + 1) w2) :
  Calls Tryz.prog 66 #[bpt sb, .func (.func g) #[] cb] w fun e w' => e = noneV ∧ ∃ Y, J Y bs.length w' := by
 have hlen : bs.length ≤ 8 := by rw [h.len]; exact h.fine.few
 obtain ⟨L, slb, xv, v, R, SX, SS, h1, h2⟩ := h
 have hp : ∀ Y, ((stoO sb slb xv v S L R SX SS ++ F) ++ Y).Perm (stoO sb slb xv v S L R SX SS ++ (Y ++ F)) := fun Y => perm_by fun a => by simp only [List.count_append]; omega
 have h3 : St B w0 w ((((sb, soO slb xv v S) :: (SX ++ (SS ++ pqsO L))) ++ F) ++ R) := h2.perm (perm_by fun a => by simp only [stoO, List.count_append, List.count_cons]; omega)
 have c2 := (h2.seeS (List.mem_append_left _ List.mem_cons_self)).c2
 have cc : Hid (Calls Tryz.prog 125 #[v] w fun e w' => ∃ a cp Y, e = .returned (.slice a bs.length cp) ∧ SlIs 131 1 (.slice a bs.length cp) bs.length (bs.map bpt) Y ∧ J Y 0 w') := Lib.hid ((cloneq_any h1.sl h3 (by omega)).mono (by
  rintro e w' ⟨a, cp, Y, rfl, hsl, hst⟩
  refine ⟨a, cp, Y, rfl, hsl, h0 Y w' ⟨L, slb, xv, v, R, SX, SS, h1, hst.perm (perm_by fun a => ?_)⟩⟩
  simp only [stoO, List.count_append, List.count_cons]; omega))
 obtain ⟨av, cv, rfl, -⟩ := h1.sl.form
 replace hs := Lib.hid hs
 replace hr := Lib.hid hr
 clear h0 h1 h2 h3 hp
 go_enter Tryz.func66, Tryz.ntmps66
 go_wp2_with fail
 refine wp_scope_ghost 0 (EachJ sb (.func (.func g) #[] cb) bs J) rfl ?_ ?_
 ·clear cc c2
  rintro m a' w' ⟨i, cp, a, Y, hi, hfr, hsl, hJ⟩
  obtain ⟨q, rfl, hl'⟩ := hfr.lit
  clear hfr
  simp only [List.mem_cons, List.not_mem_nil, or_false, forall_eq_or_imp, forall_eq] at hl'
  obtain ⟨f0, f1, f4, f5⟩ := hl'
  simp only [List.range, List.range.loop, List.map, f0, f1, f4, f5]
  clear f0 f1 f4 f5
  have hrow : ∀ (j : Nat) b, bs[j]? = some b → ∃ g off, a = some ⟨g, off, none⟩ ∧ w'.cell? ⟨g, off + j, none⟩ = some (bpt b) := fun j b hb => by
   obtain ⟨O, hO⟩ := hr.out Y i w' hJ
   obtain ⟨a', cap', e, -, -, ha⟩ := hsl.form
   cases e
   have hl := (List.getElem?_eq_some_iff.1 hb).1
   obtain ⟨g, off, rfl⟩ := ha j hl
   exact ⟨g, off, rfl, hsl.cellAt hO (by rw [List.getElem?_map, hb]; rfl)⟩
  have hi0 : (0 : Int) ≤ i := by omega
  by_cases hlt : i < bs.length
  ·have hx : bs[i]? = some bs[i] := List.getElem?_eq_getElem hlt
   generalize bs[i] = b at hx
   have hi1 : (i : Int) < bs.length := by omega
   have hne : ((i : Int) == bs.length) = false := by rw [beq_eq_false_iff_ne]; omega
   obtain ⟨g1, o1, rfl, k1⟩ := hrow i b hx
   have cc := Lib.hid (hs.out Y i b w' hx hJ)
   have nxt : Hid (∀ w2 a', J Y (i + 1) w2 → Fr 23 [(0, bpt sb), (1, .func (.func g) #[] cb), (4, .slice (some ⟨g1, o1, none⟩) bs.length cp), (5, .int .i64 ((i + 1 : Nat) : Int))] a' → ∃ k, k < m ∧ EachJ sb (.func (.func g) #[] cb) bs J k a' w2) :=
    Lib.hid fun w2 a' hJ2 hf => ⟨m - 1, by omega, i + 1, cp, _, Y, by omega, hf, hsl, hJ2⟩
   clear hx hrow hs hJ hsl hr
   go_wp2_with fail
   refine cc.out.mono ?_
   rintro e w2 ⟨rfl, hJ2⟩
   replace nxt := Lib.hid (fun a' => nxt.out w2 a' hJ2)
   clear cc hJ2 k1
   go_wp2_with fail
   refine wp_goto ?_
   exact ⟨rfl, nxt.out _ ⟨rfl, rfl, by simp⟩⟩
  ·obtain rfl : i = bs.length := by omega
   have fin : Hid (∃ Y, J Y bs.length w') := Lib.hid ⟨Y, hJ⟩
   clear hrow hs hJ hsl hr
   go_wp2_with fail
   simp only [Exit.jump]
   exact bodyPost_ret (results_none rfl _ _ _) rfl ⟨rfl, fin.out⟩
 ·intro H
  clear hs hr
  go_wp2_with fail
  refine cc.out.mono ?_
  rintro e w1 ⟨a, cp, Y, rfl, hsl, hJ⟩
  replace hJ := Lib.hid hJ
  replace hsl := Lib.hid hsl
  clear cc c2
  go_wp2_with fail
  refine wp_label ?_
  go_step
  go_step
  exact H bs.length _ _ ⟨0, cp, a, Y, by omega, ⟨rfl, rfl, by simp⟩, hsl.out, hJ.out⟩
def EnsR (qT : Bool) (B : Nat) (w0 : World) (sb : Nat) (bs : List Nat) (S : Sto) (F : List (Nat × Obj)) (c : Nat) (l : List Ent) (r : Ending) (w' : World) : Prop :=
 ∃ a cp Y, r = .returned (.slice a l.length cp) ∧ EnsIs (.slice a l.length cp) l Y ∧ StoIs qT B w0 w' sb bs S (Y ++ F) c
set_option maxHeartbeats 1000000 in
theorem st_ready (h : StoIs qT B w0 w sb bs S F c) (n : List UInt8) : Calls Tryz.prog 20 #[bpt sb, tx n] w (EnsR qT B w0 sb bs S F c (S.readyOf n)) := by
 have cn := Lib.hid (named_any h n)
 unfold Sto.readyOf
 rcases idx_at S n with ⟨e1, e2⟩ | ⟨i, d, e1, hi, e2, -⟩
 ·rw [e2]
  rw [e1, ptrQ_none] at cn
  have fin : Hid (∀ w', Below w.heap.size w w' → EnsR qT B w0 sb bs S F c [] (.returned (.slice none 0 0)) w') := Lib.hid fun w' hb => ⟨none, 0, [], rfl, EnsIs.nil, h.grow hb⟩
  simp only
  clear e1 e2 h
  go_enter Tryz.func20, Tryz.ntmps20
  go_wp2_with fail
  refine cn.out.mono ?_
  rintro e w1 ⟨rfl, hb⟩
  replace fin := Lib.hid (fin.out w1 hb)
  clear cn hb
  go_wp2_with fail
  go_ret
  exact fin.out
 ·rw [e2]
  obtain ⟨pb, hpb⟩ := h.blk hi
  rw [e1, ptrQ_some hpb] at cn
  have see : Hid (∀ w1, Below w.heap.size w w1 → ∃ qb, w1.cell? ⟨pb, 3, none⟩ = some (rptr qb) ∧ Calls Tryz.prog 69 #[rptr qb] w1 (EnsR qT B w0 sb bs S F c d.M)) := Lib.hid fun w1 hb => by
   obtain ⟨pb', qb, gb, h1, h2, ⟨Z, h3, h4⟩, -⟩ := (h.grow hb).place hi
   rw [hpb] at h1
   obtain rfl := Option.some.inj h1
   refine ⟨qb, h2.c3, (qu_all h3).mono ?_⟩
   rintro r w' ⟨a, cp, Y, rfl, hs, h5⟩
   have h6 := (h4 _ _ (Y ++ F) (h5.permF (perm_by fun a => by simp only [List.count_append]; omega))).2
   rw [setM_same hi] at h6
   exact ⟨a, cp, Y, rfl, hs, h6⟩
  simp only
  generalize d.M = M at *
  clear e1 e2 h hi hpb
  go_enter Tryz.func20, Tryz.ntmps20
  go_wp2_with fail
  refine cn.out.mono ?_
  rintro e w1 ⟨rfl, hb⟩
  obtain ⟨qb, k3, ca⟩ := see.out w1 hb
  replace ca := Lib.hid ca
  clear cn hb see
  go_wp2_with fail
  refine ca.out.mono ?_
  rintro e w2 ⟨a, cp, Y, rfl, hs, h2⟩
  have fin : Hid (EnsR qT B w0 sb bs S F c M (.returned (.slice a M.length cp)) w2) := Lib.hid ⟨a, cp, Y, rfl, hs, h2⟩
  clear ca hs h2
  go_wp2_with fail
  go_ret
  exact fin.out
def GssR (qT : Bool) (B : Nat) (w0 : World) (sb : Nat) (bs : List Nat) (S : Sto) (F : List (Nat × Obj)) (c : Nat) (l : List Gst) (r : Ending) (w' : World) : Prop :=
 ∃ a cp Y, r = .returned (.slice a l.length cp) ∧ GssIs (.slice a l.length cp) l Y ∧ StoIs qT B w0 w' sb bs S (Y ++ F) c
set_option maxHeartbeats 1000000 in
theorem st_guests (h : StoIs qT B w0 w sb bs S F c) (n : List UInt8) : Calls Tryz.prog 40 #[bpt sb, tx n] w (GssR qT B w0 sb bs S F c (S.guestsOf n)) := by
 have cn := Lib.hid (named_any h n)
 unfold Sto.guestsOf
 rcases idx_at S n with ⟨e1, e2⟩ | ⟨i, d, e1, hi, e2, -⟩
 ·rw [e2]
  rw [e1, ptrQ_none] at cn
  have fin : Hid (∀ w', Below w.heap.size w w' → GssR qT B w0 sb bs S F c [] (.returned (.slice none 0 0)) w') := Lib.hid fun w' hb => ⟨none, 0, [], rfl, SlIs.nil, h.grow hb⟩
  simp only
  clear e1 e2 h
  go_enter Tryz.func40, Tryz.ntmps40
  go_wp2_with fail
  refine cn.out.mono ?_
  rintro e w1 ⟨rfl, hb⟩
  replace fin := Lib.hid (fin.out w1 hb)
  clear cn hb
  go_wp2_with fail
  go_ret
  exact fin.out
 ·rw [e2]
  obtain ⟨pb, hpb⟩ := h.blk hi
  rw [e1, ptrQ_some hpb] at cn
  have see : Hid (∀ w1, Below w.heap.size w w1 → ∃ gb, w1.cell? ⟨pb, 4, none⟩ = some (gup gb) ∧ Calls Tryz.prog 97 #[gup gb] w1 (GssR qT B w0 sb bs S F c d.G)) := Lib.hid fun w1 hb => by
   obtain ⟨gb, Z, h1, h2, h3⟩ := (h.grow hb).placeG hi hpb
   refine ⟨gb, h1, (gu_all h2).mono ?_⟩
   rintro r w' ⟨a, cp, Y, rfl, hs, h5⟩
   have h6 := (h3 _ _ _ (Y ++ F) (h5.permF (perm_by fun a => by simp only [List.count_append]; omega))).2
   rw [setG_same hi] at h6
   exact ⟨a, cp, Y, rfl, hs, h6⟩
  simp only
  generalize d.G = M at *
  clear e1 e2 h hi hpb
  go_enter Tryz.func40, Tryz.ntmps40
  go_wp2_with fail
  refine cn.out.mono ?_
  rintro e w1 ⟨rfl, hb⟩
  obtain ⟨qb, k3, ca⟩ := see.out w1 hb
  replace ca := Lib.hid ca
  clear cn hb see
  go_wp2_with fail
  refine ca.out.mono ?_
  rintro e w2 ⟨a, cp, Y, rfl, hs, h2⟩
  have fin : Hid (GssR qT B w0 sb bs S F c M (.returned (.slice a M.length cp)) w2) := Lib.hid ⟨a, cp, Y, rfl, hs, h2⟩
  clear ca hs h2
  go_wp2_with fail
  go_ret
  exact fin.out
theorem StoIs.setB {cs : Array Value} {U : TypeId} {fr : Nat × Nat} {X Y : List (Nat × Obj)} (h : StoIs qT B w0 w sb bs S (X ++ (b, .cells cs U fr) :: Y) c) (i : Nat) (u : Value) : StoIs qT B w0 (w.setCell ⟨b, i, none⟩ u) sb bs S (X ++ (b, .cells (cs.setIfInBounds i u) U fr) :: Y) c :=
 ((h.permF List.perm_middle).setF i u).permF List.perm_middle.symm
def NamesJ (qT : Bool) (B : Nat) (w0 : World) (sb : Nat) (bs : List Nat) (S : Sto) (F : List (Nat × Obj)) (c nb : Nat) (Y : List (Nat × Obj)) (i : Nat) (w' : World) : Prop :=
 ∃ u Z, TssIs u ((S.L.take i).map (·.name)) Z ∧ StoIs qT B w0 w' sb bs S ((nb, .cells #[u] 47) :: (Z ++ (Y ++ F))) c
set_option maxHeartbeats 2000000 in
theorem names_one {nb : Nat} {Y : List (Nat × Obj)} (hb : bs[i]? = some pb) (hlen : bs.length = S.L.length) (h : NamesJ qT B w0 sb bs S F c nb Y i w) :
  Calls Tryz.prog 67 #[bpt pb, bpt nb] w fun e w2 => e = noneV ∧ NamesJ qT B w0 sb bs S F c nb Y (i + 1) w2 := by
 obtain ⟨u, Z, hu, h1⟩ := h
 have hil : i < S.L.length := by have := (List.getElem?_eq_some_iff.1 hb).1; omega
 have hd : S.L[i]? = some S.L[i] := List.getElem?_eq_getElem hil
 generalize S.L[i] = d at hd
 have hfew := h1.fine.few
 obtain ⟨qb, gb, hs⟩ := h1.seeP hb hd
 have k0 := hs.c0
 have kn : w.cell? ⟨nb, 0, none⟩ = some u := h1.cell List.mem_cons_self rfl
 have h2 := h1.grow (drew_b w)
 obtain ⟨O, o1, -, o2⟩ := h2.beside
 have hpm : ∀ (v : Value) Z, (O ++ ((nb, Obj.cells #[v] 47 (0, 0)) :: (Z ++ (Y ++ F)))).Perm ((O ++ ((nb, .cells #[v] 47) :: (Y ++ F))) ++ Z) := fun v Z => perm_by fun a => by
  simp only [List.count_append, List.count_cons]; omega
 have e1 : ((S.L.take i).map (·.name)) ++ [d.name] = (S.L.take (i + 1)).map (·.name) := by
  rw [List.take_add_one, hd, List.map_append]; rfl
 obtain ⟨a2, c2, W2, Z2, hrun, hu2, hst2⟩ := TssIs.append (X := O ++ ((nb, .cells #[u] 47) :: (Y ++ F))) hu (o1.perm (hpm u Z)) d.name (by rw [List.length_map, List.length_take]; omega)
 rw [e1] at hu2
 have hst3 := hst2.perm (hpm u Z2).symm
 have hS := o2 _ _ hst3
 have f1 := hS.soft (b := nb) List.mem_cons_self 0
 have k1 : W2.cell? ⟨nb, 0, none⟩ = some u := hS.cell List.mem_cons_self rfl
 have fin : Hid (NamesJ qT B w0 sb bs S F c nb Y (i + 1) (W2.setCell ⟨nb, 0, none⟩ (.slice a2 (((S.L.take i).map (·.name)).length + 1) c2))) := Lib.hid ⟨_, Z2, hu2, hS.setF 0 _⟩
 obtain ⟨au, cu, rfl⟩ := hu.form
 have d2 : (w.alloc (.cells #[tx d.name] 9)).drew.cell? ⟨nb, 0, none⟩ = some (.slice au (((S.L.take i).map (·.name)).length) cu) := (h2.alloc (.cells #[tx d.name] 9)).cell (b := nb) (List.mem_cons_of_mem _ List.mem_cons_self) rfl
 have run2 : AppRun Tryz.prog 47 (.slice au (((S.L.take i).map (·.name)).length) cu) (.slice (some ⟨w.heap.size, 0, none⟩) 1 1) ((w.alloc (.cells #[tx d.name] 9)).drew) (.slice a2 (((S.L.take i).map (·.name)).length + 1) c2) W2 := ⟨hrun⟩
 have d0 : w.drew.cell? ⟨pb, 0, none⟩ = some (tx d.name) := k0
 have dn : w.drew.cell? ⟨nb, 0, none⟩ = some (.slice au (((S.L.take i).map (·.name)).length) cu) := kn
 generalize ((S.L.take i).map (·.name)).length = q0 at *
 generalize d.name = m at *
 generalize q0 + 1 = q1 at *
 clear hrun k0 kn hS hst3 hst2 hu2 hpm o1 o2 h2 h1 hs hu e1 hfew hd hil hlen hb
 go_enter Tryz.func67, Tryz.ntmps67
 go_wp2_with fail
 go_region_law (refine step_app (.tmp 3) (.tmp 8) 47 run2 rfl rfl (by simp [Act.eval]) (by simp [Act.eval]) ?_)
 all_goals
  clear run2 d0 dn d2 f1 k1
  go_wp2_with fail
  exact bodyPost_end (results_none rfl _ _ _) rfl ⟨rfl, fin.out⟩
set_option maxHeartbeats 2000000 in
theorem st_names (h : StoIs qT B w0 w sb bs S F c) : Calls Tryz.prog 19 #[bpt sb] w fun e w' => ∃ u Z, e = .returned u ∧ TssIs u (S.L.map (·.name)) Z ∧ StoIs qT B w0 w' sb bs S (Z ++ F) c := by
 have h1 := h.alloc (.cells #[.slice none 0 0] 47)
 have hlen := h.len
 have hgo : ∀ (args : Array Value) (w : World), (callFunc 67 args).run Tryz.prog w = .ok (.enter 67 args) w := fun args w => by kernel_rfl
 have h0 : ∀ Y w', StoIs qT B w0 w' sb bs S (Y ++ ((w.heap.size, .cells #[.slice none 0 0] 47) :: F)) c → NamesJ qT B w0 sb bs S F c w.heap.size Y 0 w' := fun Y w' h' => ⟨_, [], TssIs.nil, h'.permF List.perm_middle⟩
 have hr : ∀ Y i w', NamesJ qT B w0 sb bs S F c w.heap.size Y i w' → ∃ O, St B w0 w' (O ++ Y) := by
  rintro Y i w' ⟨u, Z, hu, h'⟩
  obtain ⟨O, o1, -⟩ := h'.beside
  have hp : (O ++ ((w.heap.size, Obj.cells #[u] 47 (0, 0)) :: (Z ++ (Y ++ F)))).Perm ((O ++ ((w.heap.size, .cells #[u] 47) :: (Z ++ F))) ++ Y) := perm_by fun a => by simp only [List.count_append, List.count_cons]; omega
  exact ⟨_, o1.perm hp⟩
 have hs : ∀ Y (i b : Nat) w', bs[i]? = some b → NamesJ qT B w0 sb bs S F c w.heap.size Y i w' → Calls Tryz.prog 67 (#[bpt b] ++ #[bpt w.heap.size]) w' fun e w2 => e = noneV ∧ NamesJ qT B w0 sb bs S F c w.heap.size Y (i + 1) w2 := fun Y i b w' hb hJ => names_one hb hlen hJ
 have ce0 := seach_any (g := 67) (cb := #[bpt w.heap.size]) (J := NamesJ qT B w0 sb bs S F c w.heap.size) hgo h1 h0 hr hs
 have ce : Hid (Calls Tryz.prog 66 #[bpt sb, .func (.func 67) #[] #[bpt w.heap.size]] (w.alloc (.cells #[.slice none 0 0] 47)) fun e w' => e = noneV ∧ ∃ u Z, w'.cell? ⟨w.heap.size, 0, none⟩ = some u ∧ TssIs u (S.L.map (·.name)) Z ∧ StoIs qT B w0 w' sb bs S (Z ++ F) c) := by
  refine Lib.hid (ce0.mono ?_)
  rintro e w' ⟨rfl, Y, u, Z, hu, h'⟩
  rw [hlen, List.take_of_length_le (Nat.le_refl _)] at hu
  exact ⟨rfl, u, Z, h'.cell List.mem_cons_self rfl, hu, h'.sub ((List.Sublist.append (List.Sublist.refl Z) (List.sublist_append_right Y F)).cons _)⟩
 clear h h1 hlen ce0 h0 hr hs hgo
 generalize S.L.map (·.name) = l at *
 go_enter Tryz.func19, Tryz.ntmps19
 go_wp2_with fail
 refine ce.out.mono ?_
 rintro e w1 ⟨rfl, u, Z, k0, hu, h1⟩
 have fin : Hid (∃ u' Z, Ending.returned u = .returned u' ∧ TssIs u' l Z ∧ StoIs qT B w0 w1 sb bs S (Z ++ F) c) := Lib.hid ⟨u, Z, rfl, hu, h1⟩
 obtain ⟨au, cu, rfl⟩ := hu.form
 clear ce hu h1
 go_wp2_with fail
 go_ret
 exact fin.out
end
theorem letGo_heldOk {S : Sto} (h : HeldOk S) (b : Int) : HeldOk (S.letGo b) := fun x hx => by
 obtain ⟨y, hy, hle⟩ := letGo_held hx
 have := h y hy
 omega
theorem dones_heldOk : ∀ (M : List Ent) {S : Sto}, HeldOk S → HeldOk (S.dones M)
 | [], S, h => h
 | e :: M, S, h => dones_heldOk M (letGo_heldOk h e.body)
def EmptyJ (qT : Bool) (B : Nat) (w0 : World) (sb pb : Nat) (bs : List Nat) (S : Sto) (F : List (Nat × Obj)) (c : Nat) (M : List Ent) (g : Nat) (a' : Act) (w' : World) : Prop :=
 ∃ (i cp : Nat) (a : Option Addr) (Y : List (Nat × Obj)), i + g = M.length ∧ Fr 25 [(0, bpt sb), (1, bpt pb), (5, .slice a M.length cp), (6, .int .i64 i)] a' ∧ EnsIs (.slice a M.length cp) M Y ∧ StoIs qT B w0 w' sb bs (S.dones (M.take i)) (Y ++ F) c
section
variable {qT : Bool} {B : Nat} {w0 w w' : World} {sb slb xb pb qb gb c c' i k b : Nat} {bs : List Nat} {S S' : Sto} {L : List Pq} {xv v : Value} {d d' : Plq} {R SX SS F F' Z : List (Nat × Obj)} {o : Opt} {M : List Ent} {G : List Gst} {T : Nat} {n : List UInt8} {q z bt : Int} {e e0 : Ent} {g : Gst}
theorem StoIs.reads {a : Option Addr} {cp : Nat} {Y : List (Nat × Obj)} (h : StoIs qT B w0 w sb bs S F c) (hs : EnsIs (.slice a M.length cp) M Y) (hp : F.Perm (F' ++ Y)) : ReadEs w a M := by
 obtain ⟨O, o1, -⟩ := h.beside
 refine hs.read (X := O ++ F') (o1.perm ?_)
 rw [List.append_assoc]
 exact hp.append_left O
theorem dones_step {M : List Ent} {i : Nat} {e : Ent} (h : M[i]? = some e) : S.dones (M.take (i + 1)) = (S.dones (M.take i)).letGo e.body := by
 unfold Sto.dones
 rw [List.take_add_one, h, List.foldl_append]
 rfl
set_option maxHeartbeats 2000000 in
theorem sempty_any (h : ∃ qb Z, w.cell? ⟨pb, 3, none⟩ = some (rptr qb) ∧ QuIs B w0 w qb o M (Z ++ F) ∧ ∀ w' F', QuIs B w0 w' qb o [] (Z ++ F') → StoIs qT B w0 w' sb bs S F' c) (hM : M.length ≤ 100000) (hh : HeldOk S) (hS : S.dones M = S') :
  Calls Tryz.prog 85 #[bpt sb, bpt pb] w fun e w' => e = .returned (.int .i64 M.length) ∧ StoIs qT B w0 w' sb bs S' F c := by
 obtain ⟨qb, Z, k3, h1, h2⟩ := h
 have cp0 : Hid (Calls Tryz.prog 152 #[rptr qb] w fun r w' => ∃ a cp Y, r = .returned (.slice a M.length cp) ∧ EnsIs (.slice a M.length cp) M Y ∧ StoIs qT B w0 w' sb bs S (Y ++ F) c) := Lib.hid ((qu_purge h1 hM).mono (by
  rintro r w' ⟨a, cp, Y, rfl, hs, h5⟩
  exact ⟨a, cp, Y, rfl, hs, h2 _ (Y ++ F) (h5.permF (perm_by fun a => by simp only [List.count_append]; omega))⟩))
 have hM2 := Lib.hid hM
 clear h1 h2 hM
 go_enter Tryz.func85, Tryz.ntmps85
 go_wp2_with fail
 refine wp_scope_ghost 0 (EmptyJ qT B w0 sb pb bs S F c M) rfl ?_ ?_
 ·clear cp0 k3
  rintro m a' w' ⟨i, cp, a, Y, hi, hfr, hs, hI⟩
  obtain ⟨q, rfl, hl'⟩ := hfr.lit
  clear hfr
  simp only [List.mem_cons, List.not_mem_nil, or_false, forall_eq_or_imp, forall_eq] at hl'
  obtain ⟨f0, f1, f5, f6⟩ := hl'
  simp only [List.range, List.range.loop, List.map, f0, f1, f5, f6]
  clear f0 f1 f5 f6
  have hi0 : (0 : Int) ≤ i := by omega
  have hMi : (M.length : Int) ≤ 100000 := by have := hM2.out; omega
  by_cases hlt : i < M.length
  ·have hx : M[i]? = some M[i] := List.getElem?_eq_getElem hlt
   generalize M[i] = x at hx
   have hi1 : (i : Int) < M.length := by omega
   have hne : ((i : Int) == M.length) = false := by rw [beq_eq_false_iff_ne]; omega
   obtain ⟨g1, o1, rfl, z0, z1, z2, z3, z4, z5, z6, z7, z8, z9⟩ := hI.reads hs List.perm_append_comm i x hx
   have cd := Lib.hid (st_done hI (dones_heldOk _ hh) x (dones_step hx).symm)
   have nxt : Hid (∀ w2 a', StoIs qT B w0 w2 sb bs (S.dones (M.take (i + 1))) (Y ++ F) c → Fr 25 [(0, bpt sb), (1, bpt pb), (5, .slice (some ⟨g1, o1, none⟩) M.length cp), (6, .int .i64 ((i + 1 : Nat) : Int))] a' → ∃ k, k < m ∧ EmptyJ qT B w0 sb pb bs S F c M k a' w2) :=
    Lib.hid fun w2 a' h2 hf => ⟨m - 1, by omega, i + 1, cp, _, Y, by omega, hf, hs, h2⟩
   generalize S.dones (M.take (i + 1)) = S1 at *
   clear hx hI hs hS hM2
   go_wp2_with fail
   refine cd.out.mono ?_
   rintro e w2 ⟨rfl, h2⟩
   replace nxt := Lib.hid (fun a' => nxt.out w2 a' h2)
   clear cd h2 z0 z1 z2 z3 z4 z5 z6 z7 z8 z9
   go_wp2_with fail
   refine wp_goto ?_
   exact ⟨rfl, nxt.out _ ⟨rfl, rfl, by simp⟩⟩
  ·obtain rfl : i = M.length := by omega
   rw [List.take_of_length_le (Nat.le_refl _), hS] at hI
   have fin := Lib.hid (hI.sub (List.sublist_append_right Y F))
   clear hI hs hS hM2 hh
   go_wp2_with fail
   simp only [Exit.jump]
   go_ret
   exact ⟨rfl, fin.out⟩
 ·intro H
  go_wp2_with fail
  refine cp0.out.mono ?_
  rintro e w1 ⟨a, cp, Y, rfl, hs, hI⟩
  replace hs := Lib.hid hs
  replace hI := Lib.hid hI
  clear cp0 k3
  go_wp2_with fail
  refine wp_label ?_
  go_step
  go_step
  exact H M.length _ _ ⟨0, cp, a, Y, by omega, ⟨rfl, rfl, by simp⟩, hs.out, hI.out⟩
theorem st_empty (h : StoIs qT B w0 w sb bs S F c) (hi : S.L[i]? = some d) (hb : bs[i]? = some pb) (hM : d.M.length ≤ 100000) (hh : HeldOk S) :
  Calls Tryz.prog 85 #[bpt sb, bpt pb] w fun e w' => e = .returned (.int .i64 d.M.length) ∧ StoIs qT B w0 w' sb bs (S.emptied i d) F c := by
 obtain ⟨pb', qb, gb, h1, h2, ⟨Z, h3, h4⟩, -⟩ := h.place hi
 rw [hb] at h1
 obtain rfl := Option.some.inj h1
 exact sempty_any (S := S.setM i d []) ⟨qb, Z, h2.c3, h3, fun w' F' h' => (h4 w' [] F' h').2⟩ hM hh rfl
theorem map_erase {α β : Type} (f : α → β) : ∀ (l : List α) (i : Nat), (l.eraseIdx i).map f = (l.map f).eraseIdx i
 | [], i => by simp
 | x :: l, 0 => rfl
 | x :: l, i + 1 => by simp [map_erase f l i]
theorem FineS.out (h : FineS S) (i : Nat) {P : List Plc} {A : List Bnd} (hf : FineX P A) : FineS { S with L := S.L.eraseIdx i, P := P, A := A } := by
 have hs := List.eraseIdx_sublist S.L i
 exact ⟨Nat.le_trans hs.length_le h.few, (hs.map _).nodup h.once, (hs.map _).nodup h.nums, fun p hp => h.top p (hs.subset hp), h.num0, fun p hp => h.each p (hs.subset hp), hf⟩
theorem StoIs.blocks (h : StoIs qT B w0 w sb bs S F c) : bs.Nodup ∧ ∀ b ∈ bs, ∃ c, w.heap[b]? = some (.cells c 135 (0, 0)) := by
 obtain ⟨L, slb, xv, v, R, SX, SS, h1, h2⟩ := h
 rw [← h1.blks]
 have hm : ∀ p ∈ L, (p.b, pqO p.d p.qb p.gb) ∈ stoO sb slb xv v S L R SX SS ++ F := fun p hp => List.mem_append_left _ (List.mem_cons_of_mem _ (List.mem_append_right _ (List.mem_append_right _ (List.mem_append_right _ (List.mem_flatMap.2 ⟨p, hp, List.mem_cons_self⟩)))))
 refine ⟨?_, fun b hb => ?_⟩
 ·have hn := h2.nodup
  have hsub : (L.map Pq.b).Sublist ((stoO sb slb xv v S L R SX SS ++ F).map (·.1)) := by
   have h3 : (L.map Pq.b).Sublist ((pqsO L).map (·.1)) := by
    clear hm h1 h2 hn
    unfold pqsO
    induction L with
    | nil => exact List.Sublist.refl _
    | cons p L ih =>
     rw [List.map_cons, List.flatMap_cons, List.map_append]
     exact (List.Sublist.append (List.singleton_sublist.2 (List.mem_map.2 ⟨(p.b, pqO p.d p.qb p.gb), List.mem_cons_self, rfl⟩) : [p.b].Sublist (p.objs.map (·.1))) ih)
   refine h3.trans (List.Sublist.map _ ?_)
   unfold stoO
   exact (((List.sublist_append_right SS (pqsO L)).trans (List.sublist_append_right SX _)).trans (List.sublist_append_right R _)).cons _ |>.trans (List.sublist_append_left _ F)
  exact hsub.nodup hn
 ·obtain ⟨p, hp, rfl⟩ := List.mem_map.1 hb
  exact ⟨_, h2.get (hm p hp)⟩
theorem StoIs.apart {p : Pq} (h : StoIs qT B w0 w sb bs S (p.objs ++ F) c) (ok : PqOk qT B w0 p) : ∃ Z, w.cell? ⟨p.b, 0, none⟩ = some (tx p.d.name) ∧ w.cell? ⟨p.b, 3, none⟩ = some (rptr p.qb) ∧ QuIs B w0 w p.qb p.d.o p.d.M (Z ++ F) ∧
  ∀ w' F', QuIs B w0 w' p.qb p.d.o [] (Z ++ F') → StoIs qT B w0 w' sb bs S F' c := by
 obtain ⟨O, o1, -, o2⟩ := h.beside
 have hpp : (O ++ (p.objs ++ F)).Perm (p.SQ ++ ((O ++ ((p.b, pqO p.d p.qb p.gb) :: p.SG)) ++ F)) := perm_by fun a => by
  simp only [Pq.objs, List.count_append, List.count_cons]; omega
 have s1 := o1.perm hpp
 have hsee := s1.seeP (pb := p.b) (qb := p.qb) (gb := p.gb) (d := p.d) (List.mem_append_right _ (List.mem_append_left _ (List.mem_append_right _ List.mem_cons_self)))
 refine ⟨_, hsee.c0, hsee.c3, ok.qu _ _ s1, fun w' F' h' => ?_⟩
 obtain ⟨SQ', s2, -⟩ := h'.in_
 have hp2 : (SQ' ++ ((O ++ ((p.b, pqO p.d p.qb p.gb) :: p.SG)) ++ F')).Perm ((O ++ F') ++ (SQ' ++ ((p.b, pqO p.d p.qb p.gb) :: p.SG))) := perm_by fun a => by
  simp only [List.count_append, List.count_cons]; omega
 exact o2 _ _ ((s2.perm hp2).sub (List.sublist_append_left _ _))
set_option maxHeartbeats 4000000 in
theorem st_remove (h : StoIs qT B w0 w sb bs S F c) (hi : S.L[i]? = some d) (hb : bs[i]? = some pb) (hM : d.M.length ≤ 100000) (hh : HeldOk S) (hc : c ≤ 100000) :
  Calls Tryz.prog 74 #[bpt sb, bpt pb] w fun e w' => e = .returned (.int .i64 d.M.length) ∧ StoIs qT B w0 w' sb (bs.eraseIdx i) (S.removed i d) F c := by
 obtain ⟨a, cap, c2, hrows⟩ := h.rows
 obtain ⟨hnd, hob⟩ := h.blocks
 have hlen : bs.length ≤ 8 := by rw [h.len]; exact h.fine.few
 have hil := (List.getElem?_eq_some_iff.1 hb).1
 have hc1 := h.c1
 have ci := Lib.hid (indexq_any (cap := cap) hrows hnd hob (by omega) hb)
 obtain ⟨L, slb, xv, v, R, SX, SS, h1, h2⟩ := h
 have hi0 := hi
 rw [← h1.data, List.getElem?_map, Option.map_eq_some_iff] at hi0
 obtain ⟨p, hp, rfl⟩ := hi0
 obtain ⟨X, Y, rfl, rfl⟩ := list_split hp
 have ok := h1.pls p (List.mem_append_right _ List.mem_cons_self)
 have hpb : p.b = pb := by
  have : bs[X.length]? = some p.b := by rw [← h1.blks, List.getElem?_map, hp]; rfl
  rw [hb] at this
  exact (Option.some.inj this).symm
 have eB : (X ++ Y).map Pq.b = bs.eraseIdx X.length := by
  rw [← h1.blks, List.map_append, List.map_append, List.map_cons, ← List.length_map (f := Pq.b), List.eraseIdx_append_of_length_le (Nat.le_refl _), Nat.sub_self]; rfl
 have eL : (X ++ Y).map Pq.d = S.L.eraseIdx X.length := by
  rw [← h1.data, List.map_append, List.map_append, List.map_cons, ← List.length_map (f := Pq.d), List.eraseIdx_append_of_length_le (Nat.le_refl _), Nat.sub_self]; rfl
 have hpm : ∀ xv v R SX SS S, (stoO sb slb xv v S (X ++ p :: Y) R SX SS ++ F).Perm (((sb, soO slb xv v S) :: (SX ++ (SS ++ (pqsO (X ++ Y) ++ (p.objs ++ F))))) ++ R) := fun xv v R SX SS S => perm_by fun a => by
  simp only [stoO, pqsO, List.flatMap_append, List.flatMap_cons, List.count_append, List.count_cons]; omega
 have h3 := h2.perm (hpm xv v R SX SS S)
 have cd : Hid (Calls Tryz.prog 133 #[v, .int .i64 X.length, .int .i64 ((X.length : Int) + 1)] w fun e w' => ∃ a' c', e = .returned (.slice a' (bs.length - 1) c') ∧ w'.frozen? ⟨sb, 2, none⟩ = false ∧ w'.cell? ⟨sb, 2, none⟩ = some v ∧
   ∃ R', SlIs 131 1 (.slice a' (bs.length - 1) c') (bs.length - 1) ((bs.map bpt).eraseIdx X.length) R' ∧ St B w0 (w'.setCell ⟨sb, 2, none⟩ (.slice a' (bs.length - 1) c')) ((sb, soO slb xv (.slice a' (bs.length - 1) c') S) :: ((SX ++ (SS ++ (pqsO (X ++ Y) ++ (p.objs ++ F)))) ++ R'))) :=
  Lib.hid ((deleteq_any h1.sl h3 hil (by omega) (bpts_one bs)).mono (by
   rintro e w' ⟨v', R', rfl, hsl, hst⟩
   obtain ⟨a', c', rfl, -⟩ := hsl.form
   have hst' : St B w0 w' ((sb, soO slb xv v S) :: ((SX ++ (SS ++ (pqsO (X ++ Y) ++ (p.objs ++ F)))) ++ R')) := hst
   exact ⟨a', c', rfl, hst'.soft List.mem_cons_self 2, hst'.cell List.mem_cons_self rfl, R', hsl, hst'.set0 2 _⟩))
 have hS1 : Hid (∀ w1 a' c' R', SlIs 131 1 (.slice a' (bs.length - 1) c') (bs.length - 1) ((bs.map bpt).eraseIdx X.length) R' → St B w0 w1 ((sb, soO slb xv (.slice a' (bs.length - 1) c') S) :: ((SX ++ (SS ++ (pqsO (X ++ Y) ++ (p.objs ++ F)))) ++ R')) →
   StoIs qT B w0 w1 sb (bs.eraseIdx X.length) { S with L := S.L.eraseIdx X.length } (p.objs ++ F) c) := Lib.hid fun w1 a' c' R' hsl hst => by
  have hl : (bs.eraseIdx X.length).length = bs.length - 1 := by rw [List.length_eraseIdx, if_pos hil]
  have e : stoO sb slb xv (.slice a' (bs.length - 1) c') { S with L := S.L.eraseIdx X.length } (X ++ Y) R' SX SS = (sb, soO slb xv (.slice a' (bs.length - 1) c') S) :: (R' ++ (SX ++ (SS ++ pqsO (X ++ Y)))) := rfl
  have hpp : ((sb, soO slb xv (.slice a' (bs.length - 1) c') S) :: ((SX ++ (SS ++ (pqsO (X ++ Y) ++ (p.objs ++ F)))) ++ R')).Perm (stoO sb slb xv (.slice a' (bs.length - 1) c') { S with L := S.L.eraseIdx X.length } (X ++ Y) R' SX SS ++ (p.objs ++ F)) := perm_by fun a => by
   rw [e]
   simp only [List.count_append, List.count_cons]; omega
  refine ⟨X ++ Y, slb, xv, _, R', SX, SS, ⟨eL, eB, ?_, h1.slab, h1.ways, fun x hx => ?_, h1.fine.out _ h1.fine.fine, h1.tab, h1.most, h1.c1⟩, hst.perm hpp⟩
  ·rw [hl, map_erase]; exact hsl
  ·rcases List.mem_append.1 hx with hx | hx
   ·exact h1.pls x (List.mem_append_left _ hx)
   ·exact h1.pls x (List.mem_append_right _ (List.mem_cons_of_mem _ hx))
 have few' : Hid (∀ w1, StoIs qT B w0 w1 sb (bs.eraseIdx X.length) { S with L := S.L.eraseIdx X.length } (p.objs ++ F) c → StoIs qT B w0 w1.drew sb (bs.eraseIdx X.length) { S with L := S.L.eraseIdx X.length } (p.objs ++ F) c ∧ Hid (w1.drew.cell? ⟨pb, 0, none⟩ = some (tx p.d.name))) := Lib.hid fun w1 h' => by
  have h4 := h'.grow (drew_b w1)
  obtain ⟨-, a0, -⟩ := h4.apart ok
  rw [hpb] at a0
  exact ⟨h4, Lib.hid a0⟩
 have cw : Hid (∀ w1, StoIs qT B w0 w1 sb (bs.eraseIdx X.length) { S with L := S.L.eraseIdx X.length } (p.objs ++ F) c → Calls Tryz.prog 63 #[bpt sb] w1 fun e w' => ∃ xb, e = .returned (bpt xb) ∧ StoX qT B w0 w' sb (bs.eraseIdx X.length) { S with L := S.L.eraseIdx X.length } (p.objs ++ F) c xb ∧ w'.cell? ⟨pb, 0, none⟩ = some (tx p.d.name)) := Lib.hid fun w1 h' => (st_ways h').mono (by
  rintro e w' ⟨xb, rfl, hx⟩
  obtain ⟨-, a0, -⟩ := (hx.same hc1).apart ok
  rw [hpb] at a0
  exact ⟨xb, rfl, hx, a0⟩)
 have cq : Hid (∀ w1 xb, StoX qT B w0 w1 sb (bs.eraseIdx X.length) { S with L := S.L.eraseIdx X.length } (p.objs ++ F) c xb → Calls Tryz.prog 134 #[bpt xb, tx p.d.name] w1 fun e w' => e = noneV ∧ StoIs qT B w0 w' sb (bs.eraseIdx X.length) (S.out X.length p.d) (p.objs ++ F) c ∧ w'.cell? ⟨pb, 0, none⟩ = some (tx p.d.name)) := Lib.hid fun w1 xb hx => by
  obtain ⟨Z, x1, x2⟩ := hx
  refine (dropq_is x1 hc (x := p.d.name) (P' := (dropqX S.P S.A p.d.name).1) (A' := (dropqX S.P S.A p.d.name).2) rfl).mono ?_
  rintro e w' ⟨rfl, h'⟩
  have h5 : StoIs qT B w0 w' sb (bs.eraseIdx X.length) (S.out X.length p.d) (p.objs ++ F) c := x2 _ _ _ _ _ hc1 h'
  obtain ⟨-, a0, -⟩ := h5.apart ok
  rw [hpb] at a0
  exact ⟨rfl, h5, a0⟩
 have ce : Hid (∀ w1, StoIs qT B w0 w1 sb (bs.eraseIdx X.length) (S.out X.length p.d) (p.objs ++ F) c → Calls Tryz.prog 85 #[bpt sb, bpt pb] w1 fun e w' => e = .returned (.int .i64 p.d.M.length) ∧ StoIs qT B w0 w' sb (bs.eraseIdx X.length) (S.removed X.length p.d) F c) := Lib.hid fun w1 h' => by
  obtain ⟨Z, a0, a3, q1, q2⟩ := h'.apart ok
  rw [hpb] at a3
  exact sempty_any ⟨_, Z, a3, q1, q2⟩ hM hh rfl
 obtain ⟨av, cv, rfl, -⟩ := h1.sl.form
 have e2 : (Value.slice a bs.length cap) = .slice av bs.length cv := by
  have := (h3.seeS List.mem_cons_self).c2
  rw [c2] at this
  exact Option.some.inj this
 rw [e2] at c2 ci
 have hXl : (X.length : Int) + 1 ≤ 8 := by omega
 generalize ({ S with L := S.L.eraseIdx X.length } : Sto) = S1 at *
 generalize S.out X.length p.d = S2 at *
 generalize S.removed X.length p.d = S3 at *
 generalize p.d.name = nm at *
 generalize p.d.M.length = ml at *
 generalize X.length = k at *
 generalize bs.eraseIdx k = bs2 at *
 generalize p.objs ++ F = F2 at *
 generalize hsbv : soO slb xv = sov at *
 clear h2 h3 hpm eL eB hpb ok hob hnd hrows hi hb hp h1 hil hlen hh hM hc hc1 e2
 go_enter Tryz.func74, Tryz.ntmps74
 go_wp2_with fail
 refine ci.out.mono ?_
 rintro e w1 ⟨rfl, rfl⟩
 clear ci
 go_wp2_with fail
 refine cd.out.mono ?_
 rintro e w1 ⟨a', c', rfl, f2, k2, R', hsl, hst⟩
 have h4 := hS1.out _ _ _ _ hsl hst
 obtain ⟨W1, hW⟩ : ∃ W1, W1 = w1.setCell ⟨sb, 2, none⟩ (.slice a' (bs.length - 1) c') := ⟨_, rfl⟩
 rw [← hW] at h4
 obtain ⟨h5, hs0⟩ := few'.out _ h4
 replace hW := Lib.hid hW
 clear cd hsl hst hS1 few' h4 c2
 go_upto_region 3 with fail
 rw [← hW.out]
 clear hW f2 k2
 go_wp2_with fail
 go_region_held3 (fun x => x.cell? ⟨pb, 0, none⟩ = some (tx nm)) (first | with_reducible exact kS | with_reducible exact hs0.out) (first
  | (go_at_call 63; refine (cw.out _ (by assumption)).mono ?_; rintro e w'' ⟨xb, rfl, hX, kS⟩)
  | (go_at_call 134; refine (cq.out _ _ (by assumption)).mono ?_; rintro e w'' ⟨rfl, h6, kS⟩))
 replace ce := Lib.hid (ce.out _ h6)
 clear h6 hX h5 hs0 kS cw cq
 go_wp2_with fail
 refine ce.out.mono ?_
 rintro e w4 ⟨rfl, h7⟩
 replace h7 := Lib.hid h7
 clear ce
 go_wp2_with fail
 go_ret
 exact ⟨rfl, h7.out⟩
end
end Go.Proofs.YtknjamfjonapiaaGreatDoor
