/- RgL: RgL. -/
import Derived.Test.YtnkchmafofpimaaRgK
namespace Go.Proofs.Ytnkchmafofpimaa
section
open Go Go.RowKit Go.BigFrame
def firstR (n : Int) : Rg × Bool := if nodeE n = true then (oneR n.toNat, true) else (noR, false)
def ownerR (a : Rg) (p : Int) : Int := if partB p = true ∧ (a.e p.toNat).1 ≠ 0 ∧ mayE (a.e p.toNat) = true then (a.e p.toNat).2 else -1
def targetR (a : Rg) (p : Int) : Int := if partB p = true ∧ a.p.2.2 ≠ [] ∧ mayP a.p = true then a.p.2.2.getD p.toNat 0 else -1
def ofR (a : Rg) (f t : Int) : List Int := ((List.range 8).filter fun i => decide (f ≤ a.s i ∧ a.s i ≤ t)).map fun i : Nat => (i : Int)
def movR (a : Rg) (n : Int) : List Int := ((List.range 16).filter fun p : Nat => decide (nodeE n = true ∧ ownerR a p = n ∧ 0 ≤ targetR a p ∧ targetR a p ≠ n)).map fun p : Nat => (p : Int)
theorem ent_pos {x : En} (h : mayE x = true) (h0 : x ≠ (0, 0)) : x.1 ≠ 0 := by
  rcases of_decide_eq_true h with ⟨h1, h2⟩ | ⟨h1, _⟩
  · exact absurd (Prod.ext h1 h2) h0
  · omega
theorem may_tgt {p : Pl} (h : mayP p = true) (h0 : p.2.2 ≠ []) : tgtL p.2.2 = true := by
  obtain ⟨v, b, t⟩ := p
  have hm : mayP (v, b, t) = (noneB v b t.length || (decide (1 ≤ v ∧ v ≤ 1000000) && nodeE b && tgtL t)) := rfl
  rw [hm] at h
  rcases Bool.or_eq_true_iff.1 h with h1 | h1
  · exact absurd (List.eq_nil_of_length_eq_zero (of_decide_eq_true h1).2.2) h0
  · exact (Bool.and_eq_true_iff.1 h1).2
theorem may_len {p : Pl} (h : mayP p = true) (h0 : p.2.2 ≠ []) : p.2.2.length = 16 := by
  have h1 := may_tgt h h0
  unfold tgtL at h1
  exact of_decide_eq_true (Bool.and_eq_true_iff.1 h1).1
theorem target_or (a : Rg) (n : Int) : targetR a n = -1 ∨ nodeE (targetR a n) = true := by
  unfold targetR
  split
  · rename_i h
    refine .inr ?_
    have h1 := may_len h.2.2 h.2.1
    have h2 := may_tgt h.2.2 h.2.1
    have h3 := of_decide_eq_true h.1
    unfold tgtL at h2
    have h4 := List.all_eq_true.1 (Bool.and_eq_true_iff.1 h2).2
    have hlt : n.toNat < a.p.2.2.length := by omega
    rw [List.getD_eq_getElem?_getD, List.getElem?_eq_getElem hlt]
    exact h4 _ (List.getElem_mem hlt)
  · exact .inl rfl
set_option maxHeartbeats 4000000 in
set_option maxRecDepth 100000 in
theorem gmay_d (R : At) (va : Value) (a : Rg) (ha : Reads elemI R va a.p.2.2) (la : a.p.2.2.length ≤ 1000) : Does Try.prog 20 #[rgV a va] [R] (.bool (mayR a)) [R] := by
  intro w H hp
  have HM0 := Lib.hid (mem_refl hp)
  clear hp
  obtain ⟨pa, ca, rfl⟩ := row_form (Mem.src HM0.out 0 rfl ha)
  go_enter Try.func20, Try.ntmps20
  refine wp_seq ?_
  refine wp_region_N [(0, 3), (1, 1)] (by kernel_rfl) ?_
  refine wpS_boxA (i := 0) (dd := 1) rfl (by rfl) rfl rfl HM0.out covS_nil rfl ?_
  rintro b3 W2 hm1 -
  have HM4 := Lib.hid hm1
  clear hm1
  simp only [Act.put, List.setIfInBounds_toArray, List.set_cons_succ, List.set_cons_zero]
  refine wpS_this [1] rfl (by kernel_rfl) (by simp only [pickL, nthL, List.cons_append, List.nil_append]; rfl) ?_
  repeat (go_big_quiet_step (fail))
  refine wpQuiet_nil ?_
  refine wpS_nil ?_
  refine then_normal ?_
  refine wp_seq ?_
  rcases (show (tab8 a.s).all statB = false ∨ ((tab8 a.s).all statB = true ∧ mayP a.p = false) ∨ ((tab8 a.s).all statB = true ∧ mayP a.p = true) from by cases (tab8 a.s).all statB <;> cases mayP a.p <;> simp) with h1 | ⟨h1, h2⟩ | ⟨h1, h2⟩
  · replace h1 := Lib.hid h1
    refine wp_region_N [(0, 1), (1, 1), (2, 3), (3, 1), (4, 1), (5, 1), (6, 3), (7, 1), (8, 1), (9, 1), (10, 1), (11, 3), (12, 1), (13, 1)] (by kernel_rfl) ?_
    refine wpS_this [0] rfl (by kernel_rfl) (by simp only [pickL, nthL, List.cons_append, List.nil_append]; rfl) ?_
    repeat (go_big_quiet_step (fail))
    refine wpQuiet_nil ?_
    refine wpS_read (i := 1) (d := some 4) rfl (by rfl) (run_sliceSt rfl rfl) rfl ?_
    simp only [Act.put, List.setIfInBounds_toArray, List.set_cons_succ, List.set_cons_zero]
    refine wpS_does2 (i := 2) (d := some 5) (rem := [_]) (out := [_, _]) rfl (by rfl) rfl Try.call35 (everyS_d b3 a _) rfl rfl HM4.out [0] rfl covS_nil rfl rfl ?_
    rintro W6 hm5 -
    rw [h1.out]
    have HM7 := Lib.hid hm5
    clear hm5
    simp only [Act.put, List.setIfInBounds_toArray, List.set_cons_succ, List.set_cons_zero]
    refine wpS_this [3, 4] rfl (by kernel_rfl) (by simp only [pickL, nthL, List.cons_append, List.nil_append]; rfl) ?_
    repeat (go_big_quiet_step (fail))
    refine wpQuiet_nil ?_
    refine wpS_skip (i := 5) (d := some 8) rfl (by rfl) rfl ?_
    simp only [Act.put, List.setIfInBounds_toArray, List.set_cons_succ, List.set_cons_zero]
    refine wpS_skip (i := 6) (d := some 9) rfl (by rfl) rfl ?_
    simp only [Act.put, List.setIfInBounds_toArray, List.set_cons_succ, List.set_cons_zero]
    refine wpS_this [7, 8, 9] rfl (by kernel_rfl) (by simp only [pickL, nthL, List.cons_append, List.nil_append]; rfl) ?_
    repeat (go_big_quiet_step (fail))
    refine wpQuiet_nil ?_
    refine wpS_skip (i := 10) (d := some 13) rfl (by rfl) rfl ?_
    simp only [Act.put, List.setIfInBounds_toArray, List.set_cons_succ, List.set_cons_zero]
    refine wpS_skip (i := 11) (d := some 14) rfl (by rfl) rfl ?_
    simp only [Act.put, List.setIfInBounds_toArray, List.set_cons_succ, List.set_cons_zero]
    refine wpS_this [12, 13] rfl (by kernel_rfl) (by simp only [pickL, nthL, List.cons_append, List.nil_append]; rfl) ?_
    repeat (go_big_quiet_step (fail))
    refine wpQuiet_nil ?_
    refine wpS_nil ?_
    refine then_normal ?_
    refine wp_ret ?_
    refine bodyPost_ret (results_tmp rfl _ _ _) rfl ?_
    have hc : mayR a = false := by unfold mayR; rw [h1.out]; rfl
    rw [hc]
    exact does_ret (Mem.only (M := [_]) HM7.out [1] rfl) rfl rfl
  · replace h1 := Lib.hid h1
    replace h2 := Lib.hid h2
    refine wp_region_N [(0, 1), (1, 1), (2, 3), (3, 1), (4, 1), (5, 1), (6, 3), (7, 1), (8, 1), (9, 1), (10, 1), (11, 3), (12, 1), (13, 1)] (by kernel_rfl) ?_
    refine wpS_this [0] rfl (by kernel_rfl) (by simp only [pickL, nthL, List.cons_append, List.nil_append]; rfl) ?_
    repeat (go_big_quiet_step (fail))
    refine wpQuiet_nil ?_
    refine wpS_read (i := 1) (d := some 4) rfl (by rfl) (run_sliceSt rfl rfl) rfl ?_
    simp only [Act.put, List.setIfInBounds_toArray, List.set_cons_succ, List.set_cons_zero]
    refine wpS_does2 (i := 2) (d := some 5) (rem := [_]) (out := [_, _]) rfl (by rfl) rfl Try.call35 (everyS_d b3 a _) rfl rfl HM4.out [0] rfl covS_nil rfl rfl ?_
    rintro W9 hm8 -
    rw [h1.out]
    have HM10 := Lib.hid hm8
    clear hm8
    simp only [Act.put, List.setIfInBounds_toArray, List.set_cons_succ, List.set_cons_zero]
    refine wpS_this [3, 4] rfl (by kernel_rfl) (by simp only [pickL, nthL, List.cons_append, List.nil_append]; rfl) ?_
    repeat (go_big_quiet_step (fail))
    refine wpQuiet_nil ?_
    refine wpS_loadA (i := 5) (d := some 8) (cells := plC (a).p (.slice pa a.p.2.2.length ca)) rfl (by rfl) rfl rfl (HM10.out.sub 0 rfl (rgC_pl)) Try.underlying32 rfl (by kernel_rfl) rfl ?_
    dsimp only [plC]
    simp only [Act.put, List.setIfInBounds_toArray, List.set_cons_succ, List.set_cons_zero]
    refine wpS_does1 (i := 6) (d := some 9) (rem := [_]) (out := [_, _]) rfl (by rfl) rfl Try.call37 (may_d R _ a.p.1 a.p.2.1 a.p.2.2 ha la) rfl HM10.out [1] rfl covS_nil rfl rfl ?_
    rintro W12 hm11 -
    rw [show mayP (a.p.1, a.p.2.1, a.p.2.2) = mayP a.p from rfl, h2.out]
    have HM13 := Lib.hid hm11
    clear hm11
    simp only [Act.put, List.setIfInBounds_toArray, List.set_cons_succ, List.set_cons_zero]
    refine wpS_this [7, 8, 9] rfl (by kernel_rfl) (by simp only [pickL, nthL, List.cons_append, List.nil_append]; rfl) ?_
    repeat (go_big_quiet_step (fail))
    refine wpQuiet_nil ?_
    refine wpS_skip (i := 10) (d := some 13) rfl (by rfl) rfl ?_
    simp only [Act.put, List.setIfInBounds_toArray, List.set_cons_succ, List.set_cons_zero]
    refine wpS_skip (i := 11) (d := some 14) rfl (by rfl) rfl ?_
    simp only [Act.put, List.setIfInBounds_toArray, List.set_cons_succ, List.set_cons_zero]
    refine wpS_this [12, 13] rfl (by kernel_rfl) (by simp only [pickL, nthL, List.cons_append, List.nil_append]; rfl) ?_
    repeat (go_big_quiet_step (fail))
    refine wpQuiet_nil ?_
    refine wpS_nil ?_
    refine then_normal ?_
    refine wp_ret ?_
    refine bodyPost_ret (results_tmp rfl _ _ _) rfl ?_
    have hc : mayR a = false := by unfold mayR; rw [h1.out, h2.out]; cases (tab16 a.e).all mayE <;> rfl
    rw [hc]
    exact does_ret (Mem.only (M := [_]) HM13.out [0] rfl) rfl rfl
  · replace h1 := Lib.hid h1
    replace h2 := Lib.hid h2
    refine wp_region_N [(0, 1), (1, 1), (2, 3), (3, 1), (4, 1), (5, 1), (6, 3), (7, 1), (8, 1), (9, 1), (10, 1), (11, 3), (12, 1), (13, 1)] (by kernel_rfl) ?_
    refine wpS_this [0] rfl (by kernel_rfl) (by simp only [pickL, nthL, List.cons_append, List.nil_append]; rfl) ?_
    repeat (go_big_quiet_step (fail))
    refine wpQuiet_nil ?_
    refine wpS_read (i := 1) (d := some 4) rfl (by rfl) (run_sliceSt rfl rfl) rfl ?_
    simp only [Act.put, List.setIfInBounds_toArray, List.set_cons_succ, List.set_cons_zero]
    refine wpS_does2 (i := 2) (d := some 5) (rem := [_]) (out := [_, _]) rfl (by rfl) rfl Try.call35 (everyS_d b3 a _) rfl rfl HM4.out [0] rfl covS_nil rfl rfl ?_
    rintro W15 hm14 -
    rw [h1.out]
    have HM16 := Lib.hid hm14
    clear hm14
    simp only [Act.put, List.setIfInBounds_toArray, List.set_cons_succ, List.set_cons_zero]
    refine wpS_this [3, 4] rfl (by kernel_rfl) (by simp only [pickL, nthL, List.cons_append, List.nil_append]; rfl) ?_
    repeat (go_big_quiet_step (fail))
    refine wpQuiet_nil ?_
    refine wpS_loadA (i := 5) (d := some 8) (cells := plC (a).p (.slice pa a.p.2.2.length ca)) rfl (by rfl) rfl rfl (HM16.out.sub 0 rfl (rgC_pl)) Try.underlying32 rfl (by kernel_rfl) rfl ?_
    dsimp only [plC]
    simp only [Act.put, List.setIfInBounds_toArray, List.set_cons_succ, List.set_cons_zero]
    refine wpS_does1 (i := 6) (d := some 9) (rem := [_]) (out := [_, _]) rfl (by rfl) rfl Try.call37 (may_d R _ a.p.1 a.p.2.1 a.p.2.2 ha la) rfl HM16.out [1] rfl covS_nil rfl rfl ?_
    rintro W18 hm17 -
    rw [show mayP (a.p.1, a.p.2.1, a.p.2.2) = mayP a.p from rfl, h2.out]
    have HM19 := Lib.hid hm17
    clear hm17
    simp only [Act.put, List.setIfInBounds_toArray, List.set_cons_succ, List.set_cons_zero]
    refine wpS_this [7, 8, 9] rfl (by kernel_rfl) (by simp only [pickL, nthL, List.cons_append, List.nil_append]; rfl) ?_
    repeat (go_big_quiet_step (fail))
    refine wpQuiet_nil ?_
    refine wpS_read (i := 10) (d := some 13) rfl (by rfl) (run_sliceEnt rfl rfl) rfl ?_
    simp only [Act.put, List.setIfInBounds_toArray, List.set_cons_succ, List.set_cons_zero]
    refine wpS_does2 (i := 11) (d := some 14) (rem := [_]) (out := [_, _]) rfl (by rfl) rfl Try.call38 (everyE_d b3 a _) rfl rfl HM19.out [1] rfl covS_nil rfl rfl ?_
    rintro W21 hm20 -
    have HM22 := Lib.hid hm20
    clear hm20
    simp only [Act.put, List.setIfInBounds_toArray, List.set_cons_succ, List.set_cons_zero]
    refine wpS_this [12, 13] rfl (by kernel_rfl) (by simp only [pickL, nthL, List.cons_append, List.nil_append]; rfl) ?_
    repeat (go_big_quiet_step (fail))
    refine wpQuiet_nil ?_
    refine wpS_nil ?_
    refine then_normal ?_
    refine wp_ret ?_
    refine bodyPost_ret (results_tmp rfl _ _ _) rfl ?_
    have hc : mayR a = (tab16 a.e).all mayE := by unfold mayR; rw [h1.out, h2.out]; cases (tab16 a.e).all mayE <;> rfl
    rw [hc]
    exact does_ret (Mem.only (M := [_]) HM22.out [1] rfl) rfl rfl
set_option maxHeartbeats 4000000 in
set_option maxRecDepth 100000 in
theorem gjoin_d (R : At) (va : Value) (a : Rg) (ha : Reads elemI R va a.p.2.2) (la : a.p.2.2.length ≤ 1000) (vb : Value) (b : Rg) (hb : Reads elemI R vb b.p.2.2) (lb : b.p.2.2.length ≤ 1000) (j : Rg) (hj : joinR a b = j) : DoesU Try.prog 22 #[rgV a va, rgV b vb] [R] (fun u => [ringT u j, R]) := by
  intro w H hp
  have HM0 := Lib.hid (mem_refl hp)
  clear hp
  obtain ⟨pa, ca, rfl⟩ := row_form (Mem.src HM0.out 0 rfl ha)
  obtain ⟨pb, cb, rfl⟩ := row_form (Mem.src HM0.out 0 rfl hb)
  go_enter Try.func22, Try.ntmps22
  refine wp_seq ?_
  have hjp : Hid (joinP (a.p.1, a.p.2.1, a.p.2.2) (b.p.1, b.p.2.1, b.p.2.2) = (j.p.1, j.p.2.1, j.p.2.2)) := Lib.hid (by rw [← hj]; rfl)
  have hfin : Hid (eqR ⟨fun i => if i < 8 then max (a.s i) (b.s i) else noR.s i, j.p, fun i => if i < 16 then joinE (a.e i) (b.e i) else noR.e i⟩ j) := Lib.hid (by rw [← hj]; exact ⟨fun i hi => if_pos hi, rfl, fun i hi => if_pos hi⟩)
  clear hj
  refine wp_region_N [(0, 3), (1, 3), (2, 3)] (by kernel_rfl) ?_
  refine wpS_boxA (i := 0) (dd := 2) rfl (by rfl) rfl rfl HM0.out covS_nil rfl ?_
  rintro b3 W2 hm1 -
  have HM4 := Lib.hid hm1
  clear hm1
  simp only [Act.put, List.setIfInBounds_toArray, List.set_cons_succ, List.set_cons_zero]
  refine wpS_boxA (i := 1) (dd := 3) rfl (by rfl) rfl rfl HM4.out covS_nil rfl ?_
  rintro b7 W6 hm5 -
  have HM8 := Lib.hid hm5
  clear hm5
  simp only [Act.put, List.setIfInBounds_toArray, List.set_cons_succ, List.set_cons_zero]
  refine wpS_alloc (i := 2) (dd := 4) (z := rgV noR (.slice none 0 0)) (cs := (rgC noR (.slice none 0 0)).toArray) rfl (by rfl) rfl (by kernel_rfl) rfl HM8.out covS_nil rfl ?_
  rintro b11 W10 hm9 -
  have HM12 := Lib.hid hm9
  clear hm9
  simp only [Act.put, List.setIfInBounds_toArray, List.set_cons_succ, List.set_cons_zero]
  refine wpS_nil ?_
  refine then_normal ?_
  refine wp_seq ?_
  refine wp_region_N [(0, 1), (1, 1), (2, 1), (3, 1), (4, 3), (5, 1), (6, 3), (7, 3)] (by kernel_rfl) ?_
  refine wpS_this [0] rfl (by kernel_rfl) (by simp only [pickL, nthL, List.cons_append, List.nil_append]; rfl) ?_
  repeat (go_big_quiet_step (fail))
  refine wpQuiet_nil ?_
  refine wpS_loadA (i := 1) (d := some 7) (cells := plC (a).p (.slice pa a.p.2.2.length ca)) rfl (by rfl) rfl rfl (HM12.out.sub 2 rfl (rgC_pl)) Try.underlying32 rfl (by kernel_rfl) rfl ?_
  dsimp only [plC]
  simp only [Act.put, List.setIfInBounds_toArray, List.set_cons_succ, List.set_cons_zero]
  refine wpS_this [2] rfl (by kernel_rfl) (by simp only [pickL, nthL, List.cons_append, List.nil_append]; rfl) ?_
  repeat (go_big_quiet_step (fail))
  refine wpQuiet_nil ?_
  refine wpS_loadA (i := 3) (d := some 9) (cells := plC (b).p (.slice pb b.p.2.2.length cb)) rfl (by rfl) rfl rfl (HM12.out.sub 1 rfl (rgC_pl)) Try.underlying32 rfl (by kernel_rfl) rfl ?_
  dsimp only [plC]
  simp only [Act.put, List.setIfInBounds_toArray, List.set_cons_succ, List.set_cons_zero]
  refine wpS_doesU2 (i := 4) (d := some 10) (rem := [_, _, _]) rfl (by rfl) rfl Try.call40 (join_d R _ a.p.1 a.p.2.1 a.p.2.2 ha la _ b.p.1 b.p.2.1 b.p.2.2 hb lb j.p.1 j.p.2.1 j.p.2.2 hjp.out) rfl rfl HM12.out [3] rfl covS_nil (fun _ => rfl) rfl ?_
  rintro u15 W14 hm13 -
  obtain ⟨pj, cj, rfl, hm13q⟩ := Mem.plan rfl hm13
  clear hm13
  have HM16 := Lib.hid hm13q
  clear hm13q
  simp only [Act.put, List.setIfInBounds_toArray, List.set_cons_succ, List.set_cons_zero]
  refine wpS_read (i := 5) (d := some 11) (v := rgV ⟨noR.s, j.p, noR.e⟩ (.slice pj j.p.2.2.length cj)) rfl (by rfl) (by kernel_rfl) rfl ?_
  simp only [Act.put, List.setIfInBounds_toArray, List.set_cons_succ, List.set_cons_zero]
  refine wpS_alloc (i := 6) (dd := 5) (z := rgV noR (.slice none 0 0)) (cs := (rgC noR (.slice none 0 0)).toArray) rfl (by rfl) rfl (by kernel_rfl) rfl HM16.out covS_nil rfl ?_
  rintro b19 W18 hm17 -
  have HM20 := Lib.hid hm17
  clear hm17
  simp only [Act.put, List.setIfInBounds_toArray, List.set_cons_succ, List.set_cons_zero]
  refine wpS_storeA (i := 7) (L2 := [_, _, _, _, _]) (cs' := rgC (⟨noR.s, j.p, noR.e⟩) (.slice pj j.p.2.2.length cj)) rfl (by rfl) rfl rfl rfl (by kernel_rfl) (rgC_one _ _ _) HM20.out 0 rfl rfl (by kernel_rfl) (by kernel_rfl) covS_nil rfl ?_
  rintro W22 hm21 -
  have HM23 := Lib.hid hm21
  clear hm21
  refine wpS_nil ?_
  refine then_normal ?_
  refine wp_seq ?_
  refine wp_region_N [(0, 1), (1, 1), (2, 0), (3, 3)] (by kernel_rfl) ?_
  refine wpS_this [0] rfl (by kernel_rfl) (by simp only [pickL, nthL, List.cons_append, List.nil_append]; rfl) ?_
  repeat (go_big_quiet_step (fail))
  refine wpQuiet_nil ?_
  refine wpS_read (i := 1) (d := some 13) rfl (by rfl) (run_sliceSt rfl rfl) rfl ?_
  simp only [Act.put, List.setIfInBounds_toArray, List.set_cons_succ, List.set_cons_zero]
  refine wpS_func2 (i := 2) (d := some 14) (v1 := .pointer (some ⟨b3, 0, none⟩)) (v2 := .pointer (some ⟨b7, 0, none⟩)) rfl (by rfl) rfl rfl rfl rfl ?_
  simp only [Act.put, List.setIfInBounds_toArray, List.set_cons_succ, List.set_cons_zero]
  refine wpS_does2 (i := 3) (d := some 15) (rem := [_, _, _]) (out := [_, _, _, _, _, _]) rfl (by rfl) rfl Try.call41 (fillS_d b19 ⟨noR.s, j.p, noR.e⟩ _ _ _ _ (boxT b3 _) (boxT b7 _) (fun i => max (a.s i) (b.s i)) Try.call42 (fun k hk => join1_d b3 b7 a b _ _ k hk)) rfl rfl HM23.out [0, 4, 3] rfl covS_nil rfl rfl ?_
  rintro W25 hm24 -
  have HM26 := Lib.hid hm24
  clear hm24
  simp only [Act.put, List.setIfInBounds_toArray, List.set_cons_succ, List.set_cons_zero]
  refine wpS_nil ?_
  refine then_normal ?_
  refine wp_seq ?_
  refine wp_region_N [(0, 1), (1, 1), (2, 0), (3, 3)] (by kernel_rfl) ?_
  refine wpS_this [0] rfl (by kernel_rfl) (by simp only [pickL, nthL, List.cons_append, List.nil_append]; rfl) ?_
  repeat (go_big_quiet_step (fail))
  refine wpQuiet_nil ?_
  refine wpS_read (i := 1) (d := some 17) rfl (by rfl) (run_sliceEnt rfl rfl) rfl ?_
  simp only [Act.put, List.setIfInBounds_toArray, List.set_cons_succ, List.set_cons_zero]
  refine wpS_func2 (i := 2) (d := some 18) (v1 := .pointer (some ⟨b3, 0, none⟩)) (v2 := .pointer (some ⟨b7, 0, none⟩)) rfl (by rfl) rfl rfl rfl rfl ?_
  simp only [Act.put, List.setIfInBounds_toArray, List.set_cons_succ, List.set_cons_zero]
  refine wpS_does2 (i := 3) (d := some 19) (rem := [_, _, _]) (out := [_, _, _, _, _, _]) rfl (by rfl) rfl Try.call43 (fillE_d b19 ⟨fun i => if i < 8 then max (a.s i) (b.s i) else noR.s i, j.p, noR.e⟩ _ _ _ _ (boxT b3 _) (boxT b7 _) (fun i => joinE (a.e i) (b.e i)) Try.call44 (fun k hk => join2_d b3 b7 a b _ _ k hk)) rfl rfl HM26.out [0, 0, 0] rfl covS_nil rfl rfl ?_
  rintro W28 hm27 -
  rw [rgC_congr (r' := j) hfin.out] at hm27
  have HM29 := Lib.hid hm27
  clear hm27
  simp only [Act.put, List.setIfInBounds_toArray, List.set_cons_succ, List.set_cons_zero]
  refine wpS_nil ?_
  refine then_normal ?_
  refine wp_seq ?_
  refine wp_region_N [(0, 1), (1, 3)] (by kernel_rfl) ?_
  refine wpS_loadA (i := 0) (d := some 20) (cells := rgC (j) (.slice pj j.p.2.2.length cj)) rfl (by rfl) rfl rfl (HM29.out.sub 0 rfl (fun k u h => by rw [Nat.zero_add]; exact h)) Try.underlying37 rfl (by kernel_rfl) rfl ?_
  simp only [Act.put, List.setIfInBounds_toArray, List.set_cons_succ, List.set_cons_zero]
  refine wpS_storeA (i := 1) (L2 := [_, _, _, _, _]) (cs' := rgC (j) (.slice pj j.p.2.2.length cj)) rfl (by rfl) rfl rfl rfl (by kernel_rfl) (rgC_one _ _ _) HM29.out 5 rfl rfl (by kernel_rfl) (by kernel_rfl) covS_nil rfl ?_
  rintro W31 hm30 -
  have HM32 := Lib.hid hm30
  clear hm30
  refine wpS_nil ?_
  refine then_normal ?_
  refine wp_ret ?_
  refine ret_cell rfl HM32.out 0 rfl rfl Try.underlying37 rfl (by kernel_rfl) rfl ?_
  exact doesU_ret (post := fun u => [ringT u j, R]) (Mem.toRing (Mem.only (M := [_, _]) HM32.out [4, 4] rfl)) rfl
set_option maxHeartbeats 4000000 in
set_option maxRecDepth 100000 in
theorem gsame_d (R : At) (va : Value) (a : Rg) (ha : Reads elemI R va a.p.2.2) (la : a.p.2.2.length ≤ 1000) (vb : Value) (b : Rg) (hb : Reads elemI R vb b.p.2.2) (lb : b.p.2.2.length ≤ 1000) : Does Try.prog 18 #[rgV a va, rgV b vb] [R] (.bool (sameR a b)) [R] := by
  intro w H hp
  have HM0 := Lib.hid (mem_refl hp)
  clear hp
  obtain ⟨pa, ca, rfl⟩ := row_form (Mem.src HM0.out 0 rfl ha)
  obtain ⟨pb, cb, rfl⟩ := row_form (Mem.src HM0.out 0 rfl hb)
  go_enter Try.func18, Try.ntmps18
  refine wp_seq ?_
  refine wp_region_N [(0, 3), (1, 3), (2, 1)] (by kernel_rfl) ?_
  refine wpS_boxA (i := 0) (dd := 2) rfl (by rfl) rfl rfl HM0.out covS_nil rfl ?_
  rintro b3 W2 hm1 -
  have HM4 := Lib.hid hm1
  clear hm1
  simp only [Act.put, List.setIfInBounds_toArray, List.set_cons_succ, List.set_cons_zero]
  refine wpS_boxA (i := 1) (dd := 3) rfl (by rfl) rfl rfl HM4.out covS_nil rfl ?_
  rintro b7 W6 hm5 -
  have HM8 := Lib.hid hm5
  clear hm5
  simp only [Act.put, List.setIfInBounds_toArray, List.set_cons_succ, List.set_cons_zero]
  refine wpS_this [2] rfl (by kernel_rfl) (by simp only [pickL, nthL, List.cons_append, List.nil_append]; rfl) ?_
  repeat (go_big_quiet_step (fail))
  refine wpQuiet_nil ?_
  refine wpS_nil ?_
  refine then_normal ?_
  refine wp_seq ?_
  rcases (show ¬ tab8 a.s = tab8 b.s ∨ (tab8 a.s = tab8 b.s ∧ ¬ tab16 a.e = tab16 b.e) ∨ (tab8 a.s = tab8 b.s ∧ tab16 a.e = tab16 b.e) from by by_cases k1 : tab8 a.s = tab8 b.s <;> by_cases k2 : tab16 a.e = tab16 b.e <;> simp [k1, k2]) with hs | ⟨hs, he⟩ | ⟨hs, he⟩
  · have gs := decide_eq_false hs
    have hc : Hid (sameR a b = false) := Lib.hid (by unfold sameR; rw [gs]; rfl)
    clear hs
    refine wp_region_N [(0, 1), (1, 1), (2, 1), (3, 1), (4, 1), (5, 1), (6, 1), (7, 1), (8, 1), (9, 1), (10, 1), (11, 1), (12, 1), (13, 1), (14, 1), (15, 1), (16, 1), (17, 3), (18, 1), (19, 1)] (by kernel_rfl) ?_
    refine wpS_this [0] rfl (by kernel_rfl) (by simp only [pickL, nthL, List.cons_append, List.nil_append]; rfl) ?_
    repeat (go_big_quiet_step (fail))
    refine wpQuiet_nil ?_
    refine wpS_loadA (i := 1) (d := some 6) (cells := stC (a).s) rfl (by rfl) rfl rfl (HM8.out.sub 1 rfl (rgC_st)) Try.underlying29 rfl (by kernel_rfl) rfl ?_
    simp only [Act.put, List.setIfInBounds_toArray, List.set_cons_succ, List.set_cons_zero]
    refine wpS_this [2] rfl (by kernel_rfl) (by simp only [pickL, nthL, List.cons_append, List.nil_append]; rfl) ?_
    repeat (go_big_quiet_step (fail))
    refine wpQuiet_nil ?_
    refine wpS_loadA (i := 3) (d := some 8) (cells := stC (b).s) rfl (by rfl) rfl rfl (HM8.out.sub 0 rfl (rgC_st)) Try.underlying29 rfl (by kernel_rfl) rfl ?_
    simp only [Act.put, List.setIfInBounds_toArray, List.set_cons_succ, List.set_cons_zero]
    refine wpS_read (i := 4) (d := some 9) rfl (by rfl) (run_eqSt (f := a.s) (g := b.s) (gs) rfl rfl rfl) rfl ?_
    simp only [Act.put, List.setIfInBounds_toArray, List.set_cons_succ, List.set_cons_zero]
    refine wpS_this [5, 6] rfl (by kernel_rfl) (by simp only [pickL, nthL, List.cons_append, List.nil_append]; rfl) ?_
    repeat (go_big_quiet_step (fail))
    refine wpQuiet_nil ?_
    refine wpS_skip (i := 7) (d := some 12) rfl (by rfl) rfl ?_
    simp only [Act.put, List.setIfInBounds_toArray, List.set_cons_succ, List.set_cons_zero]
    refine wpS_this [8] rfl (by kernel_rfl) (by simp only [pickL, nthL, List.cons_append, List.nil_append]; rfl) ?_
    repeat (go_big_quiet_step (fail))
    refine wpQuiet_nil ?_
    refine wpS_skip (i := 9) (d := some 14) rfl (by rfl) rfl ?_
    simp only [Act.put, List.setIfInBounds_toArray, List.set_cons_succ, List.set_cons_zero]
    refine wpS_skip (i := 10) (d := some 15) rfl (by rfl) rfl ?_
    simp only [Act.put, List.setIfInBounds_toArray, List.set_cons_succ, List.set_cons_zero]
    refine wpS_this [11, 12, 13] rfl (by kernel_rfl) (by simp only [pickL, nthL, List.cons_append, List.nil_append]; rfl) ?_
    repeat (go_big_quiet_step (fail))
    refine wpQuiet_nil ?_
    refine wpS_skip (i := 14) (d := some 19) rfl (by rfl) rfl ?_
    simp only [Act.put, List.setIfInBounds_toArray, List.set_cons_succ, List.set_cons_zero]
    refine wpS_this [15] rfl (by kernel_rfl) (by simp only [pickL, nthL, List.cons_append, List.nil_append]; rfl) ?_
    repeat (go_big_quiet_step (fail))
    refine wpQuiet_nil ?_
    refine wpS_skip (i := 16) (d := some 21) rfl (by rfl) rfl ?_
    simp only [Act.put, List.setIfInBounds_toArray, List.set_cons_succ, List.set_cons_zero]
    refine wpS_skip (i := 17) (d := some 22) rfl (by rfl) rfl ?_
    simp only [Act.put, List.setIfInBounds_toArray, List.set_cons_succ, List.set_cons_zero]
    refine wpS_this [18, 19] rfl (by kernel_rfl) (by simp only [pickL, nthL, List.cons_append, List.nil_append]; rfl) ?_
    repeat (go_big_quiet_step (fail))
    refine wpQuiet_nil ?_
    refine wpS_nil ?_
    refine then_normal ?_
    refine wp_ret ?_
    refine bodyPost_ret (results_tmp rfl _ _ _) rfl ?_
    rw [hc.out]
    exact does_ret (Mem.only (M := [_]) HM8.out [2] rfl) rfl rfl
  · have gs := decide_eq_true hs
    have ge := decide_eq_false he
    have hc : Hid (sameR a b = false) := Lib.hid (by unfold sameR; rw [gs, ge]; rfl)
    clear hs he
    refine wp_region_N [(0, 1), (1, 1), (2, 1), (3, 1), (4, 1), (5, 1), (6, 1), (7, 1), (8, 1), (9, 1), (10, 1), (11, 1), (12, 1), (13, 1), (14, 1), (15, 1), (16, 1), (17, 3), (18, 1), (19, 1)] (by kernel_rfl) ?_
    refine wpS_this [0] rfl (by kernel_rfl) (by simp only [pickL, nthL, List.cons_append, List.nil_append]; rfl) ?_
    repeat (go_big_quiet_step (fail))
    refine wpQuiet_nil ?_
    refine wpS_loadA (i := 1) (d := some 6) (cells := stC (a).s) rfl (by rfl) rfl rfl (HM8.out.sub 1 rfl (rgC_st)) Try.underlying29 rfl (by kernel_rfl) rfl ?_
    simp only [Act.put, List.setIfInBounds_toArray, List.set_cons_succ, List.set_cons_zero]
    refine wpS_this [2] rfl (by kernel_rfl) (by simp only [pickL, nthL, List.cons_append, List.nil_append]; rfl) ?_
    repeat (go_big_quiet_step (fail))
    refine wpQuiet_nil ?_
    refine wpS_loadA (i := 3) (d := some 8) (cells := stC (b).s) rfl (by rfl) rfl rfl (HM8.out.sub 0 rfl (rgC_st)) Try.underlying29 rfl (by kernel_rfl) rfl ?_
    simp only [Act.put, List.setIfInBounds_toArray, List.set_cons_succ, List.set_cons_zero]
    refine wpS_read (i := 4) (d := some 9) rfl (by rfl) (run_eqSt (f := a.s) (g := b.s) (gs) rfl rfl rfl) rfl ?_
    simp only [Act.put, List.setIfInBounds_toArray, List.set_cons_succ, List.set_cons_zero]
    refine wpS_this [5, 6] rfl (by kernel_rfl) (by simp only [pickL, nthL, List.cons_append, List.nil_append]; rfl) ?_
    repeat (go_big_quiet_step (fail))
    refine wpQuiet_nil ?_
    refine wpS_loadA (i := 7) (d := some 12) (cells := enC (a).e) rfl (by rfl) rfl rfl (HM8.out.sub 1 rfl (rgC_en)) Try.underlying35 rfl (by kernel_rfl) rfl ?_
    simp only [Act.put, List.setIfInBounds_toArray, List.set_cons_succ, List.set_cons_zero]
    refine wpS_this [8] rfl (by kernel_rfl) (by simp only [pickL, nthL, List.cons_append, List.nil_append]; rfl) ?_
    repeat (go_big_quiet_step (fail))
    refine wpQuiet_nil ?_
    refine wpS_loadA (i := 9) (d := some 14) (cells := enC (b).e) rfl (by rfl) rfl rfl (HM8.out.sub 0 rfl (rgC_en)) Try.underlying35 rfl (by kernel_rfl) rfl ?_
    simp only [Act.put, List.setIfInBounds_toArray, List.set_cons_succ, List.set_cons_zero]
    refine wpS_read (i := 10) (d := some 15) rfl (by rfl) (run_eqEn (f := a.e) (g := b.e) (ge) rfl rfl rfl) rfl ?_
    simp only [Act.put, List.setIfInBounds_toArray, List.set_cons_succ, List.set_cons_zero]
    refine wpS_this [11, 12, 13] rfl (by kernel_rfl) (by simp only [pickL, nthL, List.cons_append, List.nil_append]; rfl) ?_
    repeat (go_big_quiet_step (fail))
    refine wpQuiet_nil ?_
    refine wpS_skip (i := 14) (d := some 19) rfl (by rfl) rfl ?_
    simp only [Act.put, List.setIfInBounds_toArray, List.set_cons_succ, List.set_cons_zero]
    refine wpS_this [15] rfl (by kernel_rfl) (by simp only [pickL, nthL, List.cons_append, List.nil_append]; rfl) ?_
    repeat (go_big_quiet_step (fail))
    refine wpQuiet_nil ?_
    refine wpS_skip (i := 16) (d := some 21) rfl (by rfl) rfl ?_
    simp only [Act.put, List.setIfInBounds_toArray, List.set_cons_succ, List.set_cons_zero]
    refine wpS_skip (i := 17) (d := some 22) rfl (by rfl) rfl ?_
    simp only [Act.put, List.setIfInBounds_toArray, List.set_cons_succ, List.set_cons_zero]
    refine wpS_this [18, 19] rfl (by kernel_rfl) (by simp only [pickL, nthL, List.cons_append, List.nil_append]; rfl) ?_
    repeat (go_big_quiet_step (fail))
    refine wpQuiet_nil ?_
    refine wpS_nil ?_
    refine then_normal ?_
    refine wp_ret ?_
    refine bodyPost_ret (results_tmp rfl _ _ _) rfl ?_
    rw [hc.out]
    exact does_ret (Mem.only (M := [_]) HM8.out [2] rfl) rfl rfl
  · have gs := decide_eq_true hs
    have ge := decide_eq_true he
    have hc : Hid (sameR a b = (cmpP a.p b.p == 0)) := Lib.hid (by unfold sameR; rw [gs, ge]; rfl)
    clear hs he
    refine wp_region_N [(0, 1), (1, 1), (2, 1), (3, 1), (4, 1), (5, 1), (6, 1), (7, 1), (8, 1), (9, 1), (10, 1), (11, 1), (12, 1), (13, 1), (14, 1), (15, 1), (16, 1), (17, 3), (18, 1), (19, 1)] (by kernel_rfl) ?_
    refine wpS_this [0] rfl (by kernel_rfl) (by simp only [pickL, nthL, List.cons_append, List.nil_append]; rfl) ?_
    repeat (go_big_quiet_step (fail))
    refine wpQuiet_nil ?_
    refine wpS_loadA (i := 1) (d := some 6) (cells := stC (a).s) rfl (by rfl) rfl rfl (HM8.out.sub 1 rfl (rgC_st)) Try.underlying29 rfl (by kernel_rfl) rfl ?_
    simp only [Act.put, List.setIfInBounds_toArray, List.set_cons_succ, List.set_cons_zero]
    refine wpS_this [2] rfl (by kernel_rfl) (by simp only [pickL, nthL, List.cons_append, List.nil_append]; rfl) ?_
    repeat (go_big_quiet_step (fail))
    refine wpQuiet_nil ?_
    refine wpS_loadA (i := 3) (d := some 8) (cells := stC (b).s) rfl (by rfl) rfl rfl (HM8.out.sub 0 rfl (rgC_st)) Try.underlying29 rfl (by kernel_rfl) rfl ?_
    simp only [Act.put, List.setIfInBounds_toArray, List.set_cons_succ, List.set_cons_zero]
    refine wpS_read (i := 4) (d := some 9) rfl (by rfl) (run_eqSt (f := a.s) (g := b.s) (gs) rfl rfl rfl) rfl ?_
    simp only [Act.put, List.setIfInBounds_toArray, List.set_cons_succ, List.set_cons_zero]
    refine wpS_this [5, 6] rfl (by kernel_rfl) (by simp only [pickL, nthL, List.cons_append, List.nil_append]; rfl) ?_
    repeat (go_big_quiet_step (fail))
    refine wpQuiet_nil ?_
    refine wpS_loadA (i := 7) (d := some 12) (cells := enC (a).e) rfl (by rfl) rfl rfl (HM8.out.sub 1 rfl (rgC_en)) Try.underlying35 rfl (by kernel_rfl) rfl ?_
    simp only [Act.put, List.setIfInBounds_toArray, List.set_cons_succ, List.set_cons_zero]
    refine wpS_this [8] rfl (by kernel_rfl) (by simp only [pickL, nthL, List.cons_append, List.nil_append]; rfl) ?_
    repeat (go_big_quiet_step (fail))
    refine wpQuiet_nil ?_
    refine wpS_loadA (i := 9) (d := some 14) (cells := enC (b).e) rfl (by rfl) rfl rfl (HM8.out.sub 0 rfl (rgC_en)) Try.underlying35 rfl (by kernel_rfl) rfl ?_
    simp only [Act.put, List.setIfInBounds_toArray, List.set_cons_succ, List.set_cons_zero]
    refine wpS_read (i := 10) (d := some 15) rfl (by rfl) (run_eqEn (f := a.e) (g := b.e) (ge) rfl rfl rfl) rfl ?_
    simp only [Act.put, List.setIfInBounds_toArray, List.set_cons_succ, List.set_cons_zero]
    refine wpS_this [11, 12, 13] rfl (by kernel_rfl) (by simp only [pickL, nthL, List.cons_append, List.nil_append]; rfl) ?_
    repeat (go_big_quiet_step (fail))
    refine wpQuiet_nil ?_
    refine wpS_loadA (i := 14) (d := some 19) (cells := plC (a).p (.slice pa a.p.2.2.length ca)) rfl (by rfl) rfl rfl (HM8.out.sub 1 rfl (rgC_pl)) Try.underlying32 rfl (by kernel_rfl) rfl ?_
    dsimp only [plC]
    simp only [Act.put, List.setIfInBounds_toArray, List.set_cons_succ, List.set_cons_zero]
    refine wpS_this [15] rfl (by kernel_rfl) (by simp only [pickL, nthL, List.cons_append, List.nil_append]; rfl) ?_
    repeat (go_big_quiet_step (fail))
    refine wpQuiet_nil ?_
    refine wpS_loadA (i := 16) (d := some 21) (cells := plC (b).p (.slice pb b.p.2.2.length cb)) rfl (by rfl) rfl rfl (HM8.out.sub 0 rfl (rgC_pl)) Try.underlying32 rfl (by kernel_rfl) rfl ?_
    dsimp only [plC]
    simp only [Act.put, List.setIfInBounds_toArray, List.set_cons_succ, List.set_cons_zero]
    refine wpS_does2 (i := 17) (d := some 22) (rem := [_, _]) (out := [_, _, _]) rfl (by rfl) rfl Try.call34 (psame_d R _ a.p.1 a.p.2.1 a.p.2.2 ha la _ b.p.1 b.p.2.1 b.p.2.2 hb lb) rfl rfl HM8.out [2] rfl covS_nil rfl rfl ?_
    rintro W10 hm9 -
    rw [cmpB a.p b.p]
    have HM11 := Lib.hid hm9
    clear hm9
    simp only [Act.put, List.setIfInBounds_toArray, List.set_cons_succ, List.set_cons_zero]
    refine wpS_this [18, 19] rfl (by kernel_rfl) (by simp only [pickL, nthL, List.cons_append, List.nil_append]; rfl) ?_
    repeat (go_big_quiet_step (fail))
    refine wpQuiet_nil ?_
    refine wpS_nil ?_
    refine then_normal ?_
    refine wp_ret ?_
    refine bodyPost_ret (results_tmp rfl _ _ _) rfl ?_
    rw [hc.out]
    exact does_ret (Mem.only (M := [_]) HM11.out [0] rfl) rfl rfl
set_option maxHeartbeats 4000000 in
set_option maxRecDepth 100000 in
theorem gbelow_d (R : At) (va : Value) (a : Rg) (ha : Reads elemI R va a.p.2.2) (la : a.p.2.2.length ≤ 1000) (vb : Value) (b : Rg) (hb : Reads elemI R vb b.p.2.2) (lb : b.p.2.2.length ≤ 1000) : Does Try.prog 21 #[rgV a va, rgV b vb] [R] (.bool (belowR a b)) [R] := by
  intro w H hp
  have HM0 := Lib.hid (mem_refl hp)
  clear hp
  obtain ⟨pa, ca, rfl⟩ := row_form (Mem.src HM0.out 0 rfl ha)
  obtain ⟨pb, cb, rfl⟩ := row_form (Mem.src HM0.out 0 rfl hb)
  go_enter Try.func21, Try.ntmps21
  refine wp_seq ?_
  obtain ⟨j, hj'⟩ : ∃ x, joinR a b = x := ⟨_, rfl⟩
  have hj := Lib.hid hj'
  clear hj'
  have lj : j.p.2.2.length ≤ 1000 := by rw [← hj.out]; exact joinR_len la lb
  refine wp_region_N [(0, 3), (1, 3), (2, 1)] (by kernel_rfl) ?_
  refine wpS_boxA (i := 0) (dd := 2) rfl (by rfl) rfl rfl HM0.out covS_nil rfl ?_
  rintro b3 W2 hm1 -
  have HM4 := Lib.hid hm1
  clear hm1
  simp only [Act.put, List.setIfInBounds_toArray, List.set_cons_succ, List.set_cons_zero]
  refine wpS_boxA (i := 1) (dd := 3) rfl (by rfl) rfl rfl HM4.out covS_nil rfl ?_
  rintro b7 W6 hm5 -
  have HM8 := Lib.hid hm5
  clear hm5
  simp only [Act.put, List.setIfInBounds_toArray, List.set_cons_succ, List.set_cons_zero]
  refine wpS_this [2] rfl (by kernel_rfl) (by simp only [pickL, nthL, List.cons_append, List.nil_append]; rfl) ?_
  repeat (go_big_quiet_step (fail))
  refine wpQuiet_nil ?_
  refine wpS_nil ?_
  refine then_normal ?_
  refine wp_seq ?_
  refine wp_region_M (fun k => k ∈ ([b3, b7] : List Nat)) [(0, 1), (1, 1), (3, 2), (2, 3), (4, 3), (5, 1)] (by kernel_rfl) (by kernel_rfl) HM8.out ?_
  intro W9 hm10
  have HM11 := Lib.hid hm10
  clear hm10
  refine wpS_loadA (i := 0) (d := some 5) (cells := rgC (a) (.slice pa a.p.2.2.length ca)) rfl (by rfl) rfl rfl (HM11.out.sub 1 rfl (fun k u h => by rw [Nat.zero_add]; exact h)) Try.underlying37 rfl (by kernel_rfl) rfl ?_
  simp only [Act.put, List.setIfInBounds_toArray, List.set_cons_succ, List.set_cons_zero]
  refine wpS_loadA (i := 1) (d := some 6) (cells := rgC (b) (.slice pb b.p.2.2.length cb)) rfl (by rfl) rfl rfl (HM11.out.sub 0 rfl (fun k u h => by rw [Nat.zero_add]; exact h)) Try.underlying37 rfl (by kernel_rfl) rfl ?_
  simp only [Act.put, List.setIfInBounds_toArray, List.set_cons_succ, List.set_cons_zero]
  refine wpS_loadA2 (i := 3) (d := some 8) (cells := rgC (b) (.slice pb b.p.2.2.length cb)) rfl (by rfl) rfl rfl (by simp) (HM11.out.sub 0 rfl (fun k u h => by rw [Nat.zero_add]; exact h)) Try.underlying37 rfl (by kernel_rfl) rfl ?_
  simp only [Act.put, List.setIfInBounds_toArray, List.set_cons_succ, List.set_cons_zero]
  refine wpS_doesU2 (i := 2) (d := some 7) (rem := [_, _]) rfl (by rfl) rfl Try.call22 (gjoin_d R _ a ha la _ b hb lb j hj.out) rfl rfl HM11.out [2] rfl (covS_box 1 rfl (covS_box 0 rfl covS_nil)) (fun _ => rfl) rfl ?_
  rintro u15 W13 hm12 hg14
  obtain ⟨pj, cj, rfl, hm12q⟩ := Mem.ring rfl hm12
  clear hm12
  have HM16 := Lib.hid hm12q
  clear hm12q
  simp only [Act.put, List.setIfInBounds_toArray, List.set_cons_succ, List.set_cons_zero]
  refine wpS_does2 (i := 4) (d := some 9) (rem := [_, _]) (out := [_, _, _, _]) rfl (by rfl) rfl Try.call18 (Does.ofList (gsame_d (listT [_, _]) _ j (srcL 0 rfl rowT_reads) lj _ b (srcL 1 rfl hb) lb)) rfl rfl HM16.out [0, 0] rfl (covS_box 1 rfl (covS_box 0 rfl covS_nil)) rfl rfl ?_
  rintro W18 hm17 hg19
  have HM20 := Lib.hid hm17
  clear hm17
  simp only [Act.put, List.setIfInBounds_toArray, List.set_cons_succ, List.set_cons_zero]
  refine wpS_this [5] rfl (by kernel_rfl) (by simp only [pickL, nthL, List.cons_append, List.nil_append]; rfl) ?_
  repeat (go_big_quiet_step (fail))
  refine wpQuiet_nil ?_
  refine wpS_nil ?_
  refine then_normal ?_
  refine wp_ret ?_
  refine bodyPost_ret (results_tmp rfl _ _ _) rfl ?_
  exact does_ret (Mem.only (M := [_]) HM20.out [1] rfl) (congrArg Value.bool (by rw [← hj.out]; rfl)) rfl
set_option maxHeartbeats 4000000 in
set_option maxRecDepth 100000 in
theorem grise_d (R : At) (va : Value) (a : Rg) (ha : Reads elemI R va a.p.2.2) (la : a.p.2.2.length ≤ 1000) (n x : Int) (f : Rg) (e : Int) (hf : riseR a n x = (f, e)) : DoesU Try.prog 24 #[rgV a va, .int .i64 n, .int .i64 x] [R] (fun u => [ringTe u f (.int .i64 e), R]) := by
  intro w H hp
  have HM0 := Lib.hid (mem_refl hp)
  clear hp
  obtain ⟨pa, ca, rfl⟩ := row_form (Mem.src HM0.out 0 rfl ha)
  go_enter Try.func24, Try.ntmps24
  refine wp_seq ?_
  refine wp_region_N [(0, 3), (1, 3), (2, 1)] (by kernel_rfl) ?_
  refine wpS_boxA (i := 0) (dd := 3) rfl (by rfl) rfl rfl HM0.out covS_nil rfl ?_
  rintro b3 W2 hm1 -
  have HM4 := Lib.hid hm1
  clear hm1
  simp only [Act.put, List.setIfInBounds_toArray, List.set_cons_succ, List.set_cons_zero]
  refine wpS_alloc (i := 1) (dd := 6) (z := rgV noR (.slice none 0 0)) (cs := (rgC noR (.slice none 0 0)).toArray) rfl (by rfl) rfl (by kernel_rfl) rfl HM4.out covS_nil rfl ?_
  rintro b7 W6 hm5 -
  have HM8 := Lib.hid hm5
  clear hm5
  simp only [Act.put, List.setIfInBounds_toArray, List.set_cons_succ, List.set_cons_zero]
  refine wpS_this [2] rfl (by kernel_rfl) (by simp only [pickL, nthL, List.cons_append, List.nil_append]; rfl) ?_
  repeat (go_big_quiet_step (fail))
  refine wpQuiet_nil ?_
  refine wpS_nil ?_
  refine then_normal ?_
  refine wp_seq ?_
  refine wp_seq ?_
  rcases (show mayR a = false ∨ (mayR a = true ∧ nodeE n = false) ∨ (mayR a = true ∧ nodeE n = true ∧ statB x = false) ∨ (mayR a = true ∧ nodeE n = true ∧ statB x = true ∧ x = 0) ∨ (mayR a = true ∧ nodeE n = true ∧ statB x = true ∧ x ≠ 0) from by cases mayR a <;> cases nodeE n <;> cases statB x <;> by_cases h0 : x = 0 <;> simp [h0]) with h1 | ⟨h1, h2⟩ | ⟨h1, h2, h3⟩ | ⟨h1, h2, h3, h4⟩ | ⟨h1, h2, h3, h4⟩
  · have hq : riseR a n x = (noR, 1) := by unfold riseR; rw [if_neg (by rw [h1]; simp)]
    have hq := hf.symm.trans hq
    have q1 := (Prod.mk.inj hq).1
    have q2 := (Prod.mk.inj hq).2
    subst q1
    subst q2
    clear hq hf
    replace h1 := Lib.hid h1
    refine wp_region_N [(0, 1), (1, 3), (2, 1), (3, 1), (4, 1), (5, 3), (6, 1), (7, 1), (8, 1), (9, 1), (10, 3), (11, 1), (12, 1), (13, 1), (14, 1), (15, 1), (16, 1)] (by kernel_rfl) ?_
    refine wpS_loadA (i := 0) (d := some 8) (cells := rgC (a) (.slice pa a.p.2.2.length ca)) rfl (by rfl) rfl rfl (HM8.out.sub 1 rfl (fun k u h => by rw [Nat.zero_add]; exact h)) Try.underlying37 rfl (by kernel_rfl) rfl ?_
    simp only [Act.put, List.setIfInBounds_toArray, List.set_cons_succ, List.set_cons_zero]
    refine wpS_does1 (i := 1) (d := some 9) (rem := [_, _]) (out := [_, _, _]) rfl (by rfl) rfl Try.call20 (gmay_d R _ a ha la) rfl HM8.out [2] rfl covS_nil rfl rfl ?_
    rintro W10 hm9 -
    rw [h1.out]
    have HM11 := Lib.hid hm9
    clear hm9
    simp only [Act.put, List.setIfInBounds_toArray, List.set_cons_succ, List.set_cons_zero]
    refine wpS_this [2, 3, 4] rfl (by kernel_rfl) (by simp only [pickL, nthL, List.cons_append, List.nil_append]; rfl) ?_
    repeat (go_big_quiet_step (fail))
    refine wpQuiet_nil ?_
    refine wpS_skip (i := 5) (d := some 13) rfl (by rfl) rfl ?_
    simp only [Act.put, List.setIfInBounds_toArray, List.set_cons_succ, List.set_cons_zero]
    refine wpS_this [6, 7, 8, 9] rfl (by kernel_rfl) (by simp only [pickL, nthL, List.cons_append, List.nil_append]; rfl) ?_
    repeat (go_big_quiet_step (fail))
    refine wpQuiet_nil ?_
    refine wpS_skip (i := 10) (d := some 18) rfl (by rfl) rfl ?_
    simp only [Act.put, List.setIfInBounds_toArray, List.set_cons_succ, List.set_cons_zero]
    refine wpS_this [11, 12, 13, 14, 15, 16] rfl (by kernel_rfl) (by simp only [pickL, nthL, List.cons_append, List.nil_append]; rfl) ?_
    repeat (go_big_quiet_step (fail))
    refine wpQuiet_nil ?_
    refine wpS_nil ?_
    refine then_normal ?_
    refine wp_cond_true rfl ?_
    refine wp_seq ?_
    refine wp_region_N [(0, 1), (1, 3), (2, 1)] (by kernel_rfl) ?_
    refine wpS_read (i := 0) (d := some 25) (v := rgV noR (.slice none 0 0)) rfl (by rfl) (by kernel_rfl) rfl ?_
    simp only [Act.put, List.setIfInBounds_toArray, List.set_cons_succ, List.set_cons_zero]
    refine wpS_storeA (i := 1) (L2 := [_, _]) (cs' := rgC (noR) (.slice none 0 0)) rfl (by rfl) rfl rfl rfl (by kernel_rfl) (rgC_one _ _ _) HM11.out 1 rfl rfl (by kernel_rfl) (by kernel_rfl) covS_nil rfl ?_
    rintro W13 hm12 -
    have HM14 := Lib.hid hm12
    clear hm12
    refine wpS_this [2] rfl (by kernel_rfl) (by simp only [pickL, nthL, List.cons_append, List.nil_append]; rfl) ?_
    repeat (go_big_quiet_step (fail))
    refine wpQuiet_nil ?_
    refine wpS_nil ?_
    refine then_normal ?_
    refine wp_ret ?_
    refine then_ret ?_
    refine ret_cell_tmp rfl HM14.out 0 rfl rfl Try.underlying37 rfl (by kernel_rfl) rfl rfl ?_
    exact doesU_ret (post := fun u => [ringTe u noR (.int .i64 1), R]) (Mem.toRingE (p := none) (c := 0) (x := noR) (Mem.nilRow elemI (Mem.only (M := [_]) HM14.out [1] rfl))) rfl
  · have hq : riseR a n x = (noR, 1) := by unfold riseR; rw [if_neg (by rw [h2]; simp)]
    have hq := hf.symm.trans hq
    have q1 := (Prod.mk.inj hq).1
    have q2 := (Prod.mk.inj hq).2
    subst q1
    subst q2
    clear hq hf
    replace h1 := Lib.hid h1
    replace h2 := Lib.hid h2
    refine wp_region_N [(0, 1), (1, 3), (2, 1), (3, 1), (4, 1), (5, 3), (6, 1), (7, 1), (8, 1), (9, 1), (10, 3), (11, 1), (12, 1), (13, 1), (14, 1), (15, 1), (16, 1)] (by kernel_rfl) ?_
    refine wpS_loadA (i := 0) (d := some 8) (cells := rgC (a) (.slice pa a.p.2.2.length ca)) rfl (by rfl) rfl rfl (HM8.out.sub 1 rfl (fun k u h => by rw [Nat.zero_add]; exact h)) Try.underlying37 rfl (by kernel_rfl) rfl ?_
    simp only [Act.put, List.setIfInBounds_toArray, List.set_cons_succ, List.set_cons_zero]
    refine wpS_does1 (i := 1) (d := some 9) (rem := [_, _]) (out := [_, _, _]) rfl (by rfl) rfl Try.call20 (gmay_d R _ a ha la) rfl HM8.out [2] rfl covS_nil rfl rfl ?_
    rintro W16 hm15 -
    rw [h1.out]
    have HM17 := Lib.hid hm15
    clear hm15
    simp only [Act.put, List.setIfInBounds_toArray, List.set_cons_succ, List.set_cons_zero]
    refine wpS_this [2, 3, 4] rfl (by kernel_rfl) (by simp only [pickL, nthL, List.cons_append, List.nil_append]; rfl) ?_
    repeat (go_big_quiet_step (fail))
    refine wpQuiet_nil ?_
    refine wpS_does1 (i := 5) (d := some 13) (rem := [_, _, _]) (out := [_, _, _]) rfl (by rfl) rfl Try.call46 (isnode_d n) rfl HM17.out [] rfl covS_nil rfl rfl ?_
    rintro W19 hm18 -
    rw [h2.out]
    have HM20 := Lib.hid hm18
    clear hm18
    simp only [Act.put, List.setIfInBounds_toArray, List.set_cons_succ, List.set_cons_zero]
    refine wpS_this [6, 7, 8, 9] rfl (by kernel_rfl) (by simp only [pickL, nthL, List.cons_append, List.nil_append]; rfl) ?_
    repeat (go_big_quiet_step (fail))
    refine wpQuiet_nil ?_
    refine wpS_skip (i := 10) (d := some 18) rfl (by rfl) rfl ?_
    simp only [Act.put, List.setIfInBounds_toArray, List.set_cons_succ, List.set_cons_zero]
    refine wpS_this [11, 12, 13, 14, 15, 16] rfl (by kernel_rfl) (by simp only [pickL, nthL, List.cons_append, List.nil_append]; rfl) ?_
    repeat (go_big_quiet_step (fail))
    refine wpQuiet_nil ?_
    refine wpS_nil ?_
    refine then_normal ?_
    refine wp_cond_true rfl ?_
    refine wp_seq ?_
    refine wp_region_N [(0, 1), (1, 3), (2, 1)] (by kernel_rfl) ?_
    refine wpS_read (i := 0) (d := some 25) (v := rgV noR (.slice none 0 0)) rfl (by rfl) (by kernel_rfl) rfl ?_
    simp only [Act.put, List.setIfInBounds_toArray, List.set_cons_succ, List.set_cons_zero]
    refine wpS_storeA (i := 1) (L2 := [_, _]) (cs' := rgC (noR) (.slice none 0 0)) rfl (by rfl) rfl rfl rfl (by kernel_rfl) (rgC_one _ _ _) HM20.out 1 rfl rfl (by kernel_rfl) (by kernel_rfl) covS_nil rfl ?_
    rintro W22 hm21 -
    have HM23 := Lib.hid hm21
    clear hm21
    refine wpS_this [2] rfl (by kernel_rfl) (by simp only [pickL, nthL, List.cons_append, List.nil_append]; rfl) ?_
    repeat (go_big_quiet_step (fail))
    refine wpQuiet_nil ?_
    refine wpS_nil ?_
    refine then_normal ?_
    refine wp_ret ?_
    refine then_ret ?_
    refine ret_cell_tmp rfl HM23.out 0 rfl rfl Try.underlying37 rfl (by kernel_rfl) rfl rfl ?_
    exact doesU_ret (post := fun u => [ringTe u noR (.int .i64 1), R]) (Mem.toRingE (p := none) (c := 0) (x := noR) (Mem.nilRow elemI (Mem.only (M := [_]) HM23.out [1] rfl))) rfl
  · have hq : riseR a n x = (noR, 1) := by unfold riseR; rw [if_neg (by intro h; have := of_decide_eq_false h3; omega)]
    have hq := hf.symm.trans hq
    have q1 := (Prod.mk.inj hq).1
    have q2 := (Prod.mk.inj hq).2
    subst q1
    subst q2
    clear hq hf
    replace h1 := Lib.hid h1
    replace h2 := Lib.hid h2
    replace h3 := Lib.hid h3
    refine wp_region_N [(0, 1), (1, 3), (2, 1), (3, 1), (4, 1), (5, 3), (6, 1), (7, 1), (8, 1), (9, 1), (10, 3), (11, 1), (12, 1), (13, 1), (14, 1), (15, 1), (16, 1)] (by kernel_rfl) ?_
    refine wpS_loadA (i := 0) (d := some 8) (cells := rgC (a) (.slice pa a.p.2.2.length ca)) rfl (by rfl) rfl rfl (HM8.out.sub 1 rfl (fun k u h => by rw [Nat.zero_add]; exact h)) Try.underlying37 rfl (by kernel_rfl) rfl ?_
    simp only [Act.put, List.setIfInBounds_toArray, List.set_cons_succ, List.set_cons_zero]
    refine wpS_does1 (i := 1) (d := some 9) (rem := [_, _]) (out := [_, _, _]) rfl (by rfl) rfl Try.call20 (gmay_d R _ a ha la) rfl HM8.out [2] rfl covS_nil rfl rfl ?_
    rintro W25 hm24 -
    rw [h1.out]
    have HM26 := Lib.hid hm24
    clear hm24
    simp only [Act.put, List.setIfInBounds_toArray, List.set_cons_succ, List.set_cons_zero]
    refine wpS_this [2, 3, 4] rfl (by kernel_rfl) (by simp only [pickL, nthL, List.cons_append, List.nil_append]; rfl) ?_
    repeat (go_big_quiet_step (fail))
    refine wpQuiet_nil ?_
    refine wpS_does1 (i := 5) (d := some 13) (rem := [_, _, _]) (out := [_, _, _]) rfl (by rfl) rfl Try.call46 (isnode_d n) rfl HM26.out [] rfl covS_nil rfl rfl ?_
    rintro W28 hm27 -
    rw [h2.out]
    have HM29 := Lib.hid hm27
    clear hm27
    simp only [Act.put, List.setIfInBounds_toArray, List.set_cons_succ, List.set_cons_zero]
    refine wpS_this [6, 7, 8, 9] rfl (by kernel_rfl) (by simp only [pickL, nthL, List.cons_append, List.nil_append]; rfl) ?_
    repeat (go_big_quiet_step (fail))
    refine wpQuiet_nil ?_
    refine wpS_does1 (i := 10) (d := some 18) (rem := [_, _, _]) (out := [_, _, _]) rfl (by rfl) rfl Try.call36 (istat_d x) rfl HM29.out [] rfl covS_nil rfl rfl ?_
    rintro W31 hm30 -
    rw [h3.out]
    have HM32 := Lib.hid hm30
    clear hm30
    simp only [Act.put, List.setIfInBounds_toArray, List.set_cons_succ, List.set_cons_zero]
    refine wpS_this [11, 12, 13, 14, 15, 16] rfl (by kernel_rfl) (by simp only [pickL, nthL, List.cons_append, List.nil_append]; rfl) ?_
    repeat (go_big_quiet_step (fail))
    refine wpQuiet_nil ?_
    refine wpS_nil ?_
    refine then_normal ?_
    refine wp_cond_true rfl ?_
    refine wp_seq ?_
    refine wp_region_N [(0, 1), (1, 3), (2, 1)] (by kernel_rfl) ?_
    refine wpS_read (i := 0) (d := some 25) (v := rgV noR (.slice none 0 0)) rfl (by rfl) (by kernel_rfl) rfl ?_
    simp only [Act.put, List.setIfInBounds_toArray, List.set_cons_succ, List.set_cons_zero]
    refine wpS_storeA (i := 1) (L2 := [_, _]) (cs' := rgC (noR) (.slice none 0 0)) rfl (by rfl) rfl rfl rfl (by kernel_rfl) (rgC_one _ _ _) HM32.out 1 rfl rfl (by kernel_rfl) (by kernel_rfl) covS_nil rfl ?_
    rintro W34 hm33 -
    have HM35 := Lib.hid hm33
    clear hm33
    refine wpS_this [2] rfl (by kernel_rfl) (by simp only [pickL, nthL, List.cons_append, List.nil_append]; rfl) ?_
    repeat (go_big_quiet_step (fail))
    refine wpQuiet_nil ?_
    refine wpS_nil ?_
    refine then_normal ?_
    refine wp_ret ?_
    refine then_ret ?_
    refine ret_cell_tmp rfl HM35.out 0 rfl rfl Try.underlying37 rfl (by kernel_rfl) rfl rfl ?_
    exact doesU_ret (post := fun u => [ringTe u noR (.int .i64 1), R]) (Mem.toRingE (p := none) (c := 0) (x := noR) (Mem.nilRow elemI (Mem.only (M := [_]) HM35.out [1] rfl))) rfl
  · have hq : riseR a n x = (noR, 1) := by unfold riseR; rw [if_neg (by omega)]
    have hq := hf.symm.trans hq
    have q1 := (Prod.mk.inj hq).1
    have q2 := (Prod.mk.inj hq).2
    subst q1
    subst q2
    clear hq hf
    have gx : (x == 0) = true := beq_iff_eq.2 h4
    clear h4
    replace h1 := Lib.hid h1
    replace h2 := Lib.hid h2
    replace h3 := Lib.hid h3
    refine wp_region_N [(0, 1), (1, 3), (2, 1), (3, 1), (4, 1), (5, 3), (6, 1), (7, 1), (8, 1), (9, 1), (10, 3), (11, 1), (12, 1), (13, 1), (14, 1), (15, 1), (16, 1)] (by kernel_rfl) ?_
    refine wpS_loadA (i := 0) (d := some 8) (cells := rgC (a) (.slice pa a.p.2.2.length ca)) rfl (by rfl) rfl rfl (HM8.out.sub 1 rfl (fun k u h => by rw [Nat.zero_add]; exact h)) Try.underlying37 rfl (by kernel_rfl) rfl ?_
    simp only [Act.put, List.setIfInBounds_toArray, List.set_cons_succ, List.set_cons_zero]
    refine wpS_does1 (i := 1) (d := some 9) (rem := [_, _]) (out := [_, _, _]) rfl (by rfl) rfl Try.call20 (gmay_d R _ a ha la) rfl HM8.out [2] rfl covS_nil rfl rfl ?_
    rintro W37 hm36 -
    rw [h1.out]
    have HM38 := Lib.hid hm36
    clear hm36
    simp only [Act.put, List.setIfInBounds_toArray, List.set_cons_succ, List.set_cons_zero]
    refine wpS_this [2, 3, 4] rfl (by kernel_rfl) (by simp only [pickL, nthL, List.cons_append, List.nil_append]; rfl) ?_
    repeat (go_big_quiet_step (fail))
    refine wpQuiet_nil ?_
    refine wpS_does1 (i := 5) (d := some 13) (rem := [_, _, _]) (out := [_, _, _]) rfl (by rfl) rfl Try.call46 (isnode_d n) rfl HM38.out [] rfl covS_nil rfl rfl ?_
    rintro W40 hm39 -
    rw [h2.out]
    have HM41 := Lib.hid hm39
    clear hm39
    simp only [Act.put, List.setIfInBounds_toArray, List.set_cons_succ, List.set_cons_zero]
    refine wpS_this [6, 7, 8, 9] rfl (by kernel_rfl) (by simp only [pickL, nthL, List.cons_append, List.nil_append]; rfl) ?_
    repeat (go_big_quiet_step (fail))
    refine wpQuiet_nil ?_
    refine wpS_does1 (i := 10) (d := some 18) (rem := [_, _, _]) (out := [_, _, _]) rfl (by rfl) rfl Try.call36 (istat_d x) rfl HM41.out [] rfl covS_nil rfl rfl ?_
    rintro W43 hm42 -
    rw [h3.out]
    have HM44 := Lib.hid hm42
    clear hm42
    simp only [Act.put, List.setIfInBounds_toArray, List.set_cons_succ, List.set_cons_zero]
    refine wpS_this [11, 12, 13, 14, 15, 16] rfl (by kernel_rfl) (by simp only [pickL, nthL, List.cons_append, List.nil_append]; rfl) ?_
    repeat (go_big_quiet_step (fail))
    refine wpQuiet_nil ?_
    refine wpS_nil ?_
    refine then_normal ?_
    refine wp_cond_true rfl ?_
    refine wp_seq ?_
    refine wp_region_N [(0, 1), (1, 3), (2, 1)] (by kernel_rfl) ?_
    refine wpS_read (i := 0) (d := some 25) (v := rgV noR (.slice none 0 0)) rfl (by rfl) (by kernel_rfl) rfl ?_
    simp only [Act.put, List.setIfInBounds_toArray, List.set_cons_succ, List.set_cons_zero]
    refine wpS_storeA (i := 1) (L2 := [_, _]) (cs' := rgC (noR) (.slice none 0 0)) rfl (by rfl) rfl rfl rfl (by kernel_rfl) (rgC_one _ _ _) HM44.out 1 rfl rfl (by kernel_rfl) (by kernel_rfl) covS_nil rfl ?_
    rintro W46 hm45 -
    have HM47 := Lib.hid hm45
    clear hm45
    refine wpS_this [2] rfl (by kernel_rfl) (by simp only [pickL, nthL, List.cons_append, List.nil_append]; rfl) ?_
    repeat (go_big_quiet_step (fail))
    refine wpQuiet_nil ?_
    refine wpS_nil ?_
    refine then_normal ?_
    refine wp_ret ?_
    refine then_ret ?_
    refine ret_cell_tmp rfl HM47.out 0 rfl rfl Try.underlying37 rfl (by kernel_rfl) rfl rfl ?_
    exact doesU_ret (post := fun u => [ringTe u noR (.int .i64 1), R]) (Mem.toRingE (p := none) (c := 0) (x := noR) (Mem.nilRow elemI (Mem.only (M := [_]) HM47.out [1] rfl))) rfl
  · have gx : (x == 0) = false := beq_eq_false_iff_ne.2 h4
    have hx14 : 1 ≤ x ∧ x ≤ 4 := by have := of_decide_eq_true h3; omega
    clear h4
    have hn8 := of_decide_eq_true h2
    obtain ⟨m, hnm⟩ := nat_of hn8.1
    subst hnm
    have hm8 : m < 8 := by omega
    clear hn8
    replace h1 := Lib.hid h1
    replace h2 := Lib.hid h2
    replace h3 := Lib.hid h3
    refine wp_region_N [(0, 1), (1, 3), (2, 1), (3, 1), (4, 1), (5, 3), (6, 1), (7, 1), (8, 1), (9, 1), (10, 3), (11, 1), (12, 1), (13, 1), (14, 1), (15, 1), (16, 1)] (by kernel_rfl) ?_
    refine wpS_loadA (i := 0) (d := some 8) (cells := rgC (a) (.slice pa a.p.2.2.length ca)) rfl (by rfl) rfl rfl (HM8.out.sub 1 rfl (fun k u h => by rw [Nat.zero_add]; exact h)) Try.underlying37 rfl (by kernel_rfl) rfl ?_
    simp only [Act.put, List.setIfInBounds_toArray, List.set_cons_succ, List.set_cons_zero]
    refine wpS_does1 (i := 1) (d := some 9) (rem := [_, _]) (out := [_, _, _]) rfl (by rfl) rfl Try.call20 (gmay_d R _ a ha la) rfl HM8.out [2] rfl covS_nil rfl rfl ?_
    rintro W49 hm48 -
    rw [h1.out]
    have HM50 := Lib.hid hm48
    clear hm48
    simp only [Act.put, List.setIfInBounds_toArray, List.set_cons_succ, List.set_cons_zero]
    refine wpS_this [2, 3, 4] rfl (by kernel_rfl) (by simp only [pickL, nthL, List.cons_append, List.nil_append]; rfl) ?_
    repeat (go_big_quiet_step (fail))
    refine wpQuiet_nil ?_
    refine wpS_does1 (i := 5) (d := some 13) (rem := [_, _, _]) (out := [_, _, _]) rfl (by rfl) rfl Try.call46 (isnode_d (m : Int)) rfl HM50.out [] rfl covS_nil rfl rfl ?_
    rintro W52 hm51 -
    rw [h2.out]
    have HM53 := Lib.hid hm51
    clear hm51
    simp only [Act.put, List.setIfInBounds_toArray, List.set_cons_succ, List.set_cons_zero]
    refine wpS_this [6, 7, 8, 9] rfl (by kernel_rfl) (by simp only [pickL, nthL, List.cons_append, List.nil_append]; rfl) ?_
    repeat (go_big_quiet_step (fail))
    refine wpQuiet_nil ?_
    refine wpS_does1 (i := 10) (d := some 18) (rem := [_, _, _]) (out := [_, _, _]) rfl (by rfl) rfl Try.call36 (istat_d x) rfl HM53.out [] rfl covS_nil rfl rfl ?_
    rintro W55 hm54 -
    rw [h3.out]
    have HM56 := Lib.hid hm54
    clear hm54
    simp only [Act.put, List.setIfInBounds_toArray, List.set_cons_succ, List.set_cons_zero]
    refine wpS_this [11, 12, 13, 14, 15, 16] rfl (by kernel_rfl) (by simp only [pickL, nthL, List.cons_append, List.nil_append]; rfl) ?_
    repeat (go_big_quiet_step (fail))
    refine wpQuiet_nil ?_
    refine wpS_nil ?_
    refine then_normal ?_
    refine wp_cond_false rfl ?_
    refine wp_skip ?_
    refine then_normal ?_
    refine wp_seq ?_
    refine wp_seq ?_
    by_cases hle : x ≤ a.s m
    · have gle : decide (x ≤ a.s m) = true := decide_eq_true hle
      have hq : riseR a m x = (noR, 8) := by unfold riseR; rw [if_pos ⟨h1.out, h2.out, hx14⟩, if_pos (by rw [Int.toNat_natCast]; exact hle)]
      have hq := hf.symm.trans hq
      have q1 := (Prod.mk.inj hq).1
      have q2 := (Prod.mk.inj hq).2
      subst q1
      subst q2
      clear hq hf
      clear hle hx14
      refine wp_region_N [(0, 1), (1, 1), (2, 1), (3, 1), (4, 1), (5, 1)] (by kernel_rfl) ?_
      refine wpS_this [0, 1] rfl (by kernel_rfl) (by simp only [pickL, nthL, List.cons_append, List.nil_append]; rfl) ?_
      repeat (go_big_quiet_step (fail))
      refine wpQuiet_nil ?_
      refine wpS_read (i := 2) (d := some 28) rfl (by rfl) (run_addrSt (hm8) rfl rfl rfl) rfl ?_
      simp only [Act.put, List.setIfInBounds_toArray, List.set_cons_succ, List.set_cons_zero]
      refine wpS_load1 (i := 3) (d := some 29) (u := _) rfl (by rfl) rfl rfl (HM56.out.sub1 2 rfl (rgC_s (hm8))) Try.underlying3 rfl rfl ?_
      simp only [Act.put, List.setIfInBounds_toArray, List.set_cons_succ, List.set_cons_zero]
      refine wpS_this [4, 5] rfl (by kernel_rfl) (by simp only [pickL, nthL, List.cons_append, List.nil_append]; rfl) ?_
      repeat (go_big_quiet_step (fail))
      refine wpQuiet_nil ?_
      refine wpS_nil ?_
      refine then_normal ?_
      refine wp_cond_true rfl ?_
      refine wp_seq ?_
      refine wp_region_N [(0, 1), (1, 3), (2, 1)] (by kernel_rfl) ?_
      refine wpS_read (i := 0) (d := some 32) (v := rgV noR (.slice none 0 0)) rfl (by rfl) (by kernel_rfl) rfl ?_
      simp only [Act.put, List.setIfInBounds_toArray, List.set_cons_succ, List.set_cons_zero]
      refine wpS_storeA (i := 1) (L2 := [_, _]) (cs' := rgC (noR) (.slice none 0 0)) rfl (by rfl) rfl rfl rfl (by kernel_rfl) (rgC_one _ _ _) HM56.out 1 rfl rfl (by kernel_rfl) (by kernel_rfl) covS_nil rfl ?_
      rintro W58 hm57 -
      have HM59 := Lib.hid hm57
      clear hm57
      refine wpS_this [2] rfl (by kernel_rfl) (by simp only [pickL, nthL, List.cons_append, List.nil_append]; rfl) ?_
      repeat (go_big_quiet_step (fail))
      refine wpQuiet_nil ?_
      refine wpS_nil ?_
      refine then_normal ?_
      refine wp_ret ?_
      refine then_ret ?_
      refine ret_cell_tmp rfl HM59.out 0 rfl rfl Try.underlying37 rfl (by kernel_rfl) rfl rfl ?_
      exact doesU_ret (post := fun u => [ringTe u noR (.int .i64 8), R]) (Mem.toRingE (p := none) (c := 0) (x := noR) (Mem.nilRow elemI (Mem.only (M := [_]) HM59.out [1] rfl))) rfl
    · have gle : decide (x ≤ a.s m) = false := decide_eq_false hle
      have hq : riseR a m x = (⟨upd a.s m x, a.p, a.e⟩, 0) := by unfold riseR; rw [if_pos ⟨h1.out, h2.out, hx14⟩, if_neg (by rw [Int.toNat_natCast]; exact hle), Int.toNat_natCast]
      have hq := hf.symm.trans hq
      have q1 := (Prod.mk.inj hq).1
      have q2 := (Prod.mk.inj hq).2
      subst q1
      subst q2
      clear hq hf
      clear hle hx14
      refine wp_region_N [(0, 1), (1, 1), (2, 1), (3, 1), (4, 1), (5, 1)] (by kernel_rfl) ?_
      refine wpS_this [0, 1] rfl (by kernel_rfl) (by simp only [pickL, nthL, List.cons_append, List.nil_append]; rfl) ?_
      repeat (go_big_quiet_step (fail))
      refine wpQuiet_nil ?_
      refine wpS_read (i := 2) (d := some 28) rfl (by rfl) (run_addrSt (hm8) rfl rfl rfl) rfl ?_
      simp only [Act.put, List.setIfInBounds_toArray, List.set_cons_succ, List.set_cons_zero]
      refine wpS_load1 (i := 3) (d := some 29) (u := _) rfl (by rfl) rfl rfl (HM56.out.sub1 2 rfl (rgC_s (hm8))) Try.underlying3 rfl rfl ?_
      simp only [Act.put, List.setIfInBounds_toArray, List.set_cons_succ, List.set_cons_zero]
      refine wpS_this [4, 5] rfl (by kernel_rfl) (by simp only [pickL, nthL, List.cons_append, List.nil_append]; rfl) ?_
      repeat (go_big_quiet_step (fail))
      refine wpQuiet_nil ?_
      refine wpS_nil ?_
      refine then_normal ?_
      refine wp_cond_false rfl ?_
      refine wp_skip ?_
      refine then_normal ?_
      refine wp_seq ?_
      refine wp_region_N [(0, 1), (1, 1), (2, 1), (3, 3), (4, 1), (5, 1), (6, 3)] (by kernel_rfl) ?_
      refine wpS_this [0, 1] rfl (by kernel_rfl) (by simp only [pickL, nthL, List.cons_append, List.nil_append]; rfl) ?_
      repeat (go_big_quiet_step (fail))
      refine wpQuiet_nil ?_
      refine wpS_load1 (i := 2) (d := some 35) (u := .slice pa a.p.2.2.length ca) rfl (by rfl) rfl rfl (HM56.out.sub1 2 rfl (rgC_pl 2 _ rfl)) Try.underlying30 rfl rfl ?_
      simp only [Act.put, List.setIfInBounds_toArray, List.set_cons_succ, List.set_cons_zero]
      refine wpS_doesU1 (i := 3) (d := some 36) (rem := [_, _]) rfl (by rfl) rfl Try.call33 (clone_d R _ a.p.2.2 ha la) rfl HM56.out [0] rfl covS_nil (fun _ => rfl) rfl ?_
      rintro u62 W61 hm60 -
      obtain ⟨vp, vc, rfl⟩ := row_form (Mem.src hm60 0 rfl rowT_reads)
      have HM63 := Lib.hid hm60
      clear hm60
      simp only [Act.put, List.setIfInBounds_toArray, List.set_cons_succ, List.set_cons_zero]
      refine wpS_this [4, 5] rfl (by kernel_rfl) (by simp only [pickL, nthL, List.cons_append, List.nil_append]; rfl) ?_
      repeat (go_big_quiet_step (fail))
      refine wpQuiet_nil ?_
      refine wpS_store1 (i := 6) (v := .slice _ _ _) (L2 := [_, _, _]) (cs' := rgC (a) (.slice vp a.p.2.2.length vc)) rfl (by rfl) rfl rfl rfl rfl (by kernel_rfl) rfl HM63.out 3 rfl rfl (by kernel_rfl) (rgC_setSl _ _ _) covS_nil rfl ?_
      rintro W65 hm64 -
      have HM66 := Lib.hid hm64
      clear hm64
      refine wpS_nil ?_
      refine then_normal ?_
      refine wp_seq ?_
      refine wp_region_N [(0, 1), (1, 1), (2, 1), (3, 1), (4, 3)] (by kernel_rfl) ?_
      refine wpS_this [0, 1, 2] rfl (by kernel_rfl) (by simp only [pickL, nthL, List.cons_append, List.nil_append]; rfl) ?_
      repeat (go_big_quiet_step (fail))
      refine wpQuiet_nil ?_
      refine wpS_read (i := 3) (d := some 42) rfl (by rfl) (run_addrSt (hm8) rfl rfl rfl) rfl ?_
      simp only [Act.put, List.setIfInBounds_toArray, List.set_cons_succ, List.set_cons_zero]
      refine wpS_store1 (i := 4) (v := .int _ _) (L2 := [_, _, _]) (cs' := rgC (⟨upd a.s m x, a.p, a.e⟩) (.slice vp a.p.2.2.length vc)) rfl (by rfl) rfl rfl rfl rfl (by kernel_rfl) rfl HM66.out 0 rfl rfl (Nat.ble_eq_true_of_le (by rw [rgC_len]; have := hm8; omega)) (rgC_setS (hm8) _) covS_nil rfl ?_
      rintro W68 hm67 -
      have HM69 := Lib.hid hm67
      clear hm67
      refine wpS_nil ?_
      refine then_normal ?_
      refine wp_seq ?_
      refine wp_region_N [(0, 1), (1, 3), (2, 1)] (by kernel_rfl) ?_
      refine wpS_loadA (i := 0) (d := some 43) (cells := rgC (⟨upd a.s m x, a.p, a.e⟩) (.slice vp a.p.2.2.length vc)) rfl (by rfl) rfl rfl (HM69.out.sub 0 rfl (fun k u h => by rw [Nat.zero_add]; exact h)) Try.underlying37 rfl (by kernel_rfl) rfl ?_
      simp only [Act.put, List.setIfInBounds_toArray, List.set_cons_succ, List.set_cons_zero]
      refine wpS_storeA (i := 1) (L2 := [_, _, _]) (cs' := rgC (⟨upd a.s m x, a.p, a.e⟩) (.slice vp a.p.2.2.length vc)) rfl (by rfl) rfl rfl rfl (by kernel_rfl) (rgC_one _ _ _) HM69.out 3 rfl rfl (by kernel_rfl) (by kernel_rfl) covS_nil rfl ?_
      rintro W71 hm70 -
      have HM72 := Lib.hid hm70
      clear hm70
      refine wpS_this [2] rfl (by kernel_rfl) (by simp only [pickL, nthL, List.cons_append, List.nil_append]; rfl) ?_
      repeat (go_big_quiet_step (fail))
      refine wpQuiet_nil ?_
      refine wpS_nil ?_
      refine then_normal ?_
      refine wp_ret ?_
      refine ret_cell_tmp rfl HM72.out 0 rfl rfl Try.underlying37 rfl (by kernel_rfl) rfl rfl ?_
      exact doesU_ret (post := fun u => [ringTe u ⟨upd a.s m x, a.p, a.e⟩ (.int .i64 0), R]) (Mem.toRingE (x := ⟨upd a.s m x, a.p, a.e⟩) (Mem.only (M := [_, _]) HM72.out [2, 2] rfl)) rfl
end
end Go.Proofs.Ytnkchmafofpimaa
