/- RgL: RgL. -/
import Derived.Test.YtnahhbpaijfpbaaRgK
namespace Go.Proofs.Ytnahhbpaijfpbaa
section
open Go Go.RowKit Go.BigFrame
def firstR (n : Int) : Rg × Bool := if nodeE n = true then (oneR n.toNat, true) else (noR, false)
def ownerR (a : Rg) (p : Int) : Int := if partB p = true ∧ (a.e p.toNat).1 ≠ 0 ∧ mayE (a.e p.toNat) = true then (a.e p.toNat).2 else -1
def targetR (a : Rg) (p : Int) : Int := if partB p = true ∧ a.p.2.2 ≠ [] ∧ mayP a.p = true then a.p.2.2.getD p.toNat 0 else -1
def ofR (a : Rg) (f t : Int) : List Int := ((List.range 8).filter fun i => decide (f ≤ a.s i ∧ a.s i ≤ t)).map fun i : Nat => (i : Int)
def movR (a : Rg) (n : Int) : List Int := ((List.range 16).filter fun p : Nat => decide (nodeE n = true ∧ ownerR a p = n ∧ 0 ≤ targetR a p ∧ targetR a p ≠ n)).map fun p : Nat => (p : Int)
theorem ent_pos {x : En} (h : mayE x = true) (h0 : x ≠ (0, 0)) : x.1 ≠ 0 := by
  rcases of_decide_eq_true h with ⟨h1, h2⟩ | ⟨h1, _⟩
  · exact absurd (Prod.ext h1 h2) h0
  · omega
theorem may_tgt {p : Pl} (h : mayP p = true) (h0 : p.2.2 ≠ []) : tgtL p.2.2 = true := by
  obtain ⟨v, b, t⟩ := p
  have hm : mayP (v, b, t) = (noneB v b t.length || (decide (1 ≤ v ∧ v ≤ 1000000) && nodeE b && tgtL t)) := rfl
  rw [hm] at h
  rcases Bool.or_eq_true_iff.1 h with h1 | h1
  · exact absurd (List.eq_nil_of_length_eq_zero (of_decide_eq_true h1).2.2) h0
  · exact (Bool.and_eq_true_iff.1 h1).2
theorem may_len {p : Pl} (h : mayP p = true) (h0 : p.2.2 ≠ []) : p.2.2.length = 16 := by
  have h1 := may_tgt h h0
  unfold tgtL at h1
  exact of_decide_eq_true (Bool.and_eq_true_iff.1 h1).1
theorem target_or (a : Rg) (n : Int) : targetR a n = -1 ∨ nodeE (targetR a n) = true := by
  unfold targetR
  split
  · rename_i h
    refine .inr ?_
    have h1 := may_len h.2.2 h.2.1
    have h2 := may_tgt h.2.2 h.2.1
    have h3 := of_decide_eq_true h.1
    unfold tgtL at h2
    have h4 := List.all_eq_true.1 (Bool.and_eq_true_iff.1 h2).2
    have hlt : n.toNat < a.p.2.2.length := by omega
    rw [List.getD_eq_getElem?_getD, List.getElem?_eq_getElem hlt]
    exact h4 _ (List.getElem_mem hlt)
  · exact .inl rfl
set_option maxHeartbeats 4000000 in
set_option maxRecDepth 100000 in
theorem gmay_d (R : At) (va : Value) (a : Rg) (ha : Reads elemI R va a.p.2.2) (la : a.p.2.2.length ≤ 1000) : Does Try.prog 31 #[rgV a va] [R] (.bool (mayR a)) [R] := by
  intro w H hp
  have HM0 := Lib.hid (mem_refl hp)
  clear hp
  obtain ⟨pa, ca, rfl⟩ := row_form (Mem.src HM0.out 0 rfl ha)
  go_enter Try.func31, Try.ntmps31
  refine wp_seq ?_
  refine wp_region_N [(0, 3), (1, 1)] (by kernel_rfl) ?_
  refine wpS_boxA (i := 0) (dd := 1) rfl (by rfl) rfl rfl HM0.out covS_nil rfl ?_
  rintro b3 W2 hm1 -
  have HM4 := Lib.hid hm1
  clear hm1
  simp only [Act.put, List.setIfInBounds_toArray, List.set_cons_succ, List.set_cons_zero]
  refine wpS_this [1] rfl (by kernel_rfl) (by simp only [pickL, nthL, List.cons_append, List.nil_append]; rfl) ?_
  repeat (go_big_quiet_step (fail))
  refine wpQuiet_nil ?_
  refine wpS_nil ?_
  refine then_normal ?_
  refine wp_seq ?_
  rcases (show (tab8 a.s).all statB = false ∨ ((tab8 a.s).all statB = true ∧ mayP a.p = false) ∨ ((tab8 a.s).all statB = true ∧ mayP a.p = true) from by cases (tab8 a.s).all statB <;> cases mayP a.p <;> simp) with h1 | ⟨h1, h2⟩ | ⟨h1, h2⟩
  · replace h1 := Lib.hid h1
    refine wp_region_N [(0, 1), (1, 1), (2, 3), (3, 1), (4, 1), (5, 1), (6, 3), (7, 1), (8, 1), (9, 1), (10, 1), (11, 3), (12, 1), (13, 1)] (by kernel_rfl) ?_
    refine wpS_this [0] rfl (by kernel_rfl) (by simp only [pickL, nthL, List.cons_append, List.nil_append]; rfl) ?_
    repeat (go_big_quiet_step (fail))
    refine wpQuiet_nil ?_
    refine wpS_read (i := 1) (d := some 4) rfl (by rfl) (run_sliceSt rfl rfl) rfl ?_
    simp only [Act.put, List.setIfInBounds_toArray, List.set_cons_succ, List.set_cons_zero]
    refine wpS_does2 (i := 2) (d := some 5) (rem := [_]) (out := [_, _]) rfl (by rfl) rfl Try.call45 (everyS_d b3 a _) rfl rfl HM4.out [0] rfl covS_nil rfl rfl ?_
    rintro W6 hm5 -
    rw [h1.out]
    have HM7 := Lib.hid hm5
    clear hm5
    simp only [Act.put, List.setIfInBounds_toArray, List.set_cons_succ, List.set_cons_zero]
    refine wpS_this [3, 4] rfl (by kernel_rfl) (by simp only [pickL, nthL, List.cons_append, List.nil_append]; rfl) ?_
    repeat (go_big_quiet_step (fail))
    refine wpQuiet_nil ?_
    refine wpS_skip (i := 5) (d := some 8) rfl (by rfl) rfl ?_
    simp only [Act.put, List.setIfInBounds_toArray, List.set_cons_succ, List.set_cons_zero]
    refine wpS_skip (i := 6) (d := some 9) rfl (by rfl) rfl ?_
    simp only [Act.put, List.setIfInBounds_toArray, List.set_cons_succ, List.set_cons_zero]
    refine wpS_this [7, 8, 9] rfl (by kernel_rfl) (by simp only [pickL, nthL, List.cons_append, List.nil_append]; rfl) ?_
    repeat (go_big_quiet_step (fail))
    refine wpQuiet_nil ?_
    refine wpS_skip (i := 10) (d := some 13) rfl (by rfl) rfl ?_
    simp only [Act.put, List.setIfInBounds_toArray, List.set_cons_succ, List.set_cons_zero]
    refine wpS_skip (i := 11) (d := some 14) rfl (by rfl) rfl ?_
    simp only [Act.put, List.setIfInBounds_toArray, List.set_cons_succ, List.set_cons_zero]
    refine wpS_this [12, 13] rfl (by kernel_rfl) (by simp only [pickL, nthL, List.cons_append, List.nil_append]; rfl) ?_
    repeat (go_big_quiet_step (fail))
    refine wpQuiet_nil ?_
    refine wpS_nil ?_
    refine then_normal ?_
    refine wp_ret ?_
    refine bodyPost_ret (results_tmp rfl _ _ _) rfl ?_
    have hc : mayR a = false := by unfold mayR; rw [h1.out]; rfl
    rw [hc]
    exact does_ret (Mem.only (M := [_]) HM7.out [1] rfl) rfl rfl
  · replace h1 := Lib.hid h1
    replace h2 := Lib.hid h2
    refine wp_region_N [(0, 1), (1, 1), (2, 3), (3, 1), (4, 1), (5, 1), (6, 3), (7, 1), (8, 1), (9, 1), (10, 1), (11, 3), (12, 1), (13, 1)] (by kernel_rfl) ?_
    refine wpS_this [0] rfl (by kernel_rfl) (by simp only [pickL, nthL, List.cons_append, List.nil_append]; rfl) ?_
    repeat (go_big_quiet_step (fail))
    refine wpQuiet_nil ?_
    refine wpS_read (i := 1) (d := some 4) rfl (by rfl) (run_sliceSt rfl rfl) rfl ?_
    simp only [Act.put, List.setIfInBounds_toArray, List.set_cons_succ, List.set_cons_zero]
    refine wpS_does2 (i := 2) (d := some 5) (rem := [_]) (out := [_, _]) rfl (by rfl) rfl Try.call45 (everyS_d b3 a _) rfl rfl HM4.out [0] rfl covS_nil rfl rfl ?_
    rintro W9 hm8 -
    rw [h1.out]
    have HM10 := Lib.hid hm8
    clear hm8
    simp only [Act.put, List.setIfInBounds_toArray, List.set_cons_succ, List.set_cons_zero]
    refine wpS_this [3, 4] rfl (by kernel_rfl) (by simp only [pickL, nthL, List.cons_append, List.nil_append]; rfl) ?_
    repeat (go_big_quiet_step (fail))
    refine wpQuiet_nil ?_
    refine wpS_loadA (i := 5) (d := some 8) (cells := plC (a).p (.slice pa a.p.2.2.length ca)) rfl (by rfl) rfl rfl (HM10.out.sub 0 rfl (rgC_pl)) Try.underlying36 rfl (by kernel_rfl) rfl ?_
    dsimp only [plC]
    simp only [Act.put, List.setIfInBounds_toArray, List.set_cons_succ, List.set_cons_zero]
    refine wpS_does1 (i := 6) (d := some 9) (rem := [_]) (out := [_, _]) rfl (by rfl) rfl Try.call47 (may_d R _ a.p.1 a.p.2.1 a.p.2.2 ha la) rfl HM10.out [1] rfl covS_nil rfl rfl ?_
    rintro W12 hm11 -
    rw [show mayP (a.p.1, a.p.2.1, a.p.2.2) = mayP a.p from rfl, h2.out]
    have HM13 := Lib.hid hm11
    clear hm11
    simp only [Act.put, List.setIfInBounds_toArray, List.set_cons_succ, List.set_cons_zero]
    refine wpS_this [7, 8, 9] rfl (by kernel_rfl) (by simp only [pickL, nthL, List.cons_append, List.nil_append]; rfl) ?_
    repeat (go_big_quiet_step (fail))
    refine wpQuiet_nil ?_
    refine wpS_skip (i := 10) (d := some 13) rfl (by rfl) rfl ?_
    simp only [Act.put, List.setIfInBounds_toArray, List.set_cons_succ, List.set_cons_zero]
    refine wpS_skip (i := 11) (d := some 14) rfl (by rfl) rfl ?_
    simp only [Act.put, List.setIfInBounds_toArray, List.set_cons_succ, List.set_cons_zero]
    refine wpS_this [12, 13] rfl (by kernel_rfl) (by simp only [pickL, nthL, List.cons_append, List.nil_append]; rfl) ?_
    repeat (go_big_quiet_step (fail))
    refine wpQuiet_nil ?_
    refine wpS_nil ?_
    refine then_normal ?_
    refine wp_ret ?_
    refine bodyPost_ret (results_tmp rfl _ _ _) rfl ?_
    have hc : mayR a = false := by unfold mayR; rw [h1.out, h2.out]; cases (tab16 a.e).all mayE <;> rfl
    rw [hc]
    exact does_ret (Mem.only (M := [_]) HM13.out [0] rfl) rfl rfl
  · replace h1 := Lib.hid h1
    replace h2 := Lib.hid h2
    refine wp_region_N [(0, 1), (1, 1), (2, 3), (3, 1), (4, 1), (5, 1), (6, 3), (7, 1), (8, 1), (9, 1), (10, 1), (11, 3), (12, 1), (13, 1)] (by kernel_rfl) ?_
    refine wpS_this [0] rfl (by kernel_rfl) (by simp only [pickL, nthL, List.cons_append, List.nil_append]; rfl) ?_
    repeat (go_big_quiet_step (fail))
    refine wpQuiet_nil ?_
    refine wpS_read (i := 1) (d := some 4) rfl (by rfl) (run_sliceSt rfl rfl) rfl ?_
    simp only [Act.put, List.setIfInBounds_toArray, List.set_cons_succ, List.set_cons_zero]
    refine wpS_does2 (i := 2) (d := some 5) (rem := [_]) (out := [_, _]) rfl (by rfl) rfl Try.call45 (everyS_d b3 a _) rfl rfl HM4.out [0] rfl covS_nil rfl rfl ?_
    rintro W15 hm14 -
    rw [h1.out]
    have HM16 := Lib.hid hm14
    clear hm14
    simp only [Act.put, List.setIfInBounds_toArray, List.set_cons_succ, List.set_cons_zero]
    refine wpS_this [3, 4] rfl (by kernel_rfl) (by simp only [pickL, nthL, List.cons_append, List.nil_append]; rfl) ?_
    repeat (go_big_quiet_step (fail))
    refine wpQuiet_nil ?_
    refine wpS_loadA (i := 5) (d := some 8) (cells := plC (a).p (.slice pa a.p.2.2.length ca)) rfl (by rfl) rfl rfl (HM16.out.sub 0 rfl (rgC_pl)) Try.underlying36 rfl (by kernel_rfl) rfl ?_
    dsimp only [plC]
    simp only [Act.put, List.setIfInBounds_toArray, List.set_cons_succ, List.set_cons_zero]
    refine wpS_does1 (i := 6) (d := some 9) (rem := [_]) (out := [_, _]) rfl (by rfl) rfl Try.call47 (may_d R _ a.p.1 a.p.2.1 a.p.2.2 ha la) rfl HM16.out [1] rfl covS_nil rfl rfl ?_
    rintro W18 hm17 -
    rw [show mayP (a.p.1, a.p.2.1, a.p.2.2) = mayP a.p from rfl, h2.out]
    have HM19 := Lib.hid hm17
    clear hm17
    simp only [Act.put, List.setIfInBounds_toArray, List.set_cons_succ, List.set_cons_zero]
    refine wpS_this [7, 8, 9] rfl (by kernel_rfl) (by simp only [pickL, nthL, List.cons_append, List.nil_append]; rfl) ?_
    repeat (go_big_quiet_step (fail))
    refine wpQuiet_nil ?_
    refine wpS_read (i := 10) (d := some 13) rfl (by rfl) (run_sliceEnt rfl rfl) rfl ?_
    simp only [Act.put, List.setIfInBounds_toArray, List.set_cons_succ, List.set_cons_zero]
    refine wpS_does2 (i := 11) (d := some 14) (rem := [_]) (out := [_, _]) rfl (by rfl) rfl Try.call48 (everyE_d b3 a _) rfl rfl HM19.out [1] rfl covS_nil rfl rfl ?_
    rintro W21 hm20 -
    have HM22 := Lib.hid hm20
    clear hm20
    simp only [Act.put, List.setIfInBounds_toArray, List.set_cons_succ, List.set_cons_zero]
    refine wpS_this [12, 13] rfl (by kernel_rfl) (by simp only [pickL, nthL, List.cons_append, List.nil_append]; rfl) ?_
    repeat (go_big_quiet_step (fail))
    refine wpQuiet_nil ?_
    refine wpS_nil ?_
    refine then_normal ?_
    refine wp_ret ?_
    refine bodyPost_ret (results_tmp rfl _ _ _) rfl ?_
    have hc : mayR a = (tab16 a.e).all mayE := by unfold mayR; rw [h1.out, h2.out]; cases (tab16 a.e).all mayE <;> rfl
    rw [hc]
    exact does_ret (Mem.only (M := [_]) HM22.out [1] rfl) rfl rfl
set_option maxHeartbeats 4000000 in
set_option maxRecDepth 100000 in
theorem gsame_d (R : At) (va : Value) (a : Rg) (ha : Reads elemI R va a.p.2.2) (la : a.p.2.2.length ≤ 1000) (vb : Value) (b : Rg) (hb : Reads elemI R vb b.p.2.2) (lb : b.p.2.2.length ≤ 1000) : Does Try.prog 40 #[rgV a va, rgV b vb] [R] (.bool (sameR a b)) [R] := by
  intro w H hp
  have HM0 := Lib.hid (mem_refl hp)
  clear hp
  obtain ⟨pa, ca, rfl⟩ := row_form (Mem.src HM0.out 0 rfl ha)
  obtain ⟨pb, cb, rfl⟩ := row_form (Mem.src HM0.out 0 rfl hb)
  go_enter Try.func40, Try.ntmps40
  refine wp_seq ?_
  refine wp_region_N [(0, 3), (1, 3), (2, 1)] (by kernel_rfl) ?_
  refine wpS_boxA (i := 0) (dd := 2) rfl (by rfl) rfl rfl HM0.out covS_nil rfl ?_
  rintro b3 W2 hm1 -
  have HM4 := Lib.hid hm1
  clear hm1
  simp only [Act.put, List.setIfInBounds_toArray, List.set_cons_succ, List.set_cons_zero]
  refine wpS_boxA (i := 1) (dd := 3) rfl (by rfl) rfl rfl HM4.out covS_nil rfl ?_
  rintro b7 W6 hm5 -
  have HM8 := Lib.hid hm5
  clear hm5
  simp only [Act.put, List.setIfInBounds_toArray, List.set_cons_succ, List.set_cons_zero]
  refine wpS_this [2] rfl (by kernel_rfl) (by simp only [pickL, nthL, List.cons_append, List.nil_append]; rfl) ?_
  repeat (go_big_quiet_step (fail))
  refine wpQuiet_nil ?_
  refine wpS_nil ?_
  refine then_normal ?_
  refine wp_seq ?_
  rcases (show ¬ tab8 a.s = tab8 b.s ∨ (tab8 a.s = tab8 b.s ∧ ¬ tab16 a.e = tab16 b.e) ∨ (tab8 a.s = tab8 b.s ∧ tab16 a.e = tab16 b.e) from by by_cases k1 : tab8 a.s = tab8 b.s <;> by_cases k2 : tab16 a.e = tab16 b.e <;> simp [k1, k2]) with hs | ⟨hs, he⟩ | ⟨hs, he⟩
  · have gs := decide_eq_false hs
    have hc : Hid (sameR a b = false) := Lib.hid (by unfold sameR; rw [gs]; rfl)
    clear hs
    refine wp_region_N [(0, 1), (1, 1), (2, 1), (3, 1), (4, 1), (5, 1), (6, 1), (7, 1), (8, 1), (9, 1), (10, 1), (11, 1), (12, 1), (13, 1), (14, 1), (15, 1), (16, 1), (17, 3), (18, 1), (19, 1)] (by kernel_rfl) ?_
    refine wpS_this [0] rfl (by kernel_rfl) (by simp only [pickL, nthL, List.cons_append, List.nil_append]; rfl) ?_
    repeat (go_big_quiet_step (fail))
    refine wpQuiet_nil ?_
    refine wpS_loadA (i := 1) (d := some 6) (cells := stC (a).s) rfl (by rfl) rfl rfl (HM8.out.sub 1 rfl (rgC_st)) Try.underlying29 rfl (by kernel_rfl) rfl ?_
    simp only [Act.put, List.setIfInBounds_toArray, List.set_cons_succ, List.set_cons_zero]
    refine wpS_this [2] rfl (by kernel_rfl) (by simp only [pickL, nthL, List.cons_append, List.nil_append]; rfl) ?_
    repeat (go_big_quiet_step (fail))
    refine wpQuiet_nil ?_
    refine wpS_loadA (i := 3) (d := some 8) (cells := stC (b).s) rfl (by rfl) rfl rfl (HM8.out.sub 0 rfl (rgC_st)) Try.underlying29 rfl (by kernel_rfl) rfl ?_
    simp only [Act.put, List.setIfInBounds_toArray, List.set_cons_succ, List.set_cons_zero]
    refine wpS_read (i := 4) (d := some 9) rfl (by rfl) (run_eqSt (f := a.s) (g := b.s) (gs) rfl rfl rfl) rfl ?_
    simp only [Act.put, List.setIfInBounds_toArray, List.set_cons_succ, List.set_cons_zero]
    refine wpS_this [5, 6] rfl (by kernel_rfl) (by simp only [pickL, nthL, List.cons_append, List.nil_append]; rfl) ?_
    repeat (go_big_quiet_step (fail))
    refine wpQuiet_nil ?_
    refine wpS_skip (i := 7) (d := some 12) rfl (by rfl) rfl ?_
    simp only [Act.put, List.setIfInBounds_toArray, List.set_cons_succ, List.set_cons_zero]
    refine wpS_this [8] rfl (by kernel_rfl) (by simp only [pickL, nthL, List.cons_append, List.nil_append]; rfl) ?_
    repeat (go_big_quiet_step (fail))
    refine wpQuiet_nil ?_
    refine wpS_skip (i := 9) (d := some 14) rfl (by rfl) rfl ?_
    simp only [Act.put, List.setIfInBounds_toArray, List.set_cons_succ, List.set_cons_zero]
    refine wpS_skip (i := 10) (d := some 15) rfl (by rfl) rfl ?_
    simp only [Act.put, List.setIfInBounds_toArray, List.set_cons_succ, List.set_cons_zero]
    refine wpS_this [11, 12, 13] rfl (by kernel_rfl) (by simp only [pickL, nthL, List.cons_append, List.nil_append]; rfl) ?_
    repeat (go_big_quiet_step (fail))
    refine wpQuiet_nil ?_
    refine wpS_skip (i := 14) (d := some 19) rfl (by rfl) rfl ?_
    simp only [Act.put, List.setIfInBounds_toArray, List.set_cons_succ, List.set_cons_zero]
    refine wpS_this [15] rfl (by kernel_rfl) (by simp only [pickL, nthL, List.cons_append, List.nil_append]; rfl) ?_
    repeat (go_big_quiet_step (fail))
    refine wpQuiet_nil ?_
    refine wpS_skip (i := 16) (d := some 21) rfl (by rfl) rfl ?_
    simp only [Act.put, List.setIfInBounds_toArray, List.set_cons_succ, List.set_cons_zero]
    refine wpS_skip (i := 17) (d := some 22) rfl (by rfl) rfl ?_
    simp only [Act.put, List.setIfInBounds_toArray, List.set_cons_succ, List.set_cons_zero]
    refine wpS_this [18, 19] rfl (by kernel_rfl) (by simp only [pickL, nthL, List.cons_append, List.nil_append]; rfl) ?_
    repeat (go_big_quiet_step (fail))
    refine wpQuiet_nil ?_
    refine wpS_nil ?_
    refine then_normal ?_
    refine wp_ret ?_
    refine bodyPost_ret (results_tmp rfl _ _ _) rfl ?_
    rw [hc.out]
    exact does_ret (Mem.only (M := [_]) HM8.out [2] rfl) rfl rfl
  · have gs := decide_eq_true hs
    have ge := decide_eq_false he
    have hc : Hid (sameR a b = false) := Lib.hid (by unfold sameR; rw [gs, ge]; rfl)
    clear hs he
    refine wp_region_N [(0, 1), (1, 1), (2, 1), (3, 1), (4, 1), (5, 1), (6, 1), (7, 1), (8, 1), (9, 1), (10, 1), (11, 1), (12, 1), (13, 1), (14, 1), (15, 1), (16, 1), (17, 3), (18, 1), (19, 1)] (by kernel_rfl) ?_
    refine wpS_this [0] rfl (by kernel_rfl) (by simp only [pickL, nthL, List.cons_append, List.nil_append]; rfl) ?_
    repeat (go_big_quiet_step (fail))
    refine wpQuiet_nil ?_
    refine wpS_loadA (i := 1) (d := some 6) (cells := stC (a).s) rfl (by rfl) rfl rfl (HM8.out.sub 1 rfl (rgC_st)) Try.underlying29 rfl (by kernel_rfl) rfl ?_
    simp only [Act.put, List.setIfInBounds_toArray, List.set_cons_succ, List.set_cons_zero]
    refine wpS_this [2] rfl (by kernel_rfl) (by simp only [pickL, nthL, List.cons_append, List.nil_append]; rfl) ?_
    repeat (go_big_quiet_step (fail))
    refine wpQuiet_nil ?_
    refine wpS_loadA (i := 3) (d := some 8) (cells := stC (b).s) rfl (by rfl) rfl rfl (HM8.out.sub 0 rfl (rgC_st)) Try.underlying29 rfl (by kernel_rfl) rfl ?_
    simp only [Act.put, List.setIfInBounds_toArray, List.set_cons_succ, List.set_cons_zero]
    refine wpS_read (i := 4) (d := some 9) rfl (by rfl) (run_eqSt (f := a.s) (g := b.s) (gs) rfl rfl rfl) rfl ?_
    simp only [Act.put, List.setIfInBounds_toArray, List.set_cons_succ, List.set_cons_zero]
    refine wpS_this [5, 6] rfl (by kernel_rfl) (by simp only [pickL, nthL, List.cons_append, List.nil_append]; rfl) ?_
    repeat (go_big_quiet_step (fail))
    refine wpQuiet_nil ?_
    refine wpS_loadA (i := 7) (d := some 12) (cells := enC (a).e) rfl (by rfl) rfl rfl (HM8.out.sub 1 rfl (rgC_en)) Try.underlying39 rfl (by kernel_rfl) rfl ?_
    simp only [Act.put, List.setIfInBounds_toArray, List.set_cons_succ, List.set_cons_zero]
    refine wpS_this [8] rfl (by kernel_rfl) (by simp only [pickL, nthL, List.cons_append, List.nil_append]; rfl) ?_
    repeat (go_big_quiet_step (fail))
    refine wpQuiet_nil ?_
    refine wpS_loadA (i := 9) (d := some 14) (cells := enC (b).e) rfl (by rfl) rfl rfl (HM8.out.sub 0 rfl (rgC_en)) Try.underlying39 rfl (by kernel_rfl) rfl ?_
    simp only [Act.put, List.setIfInBounds_toArray, List.set_cons_succ, List.set_cons_zero]
    refine wpS_read (i := 10) (d := some 15) rfl (by rfl) (run_eqEn (f := a.e) (g := b.e) (ge) rfl rfl rfl) rfl ?_
    simp only [Act.put, List.setIfInBounds_toArray, List.set_cons_succ, List.set_cons_zero]
    refine wpS_this [11, 12, 13] rfl (by kernel_rfl) (by simp only [pickL, nthL, List.cons_append, List.nil_append]; rfl) ?_
    repeat (go_big_quiet_step (fail))
    refine wpQuiet_nil ?_
    refine wpS_skip (i := 14) (d := some 19) rfl (by rfl) rfl ?_
    simp only [Act.put, List.setIfInBounds_toArray, List.set_cons_succ, List.set_cons_zero]
    refine wpS_this [15] rfl (by kernel_rfl) (by simp only [pickL, nthL, List.cons_append, List.nil_append]; rfl) ?_
    repeat (go_big_quiet_step (fail))
    refine wpQuiet_nil ?_
    refine wpS_skip (i := 16) (d := some 21) rfl (by rfl) rfl ?_
    simp only [Act.put, List.setIfInBounds_toArray, List.set_cons_succ, List.set_cons_zero]
    refine wpS_skip (i := 17) (d := some 22) rfl (by rfl) rfl ?_
    simp only [Act.put, List.setIfInBounds_toArray, List.set_cons_succ, List.set_cons_zero]
    refine wpS_this [18, 19] rfl (by kernel_rfl) (by simp only [pickL, nthL, List.cons_append, List.nil_append]; rfl) ?_
    repeat (go_big_quiet_step (fail))
    refine wpQuiet_nil ?_
    refine wpS_nil ?_
    refine then_normal ?_
    refine wp_ret ?_
    refine bodyPost_ret (results_tmp rfl _ _ _) rfl ?_
    rw [hc.out]
    exact does_ret (Mem.only (M := [_]) HM8.out [2] rfl) rfl rfl
  · have gs := decide_eq_true hs
    have ge := decide_eq_true he
    have hc : Hid (sameR a b = (cmpP a.p b.p == 0)) := Lib.hid (by unfold sameR; rw [gs, ge]; rfl)
    clear hs he
    refine wp_region_N [(0, 1), (1, 1), (2, 1), (3, 1), (4, 1), (5, 1), (6, 1), (7, 1), (8, 1), (9, 1), (10, 1), (11, 1), (12, 1), (13, 1), (14, 1), (15, 1), (16, 1), (17, 3), (18, 1), (19, 1)] (by kernel_rfl) ?_
    refine wpS_this [0] rfl (by kernel_rfl) (by simp only [pickL, nthL, List.cons_append, List.nil_append]; rfl) ?_
    repeat (go_big_quiet_step (fail))
    refine wpQuiet_nil ?_
    refine wpS_loadA (i := 1) (d := some 6) (cells := stC (a).s) rfl (by rfl) rfl rfl (HM8.out.sub 1 rfl (rgC_st)) Try.underlying29 rfl (by kernel_rfl) rfl ?_
    simp only [Act.put, List.setIfInBounds_toArray, List.set_cons_succ, List.set_cons_zero]
    refine wpS_this [2] rfl (by kernel_rfl) (by simp only [pickL, nthL, List.cons_append, List.nil_append]; rfl) ?_
    repeat (go_big_quiet_step (fail))
    refine wpQuiet_nil ?_
    refine wpS_loadA (i := 3) (d := some 8) (cells := stC (b).s) rfl (by rfl) rfl rfl (HM8.out.sub 0 rfl (rgC_st)) Try.underlying29 rfl (by kernel_rfl) rfl ?_
    simp only [Act.put, List.setIfInBounds_toArray, List.set_cons_succ, List.set_cons_zero]
    refine wpS_read (i := 4) (d := some 9) rfl (by rfl) (run_eqSt (f := a.s) (g := b.s) (gs) rfl rfl rfl) rfl ?_
    simp only [Act.put, List.setIfInBounds_toArray, List.set_cons_succ, List.set_cons_zero]
    refine wpS_this [5, 6] rfl (by kernel_rfl) (by simp only [pickL, nthL, List.cons_append, List.nil_append]; rfl) ?_
    repeat (go_big_quiet_step (fail))
    refine wpQuiet_nil ?_
    refine wpS_loadA (i := 7) (d := some 12) (cells := enC (a).e) rfl (by rfl) rfl rfl (HM8.out.sub 1 rfl (rgC_en)) Try.underlying39 rfl (by kernel_rfl) rfl ?_
    simp only [Act.put, List.setIfInBounds_toArray, List.set_cons_succ, List.set_cons_zero]
    refine wpS_this [8] rfl (by kernel_rfl) (by simp only [pickL, nthL, List.cons_append, List.nil_append]; rfl) ?_
    repeat (go_big_quiet_step (fail))
    refine wpQuiet_nil ?_
    refine wpS_loadA (i := 9) (d := some 14) (cells := enC (b).e) rfl (by rfl) rfl rfl (HM8.out.sub 0 rfl (rgC_en)) Try.underlying39 rfl (by kernel_rfl) rfl ?_
    simp only [Act.put, List.setIfInBounds_toArray, List.set_cons_succ, List.set_cons_zero]
    refine wpS_read (i := 10) (d := some 15) rfl (by rfl) (run_eqEn (f := a.e) (g := b.e) (ge) rfl rfl rfl) rfl ?_
    simp only [Act.put, List.setIfInBounds_toArray, List.set_cons_succ, List.set_cons_zero]
    refine wpS_this [11, 12, 13] rfl (by kernel_rfl) (by simp only [pickL, nthL, List.cons_append, List.nil_append]; rfl) ?_
    repeat (go_big_quiet_step (fail))
    refine wpQuiet_nil ?_
    refine wpS_loadA (i := 14) (d := some 19) (cells := plC (a).p (.slice pa a.p.2.2.length ca)) rfl (by rfl) rfl rfl (HM8.out.sub 1 rfl (rgC_pl)) Try.underlying36 rfl (by kernel_rfl) rfl ?_
    dsimp only [plC]
    simp only [Act.put, List.setIfInBounds_toArray, List.set_cons_succ, List.set_cons_zero]
    refine wpS_this [15] rfl (by kernel_rfl) (by simp only [pickL, nthL, List.cons_append, List.nil_append]; rfl) ?_
    repeat (go_big_quiet_step (fail))
    refine wpQuiet_nil ?_
    refine wpS_loadA (i := 16) (d := some 21) (cells := plC (b).p (.slice pb b.p.2.2.length cb)) rfl (by rfl) rfl rfl (HM8.out.sub 0 rfl (rgC_pl)) Try.underlying36 rfl (by kernel_rfl) rfl ?_
    dsimp only [plC]
    simp only [Act.put, List.setIfInBounds_toArray, List.set_cons_succ, List.set_cons_zero]
    refine wpS_does2 (i := 17) (d := some 22) (rem := [_, _]) (out := [_, _, _]) rfl (by rfl) rfl Try.call59 (psame_d R _ a.p.1 a.p.2.1 a.p.2.2 ha la _ b.p.1 b.p.2.1 b.p.2.2 hb lb) rfl rfl HM8.out [2] rfl covS_nil rfl rfl ?_
    rintro W10 hm9 -
    rw [cmpB a.p b.p]
    have HM11 := Lib.hid hm9
    clear hm9
    simp only [Act.put, List.setIfInBounds_toArray, List.set_cons_succ, List.set_cons_zero]
    refine wpS_this [18, 19] rfl (by kernel_rfl) (by simp only [pickL, nthL, List.cons_append, List.nil_append]; rfl) ?_
    repeat (go_big_quiet_step (fail))
    refine wpQuiet_nil ?_
    refine wpS_nil ?_
    refine then_normal ?_
    refine wp_ret ?_
    refine bodyPost_ret (results_tmp rfl _ _ _) rfl ?_
    rw [hc.out]
    exact does_ret (Mem.only (M := [_]) HM11.out [0] rfl) rfl rfl
end
end Go.Proofs.Ytnahhbpaijfpbaa
