/- Rings: the reference's. -/
import Derived.Test.YtihhopoplcelfaaRgB
namespace Go.Proofs.Ytihhopoplcelfaa
open Go Go.RowKit Go.BigFrame

theorem all_next {p : Nat → Prop} {k : Nat} (h : ∀ j, j < k → p j) (hk : p k) : ∀ j, j < k + 1 → p j := fun j hj => by
  rcases Nat.lt_or_eq_of_le (Nat.le_of_lt_succ hj) with h1 | rfl
  · exact h j h1
  · exact hk
theorem mayR_noS {r : Rg} {k : Nat} (hk : k < 8) (h : statB (r.s k) = false) : mayR r = false := by
  unfold mayR
  rw [Bool.and_eq_false_iff]
  refine .inl ?_
  rw [← Bool.not_eq_true, all8]
  intro h1
  rw [h1 k hk] at h
  cases h
theorem mayR_noE {r : Rg} {k : Nat} (hk : k < 16) (h : mayE (r.e k) = false) : mayR r = false := by
  unfold mayR
  rw [Bool.and_eq_false_iff, Bool.and_eq_false_iff]
  refine .inr (.inl ?_)
  rw [← Bool.not_eq_true, all16]
  intro h1
  rw [h1 k hk] at h
  cases h
theorem mayR_p {r : Rg} (h1 : ∀ j, j < 8 → statB (r.s j) = true) (h2 : ∀ j, j < 16 → mayE (r.e j) = true) : mayR r = mayP r.p := by
  unfold mayR
  rw [all8.2 h1, all16.2 h2]
  rfl
set_option maxHeartbeats 4000000 in
set_option maxRecDepth 100000 in
theorem rsame_d (R : At) (va : Value) (a : Rg) (ha : Reads elemI R va a.p.2.2) (la : a.p.2.2.length ≤ 1000) (vb : Value) (b : Rg) (hb : Reads elemI R vb b.p.2.2) (lb : b.p.2.2.length ≤ 1000) : Does Try.prog 14 #[rgV a va, rgV b vb] [R] (.bool (sameR a b)) [R] := by
  intro w H hp
  have HM0 := Lib.hid (mem_refl hp)
  clear hp
  obtain ⟨pa, ca, rfl⟩ := row_form (Mem.src HM0.out 0 rfl ha)
  obtain ⟨pb, cb, rfl⟩ := row_form (Mem.src HM0.out 0 rfl hb)
  go_enter Try.func14, Try.ntmps14
  refine wp_seq ?_
  refine wp_region_N [(0, 3), (1, 3), (2, 1)] (by kernel_rfl) ?_
  refine wpS_boxA (i := 0) (dd := 2) rfl (by rfl) rfl rfl HM0.out covS_nil rfl ?_
  rintro b3 W2 hm1 -
  have HM4 := Lib.hid hm1
  clear hm1
  simp only [Act.put, List.setIfInBounds_toArray, List.set_cons_succ, List.set_cons_zero]
  refine wpS_boxA (i := 1) (dd := 3) rfl (by rfl) rfl rfl HM4.out covS_nil rfl ?_
  rintro b7 W6 hm5 -
  have HM8 := Lib.hid hm5
  clear hm5
  simp only [Act.put, List.setIfInBounds_toArray, List.set_cons_succ, List.set_cons_zero]
  refine wpS_this [2] rfl (by kernel_rfl) (by simp only [pickL, nthL, List.cons_append, List.nil_append]; rfl) ?_
  repeat (go_big_quiet_step (fail))
  refine wpQuiet_nil ?_
  refine wpS_nil ?_
  refine then_normal ?_
  refine wp_seq ?_
  rcases (show ¬ tab8 a.s = tab8 b.s ∨ (tab8 a.s = tab8 b.s ∧ ¬ tab16 a.e = tab16 b.e) ∨ (tab8 a.s = tab8 b.s ∧ tab16 a.e = tab16 b.e) from by by_cases k1 : tab8 a.s = tab8 b.s <;> by_cases k2 : tab16 a.e = tab16 b.e <;> simp [k1, k2]) with hs | ⟨hs, he⟩ | ⟨hs, he⟩
  · have gs := decide_eq_false hs
    have hc : Hid (sameR a b = false) := Lib.hid (by unfold sameR; rw [gs]; rfl)
    clear hs
    refine wp_region_N [(0, 1), (1, 1), (2, 1), (3, 1), (4, 1), (5, 1), (6, 1), (7, 1), (8, 1), (9, 1), (10, 1), (11, 1), (12, 1), (13, 1), (14, 1), (15, 1), (16, 1), (17, 3), (18, 1), (19, 1), (20, 1)] (by kernel_rfl) ?_
    refine wpS_this [0] rfl (by kernel_rfl) (by simp only [pickL, nthL, List.cons_append, List.nil_append]; rfl) ?_
    repeat (go_big_quiet_step (fail))
    refine wpQuiet_nil ?_
    refine wpS_loadA (i := 1) (d := some 6) (cells := stC (a).s) rfl (by rfl) rfl rfl (HM8.out.sub 1 rfl (rgC_st)) Try.underlying22 rfl (by kernel_rfl) rfl ?_
    simp only [Act.put, List.setIfInBounds_toArray, List.set_cons_succ, List.set_cons_zero]
    refine wpS_this [2] rfl (by kernel_rfl) (by simp only [pickL, nthL, List.cons_append, List.nil_append]; rfl) ?_
    repeat (go_big_quiet_step (fail))
    refine wpQuiet_nil ?_
    refine wpS_loadA (i := 3) (d := some 8) (cells := stC (b).s) rfl (by rfl) rfl rfl (HM8.out.sub 0 rfl (rgC_st)) Try.underlying22 rfl (by kernel_rfl) rfl ?_
    simp only [Act.put, List.setIfInBounds_toArray, List.set_cons_succ, List.set_cons_zero]
    refine wpS_read (i := 4) (d := some 9) rfl (by rfl) (run_eqSt (f := a.s) (g := b.s) (gs) rfl rfl rfl) rfl ?_
    simp only [Act.put, List.setIfInBounds_toArray, List.set_cons_succ, List.set_cons_zero]
    refine wpS_this [5, 6] rfl (by kernel_rfl) (by simp only [pickL, nthL, List.cons_append, List.nil_append]; rfl) ?_
    repeat (go_big_quiet_step (fail))
    refine wpQuiet_nil ?_
    refine wpS_skip (i := 7) (d := some 12) rfl (by rfl) rfl ?_
    simp only [Act.put, List.setIfInBounds_toArray, List.set_cons_succ, List.set_cons_zero]
    refine wpS_this [8] rfl (by kernel_rfl) (by simp only [pickL, nthL, List.cons_append, List.nil_append]; rfl) ?_
    repeat (go_big_quiet_step (fail))
    refine wpQuiet_nil ?_
    refine wpS_skip (i := 9) (d := some 14) rfl (by rfl) rfl ?_
    simp only [Act.put, List.setIfInBounds_toArray, List.set_cons_succ, List.set_cons_zero]
    refine wpS_skip (i := 10) (d := some 15) rfl (by rfl) rfl ?_
    simp only [Act.put, List.setIfInBounds_toArray, List.set_cons_succ, List.set_cons_zero]
    refine wpS_this [11, 12, 13] rfl (by kernel_rfl) (by simp only [pickL, nthL, List.cons_append, List.nil_append]; rfl) ?_
    repeat (go_big_quiet_step (fail))
    refine wpQuiet_nil ?_
    refine wpS_skip (i := 14) (d := some 19) rfl (by rfl) rfl ?_
    simp only [Act.put, List.setIfInBounds_toArray, List.set_cons_succ, List.set_cons_zero]
    refine wpS_this [15] rfl (by kernel_rfl) (by simp only [pickL, nthL, List.cons_append, List.nil_append]; rfl) ?_
    repeat (go_big_quiet_step (fail))
    refine wpQuiet_nil ?_
    refine wpS_skip (i := 16) (d := some 21) rfl (by rfl) rfl ?_
    simp only [Act.put, List.setIfInBounds_toArray, List.set_cons_succ, List.set_cons_zero]
    refine wpS_skip (i := 17) (d := some 22) rfl (by rfl) rfl ?_
    simp only [Act.put, List.setIfInBounds_toArray, List.set_cons_succ, List.set_cons_zero]
    refine wpS_this [18, 19, 20] rfl (by kernel_rfl) (by simp only [pickL, nthL, List.cons_append, List.nil_append]; rfl) ?_
    repeat (go_big_quiet_step (fail))
    refine wpQuiet_nil ?_
    refine wpS_nil ?_
    refine then_normal ?_
    refine wp_ret ?_
    refine bodyPost_ret (results_tmp rfl _ _ _) rfl ?_
    rw [hc.out]
    exact does_ret (Mem.only (M := [_]) HM8.out [2] rfl) rfl rfl
  · have gs := decide_eq_true hs
    have ge := decide_eq_false he
    have hc : Hid (sameR a b = false) := Lib.hid (by unfold sameR; rw [gs, ge]; rfl)
    clear hs he
    refine wp_region_N [(0, 1), (1, 1), (2, 1), (3, 1), (4, 1), (5, 1), (6, 1), (7, 1), (8, 1), (9, 1), (10, 1), (11, 1), (12, 1), (13, 1), (14, 1), (15, 1), (16, 1), (17, 3), (18, 1), (19, 1), (20, 1)] (by kernel_rfl) ?_
    refine wpS_this [0] rfl (by kernel_rfl) (by simp only [pickL, nthL, List.cons_append, List.nil_append]; rfl) ?_
    repeat (go_big_quiet_step (fail))
    refine wpQuiet_nil ?_
    refine wpS_loadA (i := 1) (d := some 6) (cells := stC (a).s) rfl (by rfl) rfl rfl (HM8.out.sub 1 rfl (rgC_st)) Try.underlying22 rfl (by kernel_rfl) rfl ?_
    simp only [Act.put, List.setIfInBounds_toArray, List.set_cons_succ, List.set_cons_zero]
    refine wpS_this [2] rfl (by kernel_rfl) (by simp only [pickL, nthL, List.cons_append, List.nil_append]; rfl) ?_
    repeat (go_big_quiet_step (fail))
    refine wpQuiet_nil ?_
    refine wpS_loadA (i := 3) (d := some 8) (cells := stC (b).s) rfl (by rfl) rfl rfl (HM8.out.sub 0 rfl (rgC_st)) Try.underlying22 rfl (by kernel_rfl) rfl ?_
    simp only [Act.put, List.setIfInBounds_toArray, List.set_cons_succ, List.set_cons_zero]
    refine wpS_read (i := 4) (d := some 9) rfl (by rfl) (run_eqSt (f := a.s) (g := b.s) (gs) rfl rfl rfl) rfl ?_
    simp only [Act.put, List.setIfInBounds_toArray, List.set_cons_succ, List.set_cons_zero]
    refine wpS_this [5, 6] rfl (by kernel_rfl) (by simp only [pickL, nthL, List.cons_append, List.nil_append]; rfl) ?_
    repeat (go_big_quiet_step (fail))
    refine wpQuiet_nil ?_
    refine wpS_loadA (i := 7) (d := some 12) (cells := enC (a).e) rfl (by rfl) rfl rfl (HM8.out.sub 1 rfl (rgC_en)) Try.underlying28 rfl (by kernel_rfl) rfl ?_
    simp only [Act.put, List.setIfInBounds_toArray, List.set_cons_succ, List.set_cons_zero]
    refine wpS_this [8] rfl (by kernel_rfl) (by simp only [pickL, nthL, List.cons_append, List.nil_append]; rfl) ?_
    repeat (go_big_quiet_step (fail))
    refine wpQuiet_nil ?_
    refine wpS_loadA (i := 9) (d := some 14) (cells := enC (b).e) rfl (by rfl) rfl rfl (HM8.out.sub 0 rfl (rgC_en)) Try.underlying28 rfl (by kernel_rfl) rfl ?_
    simp only [Act.put, List.setIfInBounds_toArray, List.set_cons_succ, List.set_cons_zero]
    refine wpS_read (i := 10) (d := some 15) rfl (by rfl) (run_eqEn (f := a.e) (g := b.e) (ge) rfl rfl rfl) rfl ?_
    simp only [Act.put, List.setIfInBounds_toArray, List.set_cons_succ, List.set_cons_zero]
    refine wpS_this [11, 12, 13] rfl (by kernel_rfl) (by simp only [pickL, nthL, List.cons_append, List.nil_append]; rfl) ?_
    repeat (go_big_quiet_step (fail))
    refine wpQuiet_nil ?_
    refine wpS_skip (i := 14) (d := some 19) rfl (by rfl) rfl ?_
    simp only [Act.put, List.setIfInBounds_toArray, List.set_cons_succ, List.set_cons_zero]
    refine wpS_this [15] rfl (by kernel_rfl) (by simp only [pickL, nthL, List.cons_append, List.nil_append]; rfl) ?_
    repeat (go_big_quiet_step (fail))
    refine wpQuiet_nil ?_
    refine wpS_skip (i := 16) (d := some 21) rfl (by rfl) rfl ?_
    simp only [Act.put, List.setIfInBounds_toArray, List.set_cons_succ, List.set_cons_zero]
    refine wpS_skip (i := 17) (d := some 22) rfl (by rfl) rfl ?_
    simp only [Act.put, List.setIfInBounds_toArray, List.set_cons_succ, List.set_cons_zero]
    refine wpS_this [18, 19, 20] rfl (by kernel_rfl) (by simp only [pickL, nthL, List.cons_append, List.nil_append]; rfl) ?_
    repeat (go_big_quiet_step (fail))
    refine wpQuiet_nil ?_
    refine wpS_nil ?_
    refine then_normal ?_
    refine wp_ret ?_
    refine bodyPost_ret (results_tmp rfl _ _ _) rfl ?_
    rw [hc.out]
    exact does_ret (Mem.only (M := [_]) HM8.out [2] rfl) rfl rfl
  · have gs := decide_eq_true hs
    have ge := decide_eq_true he
    have hc : Hid (sameR a b = (cmpP a.p b.p == 0)) := Lib.hid (by unfold sameR; rw [gs, ge]; rfl)
    clear hs he
    refine wp_region_N [(0, 1), (1, 1), (2, 1), (3, 1), (4, 1), (5, 1), (6, 1), (7, 1), (8, 1), (9, 1), (10, 1), (11, 1), (12, 1), (13, 1), (14, 1), (15, 1), (16, 1), (17, 3), (18, 1), (19, 1), (20, 1)] (by kernel_rfl) ?_
    refine wpS_this [0] rfl (by kernel_rfl) (by simp only [pickL, nthL, List.cons_append, List.nil_append]; rfl) ?_
    repeat (go_big_quiet_step (fail))
    refine wpQuiet_nil ?_
    refine wpS_loadA (i := 1) (d := some 6) (cells := stC (a).s) rfl (by rfl) rfl rfl (HM8.out.sub 1 rfl (rgC_st)) Try.underlying22 rfl (by kernel_rfl) rfl ?_
    simp only [Act.put, List.setIfInBounds_toArray, List.set_cons_succ, List.set_cons_zero]
    refine wpS_this [2] rfl (by kernel_rfl) (by simp only [pickL, nthL, List.cons_append, List.nil_append]; rfl) ?_
    repeat (go_big_quiet_step (fail))
    refine wpQuiet_nil ?_
    refine wpS_loadA (i := 3) (d := some 8) (cells := stC (b).s) rfl (by rfl) rfl rfl (HM8.out.sub 0 rfl (rgC_st)) Try.underlying22 rfl (by kernel_rfl) rfl ?_
    simp only [Act.put, List.setIfInBounds_toArray, List.set_cons_succ, List.set_cons_zero]
    refine wpS_read (i := 4) (d := some 9) rfl (by rfl) (run_eqSt (f := a.s) (g := b.s) (gs) rfl rfl rfl) rfl ?_
    simp only [Act.put, List.setIfInBounds_toArray, List.set_cons_succ, List.set_cons_zero]
    refine wpS_this [5, 6] rfl (by kernel_rfl) (by simp only [pickL, nthL, List.cons_append, List.nil_append]; rfl) ?_
    repeat (go_big_quiet_step (fail))
    refine wpQuiet_nil ?_
    refine wpS_loadA (i := 7) (d := some 12) (cells := enC (a).e) rfl (by rfl) rfl rfl (HM8.out.sub 1 rfl (rgC_en)) Try.underlying28 rfl (by kernel_rfl) rfl ?_
    simp only [Act.put, List.setIfInBounds_toArray, List.set_cons_succ, List.set_cons_zero]
    refine wpS_this [8] rfl (by kernel_rfl) (by simp only [pickL, nthL, List.cons_append, List.nil_append]; rfl) ?_
    repeat (go_big_quiet_step (fail))
    refine wpQuiet_nil ?_
    refine wpS_loadA (i := 9) (d := some 14) (cells := enC (b).e) rfl (by rfl) rfl rfl (HM8.out.sub 0 rfl (rgC_en)) Try.underlying28 rfl (by kernel_rfl) rfl ?_
    simp only [Act.put, List.setIfInBounds_toArray, List.set_cons_succ, List.set_cons_zero]
    refine wpS_read (i := 10) (d := some 15) rfl (by rfl) (run_eqEn (f := a.e) (g := b.e) (ge) rfl rfl rfl) rfl ?_
    simp only [Act.put, List.setIfInBounds_toArray, List.set_cons_succ, List.set_cons_zero]
    refine wpS_this [11, 12, 13] rfl (by kernel_rfl) (by simp only [pickL, nthL, List.cons_append, List.nil_append]; rfl) ?_
    repeat (go_big_quiet_step (fail))
    refine wpQuiet_nil ?_
    refine wpS_loadA (i := 14) (d := some 19) (cells := plC (a).p (.slice pa a.p.2.2.length ca)) rfl (by rfl) rfl rfl (HM8.out.sub 1 rfl (rgC_pl)) Try.underlying25 rfl (by kernel_rfl) rfl ?_
    dsimp only [plC]
    simp only [Act.put, List.setIfInBounds_toArray, List.set_cons_succ, List.set_cons_zero]
    refine wpS_this [15] rfl (by kernel_rfl) (by simp only [pickL, nthL, List.cons_append, List.nil_append]; rfl) ?_
    repeat (go_big_quiet_step (fail))
    refine wpQuiet_nil ?_
    refine wpS_loadA (i := 16) (d := some 21) (cells := plC (b).p (.slice pb b.p.2.2.length cb)) rfl (by rfl) rfl rfl (HM8.out.sub 0 rfl (rgC_pl)) Try.underlying25 rfl (by kernel_rfl) rfl ?_
    dsimp only [plC]
    simp only [Act.put, List.setIfInBounds_toArray, List.set_cons_succ, List.set_cons_zero]
    refine wpS_does2 (i := 17) (d := some 22) (rem := [_, _]) (out := [_, _, _]) rfl (by rfl) rfl Try.call34 (rcompare_d R _ a.p.1 a.p.2.1 a.p.2.2 ha la _ b.p.1 b.p.2.1 b.p.2.2 hb lb) rfl rfl HM8.out [2] rfl covS_nil rfl rfl ?_
    rintro W10 hm9 -
    have HM11 := Lib.hid hm9
    clear hm9
    simp only [Act.put, List.setIfInBounds_toArray, List.set_cons_succ, List.set_cons_zero]
    refine wpS_this [18, 19, 20] rfl (by kernel_rfl) (by simp only [pickL, nthL, List.cons_append, List.nil_append]; rfl) ?_
    repeat (go_big_quiet_step (fail))
    refine wpQuiet_nil ?_
    refine wpS_nil ?_
    refine then_normal ?_
    refine wp_ret ?_
    refine bodyPost_ret (results_tmp rfl _ _ _) rfl ?_
    rw [hc.out]
    exact does_ret (Mem.only (M := [_]) HM11.out [0] rfl) rfl rfl

set_option maxHeartbeats 4000000 in
set_option maxRecDepth 100000 in
theorem rmayR_d (R : At) (va : Value) (a : Rg) (ha : Reads elemI R va a.p.2.2) (la : a.p.2.2.length ≤ 1000) : Does Try.prog 18 #[rgV a va] [R] (.bool (mayR a)) [R] := by
  intro w H hp
  have HM0 := Lib.hid (mem_refl hp)
  clear hp
  obtain ⟨pa, ca, rfl⟩ := row_form (Mem.src HM0.out 0 rfl ha)
  go_enter Try.func18, Try.ntmps18
  refine wp_seq ?_
  refine wp_region_N [(0, 3), (1, 1)] (by kernel_rfl) ?_
  refine wpS_boxA (i := 0) (dd := 1) rfl (by rfl) rfl rfl HM0.out covS_nil rfl ?_
  rintro b3 W2 hm1 -
  have HM4 := Lib.hid hm1
  clear hm1
  simp only [Act.put, List.setIfInBounds_toArray, List.set_cons_succ, List.set_cons_zero]
  refine wpS_this [1] rfl (by kernel_rfl) (by simp only [pickL, nthL, List.cons_append, List.nil_append]; rfl) ?_
  repeat (go_big_quiet_step (fail))
  refine wpQuiet_nil ?_
  refine wpS_nil ?_
  refine then_normal ?_
  refine wp_seq ?_
  refine wp_seq ?_
  refine wp_region_N [(0, 1), (1, 1), (2, 1)] (by kernel_rfl) ?_
  refine wpS_this [0] rfl (by kernel_rfl) (by simp only [pickL, nthL, List.cons_append, List.nil_append]; rfl) ?_
  repeat (go_big_quiet_step (fail))
  refine wpQuiet_nil ?_
  refine wpS_loadA (i := 1) (d := some 8) (cells := stC (a).s) rfl (by rfl) rfl rfl (HM4.out.sub 0 rfl (rgC_st)) Try.underlying22 rfl (by kernel_rfl) rfl ?_
  simp only [Act.put, List.setIfInBounds_toArray, List.set_cons_succ, List.set_cons_zero]
  refine wpS_this [2] rfl (by kernel_rfl) (by simp only [pickL, nthL, List.cons_append, List.nil_append]; rfl) ?_
  repeat (go_big_quiet_step (fail))
  refine wpQuiet_nil ?_
  refine wpS_nil ?_
  refine then_normal ?_
  refine wp_block ?_
  refine wp_loop_F [2, 4, 9, 10, 11, 12, 13, 14, 15, 16, 17, 18] (fun n vs W' => ∃ k : Nat, n = 8 - k ∧ vs 9 = .int .i64 (k : Int) ∧ k ≤ 8 ∧ (∀ j, j < k → statB (a.s j) = true) ∧ Mem [boxT b3 (.cells (rgC a (.slice pa a.p.2.2.length ca)).toArray 30 (0, 0)), R] H w W') (n0 := 8) ?_ ?_
  · exact ⟨0, rfl, rfl, Nat.zero_le _, fun j h => by omega, (Mem.only (M := [_, _]) HM4.out [0, 0] rfl)⟩
  rintro n vs W' ⟨k, rfl, e9, hk, hf', hm⟩
  simp only [putAll, List.map_cons, List.map_nil, Act.put, List.setIfInBounds_toArray, List.set_cons_succ, List.set_cons_zero]
  rw [e9]
  clear e9
  have hf := Lib.hid hf'
  clear hf'
  have HM5 := Lib.hid hm
  clear hm
  refine wp_seq ?_
  refine wp_region_N [(0, 1)] (by kernel_rfl) ?_
  refine wpS_this [0] rfl (by kernel_rfl) (by simp only [pickL, nthL, List.cons_append, List.nil_append]; rfl) ?_
  repeat (go_big_quiet_step (fail))
  refine wpQuiet_nil ?_
  refine wpS_nil ?_
  refine then_normal ?_
  refine wp_seq ?_
  refine wp_cond_split rfl (fun h6 => ?_) (fun h6 => ?_)
  · have hk1 : k + 1 ≤ 8 := by have : (k : Int) < 8 := (by simpa using h6); omega
    clear h6
    refine wp_skip ?_
    refine then_normal ?_
    refine wp_seq ?_
    refine wp_block ?_
    refine wp_seq ?_
    refine wp_region_N [(0, 1), (1, 1)] (by kernel_rfl) ?_
    refine wpS_read (i := 0) (d := some 11) rfl (by rfl) (run_indexSt (f := a.s) (j := k) (by omega) rfl rfl rfl) rfl ?_
    simp only [Act.put, List.setIfInBounds_toArray, List.set_cons_succ, List.set_cons_zero]
    refine wpS_this [1] rfl (by kernel_rfl) (by simp only [pickL, nthL, List.cons_append, List.nil_append]; rfl) ?_
    repeat (go_big_quiet_step (fail))
    refine wpQuiet_nil ?_
    refine wpS_nil ?_
    refine then_normal ?_
    refine wp_seq ?_
    rcases (show a.s k < 0 ∨ (¬ a.s k < 0 ∧ 4 < a.s k) ∨ (¬ a.s k < 0 ∧ ¬ 4 < a.s k) from by omega) with h1 | ⟨h1, h2⟩ | ⟨h1, h2⟩
    · have g1 := decide_eq_true h1
      have hst : Hid (statB (a.s k) = false) := Lib.hid (decide_eq_false (by omega))
      clear h1
      refine wp_region_N [(0, 1), (1, 1), (2, 1), (3, 1), (4, 1), (5, 1)] (by kernel_rfl) ?_
      refine wpS_this [0, 1, 2, 3, 4, 5] rfl (by kernel_rfl) (by simp only [pickL, nthL, List.cons_append, List.nil_append]; rfl) ?_
      repeat (go_big_quiet_step (fail))
      refine wpQuiet_nil ?_
      refine wpS_nil ?_
      refine then_normal ?_
      refine wp_cond_true rfl ?_
      refine wp_seq ?_
      refine wp_region_N [(0, 1)] (by kernel_rfl) ?_
      refine wpS_this [0] rfl (by kernel_rfl) (by simp only [pickL, nthL, List.cons_append, List.nil_append]; rfl) ?_
      repeat (go_big_quiet_step (fail))
      refine wpQuiet_nil ?_
      refine wpS_nil ?_
      refine then_normal ?_
      refine wp_ret ?_
      refine block_ret (then_ret (then_ret (block_ret (then_ret ?_))))
      refine bodyPost_ret (results_tmp rfl _ _ _) rfl ?_
      rw [mayR_noS (by omega) hst.out]
      exact does_ret (Mem.only (M := [_]) HM5.out [1] rfl) rfl rfl
    · have g1 := decide_eq_false h1
      have g2 := decide_eq_true h2
      have hst : Hid (statB (a.s k) = false) := Lib.hid (decide_eq_false (by omega))
      clear h1 h2
      refine wp_region_N [(0, 1), (1, 1), (2, 1), (3, 1), (4, 1), (5, 1)] (by kernel_rfl) ?_
      refine wpS_this [0, 1, 2, 3, 4, 5] rfl (by kernel_rfl) (by simp only [pickL, nthL, List.cons_append, List.nil_append]; rfl) ?_
      repeat (go_big_quiet_step (fail))
      refine wpQuiet_nil ?_
      refine wpS_nil ?_
      refine then_normal ?_
      refine wp_cond_true rfl ?_
      refine wp_seq ?_
      refine wp_region_N [(0, 1)] (by kernel_rfl) ?_
      refine wpS_this [0] rfl (by kernel_rfl) (by simp only [pickL, nthL, List.cons_append, List.nil_append]; rfl) ?_
      repeat (go_big_quiet_step (fail))
      refine wpQuiet_nil ?_
      refine wpS_nil ?_
      refine then_normal ?_
      refine wp_ret ?_
      refine block_ret (then_ret (then_ret (block_ret (then_ret ?_))))
      refine bodyPost_ret (results_tmp rfl _ _ _) rfl ?_
      rw [mayR_noS (by omega) hst.out]
      exact does_ret (Mem.only (M := [_]) HM5.out [1] rfl) rfl rfl
    · have g1 := decide_eq_false h1
      have g2 := decide_eq_false h2
      have hst : Hid (statB (a.s k) = true) := Lib.hid (decide_eq_true (by omega))
      clear h1 h2
      refine wp_region_N [(0, 1), (1, 1), (2, 1), (3, 1), (4, 1), (5, 1)] (by kernel_rfl) ?_
      refine wpS_this [0, 1, 2, 3, 4, 5] rfl (by kernel_rfl) (by simp only [pickL, nthL, List.cons_append, List.nil_append]; rfl) ?_
      repeat (go_big_quiet_step (fail))
      refine wpQuiet_nil ?_
      refine wpS_nil ?_
      refine then_normal ?_
      refine wp_cond_false rfl ?_
      refine wp_skip ?_
      refine block_normal ?_
      refine then_normal ?_
      refine wp_region_N [(0, 1), (1, 1)] (by kernel_rfl) ?_
      refine wpS_this [0, 1] rfl (by kernel_rfl) (by simp only [pickL, nthL, List.cons_append, List.nil_append]; rfl) ?_
      repeat (go_big_quiet_step (fail))
      refine wpQuiet_nil ?_
      refine wpS_nil ?_
      refine then_normal ?_
      refine ⟨by kernel_rfl, ?_⟩
      refine ⟨8 - (k + 1), by omega, k + 1, rfl, rfl, hk1, all_next hf.out hst.out, (Mem.only (M := [_, _]) HM5.out [0, 0] rfl)⟩
  · have hk8 : Hid (8 ≤ k) := Lib.hid (by have : ¬ (k : Int) < 8 := (by simpa using h6); omega)
    clear h6
    refine wp_exit ?_
    refine then_exit (then_exit (block_exit ?_))
    refine then_normal ?_
    refine wp_seq ?_
    refine wp_seq ?_
    refine wp_region_N [(0, 1), (1, 1), (2, 1)] (by kernel_rfl) ?_
    refine wpS_this [0] rfl (by kernel_rfl) (by simp only [pickL, nthL, List.cons_append, List.nil_append]; rfl) ?_
    repeat (go_big_quiet_step (fail))
    refine wpQuiet_nil ?_
    refine wpS_loadA (i := 1) (d := some 20) (cells := enC (a).e) rfl (by rfl) rfl rfl (HM5.out.sub 0 rfl (rgC_en)) Try.underlying28 rfl (by kernel_rfl) rfl ?_
    simp only [Act.put, List.setIfInBounds_toArray, List.set_cons_succ, List.set_cons_zero]
    refine wpS_this [2] rfl (by kernel_rfl) (by simp only [pickL, nthL, List.cons_append, List.nil_append]; rfl) ?_
    repeat (go_big_quiet_step (fail))
    refine wpQuiet_nil ?_
    refine wpS_nil ?_
    refine then_normal ?_
    refine wp_block ?_
    refine wp_loop_F [2, 6, 21, 22, 23, 24, 25, 26, 27] (fun n ws W' => ∃ i : Nat, n = 16 - i ∧ ws 21 = .int .i64 (i : Int) ∧ i ≤ 16 ∧ (∀ j, j < i → mayE (a.e j) = true) ∧ Mem [boxT b3 (.cells (rgC a (.slice pa a.p.2.2.length ca)).toArray 30 (0, 0)), R] H w W') (n0 := 16) ?_ ?_
    · exact ⟨0, rfl, rfl, Nat.zero_le _, fun j h => by omega, (Mem.only (M := [_, _]) HM5.out [0, 0] rfl)⟩
    rintro n ws W' ⟨i, rfl, e21, hi, hg', hm2⟩
    simp only [putAll, List.map_cons, List.map_nil, Act.put, List.setIfInBounds_toArray, List.set_cons_succ, List.set_cons_zero]
    rw [e21]
    clear e21
    have hg := Lib.hid hg'
    clear hg'
    have HM7 := Lib.hid hm2
    clear hm2
    refine wp_seq ?_
    refine wp_region_N [(0, 1)] (by kernel_rfl) ?_
    refine wpS_this [0] rfl (by kernel_rfl) (by simp only [pickL, nthL, List.cons_append, List.nil_append]; rfl) ?_
    repeat (go_big_quiet_step (fail))
    refine wpQuiet_nil ?_
    refine wpS_nil ?_
    refine then_normal ?_
    refine wp_seq ?_
    refine wp_cond_split rfl (fun h8 => ?_) (fun h8 => ?_)
    · have hi1 : i + 1 ≤ 16 := by have : (i : Int) < 16 := (by simpa using h8); omega
      clear h8
      refine wp_skip ?_
      refine then_normal ?_
      refine wp_seq ?_
      refine wp_block ?_
      refine wp_seq ?_
      refine wp_region_N [(0, 1), (1, 3), (2, 3)] (by kernel_rfl) ?_
      refine wpS_read (i := 0) (d := some 23) rfl (by rfl) (run_indexEnt (f := a.e) (j := i) (by omega) rfl rfl rfl) rfl ?_
      simp only [Act.put, List.setIfInBounds_toArray, List.set_cons_succ, List.set_cons_zero]
      dsimp only [eV]
      refine wpS_alloc (i := 1) (dd := 6) (z := .agg #[.int .i64 0, .int .i64 0]) (cs := #[.int .i64 0, .int .i64 0]) rfl (by rfl) rfl (by kernel_rfl) rfl HM7.out covS_nil rfl ?_
      rintro b11 W10 hm9 -
      have HM12 := Lib.hid hm9
      clear hm9
      simp only [Act.put, List.setIfInBounds_toArray, List.set_cons_succ, List.set_cons_zero]
      refine wpS_storeA (i := 2) (L2 := [_, _]) (cs' := [_, _]) rfl (by rfl) rfl rfl rfl (by kernel_rfl) (by rfl) HM12.out 0 rfl rfl rfl rfl covS_nil rfl ?_
      rintro W14 hm13 -
      have HM15 := Lib.hid hm13
      clear hm13
      refine wpS_nil ?_
      refine then_normal ?_
      refine wp_seq ?_
      rcases Bool.eq_false_or_eq_true (mayE (a.e i)) with hmy | hmy
      · replace hmy := Lib.hid hmy
        refine wp_region_N [(0, 1), (1, 3), (2, 1)] (by kernel_rfl) ?_
        have Cb6 := Mem.cell HM15.out 0 rfl
        refine wpS_this [0] rfl (by kernel_rfl) (by simp only [pickL, nthL, List.cons_append, List.nil_append]; rfl) ?_
        repeat (go_big_quiet_step (fail))
        refine wpQuiet_nil ?_
        clear Cb6
        refine wpS_does1 (i := 1) (d := some 25) (rem := [_, _, _]) (out := [_, _, _]) rfl (by rfl) rfl Try.call38 (remay_d (a.e i).1 (a.e i).2) rfl HM15.out [] rfl covS_nil rfl rfl ?_
        rintro W17 hm16 -
        rw [show mayE ((a.e i).1, (a.e i).2) = mayE (a.e i) from rfl, hmy.out]
        have HM18 := Lib.hid hm16
        clear hm16
        simp only [Act.put, List.setIfInBounds_toArray, List.set_cons_succ, List.set_cons_zero]
        refine wpS_this [2] rfl (by kernel_rfl) (by simp only [pickL, nthL, List.cons_append, List.nil_append]; rfl) ?_
        repeat (go_big_quiet_step (fail))
        refine wpQuiet_nil ?_
        refine wpS_nil ?_
        refine then_normal ?_
        refine wp_cond_false rfl ?_
        refine wp_skip ?_
        refine block_normal ?_
        refine then_normal ?_
        refine wp_region_N [(0, 1), (1, 1)] (by kernel_rfl) ?_
        refine wpS_this [0, 1] rfl (by kernel_rfl) (by simp only [pickL, nthL, List.cons_append, List.nil_append]; rfl) ?_
        repeat (go_big_quiet_step (fail))
        refine wpQuiet_nil ?_
        refine wpS_nil ?_
        refine then_normal ?_
        refine ⟨by kernel_rfl, ?_⟩
        refine ⟨16 - (i + 1), by omega, i + 1, rfl, rfl, hi1, all_next hg.out hmy.out, (Mem.only (M := [_, _]) HM18.out [1, 1] rfl)⟩
      · replace hmy := Lib.hid hmy
        refine wp_region_N [(0, 1), (1, 3), (2, 1)] (by kernel_rfl) ?_
        have Cb6 := Mem.cell HM15.out 0 rfl
        refine wpS_this [0] rfl (by kernel_rfl) (by simp only [pickL, nthL, List.cons_append, List.nil_append]; rfl) ?_
        repeat (go_big_quiet_step (fail))
        refine wpQuiet_nil ?_
        clear Cb6
        refine wpS_does1 (i := 1) (d := some 25) (rem := [_, _, _]) (out := [_, _, _]) rfl (by rfl) rfl Try.call38 (remay_d (a.e i).1 (a.e i).2) rfl HM15.out [] rfl covS_nil rfl rfl ?_
        rintro W20 hm19 -
        rw [show mayE ((a.e i).1, (a.e i).2) = mayE (a.e i) from rfl, hmy.out]
        have HM21 := Lib.hid hm19
        clear hm19
        simp only [Act.put, List.setIfInBounds_toArray, List.set_cons_succ, List.set_cons_zero]
        refine wpS_this [2] rfl (by kernel_rfl) (by simp only [pickL, nthL, List.cons_append, List.nil_append]; rfl) ?_
        repeat (go_big_quiet_step (fail))
        refine wpQuiet_nil ?_
        refine wpS_nil ?_
        refine then_normal ?_
        refine wp_cond_true rfl ?_
        refine wp_seq ?_
        refine wp_region_N [(0, 1)] (by kernel_rfl) ?_
        refine wpS_this [0] rfl (by kernel_rfl) (by simp only [pickL, nthL, List.cons_append, List.nil_append]; rfl) ?_
        repeat (go_big_quiet_step (fail))
        refine wpQuiet_nil ?_
        refine wpS_nil ?_
        refine then_normal ?_
        refine wp_ret ?_
        refine block_ret (then_ret (then_ret (block_ret (then_ret ?_))))
        refine bodyPost_ret (results_tmp rfl _ _ _) rfl ?_
        rw [mayR_noE (by omega) hmy.out]
        exact does_ret (Mem.only (M := [_]) HM21.out [2] rfl) rfl rfl
    · have hk16 : Hid (16 ≤ i) := Lib.hid (by have : ¬ (i : Int) < 16 := (by simpa using h8); omega)
      clear h8
      refine wp_exit ?_
      refine then_exit (then_exit (block_exit ?_))
      refine then_normal ?_
      refine wp_seq ?_
      refine wp_region_N [(0, 1), (1, 1), (2, 3), (3, 1)] (by kernel_rfl) ?_
      refine wpS_this [0] rfl (by kernel_rfl) (by simp only [pickL, nthL, List.cons_append, List.nil_append]; rfl) ?_
      repeat (go_big_quiet_step (fail))
      refine wpQuiet_nil ?_
      refine wpS_loadA (i := 1) (d := some 29) (cells := plC (a).p (.slice pa a.p.2.2.length ca)) rfl (by rfl) rfl rfl (HM7.out.sub 0 rfl (rgC_pl)) Try.underlying25 rfl (by kernel_rfl) rfl ?_
      dsimp only [plC]
      simp only [Act.put, List.setIfInBounds_toArray, List.set_cons_succ, List.set_cons_zero]
      refine wpS_does1 (i := 2) (d := some 30) (rem := [_]) (out := [_, _]) rfl (by rfl) rfl Try.call39 (rmay_d R _ a.p.1 a.p.2.1 a.p.2.2 ha la) rfl HM7.out [1] rfl covS_nil rfl rfl ?_
      rintro W23 hm22 -
      have HM24 := Lib.hid hm22
      clear hm22
      simp only [Act.put, List.setIfInBounds_toArray, List.set_cons_succ, List.set_cons_zero]
      refine wpS_this [3] rfl (by kernel_rfl) (by simp only [pickL, nthL, List.cons_append, List.nil_append]; rfl) ?_
      repeat (go_big_quiet_step (fail))
      refine wpQuiet_nil ?_
      refine wpS_nil ?_
      refine then_normal ?_
      refine wp_ret ?_
      refine bodyPost_ret (results_tmp rfl _ _ _) rfl ?_
      rw [mayR_p (fun j hj => hf.out j (by have := hk8.out; omega)) (fun j hj => hg.out j (by have := hk16.out; omega))]
      exact does_ret (Mem.only (M := [_]) HM24.out [0] rfl) rfl rfl

end Go.Proofs.Ytihhopoplcelfaa
