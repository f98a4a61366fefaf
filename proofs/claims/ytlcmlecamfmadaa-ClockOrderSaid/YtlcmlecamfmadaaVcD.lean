/- Clock: ClockDots. -/
import Derived.Test.YtlcmlecamfmadaaVcA
namespace Go.Proofs.Ytlcmlecamfmadaa
open Go Go.RowKit Go.BigFrame

set_option maxHeartbeats 4000000 in
set_option maxRecDepth 100000 in
theorem dots_d (v : Nat → Int) (d1 d2 e1 e2 : Int) : Does Try.prog 5 #[vV v, .agg #[.int .i64 d1, .int .i64 d2], .agg #[.int .i64 e1, .int .i64 e2]] [] (.bool true) [] := by
  intro w H hp
  have HM0 := Lib.hid (mem_refl hp)
  clear hp
  go_enter Try.func5, Try.ntmps5
  refine wp_seq ?_
  refine wp_region_N [(0, 3), (1, 3), (2, 3), (3, 1)] (by kernel_rfl) ?_
  refine wpS_boxA (i := 0) (dd := 3) rfl (by rfl) rfl rfl HM0.out covS_nil rfl ?_
  rintro b3 W2 hm1 -
  have HM4 := Lib.hid hm1
  clear hm1
  simp only [Act.put, List.setIfInBounds_toArray, List.set_cons_succ, List.set_cons_zero]
  refine wpS_boxA (i := 1) (dd := 4) rfl (by rfl) rfl rfl HM4.out covS_nil rfl ?_
  rintro b7 W6 hm5 -
  have HM8 := Lib.hid hm5
  clear hm5
  simp only [Act.put, List.setIfInBounds_toArray, List.set_cons_succ, List.set_cons_zero]
  refine wpS_boxA (i := 2) (dd := 5) rfl (by rfl) rfl rfl HM8.out covS_nil rfl ?_
  rintro b11 W10 hm9 -
  have HM12 := Lib.hid hm9
  clear hm9
  simp only [Act.put, List.setIfInBounds_toArray, List.set_cons_succ, List.set_cons_zero]
  refine wpS_this [3] rfl (by kernel_rfl) (by simp only [pickL, nthL, List.cons_append, List.nil_append]; rfl) ?_
  repeat (go_big_quiet_step (fail))
  refine wpQuiet_nil ?_
  refine wpS_nil ?_
  refine then_normal ?_
  refine wp_seq ?_
  refine wp_seq ?_
  rcases (show mayV v = false ∨ (mayV v = true ∧ d1 < 0) ∨ (mayV v = true ∧ ¬ d1 < 0 ∧ 8 ≤ d1) ∨ (mayV v = true ∧ ¬ d1 < 0 ∧ ¬ 8 ≤ d1 ∧ d2 < 1) ∨ (mayV v = true ∧ ¬ d1 < 0 ∧ ¬ 8 ≤ d1 ∧ ¬ d2 < 1 ∧ 1000000 < d2) ∨ (mayV v = true ∧ ¬ d1 < 0 ∧ ¬ 8 ≤ d1 ∧ ¬ d2 < 1 ∧ ¬ 1000000 < d2) from by cases mayV v <;> simp <;> omega) with hm | ⟨hm, k1⟩ | ⟨hm, k1, k2⟩ | ⟨hm, k1, k2, k3⟩ | ⟨hm, k1, k2, k3, k4⟩ | ⟨hm, k1, k2, k3, k4⟩
  · replace hm := Lib.hid hm
    refine wp_region_N [(0, 1), (1, 3), (2, 1), (3, 1), (4, 1), (5, 1), (6, 1), (7, 1), (8, 1), (9, 1), (10, 1), (11, 1), (12, 1), (13, 1), (14, 1), (15, 1), (16, 1), (17, 1), (18, 1), (19, 1), (20, 1), (21, 1), (22, 1)] (by kernel_rfl) ?_
    refine wpS_loadA (i := 0) (d := some 8) (cells := vcC (v)) rfl (by rfl) rfl rfl (HM12.out.cells0 2 rfl) Try.underlying23 rfl (by kernel_rfl) rfl ?_
    simp only [Act.put, List.setIfInBounds_toArray, List.set_cons_succ, List.set_cons_zero]
    refine wpS_does1 (i := 1) (d := some 9) (rem := [_, _, _]) (out := [_, _, _]) rfl (by rfl) rfl Try.call7 (cmay_d v) rfl HM12.out [] rfl covS_nil rfl rfl ?_
    rintro W14 hm13 -
    rw [hm.out]
    have HM15 := Lib.hid hm13
    clear hm13
    simp only [Act.put, List.setIfInBounds_toArray, List.set_cons_succ, List.set_cons_zero]
    have Cb4 := Mem.cell HM15.out 1 rfl
    refine wpS_this [2, 3, 4, 5, 6, 7, 8, 9, 10, 11, 12, 13, 14, 15, 16, 17, 18, 19, 20, 21, 22] rfl (by kernel_rfl) (by simp only [pickL, nthL, List.cons_append, List.nil_append]; rfl) ?_
    repeat (go_big_quiet_step (fail))
    refine wpQuiet_nil ?_
    clear Cb4
    refine wpS_nil ?_
    refine then_normal ?_
    refine wp_cond_true rfl ?_
    refine wp_seq ?_
    refine wp_region_M (fun k => k ∈ ([b3, b7, b11] : List Nat)) [(0, 1), (1, 3), (2, 1), (3, 1), (4, 1), (5, 1), (7, 2), (6, 3), (8, 1), (9, 1), (10, 1), (11, 3), (12, 1), (13, 1)] (by kernel_rfl) (by kernel_rfl) HM15.out ?_
    intro W16 hm17
    have HM18 := Lib.hid hm17
    clear hm17
    refine wpS_loadA (i := 0) (d := some 31) (cells := vcC (v)) rfl (by rfl) rfl rfl (HM18.out.cells0 2 rfl) Try.underlying23 rfl (by kernel_rfl) rfl ?_
    simp only [Act.put, List.setIfInBounds_toArray, List.set_cons_succ, List.set_cons_zero]
    refine wpS_does1 (i := 1) (d := some 32) (rem := [_, _, _]) (out := [_, _, _]) rfl (by rfl) rfl Try.call7 (cmay_d v) rfl HM18.out [] rfl (covS_box 2 rfl (covS_box 1 rfl (covS_box 0 rfl covS_nil))) rfl rfl ?_
    rintro W20 hm19 hg21
    rw [hm.out]
    have HM22 := Lib.hid hm19
    clear hm19
    simp only [Act.put, List.setIfInBounds_toArray, List.set_cons_succ, List.set_cons_zero]
    refine wpS_this [2, 3] rfl (by kernel_rfl) (by simp only [pickL, nthL, List.cons_append, List.nil_append]; rfl) ?_
    repeat (go_big_quiet_step (fail))
    refine wpQuiet_nil ?_
    refine wpS_skip (i := 4) (d := some 35) rfl (by rfl) rfl ?_
    simp only [Act.put, List.setIfInBounds_toArray, List.set_cons_succ, List.set_cons_zero]
    refine wpS_this [5] rfl (by kernel_rfl) (by simp only [pickL, nthL, List.cons_append, List.nil_append]; rfl) ?_
    repeat (go_big_quiet_step (fail))
    refine wpQuiet_nil ?_
    refine wpS_skip (i := 7) (d := some 38) rfl (by rfl) rfl ?_
    simp only [Act.put, List.setIfInBounds_toArray, List.set_cons_succ, List.set_cons_zero]
    refine wpS_skip (i := 6) (d := some 37) rfl (by rfl) rfl ?_
    simp only [Act.put, List.setIfInBounds_toArray, List.set_cons_succ, List.set_cons_zero]
    refine wpS_skip (i := 8) (d := some 39) rfl (by rfl) rfl ?_
    simp only [Act.put, List.setIfInBounds_toArray, List.set_cons_succ, List.set_cons_zero]
    refine wpS_this [9, 10] rfl (by kernel_rfl) (by simp only [pickL, nthL, List.cons_append, List.nil_append]; rfl) ?_
    repeat (go_big_quiet_step (fail))
    refine wpQuiet_nil ?_
    refine wpS_does0 (i := 11) (d := some 42) (rem := [_, _, _]) (out := [_, _, _]) rfl (by rfl) rfl Try.call19 (vawake_d)  HM22.out [] rfl (covS_box 2 rfl (covS_box 1 rfl (covS_box 0 rfl covS_nil))) rfl rfl ?_
    rintro W24 hm23 hg25
    have HM26 := Lib.hid hm23
    clear hm23
    simp only [Act.put, List.setIfInBounds_toArray, List.set_cons_succ, List.set_cons_zero]
    refine wpS_this [12, 13] rfl (by kernel_rfl) (by simp only [pickL, nthL, List.cons_append, List.nil_append]; rfl) ?_
    repeat (go_big_quiet_step (fail))
    refine wpQuiet_nil ?_
    refine wpS_nil ?_
    refine then_normal ?_
    refine wp_ret ?_
    refine then_ret ?_
    refine bodyPost_ret (results_tmp rfl _ _ _) rfl ?_
    exact does_ret (Mem.only (M := []) HM26.out [] rfl) rfl rfl
  · replace hm := Lib.hid hm
    have g1 := decide_eq_true k1
    clear k1
    refine wp_region_N [(0, 1), (1, 3), (2, 1), (3, 1), (4, 1), (5, 1), (6, 1), (7, 1), (8, 1), (9, 1), (10, 1), (11, 1), (12, 1), (13, 1), (14, 1), (15, 1), (16, 1), (17, 1), (18, 1), (19, 1), (20, 1), (21, 1), (22, 1)] (by kernel_rfl) ?_
    refine wpS_loadA (i := 0) (d := some 8) (cells := vcC (v)) rfl (by rfl) rfl rfl (HM12.out.cells0 2 rfl) Try.underlying23 rfl (by kernel_rfl) rfl ?_
    simp only [Act.put, List.setIfInBounds_toArray, List.set_cons_succ, List.set_cons_zero]
    refine wpS_does1 (i := 1) (d := some 9) (rem := [_, _, _]) (out := [_, _, _]) rfl (by rfl) rfl Try.call7 (cmay_d v) rfl HM12.out [] rfl covS_nil rfl rfl ?_
    rintro W28 hm27 -
    rw [hm.out]
    have HM29 := Lib.hid hm27
    clear hm27
    simp only [Act.put, List.setIfInBounds_toArray, List.set_cons_succ, List.set_cons_zero]
    have Cb4 := Mem.cell HM29.out 1 rfl
    refine wpS_this [2, 3, 4, 5, 6, 7, 8, 9, 10, 11, 12, 13, 14, 15, 16, 17, 18, 19, 20, 21, 22] rfl (by kernel_rfl) (by simp only [pickL, nthL, List.cons_append, List.nil_append]; rfl) ?_
    repeat (go_big_quiet_step (fail))
    refine wpQuiet_nil ?_
    clear Cb4
    refine wpS_nil ?_
    refine then_normal ?_
    refine wp_cond_true rfl ?_
    refine wp_seq ?_
    refine wp_region_M (fun k => k ∈ ([b3, b7, b11] : List Nat)) [(0, 1), (1, 3), (2, 1), (3, 1), (4, 1), (5, 1), (7, 2), (6, 3), (8, 1), (9, 1), (10, 1), (11, 3), (12, 1), (13, 1)] (by kernel_rfl) (by kernel_rfl) HM29.out ?_
    intro W30 hm31
    have HM32 := Lib.hid hm31
    clear hm31
    refine wpS_loadA (i := 0) (d := some 31) (cells := vcC (v)) rfl (by rfl) rfl rfl (HM32.out.cells0 2 rfl) Try.underlying23 rfl (by kernel_rfl) rfl ?_
    simp only [Act.put, List.setIfInBounds_toArray, List.set_cons_succ, List.set_cons_zero]
    refine wpS_does1 (i := 1) (d := some 32) (rem := [_, _, _]) (out := [_, _, _]) rfl (by rfl) rfl Try.call7 (cmay_d v) rfl HM32.out [] rfl (covS_box 2 rfl (covS_box 1 rfl (covS_box 0 rfl covS_nil))) rfl rfl ?_
    rintro W34 hm33 hg35
    rw [hm.out]
    have HM36 := Lib.hid hm33
    clear hm33
    simp only [Act.put, List.setIfInBounds_toArray, List.set_cons_succ, List.set_cons_zero]
    refine wpS_this [2, 3] rfl (by kernel_rfl) (by simp only [pickL, nthL, List.cons_append, List.nil_append]; rfl) ?_
    repeat (go_big_quiet_step (fail))
    refine wpQuiet_nil ?_
    refine wpS_loadA (i := 4) (d := some 35) (cells := vcC (v)) rfl (by rfl) rfl rfl (HM36.out.cells0 2 rfl) Try.underlying23 rfl (by kernel_rfl) rfl ?_
    simp only [Act.put, List.setIfInBounds_toArray, List.set_cons_succ, List.set_cons_zero]
    refine wpS_this [5] rfl (by kernel_rfl) (by simp only [pickL, nthL, List.cons_append, List.nil_append]; rfl) ?_
    repeat (go_big_quiet_step (fail))
    refine wpQuiet_nil ?_
    refine wpS_loadA2 (i := 7) (d := some 38) (cells := vcC (v)) rfl (by rfl) rfl rfl (by simp) (HM36.out.cells0 2 rfl) Try.underlying23 rfl (by kernel_rfl) rfl ?_
    simp only [Act.put, List.setIfInBounds_toArray, List.set_cons_succ, List.set_cons_zero]
    refine wpS_does2 (i := 6) (d := some 37) (rem := [_, _, _]) (out := [_, _, _]) rfl (by rfl) rfl Try.call15 (cwith_d v (-1) 5) rfl rfl HM36.out [] rfl (covS_box 2 rfl (covS_box 1 rfl (covS_box 0 rfl covS_nil))) rfl rfl ?_
    rintro W38 hm37 hg39
    rw [show withV v (-1, 5) = v from withV_out (by decide)]
    have HM40 := Lib.hid hm37
    clear hm37
    simp only [Act.put, List.setIfInBounds_toArray, List.set_cons_succ, List.set_cons_zero]
    refine wpS_read (i := 8) (d := some 39) rfl (by rfl) (run_eqV (eq_self _) rfl rfl rfl) rfl ?_
    simp only [Act.put, List.setIfInBounds_toArray, List.set_cons_succ, List.set_cons_zero]
    refine wpS_this [9, 10] rfl (by kernel_rfl) (by simp only [pickL, nthL, List.cons_append, List.nil_append]; rfl) ?_
    repeat (go_big_quiet_step (fail))
    refine wpQuiet_nil ?_
    refine wpS_does0 (i := 11) (d := some 42) (rem := [_, _, _]) (out := [_, _, _]) rfl (by rfl) rfl Try.call19 (vawake_d)  HM40.out [] rfl (covS_box 2 rfl (covS_box 1 rfl (covS_box 0 rfl covS_nil))) rfl rfl ?_
    rintro W42 hm41 hg43
    have HM44 := Lib.hid hm41
    clear hm41
    simp only [Act.put, List.setIfInBounds_toArray, List.set_cons_succ, List.set_cons_zero]
    refine wpS_this [12, 13] rfl (by kernel_rfl) (by simp only [pickL, nthL, List.cons_append, List.nil_append]; rfl) ?_
    repeat (go_big_quiet_step (fail))
    refine wpQuiet_nil ?_
    refine wpS_nil ?_
    refine then_normal ?_
    refine wp_ret ?_
    refine then_ret ?_
    refine bodyPost_ret (results_tmp rfl _ _ _) rfl ?_
    exact does_ret (Mem.only (M := []) HM44.out [] rfl) rfl rfl
  · replace hm := Lib.hid hm
    have g1 := decide_eq_false k1
    have g2 := decide_eq_true k2
    clear k1 k2
    refine wp_region_N [(0, 1), (1, 3), (2, 1), (3, 1), (4, 1), (5, 1), (6, 1), (7, 1), (8, 1), (9, 1), (10, 1), (11, 1), (12, 1), (13, 1), (14, 1), (15, 1), (16, 1), (17, 1), (18, 1), (19, 1), (20, 1), (21, 1), (22, 1)] (by kernel_rfl) ?_
    refine wpS_loadA (i := 0) (d := some 8) (cells := vcC (v)) rfl (by rfl) rfl rfl (HM12.out.cells0 2 rfl) Try.underlying23 rfl (by kernel_rfl) rfl ?_
    simp only [Act.put, List.setIfInBounds_toArray, List.set_cons_succ, List.set_cons_zero]
    refine wpS_does1 (i := 1) (d := some 9) (rem := [_, _, _]) (out := [_, _, _]) rfl (by rfl) rfl Try.call7 (cmay_d v) rfl HM12.out [] rfl covS_nil rfl rfl ?_
    rintro W46 hm45 -
    rw [hm.out]
    have HM47 := Lib.hid hm45
    clear hm45
    simp only [Act.put, List.setIfInBounds_toArray, List.set_cons_succ, List.set_cons_zero]
    have Cb4 := Mem.cell HM47.out 1 rfl
    refine wpS_this [2, 3, 4, 5, 6, 7, 8, 9, 10, 11, 12, 13, 14, 15, 16, 17, 18, 19, 20, 21, 22] rfl (by kernel_rfl) (by simp only [pickL, nthL, List.cons_append, List.nil_append]; rfl) ?_
    repeat (go_big_quiet_step (fail))
    refine wpQuiet_nil ?_
    clear Cb4
    refine wpS_nil ?_
    refine then_normal ?_
    refine wp_cond_true rfl ?_
    refine wp_seq ?_
    refine wp_region_M (fun k => k ∈ ([b3, b7, b11] : List Nat)) [(0, 1), (1, 3), (2, 1), (3, 1), (4, 1), (5, 1), (7, 2), (6, 3), (8, 1), (9, 1), (10, 1), (11, 3), (12, 1), (13, 1)] (by kernel_rfl) (by kernel_rfl) HM47.out ?_
    intro W48 hm49
    have HM50 := Lib.hid hm49
    clear hm49
    refine wpS_loadA (i := 0) (d := some 31) (cells := vcC (v)) rfl (by rfl) rfl rfl (HM50.out.cells0 2 rfl) Try.underlying23 rfl (by kernel_rfl) rfl ?_
    simp only [Act.put, List.setIfInBounds_toArray, List.set_cons_succ, List.set_cons_zero]
    refine wpS_does1 (i := 1) (d := some 32) (rem := [_, _, _]) (out := [_, _, _]) rfl (by rfl) rfl Try.call7 (cmay_d v) rfl HM50.out [] rfl (covS_box 2 rfl (covS_box 1 rfl (covS_box 0 rfl covS_nil))) rfl rfl ?_
    rintro W52 hm51 hg53
    rw [hm.out]
    have HM54 := Lib.hid hm51
    clear hm51
    simp only [Act.put, List.setIfInBounds_toArray, List.set_cons_succ, List.set_cons_zero]
    refine wpS_this [2, 3] rfl (by kernel_rfl) (by simp only [pickL, nthL, List.cons_append, List.nil_append]; rfl) ?_
    repeat (go_big_quiet_step (fail))
    refine wpQuiet_nil ?_
    refine wpS_loadA (i := 4) (d := some 35) (cells := vcC (v)) rfl (by rfl) rfl rfl (HM54.out.cells0 2 rfl) Try.underlying23 rfl (by kernel_rfl) rfl ?_
    simp only [Act.put, List.setIfInBounds_toArray, List.set_cons_succ, List.set_cons_zero]
    refine wpS_this [5] rfl (by kernel_rfl) (by simp only [pickL, nthL, List.cons_append, List.nil_append]; rfl) ?_
    repeat (go_big_quiet_step (fail))
    refine wpQuiet_nil ?_
    refine wpS_loadA2 (i := 7) (d := some 38) (cells := vcC (v)) rfl (by rfl) rfl rfl (by simp) (HM54.out.cells0 2 rfl) Try.underlying23 rfl (by kernel_rfl) rfl ?_
    simp only [Act.put, List.setIfInBounds_toArray, List.set_cons_succ, List.set_cons_zero]
    refine wpS_does2 (i := 6) (d := some 37) (rem := [_, _, _]) (out := [_, _, _]) rfl (by rfl) rfl Try.call15 (cwith_d v (-1) 5) rfl rfl HM54.out [] rfl (covS_box 2 rfl (covS_box 1 rfl (covS_box 0 rfl covS_nil))) rfl rfl ?_
    rintro W56 hm55 hg57
    rw [show withV v (-1, 5) = v from withV_out (by decide)]
    have HM58 := Lib.hid hm55
    clear hm55
    simp only [Act.put, List.setIfInBounds_toArray, List.set_cons_succ, List.set_cons_zero]
    refine wpS_read (i := 8) (d := some 39) rfl (by rfl) (run_eqV (eq_self _) rfl rfl rfl) rfl ?_
    simp only [Act.put, List.setIfInBounds_toArray, List.set_cons_succ, List.set_cons_zero]
    refine wpS_this [9, 10] rfl (by kernel_rfl) (by simp only [pickL, nthL, List.cons_append, List.nil_append]; rfl) ?_
    repeat (go_big_quiet_step (fail))
    refine wpQuiet_nil ?_
    refine wpS_does0 (i := 11) (d := some 42) (rem := [_, _, _]) (out := [_, _, _]) rfl (by rfl) rfl Try.call19 (vawake_d)  HM58.out [] rfl (covS_box 2 rfl (covS_box 1 rfl (covS_box 0 rfl covS_nil))) rfl rfl ?_
    rintro W60 hm59 hg61
    have HM62 := Lib.hid hm59
    clear hm59
    simp only [Act.put, List.setIfInBounds_toArray, List.set_cons_succ, List.set_cons_zero]
    refine wpS_this [12, 13] rfl (by kernel_rfl) (by simp only [pickL, nthL, List.cons_append, List.nil_append]; rfl) ?_
    repeat (go_big_quiet_step (fail))
    refine wpQuiet_nil ?_
    refine wpS_nil ?_
    refine then_normal ?_
    refine wp_ret ?_
    refine then_ret ?_
    refine bodyPost_ret (results_tmp rfl _ _ _) rfl ?_
    exact does_ret (Mem.only (M := []) HM62.out [] rfl) rfl rfl
  · replace hm := Lib.hid hm
    have g1 := decide_eq_false k1
    have g2 := decide_eq_false k2
    have g3 := decide_eq_true k3
    clear k1 k2 k3
    refine wp_region_N [(0, 1), (1, 3), (2, 1), (3, 1), (4, 1), (5, 1), (6, 1), (7, 1), (8, 1), (9, 1), (10, 1), (11, 1), (12, 1), (13, 1), (14, 1), (15, 1), (16, 1), (17, 1), (18, 1), (19, 1), (20, 1), (21, 1), (22, 1)] (by kernel_rfl) ?_
    refine wpS_loadA (i := 0) (d := some 8) (cells := vcC (v)) rfl (by rfl) rfl rfl (HM12.out.cells0 2 rfl) Try.underlying23 rfl (by kernel_rfl) rfl ?_
    simp only [Act.put, List.setIfInBounds_toArray, List.set_cons_succ, List.set_cons_zero]
    refine wpS_does1 (i := 1) (d := some 9) (rem := [_, _, _]) (out := [_, _, _]) rfl (by rfl) rfl Try.call7 (cmay_d v) rfl HM12.out [] rfl covS_nil rfl rfl ?_
    rintro W64 hm63 -
    rw [hm.out]
    have HM65 := Lib.hid hm63
    clear hm63
    simp only [Act.put, List.setIfInBounds_toArray, List.set_cons_succ, List.set_cons_zero]
    have Cb4 := Mem.cell HM65.out 1 rfl
    refine wpS_this [2, 3, 4, 5, 6, 7, 8, 9, 10, 11, 12, 13, 14, 15, 16, 17, 18, 19, 20, 21, 22] rfl (by kernel_rfl) (by simp only [pickL, nthL, List.cons_append, List.nil_append]; rfl) ?_
    repeat (go_big_quiet_step (fail))
    refine wpQuiet_nil ?_
    clear Cb4
    refine wpS_nil ?_
    refine then_normal ?_
    refine wp_cond_true rfl ?_
    refine wp_seq ?_
    refine wp_region_M (fun k => k ∈ ([b3, b7, b11] : List Nat)) [(0, 1), (1, 3), (2, 1), (3, 1), (4, 1), (5, 1), (7, 2), (6, 3), (8, 1), (9, 1), (10, 1), (11, 3), (12, 1), (13, 1)] (by kernel_rfl) (by kernel_rfl) HM65.out ?_
    intro W66 hm67
    have HM68 := Lib.hid hm67
    clear hm67
    refine wpS_loadA (i := 0) (d := some 31) (cells := vcC (v)) rfl (by rfl) rfl rfl (HM68.out.cells0 2 rfl) Try.underlying23 rfl (by kernel_rfl) rfl ?_
    simp only [Act.put, List.setIfInBounds_toArray, List.set_cons_succ, List.set_cons_zero]
    refine wpS_does1 (i := 1) (d := some 32) (rem := [_, _, _]) (out := [_, _, _]) rfl (by rfl) rfl Try.call7 (cmay_d v) rfl HM68.out [] rfl (covS_box 2 rfl (covS_box 1 rfl (covS_box 0 rfl covS_nil))) rfl rfl ?_
    rintro W70 hm69 hg71
    rw [hm.out]
    have HM72 := Lib.hid hm69
    clear hm69
    simp only [Act.put, List.setIfInBounds_toArray, List.set_cons_succ, List.set_cons_zero]
    refine wpS_this [2, 3] rfl (by kernel_rfl) (by simp only [pickL, nthL, List.cons_append, List.nil_append]; rfl) ?_
    repeat (go_big_quiet_step (fail))
    refine wpQuiet_nil ?_
    refine wpS_loadA (i := 4) (d := some 35) (cells := vcC (v)) rfl (by rfl) rfl rfl (HM72.out.cells0 2 rfl) Try.underlying23 rfl (by kernel_rfl) rfl ?_
    simp only [Act.put, List.setIfInBounds_toArray, List.set_cons_succ, List.set_cons_zero]
    refine wpS_this [5] rfl (by kernel_rfl) (by simp only [pickL, nthL, List.cons_append, List.nil_append]; rfl) ?_
    repeat (go_big_quiet_step (fail))
    refine wpQuiet_nil ?_
    refine wpS_loadA2 (i := 7) (d := some 38) (cells := vcC (v)) rfl (by rfl) rfl rfl (by simp) (HM72.out.cells0 2 rfl) Try.underlying23 rfl (by kernel_rfl) rfl ?_
    simp only [Act.put, List.setIfInBounds_toArray, List.set_cons_succ, List.set_cons_zero]
    refine wpS_does2 (i := 6) (d := some 37) (rem := [_, _, _]) (out := [_, _, _]) rfl (by rfl) rfl Try.call15 (cwith_d v (-1) 5) rfl rfl HM72.out [] rfl (covS_box 2 rfl (covS_box 1 rfl (covS_box 0 rfl covS_nil))) rfl rfl ?_
    rintro W74 hm73 hg75
    rw [show withV v (-1, 5) = v from withV_out (by decide)]
    have HM76 := Lib.hid hm73
    clear hm73
    simp only [Act.put, List.setIfInBounds_toArray, List.set_cons_succ, List.set_cons_zero]
    refine wpS_read (i := 8) (d := some 39) rfl (by rfl) (run_eqV (eq_self _) rfl rfl rfl) rfl ?_
    simp only [Act.put, List.setIfInBounds_toArray, List.set_cons_succ, List.set_cons_zero]
    refine wpS_this [9, 10] rfl (by kernel_rfl) (by simp only [pickL, nthL, List.cons_append, List.nil_append]; rfl) ?_
    repeat (go_big_quiet_step (fail))
    refine wpQuiet_nil ?_
    refine wpS_does0 (i := 11) (d := some 42) (rem := [_, _, _]) (out := [_, _, _]) rfl (by rfl) rfl Try.call19 (vawake_d)  HM76.out [] rfl (covS_box 2 rfl (covS_box 1 rfl (covS_box 0 rfl covS_nil))) rfl rfl ?_
    rintro W78 hm77 hg79
    have HM80 := Lib.hid hm77
    clear hm77
    simp only [Act.put, List.setIfInBounds_toArray, List.set_cons_succ, List.set_cons_zero]
    refine wpS_this [12, 13] rfl (by kernel_rfl) (by simp only [pickL, nthL, List.cons_append, List.nil_append]; rfl) ?_
    repeat (go_big_quiet_step (fail))
    refine wpQuiet_nil ?_
    refine wpS_nil ?_
    refine then_normal ?_
    refine wp_ret ?_
    refine then_ret ?_
    refine bodyPost_ret (results_tmp rfl _ _ _) rfl ?_
    exact does_ret (Mem.only (M := []) HM80.out [] rfl) rfl rfl
  · replace hm := Lib.hid hm
    have g1 := decide_eq_false k1
    have g2 := decide_eq_false k2
    have g3 := decide_eq_false k3
    have g4 := decide_eq_true k4
    clear k1 k2 k3 k4
    refine wp_region_N [(0, 1), (1, 3), (2, 1), (3, 1), (4, 1), (5, 1), (6, 1), (7, 1), (8, 1), (9, 1), (10, 1), (11, 1), (12, 1), (13, 1), (14, 1), (15, 1), (16, 1), (17, 1), (18, 1), (19, 1), (20, 1), (21, 1), (22, 1)] (by kernel_rfl) ?_
    refine wpS_loadA (i := 0) (d := some 8) (cells := vcC (v)) rfl (by rfl) rfl rfl (HM12.out.cells0 2 rfl) Try.underlying23 rfl (by kernel_rfl) rfl ?_
    simp only [Act.put, List.setIfInBounds_toArray, List.set_cons_succ, List.set_cons_zero]
    refine wpS_does1 (i := 1) (d := some 9) (rem := [_, _, _]) (out := [_, _, _]) rfl (by rfl) rfl Try.call7 (cmay_d v) rfl HM12.out [] rfl covS_nil rfl rfl ?_
    rintro W82 hm81 -
    rw [hm.out]
    have HM83 := Lib.hid hm81
    clear hm81
    simp only [Act.put, List.setIfInBounds_toArray, List.set_cons_succ, List.set_cons_zero]
    have Cb4 := Mem.cell HM83.out 1 rfl
    refine wpS_this [2, 3, 4, 5, 6, 7, 8, 9, 10, 11, 12, 13, 14, 15, 16, 17, 18, 19, 20, 21, 22] rfl (by kernel_rfl) (by simp only [pickL, nthL, List.cons_append, List.nil_append]; rfl) ?_
    repeat (go_big_quiet_step (fail))
    refine wpQuiet_nil ?_
    clear Cb4
    refine wpS_nil ?_
    refine then_normal ?_
    refine wp_cond_true rfl ?_
    refine wp_seq ?_
    refine wp_region_M (fun k => k ∈ ([b3, b7, b11] : List Nat)) [(0, 1), (1, 3), (2, 1), (3, 1), (4, 1), (5, 1), (7, 2), (6, 3), (8, 1), (9, 1), (10, 1), (11, 3), (12, 1), (13, 1)] (by kernel_rfl) (by kernel_rfl) HM83.out ?_
    intro W84 hm85
    have HM86 := Lib.hid hm85
    clear hm85
    refine wpS_loadA (i := 0) (d := some 31) (cells := vcC (v)) rfl (by rfl) rfl rfl (HM86.out.cells0 2 rfl) Try.underlying23 rfl (by kernel_rfl) rfl ?_
    simp only [Act.put, List.setIfInBounds_toArray, List.set_cons_succ, List.set_cons_zero]
    refine wpS_does1 (i := 1) (d := some 32) (rem := [_, _, _]) (out := [_, _, _]) rfl (by rfl) rfl Try.call7 (cmay_d v) rfl HM86.out [] rfl (covS_box 2 rfl (covS_box 1 rfl (covS_box 0 rfl covS_nil))) rfl rfl ?_
    rintro W88 hm87 hg89
    rw [hm.out]
    have HM90 := Lib.hid hm87
    clear hm87
    simp only [Act.put, List.setIfInBounds_toArray, List.set_cons_succ, List.set_cons_zero]
    refine wpS_this [2, 3] rfl (by kernel_rfl) (by simp only [pickL, nthL, List.cons_append, List.nil_append]; rfl) ?_
    repeat (go_big_quiet_step (fail))
    refine wpQuiet_nil ?_
    refine wpS_loadA (i := 4) (d := some 35) (cells := vcC (v)) rfl (by rfl) rfl rfl (HM90.out.cells0 2 rfl) Try.underlying23 rfl (by kernel_rfl) rfl ?_
    simp only [Act.put, List.setIfInBounds_toArray, List.set_cons_succ, List.set_cons_zero]
    refine wpS_this [5] rfl (by kernel_rfl) (by simp only [pickL, nthL, List.cons_append, List.nil_append]; rfl) ?_
    repeat (go_big_quiet_step (fail))
    refine wpQuiet_nil ?_
    refine wpS_loadA2 (i := 7) (d := some 38) (cells := vcC (v)) rfl (by rfl) rfl rfl (by simp) (HM90.out.cells0 2 rfl) Try.underlying23 rfl (by kernel_rfl) rfl ?_
    simp only [Act.put, List.setIfInBounds_toArray, List.set_cons_succ, List.set_cons_zero]
    refine wpS_does2 (i := 6) (d := some 37) (rem := [_, _, _]) (out := [_, _, _]) rfl (by rfl) rfl Try.call15 (cwith_d v (-1) 5) rfl rfl HM90.out [] rfl (covS_box 2 rfl (covS_box 1 rfl (covS_box 0 rfl covS_nil))) rfl rfl ?_
    rintro W92 hm91 hg93
    rw [show withV v (-1, 5) = v from withV_out (by decide)]
    have HM94 := Lib.hid hm91
    clear hm91
    simp only [Act.put, List.setIfInBounds_toArray, List.set_cons_succ, List.set_cons_zero]
    refine wpS_read (i := 8) (d := some 39) rfl (by rfl) (run_eqV (eq_self _) rfl rfl rfl) rfl ?_
    simp only [Act.put, List.setIfInBounds_toArray, List.set_cons_succ, List.set_cons_zero]
    refine wpS_this [9, 10] rfl (by kernel_rfl) (by simp only [pickL, nthL, List.cons_append, List.nil_append]; rfl) ?_
    repeat (go_big_quiet_step (fail))
    refine wpQuiet_nil ?_
    refine wpS_does0 (i := 11) (d := some 42) (rem := [_, _, _]) (out := [_, _, _]) rfl (by rfl) rfl Try.call19 (vawake_d)  HM94.out [] rfl (covS_box 2 rfl (covS_box 1 rfl (covS_box 0 rfl covS_nil))) rfl rfl ?_
    rintro W96 hm95 hg97
    have HM98 := Lib.hid hm95
    clear hm95
    simp only [Act.put, List.setIfInBounds_toArray, List.set_cons_succ, List.set_cons_zero]
    refine wpS_this [12, 13] rfl (by kernel_rfl) (by simp only [pickL, nthL, List.cons_append, List.nil_append]; rfl) ?_
    repeat (go_big_quiet_step (fail))
    refine wpQuiet_nil ?_
    refine wpS_nil ?_
    refine then_normal ?_
    refine wp_ret ?_
    refine then_ret ?_
    refine bodyPost_ret (results_tmp rfl _ _ _) rfl ?_
    exact does_ret (Mem.only (M := []) HM98.out [] rfl) rfl rfl
  · have hd8 : 0 ≤ d1 ∧ d1 < 8 := by omega
    have hd1 : 1 ≤ d2 := by omega
    have hdm : d2 ≤ 1000000 := by omega
    replace hm := Lib.hid hm
    have g1 := decide_eq_false k1
    have g2 := decide_eq_false k2
    have g3 := decide_eq_false k3
    have g4 := decide_eq_false k4
    clear k1 k2 k3 k4
    refine wp_region_N [(0, 1), (1, 3), (2, 1), (3, 1), (4, 1), (5, 1), (6, 1), (7, 1), (8, 1), (9, 1), (10, 1), (11, 1), (12, 1), (13, 1), (14, 1), (15, 1), (16, 1), (17, 1), (18, 1), (19, 1), (20, 1), (21, 1), (22, 1)] (by kernel_rfl) ?_
    refine wpS_loadA (i := 0) (d := some 8) (cells := vcC (v)) rfl (by rfl) rfl rfl (HM12.out.cells0 2 rfl) Try.underlying23 rfl (by kernel_rfl) rfl ?_
    simp only [Act.put, List.setIfInBounds_toArray, List.set_cons_succ, List.set_cons_zero]
    refine wpS_does1 (i := 1) (d := some 9) (rem := [_, _, _]) (out := [_, _, _]) rfl (by rfl) rfl Try.call7 (cmay_d v) rfl HM12.out [] rfl covS_nil rfl rfl ?_
    rintro W100 hm99 -
    rw [hm.out]
    have HM101 := Lib.hid hm99
    clear hm99
    simp only [Act.put, List.setIfInBounds_toArray, List.set_cons_succ, List.set_cons_zero]
    have Cb4 := Mem.cell HM101.out 1 rfl
    refine wpS_this [2, 3, 4, 5, 6, 7, 8, 9, 10, 11, 12, 13, 14, 15, 16, 17, 18, 19, 20, 21, 22] rfl (by kernel_rfl) (by simp only [pickL, nthL, List.cons_append, List.nil_append]; rfl) ?_
    repeat (go_big_quiet_step (fail))
    refine wpQuiet_nil ?_
    clear Cb4
    refine wpS_nil ?_
    refine then_normal ?_
    refine wp_cond_false rfl ?_
    refine wp_skip ?_
    refine then_normal ?_
    refine wp_seq ?_
    obtain ⟨w', hw''⟩ := vec_letter (withV v (d1, d2))
    have hmw : Hid (mayV w' = true) := Lib.hid (by rw [← hw'']; exact mayV_with hm.out hdm)
    obtain ⟨t, ht'⟩ := bool_letter (hasV v (d1, d2))
    have htv : Hid (decide (tab8 w' = tab8 v) = t) := Lib.hid (by rw [← hw'', withV_has (d := (d1, d2)) hd8 hd1, ht'])
    have hw' := Lib.hid hw''
    clear hw''
    have ht := Lib.hid ht'
    clear ht'
    have gt : (t == t) = true := beq_self_eq_true _
    refine wp_region_N [(0, 1), (1, 1), (2, 3), (3, 3), (4, 3)] (by kernel_rfl) ?_
    refine wpS_loadA (i := 0) (d := some 44) (cells := vcC (v)) rfl (by rfl) rfl rfl (HM101.out.cells0 2 rfl) Try.underlying23 rfl (by kernel_rfl) rfl ?_
    simp only [Act.put, List.setIfInBounds_toArray, List.set_cons_succ, List.set_cons_zero]
    have Cb4 := Mem.cell HM101.out 1 rfl
    refine wpS_this [1] rfl (by kernel_rfl) (by simp only [pickL, nthL, List.cons_append, List.nil_append]; rfl) ?_
    repeat (go_big_quiet_step (fail))
    refine wpQuiet_nil ?_
    clear Cb4
    refine wpS_does2 (i := 2) (d := some 46) (rem := [_, _, _]) (out := [_, _, _]) rfl (by rfl) rfl Try.call15 (cwith_d v d1 d2) rfl rfl HM101.out [] rfl covS_nil rfl rfl ?_
    rintro W103 hm102 -
    rw [hw'.out]
    have HM104 := Lib.hid hm102
    clear hm102
    simp only [Act.put, List.setIfInBounds_toArray, List.set_cons_succ, List.set_cons_zero]
    refine wpS_alloc (i := 3) (dd := 7) (z := vV (fun _ => 0)) (cs := (vcC (fun _ => 0)).toArray) rfl (by rfl) rfl (by kernel_rfl) rfl HM104.out covS_nil rfl ?_
    rintro b107 W106 hm105 -
    have HM108 := Lib.hid hm105
    clear hm105
    simp only [Act.put, List.setIfInBounds_toArray, List.set_cons_succ, List.set_cons_zero]
    refine wpS_storeA (i := 4) (L2 := [_, _, _]) (cs' := vcC (w')) rfl (by rfl) rfl rfl rfl (by kernel_rfl) (vcC_one _) HM108.out 0 rfl rfl (by kernel_rfl) (by kernel_rfl) covS_nil rfl ?_
    rintro W110 hm109 -
    have HM111 := Lib.hid hm109
    clear hm109
    refine wpS_nil ?_
    refine then_normal ?_
    refine wp_seq ?_
    rcases (show hasV v (e1, e2) = true ∨ (hasV v (e1, e2) = false ∧ ¬ e1 = d1) ∨ (hasV v (e1, e2) = false ∧ e1 = d1 ∧ ¬ 1 ≤ e2) ∨ (hasV v (e1, e2) = false ∧ e1 = d1 ∧ 1 ≤ e2 ∧ ¬ e2 ≤ d2) ∨ (hasV v (e1, e2) = false ∧ e1 = d1 ∧ 1 ≤ e2 ∧ e2 ≤ d2) from by cases hasV v (e1, e2) <;> simp <;> omega) with p1 | ⟨p1, q1⟩ | ⟨p1, q1, q2⟩ | ⟨p1, q1, q2, q3⟩ | ⟨p1, q1, q2, q3⟩
    · have hwe : Hid (hasV w' (e1, e2) = true) := Lib.hid (by rw [← hw'.out, hasV_more (d := (d1, d2)) hd8 hd1, p1]; first | rfl | exact decide_eq_true (show e1 = d1 ∧ 1 ≤ e2 ∧ e2 ≤ d2 by omega))
      replace p1 := Lib.hid p1
      refine wp_region_M (fun k => k ∈ ([b3, b7, b11, b107] : List Nat)) [(0, 1), (1, 3), (2, 1), (3, 1), (4, 1), (6, 2), (7, 2), (5, 3), (8, 3), (9, 1), (10, 1), (11, 1), (12, 1), (13, 1), (14, 1), (15, 1), (16, 1), (17, 1), (18, 1), (19, 1), (20, 1), (21, 1), (22, 1), (23, 1), (24, 1), (25, 1), (26, 1), (27, 1), (28, 1), (29, 1), (30, 1), (31, 1), (32, 1), (34, 2), (33, 3), (35, 1), (36, 1), (37, 1), (38, 1), (39, 1), (41, 2), (43, 2), (44, 2), (40, 3), (42, 0), (45, 3), (46, 1), (47, 1), (48, 1), (49, 3), (50, 1), (51, 1)] (by kernel_rfl) (by kernel_rfl) HM111.out ?_
      intro W112 hm113
      have HM114 := Lib.hid hm113
      clear hm113
      refine wpS_loadA (i := 0) (d := some 47) (cells := vcC (w')) rfl (by rfl) rfl rfl (HM114.out.cells0 0 rfl) Try.underlying23 rfl (by kernel_rfl) rfl ?_
      simp only [Act.put, List.setIfInBounds_toArray, List.set_cons_succ, List.set_cons_zero]
      refine wpS_does1 (i := 1) (d := some 48) (rem := [_, _, _, _]) (out := [_, _, _, _]) rfl (by rfl) rfl Try.call7 (cmay_d w') rfl HM114.out [] rfl (covS_box 3 rfl (covS_box 2 rfl (covS_box 1 rfl (covS_box 0 rfl covS_nil)))) rfl rfl ?_
      rintro W116 hm115 hg117
      rw [hmw.out]
      have HM118 := Lib.hid hm115
      clear hm115
      simp only [Act.put, List.setIfInBounds_toArray, List.set_cons_succ, List.set_cons_zero]
      refine wpS_this [2] rfl (by kernel_rfl) (by simp only [pickL, nthL, List.cons_append, List.nil_append]; rfl) ?_
      repeat (go_big_quiet_step (fail))
      refine wpQuiet_nil ?_
      refine wpS_loadA (i := 3) (d := some 50) (cells := vcC (w')) rfl (by rfl) rfl rfl (HM118.out.cells0 0 rfl) Try.underlying23 rfl (by kernel_rfl) rfl ?_
      simp only [Act.put, List.setIfInBounds_toArray, List.set_cons_succ, List.set_cons_zero]
      have Cb5 := Mem.cell HM118.out 1 rfl
      refine wpS_this [4] rfl (by kernel_rfl) (by simp only [pickL, nthL, List.cons_append, List.nil_append]; rfl) ?_
      repeat (go_big_quiet_step (fail))
      refine wpQuiet_nil ?_
      clear Cb5
      refine wpS_loadA2 (i := 6) (d := some 53) (cells := vcC (v)) rfl (by rfl) rfl rfl (by simp) (HM118.out.cells0 3 rfl) Try.underlying23 rfl (by kernel_rfl) rfl ?_
      simp only [Act.put, List.setIfInBounds_toArray, List.set_cons_succ, List.set_cons_zero]
      have Cb5 := Mem.cell HM118.out 1 rfl
      refine wpS_stay [7] rfl (by kernel_rfl) (by simp only [pickL, nthL, List.cons_append, List.nil_append]; rfl) ?_
      repeat (go_big_quiet_step (fail))
      refine wpQuiet_nil ?_
      clear Cb5
      refine wpS_does2 (i := 5) (d := some 52) (rem := [_, _, _, _]) (out := [_, _, _, _]) rfl (by rfl) rfl Try.call13 (chas_d w' e1 e2) rfl rfl HM118.out [] rfl (covS_box 3 rfl (covS_box 2 rfl (covS_box 1 rfl (covS_box 0 rfl covS_nil)))) rfl rfl ?_
      rintro W120 hm119 hg121
      rw [hwe.out]
      have HM122 := Lib.hid hm119
      clear hm119
      simp only [Act.put, List.setIfInBounds_toArray, List.set_cons_succ, List.set_cons_zero]
      refine wpS_does2 (i := 8) (d := some 55) (rem := [_, _, _, _]) (out := [_, _, _, _]) rfl (by rfl) rfl Try.call13 (chas_d v e1 e2) rfl rfl HM122.out [] rfl (covS_box 3 rfl (covS_box 2 rfl (covS_box 1 rfl (covS_box 0 rfl covS_nil)))) rfl rfl ?_
      rintro W124 hm123 hg125
      rw [p1.out]
      have HM126 := Lib.hid hm123
      clear hm123
      simp only [Act.put, List.setIfInBounds_toArray, List.set_cons_succ, List.set_cons_zero]
      have Cb5 := Mem.cell HM126.out 1 rfl
      have Cb4 := Mem.cell HM126.out 2 rfl
      refine wpS_this [9, 10, 11, 12, 13, 14, 15, 16, 17, 18, 19, 20, 21, 22, 23, 24, 25, 26, 27, 28, 29, 30] rfl (by kernel_rfl) (by simp only [pickL, nthL, List.cons_append, List.nil_append]; rfl) ?_
      repeat (go_big_quiet_step (fail))
      refine wpQuiet_nil ?_
      clear Cb5 Cb4
      refine wpS_loadA (i := 31) (d := some 78) (cells := vcC (w')) rfl (by rfl) rfl rfl (HM126.out.cells0 0 rfl) Try.underlying23 rfl (by kernel_rfl) rfl ?_
      simp only [Act.put, List.setIfInBounds_toArray, List.set_cons_succ, List.set_cons_zero]
      have Cb4 := Mem.cell HM126.out 2 rfl
      refine wpS_this [32] rfl (by kernel_rfl) (by simp only [pickL, nthL, List.cons_append, List.nil_append]; rfl) ?_
      repeat (go_big_quiet_step (fail))
      refine wpQuiet_nil ?_
      clear Cb4
      refine wpS_loadA2 (i := 34) (d := some 81) (cells := vcC (w')) rfl (by rfl) rfl rfl (by simp) (HM126.out.cells0 0 rfl) Try.underlying23 rfl (by kernel_rfl) rfl ?_
      simp only [Act.put, List.setIfInBounds_toArray, List.set_cons_succ, List.set_cons_zero]
      refine wpS_does2 (i := 33) (d := some 80) (rem := [_, _, _, _]) (out := [_, _, _, _]) rfl (by rfl) rfl Try.call15 (cwith_d w' d1 d2) rfl rfl HM126.out [] rfl (covS_box 3 rfl (covS_box 2 rfl (covS_box 1 rfl (covS_box 0 rfl covS_nil)))) rfl rfl ?_
      rintro W128 hm127 hg129
      rw [show withV w' (d1, d2) = w' from by rw [← hw'.out]; exact withV_again _ _]
      have HM130 := Lib.hid hm127
      clear hm127
      simp only [Act.put, List.setIfInBounds_toArray, List.set_cons_succ, List.set_cons_zero]
      refine wpS_read (i := 35) (d := some 82) rfl (by rfl) (run_eqV (eq_self _) rfl rfl rfl) rfl ?_
      simp only [Act.put, List.setIfInBounds_toArray, List.set_cons_succ, List.set_cons_zero]
      refine wpS_this [36, 37] rfl (by kernel_rfl) (by simp only [pickL, nthL, List.cons_append, List.nil_append]; rfl) ?_
      repeat (go_big_quiet_step (fail))
      refine wpQuiet_nil ?_
      refine wpS_loadA (i := 38) (d := some 85) (cells := vcC (v)) rfl (by rfl) rfl rfl (HM130.out.cells0 3 rfl) Try.underlying23 rfl (by kernel_rfl) rfl ?_
      simp only [Act.put, List.setIfInBounds_toArray, List.set_cons_succ, List.set_cons_zero]
      have Cb4 := Mem.cell HM130.out 2 rfl
      refine wpS_this [39] rfl (by kernel_rfl) (by simp only [pickL, nthL, List.cons_append, List.nil_append]; rfl) ?_
      repeat (go_big_quiet_step (fail))
      refine wpQuiet_nil ?_
      clear Cb4
      refine wpS_loadA2 (i := 41) (d := some 88) (cells := vcC (v)) rfl (by rfl) rfl rfl (by simp) (HM130.out.cells0 3 rfl) Try.underlying23 rfl (by kernel_rfl) rfl ?_
      simp only [Act.put, List.setIfInBounds_toArray, List.set_cons_succ, List.set_cons_zero]
      refine wpS_loadA2 (i := 43) (d := some 90) (cells := vcC (v)) rfl (by rfl) rfl rfl (by simp) (HM130.out.cells0 3 rfl) Try.underlying23 rfl (by kernel_rfl) rfl ?_
      simp only [Act.put, List.setIfInBounds_toArray, List.set_cons_succ, List.set_cons_zero]
      have Cb4 := Mem.cell HM130.out 2 rfl
      refine wpS_stay [44] rfl (by kernel_rfl) (by simp only [pickL, nthL, List.cons_append, List.nil_append]; rfl) ?_
      repeat (go_big_quiet_step (fail))
      refine wpQuiet_nil ?_
      clear Cb4
      refine wpS_does2 (i := 40) (d := some 87) (rem := [_, _, _, _]) (out := [_, _, _, _]) rfl (by rfl) rfl Try.call15 (cwith_d v d1 d2) rfl rfl HM130.out [] rfl (covS_box 3 rfl (covS_box 2 rfl (covS_box 1 rfl (covS_box 0 rfl covS_nil)))) rfl rfl ?_
      rintro W132 hm131 hg133
      rw [hw'.out]
      have HM134 := Lib.hid hm131
      clear hm131
      simp only [Act.put, List.setIfInBounds_toArray, List.set_cons_succ, List.set_cons_zero]
      refine wpS_read0 (i := 42) (d := some 89) rfl (by rfl) (fun _ => run_eqV (htv.out) rfl rfl rfl) rfl ?_
      simp only [Act.put, List.setIfInBounds_toArray, List.set_cons_succ, List.set_cons_zero]
      refine wpS_does2 (i := 45) (d := some 92) (rem := [_, _, _, _]) (out := [_, _, _, _]) rfl (by rfl) rfl Try.call13 (chas_d v d1 d2) rfl rfl HM134.out [] rfl (covS_box 3 rfl (covS_box 2 rfl (covS_box 1 rfl (covS_box 0 rfl covS_nil)))) rfl rfl ?_
      rintro W136 hm135 hg137
      rw [ht.out]
      have HM138 := Lib.hid hm135
      clear hm135
      simp only [Act.put, List.setIfInBounds_toArray, List.set_cons_succ, List.set_cons_zero]
      refine wpS_this [46, 47, 48] rfl (by kernel_rfl) (by simp only [pickL, nthL, List.cons_append, List.nil_append]; rfl) ?_
      repeat (go_big_quiet_step (fail))
      refine wpQuiet_nil ?_
      refine wpS_does0 (i := 49) (d := some 96) (rem := [_, _, _, _]) (out := [_, _, _, _]) rfl (by rfl) rfl Try.call19 (vawake_d)  HM138.out [] rfl (covS_box 3 rfl (covS_box 2 rfl (covS_box 1 rfl (covS_box 0 rfl covS_nil)))) rfl rfl ?_
      rintro W140 hm139 hg141
      have HM142 := Lib.hid hm139
      clear hm139
      simp only [Act.put, List.setIfInBounds_toArray, List.set_cons_succ, List.set_cons_zero]
      refine wpS_this [50, 51] rfl (by kernel_rfl) (by simp only [pickL, nthL, List.cons_append, List.nil_append]; rfl) ?_
      repeat (go_big_quiet_step (fail))
      refine wpQuiet_nil ?_
      refine wpS_nil ?_
      refine then_normal ?_
      refine wp_ret ?_
      refine bodyPost_ret (results_tmp rfl _ _ _) rfl ?_
      exact does_ret (Mem.only (M := []) HM142.out [] rfl) rfl rfl
    · have hwe : Hid (hasV w' (e1, e2) = false) := Lib.hid (by rw [← hw'.out, hasV_more (d := (d1, d2)) hd8 hd1, p1]; exact decide_eq_false (show ¬ (e1 = d1 ∧ 1 ≤ e2 ∧ e2 ≤ d2) by omega))
      have f1 : (e1 == d1) = false := beq_eq_false_iff_ne.2 q1
      clear q1
      replace p1 := Lib.hid p1
      refine wp_region_M (fun k => k ∈ ([b3, b7, b11, b107] : List Nat)) [(0, 1), (1, 3), (2, 1), (3, 1), (4, 1), (6, 2), (7, 2), (5, 3), (8, 3), (9, 1), (10, 1), (11, 1), (12, 1), (13, 1), (14, 1), (15, 1), (16, 1), (17, 1), (18, 1), (19, 1), (20, 1), (21, 1), (22, 1), (23, 1), (24, 1), (25, 1), (26, 1), (27, 1), (28, 1), (29, 1), (30, 1), (31, 1), (32, 1), (34, 2), (33, 3), (35, 1), (36, 1), (37, 1), (38, 1), (39, 1), (41, 2), (43, 2), (44, 2), (40, 3), (42, 0), (45, 3), (46, 1), (47, 1), (48, 1), (49, 3), (50, 1), (51, 1)] (by kernel_rfl) (by kernel_rfl) HM111.out ?_
      intro W143 hm144
      have HM145 := Lib.hid hm144
      clear hm144
      refine wpS_loadA (i := 0) (d := some 47) (cells := vcC (w')) rfl (by rfl) rfl rfl (HM145.out.cells0 0 rfl) Try.underlying23 rfl (by kernel_rfl) rfl ?_
      simp only [Act.put, List.setIfInBounds_toArray, List.set_cons_succ, List.set_cons_zero]
      refine wpS_does1 (i := 1) (d := some 48) (rem := [_, _, _, _]) (out := [_, _, _, _]) rfl (by rfl) rfl Try.call7 (cmay_d w') rfl HM145.out [] rfl (covS_box 3 rfl (covS_box 2 rfl (covS_box 1 rfl (covS_box 0 rfl covS_nil)))) rfl rfl ?_
      rintro W147 hm146 hg148
      rw [hmw.out]
      have HM149 := Lib.hid hm146
      clear hm146
      simp only [Act.put, List.setIfInBounds_toArray, List.set_cons_succ, List.set_cons_zero]
      refine wpS_this [2] rfl (by kernel_rfl) (by simp only [pickL, nthL, List.cons_append, List.nil_append]; rfl) ?_
      repeat (go_big_quiet_step (fail))
      refine wpQuiet_nil ?_
      refine wpS_loadA (i := 3) (d := some 50) (cells := vcC (w')) rfl (by rfl) rfl rfl (HM149.out.cells0 0 rfl) Try.underlying23 rfl (by kernel_rfl) rfl ?_
      simp only [Act.put, List.setIfInBounds_toArray, List.set_cons_succ, List.set_cons_zero]
      have Cb5 := Mem.cell HM149.out 1 rfl
      refine wpS_this [4] rfl (by kernel_rfl) (by simp only [pickL, nthL, List.cons_append, List.nil_append]; rfl) ?_
      repeat (go_big_quiet_step (fail))
      refine wpQuiet_nil ?_
      clear Cb5
      refine wpS_loadA2 (i := 6) (d := some 53) (cells := vcC (v)) rfl (by rfl) rfl rfl (by simp) (HM149.out.cells0 3 rfl) Try.underlying23 rfl (by kernel_rfl) rfl ?_
      simp only [Act.put, List.setIfInBounds_toArray, List.set_cons_succ, List.set_cons_zero]
      have Cb5 := Mem.cell HM149.out 1 rfl
      refine wpS_stay [7] rfl (by kernel_rfl) (by simp only [pickL, nthL, List.cons_append, List.nil_append]; rfl) ?_
      repeat (go_big_quiet_step (fail))
      refine wpQuiet_nil ?_
      clear Cb5
      refine wpS_does2 (i := 5) (d := some 52) (rem := [_, _, _, _]) (out := [_, _, _, _]) rfl (by rfl) rfl Try.call13 (chas_d w' e1 e2) rfl rfl HM149.out [] rfl (covS_box 3 rfl (covS_box 2 rfl (covS_box 1 rfl (covS_box 0 rfl covS_nil)))) rfl rfl ?_
      rintro W151 hm150 hg152
      rw [hwe.out]
      have HM153 := Lib.hid hm150
      clear hm150
      simp only [Act.put, List.setIfInBounds_toArray, List.set_cons_succ, List.set_cons_zero]
      refine wpS_does2 (i := 8) (d := some 55) (rem := [_, _, _, _]) (out := [_, _, _, _]) rfl (by rfl) rfl Try.call13 (chas_d v e1 e2) rfl rfl HM153.out [] rfl (covS_box 3 rfl (covS_box 2 rfl (covS_box 1 rfl (covS_box 0 rfl covS_nil)))) rfl rfl ?_
      rintro W155 hm154 hg156
      rw [p1.out]
      have HM157 := Lib.hid hm154
      clear hm154
      simp only [Act.put, List.setIfInBounds_toArray, List.set_cons_succ, List.set_cons_zero]
      have Cb5 := Mem.cell HM157.out 1 rfl
      have Cb4 := Mem.cell HM157.out 2 rfl
      refine wpS_this [9, 10, 11, 12, 13, 14, 15, 16, 17, 18, 19, 20, 21, 22, 23, 24, 25, 26, 27, 28, 29, 30] rfl (by kernel_rfl) (by simp only [pickL, nthL, List.cons_append, List.nil_append]; rfl) ?_
      repeat (go_big_quiet_step (fail))
      refine wpQuiet_nil ?_
      clear Cb5 Cb4
      refine wpS_loadA (i := 31) (d := some 78) (cells := vcC (w')) rfl (by rfl) rfl rfl (HM157.out.cells0 0 rfl) Try.underlying23 rfl (by kernel_rfl) rfl ?_
      simp only [Act.put, List.setIfInBounds_toArray, List.set_cons_succ, List.set_cons_zero]
      have Cb4 := Mem.cell HM157.out 2 rfl
      refine wpS_this [32] rfl (by kernel_rfl) (by simp only [pickL, nthL, List.cons_append, List.nil_append]; rfl) ?_
      repeat (go_big_quiet_step (fail))
      refine wpQuiet_nil ?_
      clear Cb4
      refine wpS_loadA2 (i := 34) (d := some 81) (cells := vcC (w')) rfl (by rfl) rfl rfl (by simp) (HM157.out.cells0 0 rfl) Try.underlying23 rfl (by kernel_rfl) rfl ?_
      simp only [Act.put, List.setIfInBounds_toArray, List.set_cons_succ, List.set_cons_zero]
      refine wpS_does2 (i := 33) (d := some 80) (rem := [_, _, _, _]) (out := [_, _, _, _]) rfl (by rfl) rfl Try.call15 (cwith_d w' d1 d2) rfl rfl HM157.out [] rfl (covS_box 3 rfl (covS_box 2 rfl (covS_box 1 rfl (covS_box 0 rfl covS_nil)))) rfl rfl ?_
      rintro W159 hm158 hg160
      rw [show withV w' (d1, d2) = w' from by rw [← hw'.out]; exact withV_again _ _]
      have HM161 := Lib.hid hm158
      clear hm158
      simp only [Act.put, List.setIfInBounds_toArray, List.set_cons_succ, List.set_cons_zero]
      refine wpS_read (i := 35) (d := some 82) rfl (by rfl) (run_eqV (eq_self _) rfl rfl rfl) rfl ?_
      simp only [Act.put, List.setIfInBounds_toArray, List.set_cons_succ, List.set_cons_zero]
      refine wpS_this [36, 37] rfl (by kernel_rfl) (by simp only [pickL, nthL, List.cons_append, List.nil_append]; rfl) ?_
      repeat (go_big_quiet_step (fail))
      refine wpQuiet_nil ?_
      refine wpS_loadA (i := 38) (d := some 85) (cells := vcC (v)) rfl (by rfl) rfl rfl (HM161.out.cells0 3 rfl) Try.underlying23 rfl (by kernel_rfl) rfl ?_
      simp only [Act.put, List.setIfInBounds_toArray, List.set_cons_succ, List.set_cons_zero]
      have Cb4 := Mem.cell HM161.out 2 rfl
      refine wpS_this [39] rfl (by kernel_rfl) (by simp only [pickL, nthL, List.cons_append, List.nil_append]; rfl) ?_
      repeat (go_big_quiet_step (fail))
      refine wpQuiet_nil ?_
      clear Cb4
      refine wpS_loadA2 (i := 41) (d := some 88) (cells := vcC (v)) rfl (by rfl) rfl rfl (by simp) (HM161.out.cells0 3 rfl) Try.underlying23 rfl (by kernel_rfl) rfl ?_
      simp only [Act.put, List.setIfInBounds_toArray, List.set_cons_succ, List.set_cons_zero]
      refine wpS_loadA2 (i := 43) (d := some 90) (cells := vcC (v)) rfl (by rfl) rfl rfl (by simp) (HM161.out.cells0 3 rfl) Try.underlying23 rfl (by kernel_rfl) rfl ?_
      simp only [Act.put, List.setIfInBounds_toArray, List.set_cons_succ, List.set_cons_zero]
      have Cb4 := Mem.cell HM161.out 2 rfl
      refine wpS_stay [44] rfl (by kernel_rfl) (by simp only [pickL, nthL, List.cons_append, List.nil_append]; rfl) ?_
      repeat (go_big_quiet_step (fail))
      refine wpQuiet_nil ?_
      clear Cb4
      refine wpS_does2 (i := 40) (d := some 87) (rem := [_, _, _, _]) (out := [_, _, _, _]) rfl (by rfl) rfl Try.call15 (cwith_d v d1 d2) rfl rfl HM161.out [] rfl (covS_box 3 rfl (covS_box 2 rfl (covS_box 1 rfl (covS_box 0 rfl covS_nil)))) rfl rfl ?_
      rintro W163 hm162 hg164
      rw [hw'.out]
      have HM165 := Lib.hid hm162
      clear hm162
      simp only [Act.put, List.setIfInBounds_toArray, List.set_cons_succ, List.set_cons_zero]
      refine wpS_read0 (i := 42) (d := some 89) rfl (by rfl) (fun _ => run_eqV (htv.out) rfl rfl rfl) rfl ?_
      simp only [Act.put, List.setIfInBounds_toArray, List.set_cons_succ, List.set_cons_zero]
      refine wpS_does2 (i := 45) (d := some 92) (rem := [_, _, _, _]) (out := [_, _, _, _]) rfl (by rfl) rfl Try.call13 (chas_d v d1 d2) rfl rfl HM165.out [] rfl (covS_box 3 rfl (covS_box 2 rfl (covS_box 1 rfl (covS_box 0 rfl covS_nil)))) rfl rfl ?_
      rintro W167 hm166 hg168
      rw [ht.out]
      have HM169 := Lib.hid hm166
      clear hm166
      simp only [Act.put, List.setIfInBounds_toArray, List.set_cons_succ, List.set_cons_zero]
      refine wpS_this [46, 47, 48] rfl (by kernel_rfl) (by simp only [pickL, nthL, List.cons_append, List.nil_append]; rfl) ?_
      repeat (go_big_quiet_step (fail))
      refine wpQuiet_nil ?_
      refine wpS_does0 (i := 49) (d := some 96) (rem := [_, _, _, _]) (out := [_, _, _, _]) rfl (by rfl) rfl Try.call19 (vawake_d)  HM169.out [] rfl (covS_box 3 rfl (covS_box 2 rfl (covS_box 1 rfl (covS_box 0 rfl covS_nil)))) rfl rfl ?_
      rintro W171 hm170 hg172
      have HM173 := Lib.hid hm170
      clear hm170
      simp only [Act.put, List.setIfInBounds_toArray, List.set_cons_succ, List.set_cons_zero]
      refine wpS_this [50, 51] rfl (by kernel_rfl) (by simp only [pickL, nthL, List.cons_append, List.nil_append]; rfl) ?_
      repeat (go_big_quiet_step (fail))
      refine wpQuiet_nil ?_
      refine wpS_nil ?_
      refine then_normal ?_
      refine wp_ret ?_
      refine bodyPost_ret (results_tmp rfl _ _ _) rfl ?_
      exact does_ret (Mem.only (M := []) HM173.out [] rfl) rfl rfl
    · have hwe : Hid (hasV w' (e1, e2) = false) := Lib.hid (by rw [← hw'.out, hasV_more (d := (d1, d2)) hd8 hd1, p1]; exact decide_eq_false (show ¬ (e1 = d1 ∧ 1 ≤ e2 ∧ e2 ≤ d2) by omega))
      have f1 : (e1 == d1) = true := beq_iff_eq.2 q1
      have f2 : decide (1 ≤ e2) = false := decide_eq_false (by omega)
      clear q1 q2
      replace p1 := Lib.hid p1
      refine wp_region_M (fun k => k ∈ ([b3, b7, b11, b107] : List Nat)) [(0, 1), (1, 3), (2, 1), (3, 1), (4, 1), (6, 2), (7, 2), (5, 3), (8, 3), (9, 1), (10, 1), (11, 1), (12, 1), (13, 1), (14, 1), (15, 1), (16, 1), (17, 1), (18, 1), (19, 1), (20, 1), (21, 1), (22, 1), (23, 1), (24, 1), (25, 1), (26, 1), (27, 1), (28, 1), (29, 1), (30, 1), (31, 1), (32, 1), (34, 2), (33, 3), (35, 1), (36, 1), (37, 1), (38, 1), (39, 1), (41, 2), (43, 2), (44, 2), (40, 3), (42, 0), (45, 3), (46, 1), (47, 1), (48, 1), (49, 3), (50, 1), (51, 1)] (by kernel_rfl) (by kernel_rfl) HM111.out ?_
      intro W174 hm175
      have HM176 := Lib.hid hm175
      clear hm175
      refine wpS_loadA (i := 0) (d := some 47) (cells := vcC (w')) rfl (by rfl) rfl rfl (HM176.out.cells0 0 rfl) Try.underlying23 rfl (by kernel_rfl) rfl ?_
      simp only [Act.put, List.setIfInBounds_toArray, List.set_cons_succ, List.set_cons_zero]
      refine wpS_does1 (i := 1) (d := some 48) (rem := [_, _, _, _]) (out := [_, _, _, _]) rfl (by rfl) rfl Try.call7 (cmay_d w') rfl HM176.out [] rfl (covS_box 3 rfl (covS_box 2 rfl (covS_box 1 rfl (covS_box 0 rfl covS_nil)))) rfl rfl ?_
      rintro W178 hm177 hg179
      rw [hmw.out]
      have HM180 := Lib.hid hm177
      clear hm177
      simp only [Act.put, List.setIfInBounds_toArray, List.set_cons_succ, List.set_cons_zero]
      refine wpS_this [2] rfl (by kernel_rfl) (by simp only [pickL, nthL, List.cons_append, List.nil_append]; rfl) ?_
      repeat (go_big_quiet_step (fail))
      refine wpQuiet_nil ?_
      refine wpS_loadA (i := 3) (d := some 50) (cells := vcC (w')) rfl (by rfl) rfl rfl (HM180.out.cells0 0 rfl) Try.underlying23 rfl (by kernel_rfl) rfl ?_
      simp only [Act.put, List.setIfInBounds_toArray, List.set_cons_succ, List.set_cons_zero]
      have Cb5 := Mem.cell HM180.out 1 rfl
      refine wpS_this [4] rfl (by kernel_rfl) (by simp only [pickL, nthL, List.cons_append, List.nil_append]; rfl) ?_
      repeat (go_big_quiet_step (fail))
      refine wpQuiet_nil ?_
      clear Cb5
      refine wpS_loadA2 (i := 6) (d := some 53) (cells := vcC (v)) rfl (by rfl) rfl rfl (by simp) (HM180.out.cells0 3 rfl) Try.underlying23 rfl (by kernel_rfl) rfl ?_
      simp only [Act.put, List.setIfInBounds_toArray, List.set_cons_succ, List.set_cons_zero]
      have Cb5 := Mem.cell HM180.out 1 rfl
      refine wpS_stay [7] rfl (by kernel_rfl) (by simp only [pickL, nthL, List.cons_append, List.nil_append]; rfl) ?_
      repeat (go_big_quiet_step (fail))
      refine wpQuiet_nil ?_
      clear Cb5
      refine wpS_does2 (i := 5) (d := some 52) (rem := [_, _, _, _]) (out := [_, _, _, _]) rfl (by rfl) rfl Try.call13 (chas_d w' e1 e2) rfl rfl HM180.out [] rfl (covS_box 3 rfl (covS_box 2 rfl (covS_box 1 rfl (covS_box 0 rfl covS_nil)))) rfl rfl ?_
      rintro W182 hm181 hg183
      rw [hwe.out]
      have HM184 := Lib.hid hm181
      clear hm181
      simp only [Act.put, List.setIfInBounds_toArray, List.set_cons_succ, List.set_cons_zero]
      refine wpS_does2 (i := 8) (d := some 55) (rem := [_, _, _, _]) (out := [_, _, _, _]) rfl (by rfl) rfl Try.call13 (chas_d v e1 e2) rfl rfl HM184.out [] rfl (covS_box 3 rfl (covS_box 2 rfl (covS_box 1 rfl (covS_box 0 rfl covS_nil)))) rfl rfl ?_
      rintro W186 hm185 hg187
      rw [p1.out]
      have HM188 := Lib.hid hm185
      clear hm185
      simp only [Act.put, List.setIfInBounds_toArray, List.set_cons_succ, List.set_cons_zero]
      have Cb5 := Mem.cell HM188.out 1 rfl
      have Cb4 := Mem.cell HM188.out 2 rfl
      refine wpS_this [9, 10, 11, 12, 13, 14, 15, 16, 17, 18, 19, 20, 21, 22, 23, 24, 25, 26, 27, 28, 29, 30] rfl (by kernel_rfl) (by simp only [pickL, nthL, List.cons_append, List.nil_append]; rfl) ?_
      repeat (go_big_quiet_step (fail))
      refine wpQuiet_nil ?_
      clear Cb5 Cb4
      refine wpS_loadA (i := 31) (d := some 78) (cells := vcC (w')) rfl (by rfl) rfl rfl (HM188.out.cells0 0 rfl) Try.underlying23 rfl (by kernel_rfl) rfl ?_
      simp only [Act.put, List.setIfInBounds_toArray, List.set_cons_succ, List.set_cons_zero]
      have Cb4 := Mem.cell HM188.out 2 rfl
      refine wpS_this [32] rfl (by kernel_rfl) (by simp only [pickL, nthL, List.cons_append, List.nil_append]; rfl) ?_
      repeat (go_big_quiet_step (fail))
      refine wpQuiet_nil ?_
      clear Cb4
      refine wpS_loadA2 (i := 34) (d := some 81) (cells := vcC (w')) rfl (by rfl) rfl rfl (by simp) (HM188.out.cells0 0 rfl) Try.underlying23 rfl (by kernel_rfl) rfl ?_
      simp only [Act.put, List.setIfInBounds_toArray, List.set_cons_succ, List.set_cons_zero]
      refine wpS_does2 (i := 33) (d := some 80) (rem := [_, _, _, _]) (out := [_, _, _, _]) rfl (by rfl) rfl Try.call15 (cwith_d w' d1 d2) rfl rfl HM188.out [] rfl (covS_box 3 rfl (covS_box 2 rfl (covS_box 1 rfl (covS_box 0 rfl covS_nil)))) rfl rfl ?_
      rintro W190 hm189 hg191
      rw [show withV w' (d1, d2) = w' from by rw [← hw'.out]; exact withV_again _ _]
      have HM192 := Lib.hid hm189
      clear hm189
      simp only [Act.put, List.setIfInBounds_toArray, List.set_cons_succ, List.set_cons_zero]
      refine wpS_read (i := 35) (d := some 82) rfl (by rfl) (run_eqV (eq_self _) rfl rfl rfl) rfl ?_
      simp only [Act.put, List.setIfInBounds_toArray, List.set_cons_succ, List.set_cons_zero]
      refine wpS_this [36, 37] rfl (by kernel_rfl) (by simp only [pickL, nthL, List.cons_append, List.nil_append]; rfl) ?_
      repeat (go_big_quiet_step (fail))
      refine wpQuiet_nil ?_
      refine wpS_loadA (i := 38) (d := some 85) (cells := vcC (v)) rfl (by rfl) rfl rfl (HM192.out.cells0 3 rfl) Try.underlying23 rfl (by kernel_rfl) rfl ?_
      simp only [Act.put, List.setIfInBounds_toArray, List.set_cons_succ, List.set_cons_zero]
      have Cb4 := Mem.cell HM192.out 2 rfl
      refine wpS_this [39] rfl (by kernel_rfl) (by simp only [pickL, nthL, List.cons_append, List.nil_append]; rfl) ?_
      repeat (go_big_quiet_step (fail))
      refine wpQuiet_nil ?_
      clear Cb4
      refine wpS_loadA2 (i := 41) (d := some 88) (cells := vcC (v)) rfl (by rfl) rfl rfl (by simp) (HM192.out.cells0 3 rfl) Try.underlying23 rfl (by kernel_rfl) rfl ?_
      simp only [Act.put, List.setIfInBounds_toArray, List.set_cons_succ, List.set_cons_zero]
      refine wpS_loadA2 (i := 43) (d := some 90) (cells := vcC (v)) rfl (by rfl) rfl rfl (by simp) (HM192.out.cells0 3 rfl) Try.underlying23 rfl (by kernel_rfl) rfl ?_
      simp only [Act.put, List.setIfInBounds_toArray, List.set_cons_succ, List.set_cons_zero]
      have Cb4 := Mem.cell HM192.out 2 rfl
      refine wpS_stay [44] rfl (by kernel_rfl) (by simp only [pickL, nthL, List.cons_append, List.nil_append]; rfl) ?_
      repeat (go_big_quiet_step (fail))
      refine wpQuiet_nil ?_
      clear Cb4
      refine wpS_does2 (i := 40) (d := some 87) (rem := [_, _, _, _]) (out := [_, _, _, _]) rfl (by rfl) rfl Try.call15 (cwith_d v d1 d2) rfl rfl HM192.out [] rfl (covS_box 3 rfl (covS_box 2 rfl (covS_box 1 rfl (covS_box 0 rfl covS_nil)))) rfl rfl ?_
      rintro W194 hm193 hg195
      rw [hw'.out]
      have HM196 := Lib.hid hm193
      clear hm193
      simp only [Act.put, List.setIfInBounds_toArray, List.set_cons_succ, List.set_cons_zero]
      refine wpS_read0 (i := 42) (d := some 89) rfl (by rfl) (fun _ => run_eqV (htv.out) rfl rfl rfl) rfl ?_
      simp only [Act.put, List.setIfInBounds_toArray, List.set_cons_succ, List.set_cons_zero]
      refine wpS_does2 (i := 45) (d := some 92) (rem := [_, _, _, _]) (out := [_, _, _, _]) rfl (by rfl) rfl Try.call13 (chas_d v d1 d2) rfl rfl HM196.out [] rfl (covS_box 3 rfl (covS_box 2 rfl (covS_box 1 rfl (covS_box 0 rfl covS_nil)))) rfl rfl ?_
      rintro W198 hm197 hg199
      rw [ht.out]
      have HM200 := Lib.hid hm197
      clear hm197
      simp only [Act.put, List.setIfInBounds_toArray, List.set_cons_succ, List.set_cons_zero]
      refine wpS_this [46, 47, 48] rfl (by kernel_rfl) (by simp only [pickL, nthL, List.cons_append, List.nil_append]; rfl) ?_
      repeat (go_big_quiet_step (fail))
      refine wpQuiet_nil ?_
      refine wpS_does0 (i := 49) (d := some 96) (rem := [_, _, _, _]) (out := [_, _, _, _]) rfl (by rfl) rfl Try.call19 (vawake_d)  HM200.out [] rfl (covS_box 3 rfl (covS_box 2 rfl (covS_box 1 rfl (covS_box 0 rfl covS_nil)))) rfl rfl ?_
      rintro W202 hm201 hg203
      have HM204 := Lib.hid hm201
      clear hm201
      simp only [Act.put, List.setIfInBounds_toArray, List.set_cons_succ, List.set_cons_zero]
      refine wpS_this [50, 51] rfl (by kernel_rfl) (by simp only [pickL, nthL, List.cons_append, List.nil_append]; rfl) ?_
      repeat (go_big_quiet_step (fail))
      refine wpQuiet_nil ?_
      refine wpS_nil ?_
      refine then_normal ?_
      refine wp_ret ?_
      refine bodyPost_ret (results_tmp rfl _ _ _) rfl ?_
      exact does_ret (Mem.only (M := []) HM204.out [] rfl) rfl rfl
    · have hwe : Hid (hasV w' (e1, e2) = false) := Lib.hid (by rw [← hw'.out, hasV_more (d := (d1, d2)) hd8 hd1, p1]; exact decide_eq_false (show ¬ (e1 = d1 ∧ 1 ≤ e2 ∧ e2 ≤ d2) by omega))
      have f1 : (e1 == d1) = true := beq_iff_eq.2 q1
      have f2 : decide (1 ≤ e2) = true := decide_eq_true (by omega)
      have f3 : decide (e2 ≤ d2) = false := decide_eq_false (by omega)
      clear q1 q2 q3
      replace p1 := Lib.hid p1
      refine wp_region_M (fun k => k ∈ ([b3, b7, b11, b107] : List Nat)) [(0, 1), (1, 3), (2, 1), (3, 1), (4, 1), (6, 2), (7, 2), (5, 3), (8, 3), (9, 1), (10, 1), (11, 1), (12, 1), (13, 1), (14, 1), (15, 1), (16, 1), (17, 1), (18, 1), (19, 1), (20, 1), (21, 1), (22, 1), (23, 1), (24, 1), (25, 1), (26, 1), (27, 1), (28, 1), (29, 1), (30, 1), (31, 1), (32, 1), (34, 2), (33, 3), (35, 1), (36, 1), (37, 1), (38, 1), (39, 1), (41, 2), (43, 2), (44, 2), (40, 3), (42, 0), (45, 3), (46, 1), (47, 1), (48, 1), (49, 3), (50, 1), (51, 1)] (by kernel_rfl) (by kernel_rfl) HM111.out ?_
      intro W205 hm206
      have HM207 := Lib.hid hm206
      clear hm206
      refine wpS_loadA (i := 0) (d := some 47) (cells := vcC (w')) rfl (by rfl) rfl rfl (HM207.out.cells0 0 rfl) Try.underlying23 rfl (by kernel_rfl) rfl ?_
      simp only [Act.put, List.setIfInBounds_toArray, List.set_cons_succ, List.set_cons_zero]
      refine wpS_does1 (i := 1) (d := some 48) (rem := [_, _, _, _]) (out := [_, _, _, _]) rfl (by rfl) rfl Try.call7 (cmay_d w') rfl HM207.out [] rfl (covS_box 3 rfl (covS_box 2 rfl (covS_box 1 rfl (covS_box 0 rfl covS_nil)))) rfl rfl ?_
      rintro W209 hm208 hg210
      rw [hmw.out]
      have HM211 := Lib.hid hm208
      clear hm208
      simp only [Act.put, List.setIfInBounds_toArray, List.set_cons_succ, List.set_cons_zero]
      refine wpS_this [2] rfl (by kernel_rfl) (by simp only [pickL, nthL, List.cons_append, List.nil_append]; rfl) ?_
      repeat (go_big_quiet_step (fail))
      refine wpQuiet_nil ?_
      refine wpS_loadA (i := 3) (d := some 50) (cells := vcC (w')) rfl (by rfl) rfl rfl (HM211.out.cells0 0 rfl) Try.underlying23 rfl (by kernel_rfl) rfl ?_
      simp only [Act.put, List.setIfInBounds_toArray, List.set_cons_succ, List.set_cons_zero]
      have Cb5 := Mem.cell HM211.out 1 rfl
      refine wpS_this [4] rfl (by kernel_rfl) (by simp only [pickL, nthL, List.cons_append, List.nil_append]; rfl) ?_
      repeat (go_big_quiet_step (fail))
      refine wpQuiet_nil ?_
      clear Cb5
      refine wpS_loadA2 (i := 6) (d := some 53) (cells := vcC (v)) rfl (by rfl) rfl rfl (by simp) (HM211.out.cells0 3 rfl) Try.underlying23 rfl (by kernel_rfl) rfl ?_
      simp only [Act.put, List.setIfInBounds_toArray, List.set_cons_succ, List.set_cons_zero]
      have Cb5 := Mem.cell HM211.out 1 rfl
      refine wpS_stay [7] rfl (by kernel_rfl) (by simp only [pickL, nthL, List.cons_append, List.nil_append]; rfl) ?_
      repeat (go_big_quiet_step (fail))
      refine wpQuiet_nil ?_
      clear Cb5
      refine wpS_does2 (i := 5) (d := some 52) (rem := [_, _, _, _]) (out := [_, _, _, _]) rfl (by rfl) rfl Try.call13 (chas_d w' e1 e2) rfl rfl HM211.out [] rfl (covS_box 3 rfl (covS_box 2 rfl (covS_box 1 rfl (covS_box 0 rfl covS_nil)))) rfl rfl ?_
      rintro W213 hm212 hg214
      rw [hwe.out]
      have HM215 := Lib.hid hm212
      clear hm212
      simp only [Act.put, List.setIfInBounds_toArray, List.set_cons_succ, List.set_cons_zero]
      refine wpS_does2 (i := 8) (d := some 55) (rem := [_, _, _, _]) (out := [_, _, _, _]) rfl (by rfl) rfl Try.call13 (chas_d v e1 e2) rfl rfl HM215.out [] rfl (covS_box 3 rfl (covS_box 2 rfl (covS_box 1 rfl (covS_box 0 rfl covS_nil)))) rfl rfl ?_
      rintro W217 hm216 hg218
      rw [p1.out]
      have HM219 := Lib.hid hm216
      clear hm216
      simp only [Act.put, List.setIfInBounds_toArray, List.set_cons_succ, List.set_cons_zero]
      have Cb5 := Mem.cell HM219.out 1 rfl
      have Cb4 := Mem.cell HM219.out 2 rfl
      refine wpS_this [9, 10, 11, 12, 13, 14, 15, 16, 17, 18, 19, 20, 21, 22, 23, 24, 25, 26, 27, 28, 29, 30] rfl (by kernel_rfl) (by simp only [pickL, nthL, List.cons_append, List.nil_append]; rfl) ?_
      repeat (go_big_quiet_step (fail))
      refine wpQuiet_nil ?_
      clear Cb5 Cb4
      refine wpS_loadA (i := 31) (d := some 78) (cells := vcC (w')) rfl (by rfl) rfl rfl (HM219.out.cells0 0 rfl) Try.underlying23 rfl (by kernel_rfl) rfl ?_
      simp only [Act.put, List.setIfInBounds_toArray, List.set_cons_succ, List.set_cons_zero]
      have Cb4 := Mem.cell HM219.out 2 rfl
      refine wpS_this [32] rfl (by kernel_rfl) (by simp only [pickL, nthL, List.cons_append, List.nil_append]; rfl) ?_
      repeat (go_big_quiet_step (fail))
      refine wpQuiet_nil ?_
      clear Cb4
      refine wpS_loadA2 (i := 34) (d := some 81) (cells := vcC (w')) rfl (by rfl) rfl rfl (by simp) (HM219.out.cells0 0 rfl) Try.underlying23 rfl (by kernel_rfl) rfl ?_
      simp only [Act.put, List.setIfInBounds_toArray, List.set_cons_succ, List.set_cons_zero]
      refine wpS_does2 (i := 33) (d := some 80) (rem := [_, _, _, _]) (out := [_, _, _, _]) rfl (by rfl) rfl Try.call15 (cwith_d w' d1 d2) rfl rfl HM219.out [] rfl (covS_box 3 rfl (covS_box 2 rfl (covS_box 1 rfl (covS_box 0 rfl covS_nil)))) rfl rfl ?_
      rintro W221 hm220 hg222
      rw [show withV w' (d1, d2) = w' from by rw [← hw'.out]; exact withV_again _ _]
      have HM223 := Lib.hid hm220
      clear hm220
      simp only [Act.put, List.setIfInBounds_toArray, List.set_cons_succ, List.set_cons_zero]
      refine wpS_read (i := 35) (d := some 82) rfl (by rfl) (run_eqV (eq_self _) rfl rfl rfl) rfl ?_
      simp only [Act.put, List.setIfInBounds_toArray, List.set_cons_succ, List.set_cons_zero]
      refine wpS_this [36, 37] rfl (by kernel_rfl) (by simp only [pickL, nthL, List.cons_append, List.nil_append]; rfl) ?_
      repeat (go_big_quiet_step (fail))
      refine wpQuiet_nil ?_
      refine wpS_loadA (i := 38) (d := some 85) (cells := vcC (v)) rfl (by rfl) rfl rfl (HM223.out.cells0 3 rfl) Try.underlying23 rfl (by kernel_rfl) rfl ?_
      simp only [Act.put, List.setIfInBounds_toArray, List.set_cons_succ, List.set_cons_zero]
      have Cb4 := Mem.cell HM223.out 2 rfl
      refine wpS_this [39] rfl (by kernel_rfl) (by simp only [pickL, nthL, List.cons_append, List.nil_append]; rfl) ?_
      repeat (go_big_quiet_step (fail))
      refine wpQuiet_nil ?_
      clear Cb4
      refine wpS_loadA2 (i := 41) (d := some 88) (cells := vcC (v)) rfl (by rfl) rfl rfl (by simp) (HM223.out.cells0 3 rfl) Try.underlying23 rfl (by kernel_rfl) rfl ?_
      simp only [Act.put, List.setIfInBounds_toArray, List.set_cons_succ, List.set_cons_zero]
      refine wpS_loadA2 (i := 43) (d := some 90) (cells := vcC (v)) rfl (by rfl) rfl rfl (by simp) (HM223.out.cells0 3 rfl) Try.underlying23 rfl (by kernel_rfl) rfl ?_
      simp only [Act.put, List.setIfInBounds_toArray, List.set_cons_succ, List.set_cons_zero]
      have Cb4 := Mem.cell HM223.out 2 rfl
      refine wpS_stay [44] rfl (by kernel_rfl) (by simp only [pickL, nthL, List.cons_append, List.nil_append]; rfl) ?_
      repeat (go_big_quiet_step (fail))
      refine wpQuiet_nil ?_
      clear Cb4
      refine wpS_does2 (i := 40) (d := some 87) (rem := [_, _, _, _]) (out := [_, _, _, _]) rfl (by rfl) rfl Try.call15 (cwith_d v d1 d2) rfl rfl HM223.out [] rfl (covS_box 3 rfl (covS_box 2 rfl (covS_box 1 rfl (covS_box 0 rfl covS_nil)))) rfl rfl ?_
      rintro W225 hm224 hg226
      rw [hw'.out]
      have HM227 := Lib.hid hm224
      clear hm224
      simp only [Act.put, List.setIfInBounds_toArray, List.set_cons_succ, List.set_cons_zero]
      refine wpS_read0 (i := 42) (d := some 89) rfl (by rfl) (fun _ => run_eqV (htv.out) rfl rfl rfl) rfl ?_
      simp only [Act.put, List.setIfInBounds_toArray, List.set_cons_succ, List.set_cons_zero]
      refine wpS_does2 (i := 45) (d := some 92) (rem := [_, _, _, _]) (out := [_, _, _, _]) rfl (by rfl) rfl Try.call13 (chas_d v d1 d2) rfl rfl HM227.out [] rfl (covS_box 3 rfl (covS_box 2 rfl (covS_box 1 rfl (covS_box 0 rfl covS_nil)))) rfl rfl ?_
      rintro W229 hm228 hg230
      rw [ht.out]
      have HM231 := Lib.hid hm228
      clear hm228
      simp only [Act.put, List.setIfInBounds_toArray, List.set_cons_succ, List.set_cons_zero]
      refine wpS_this [46, 47, 48] rfl (by kernel_rfl) (by simp only [pickL, nthL, List.cons_append, List.nil_append]; rfl) ?_
      repeat (go_big_quiet_step (fail))
      refine wpQuiet_nil ?_
      refine wpS_does0 (i := 49) (d := some 96) (rem := [_, _, _, _]) (out := [_, _, _, _]) rfl (by rfl) rfl Try.call19 (vawake_d)  HM231.out [] rfl (covS_box 3 rfl (covS_box 2 rfl (covS_box 1 rfl (covS_box 0 rfl covS_nil)))) rfl rfl ?_
      rintro W233 hm232 hg234
      have HM235 := Lib.hid hm232
      clear hm232
      simp only [Act.put, List.setIfInBounds_toArray, List.set_cons_succ, List.set_cons_zero]
      refine wpS_this [50, 51] rfl (by kernel_rfl) (by simp only [pickL, nthL, List.cons_append, List.nil_append]; rfl) ?_
      repeat (go_big_quiet_step (fail))
      refine wpQuiet_nil ?_
      refine wpS_nil ?_
      refine then_normal ?_
      refine wp_ret ?_
      refine bodyPost_ret (results_tmp rfl _ _ _) rfl ?_
      exact does_ret (Mem.only (M := []) HM235.out [] rfl) rfl rfl
    · have hwe : Hid (hasV w' (e1, e2) = true) := Lib.hid (by rw [← hw'.out, hasV_more (d := (d1, d2)) hd8 hd1, p1]; first | rfl | exact decide_eq_true (show e1 = d1 ∧ 1 ≤ e2 ∧ e2 ≤ d2 by omega))
      have f1 : (e1 == d1) = true := beq_iff_eq.2 q1
      have f2 : decide (1 ≤ e2) = true := decide_eq_true (by omega)
      have f3 : decide (e2 ≤ d2) = true := decide_eq_true (by omega)
      clear q1 q2 q3
      replace p1 := Lib.hid p1
      refine wp_region_M (fun k => k ∈ ([b3, b7, b11, b107] : List Nat)) [(0, 1), (1, 3), (2, 1), (3, 1), (4, 1), (6, 2), (7, 2), (5, 3), (8, 3), (9, 1), (10, 1), (11, 1), (12, 1), (13, 1), (14, 1), (15, 1), (16, 1), (17, 1), (18, 1), (19, 1), (20, 1), (21, 1), (22, 1), (23, 1), (24, 1), (25, 1), (26, 1), (27, 1), (28, 1), (29, 1), (30, 1), (31, 1), (32, 1), (34, 2), (33, 3), (35, 1), (36, 1), (37, 1), (38, 1), (39, 1), (41, 2), (43, 2), (44, 2), (40, 3), (42, 0), (45, 3), (46, 1), (47, 1), (48, 1), (49, 3), (50, 1), (51, 1)] (by kernel_rfl) (by kernel_rfl) HM111.out ?_
      intro W236 hm237
      have HM238 := Lib.hid hm237
      clear hm237
      refine wpS_loadA (i := 0) (d := some 47) (cells := vcC (w')) rfl (by rfl) rfl rfl (HM238.out.cells0 0 rfl) Try.underlying23 rfl (by kernel_rfl) rfl ?_
      simp only [Act.put, List.setIfInBounds_toArray, List.set_cons_succ, List.set_cons_zero]
      refine wpS_does1 (i := 1) (d := some 48) (rem := [_, _, _, _]) (out := [_, _, _, _]) rfl (by rfl) rfl Try.call7 (cmay_d w') rfl HM238.out [] rfl (covS_box 3 rfl (covS_box 2 rfl (covS_box 1 rfl (covS_box 0 rfl covS_nil)))) rfl rfl ?_
      rintro W240 hm239 hg241
      rw [hmw.out]
      have HM242 := Lib.hid hm239
      clear hm239
      simp only [Act.put, List.setIfInBounds_toArray, List.set_cons_succ, List.set_cons_zero]
      refine wpS_this [2] rfl (by kernel_rfl) (by simp only [pickL, nthL, List.cons_append, List.nil_append]; rfl) ?_
      repeat (go_big_quiet_step (fail))
      refine wpQuiet_nil ?_
      refine wpS_loadA (i := 3) (d := some 50) (cells := vcC (w')) rfl (by rfl) rfl rfl (HM242.out.cells0 0 rfl) Try.underlying23 rfl (by kernel_rfl) rfl ?_
      simp only [Act.put, List.setIfInBounds_toArray, List.set_cons_succ, List.set_cons_zero]
      have Cb5 := Mem.cell HM242.out 1 rfl
      refine wpS_this [4] rfl (by kernel_rfl) (by simp only [pickL, nthL, List.cons_append, List.nil_append]; rfl) ?_
      repeat (go_big_quiet_step (fail))
      refine wpQuiet_nil ?_
      clear Cb5
      refine wpS_loadA2 (i := 6) (d := some 53) (cells := vcC (v)) rfl (by rfl) rfl rfl (by simp) (HM242.out.cells0 3 rfl) Try.underlying23 rfl (by kernel_rfl) rfl ?_
      simp only [Act.put, List.setIfInBounds_toArray, List.set_cons_succ, List.set_cons_zero]
      have Cb5 := Mem.cell HM242.out 1 rfl
      refine wpS_stay [7] rfl (by kernel_rfl) (by simp only [pickL, nthL, List.cons_append, List.nil_append]; rfl) ?_
      repeat (go_big_quiet_step (fail))
      refine wpQuiet_nil ?_
      clear Cb5
      refine wpS_does2 (i := 5) (d := some 52) (rem := [_, _, _, _]) (out := [_, _, _, _]) rfl (by rfl) rfl Try.call13 (chas_d w' e1 e2) rfl rfl HM242.out [] rfl (covS_box 3 rfl (covS_box 2 rfl (covS_box 1 rfl (covS_box 0 rfl covS_nil)))) rfl rfl ?_
      rintro W244 hm243 hg245
      rw [hwe.out]
      have HM246 := Lib.hid hm243
      clear hm243
      simp only [Act.put, List.setIfInBounds_toArray, List.set_cons_succ, List.set_cons_zero]
      refine wpS_does2 (i := 8) (d := some 55) (rem := [_, _, _, _]) (out := [_, _, _, _]) rfl (by rfl) rfl Try.call13 (chas_d v e1 e2) rfl rfl HM246.out [] rfl (covS_box 3 rfl (covS_box 2 rfl (covS_box 1 rfl (covS_box 0 rfl covS_nil)))) rfl rfl ?_
      rintro W248 hm247 hg249
      rw [p1.out]
      have HM250 := Lib.hid hm247
      clear hm247
      simp only [Act.put, List.setIfInBounds_toArray, List.set_cons_succ, List.set_cons_zero]
      have Cb5 := Mem.cell HM250.out 1 rfl
      have Cb4 := Mem.cell HM250.out 2 rfl
      refine wpS_this [9, 10, 11, 12, 13, 14, 15, 16, 17, 18, 19, 20, 21, 22, 23, 24, 25, 26, 27, 28, 29, 30] rfl (by kernel_rfl) (by simp only [pickL, nthL, List.cons_append, List.nil_append]; rfl) ?_
      repeat (go_big_quiet_step (fail))
      refine wpQuiet_nil ?_
      clear Cb5 Cb4
      refine wpS_loadA (i := 31) (d := some 78) (cells := vcC (w')) rfl (by rfl) rfl rfl (HM250.out.cells0 0 rfl) Try.underlying23 rfl (by kernel_rfl) rfl ?_
      simp only [Act.put, List.setIfInBounds_toArray, List.set_cons_succ, List.set_cons_zero]
      have Cb4 := Mem.cell HM250.out 2 rfl
      refine wpS_this [32] rfl (by kernel_rfl) (by simp only [pickL, nthL, List.cons_append, List.nil_append]; rfl) ?_
      repeat (go_big_quiet_step (fail))
      refine wpQuiet_nil ?_
      clear Cb4
      refine wpS_loadA2 (i := 34) (d := some 81) (cells := vcC (w')) rfl (by rfl) rfl rfl (by simp) (HM250.out.cells0 0 rfl) Try.underlying23 rfl (by kernel_rfl) rfl ?_
      simp only [Act.put, List.setIfInBounds_toArray, List.set_cons_succ, List.set_cons_zero]
      refine wpS_does2 (i := 33) (d := some 80) (rem := [_, _, _, _]) (out := [_, _, _, _]) rfl (by rfl) rfl Try.call15 (cwith_d w' d1 d2) rfl rfl HM250.out [] rfl (covS_box 3 rfl (covS_box 2 rfl (covS_box 1 rfl (covS_box 0 rfl covS_nil)))) rfl rfl ?_
      rintro W252 hm251 hg253
      rw [show withV w' (d1, d2) = w' from by rw [← hw'.out]; exact withV_again _ _]
      have HM254 := Lib.hid hm251
      clear hm251
      simp only [Act.put, List.setIfInBounds_toArray, List.set_cons_succ, List.set_cons_zero]
      refine wpS_read (i := 35) (d := some 82) rfl (by rfl) (run_eqV (eq_self _) rfl rfl rfl) rfl ?_
      simp only [Act.put, List.setIfInBounds_toArray, List.set_cons_succ, List.set_cons_zero]
      refine wpS_this [36, 37] rfl (by kernel_rfl) (by simp only [pickL, nthL, List.cons_append, List.nil_append]; rfl) ?_
      repeat (go_big_quiet_step (fail))
      refine wpQuiet_nil ?_
      refine wpS_loadA (i := 38) (d := some 85) (cells := vcC (v)) rfl (by rfl) rfl rfl (HM254.out.cells0 3 rfl) Try.underlying23 rfl (by kernel_rfl) rfl ?_
      simp only [Act.put, List.setIfInBounds_toArray, List.set_cons_succ, List.set_cons_zero]
      have Cb4 := Mem.cell HM254.out 2 rfl
      refine wpS_this [39] rfl (by kernel_rfl) (by simp only [pickL, nthL, List.cons_append, List.nil_append]; rfl) ?_
      repeat (go_big_quiet_step (fail))
      refine wpQuiet_nil ?_
      clear Cb4
      refine wpS_loadA2 (i := 41) (d := some 88) (cells := vcC (v)) rfl (by rfl) rfl rfl (by simp) (HM254.out.cells0 3 rfl) Try.underlying23 rfl (by kernel_rfl) rfl ?_
      simp only [Act.put, List.setIfInBounds_toArray, List.set_cons_succ, List.set_cons_zero]
      refine wpS_loadA2 (i := 43) (d := some 90) (cells := vcC (v)) rfl (by rfl) rfl rfl (by simp) (HM254.out.cells0 3 rfl) Try.underlying23 rfl (by kernel_rfl) rfl ?_
      simp only [Act.put, List.setIfInBounds_toArray, List.set_cons_succ, List.set_cons_zero]
      have Cb4 := Mem.cell HM254.out 2 rfl
      refine wpS_stay [44] rfl (by kernel_rfl) (by simp only [pickL, nthL, List.cons_append, List.nil_append]; rfl) ?_
      repeat (go_big_quiet_step (fail))
      refine wpQuiet_nil ?_
      clear Cb4
      refine wpS_does2 (i := 40) (d := some 87) (rem := [_, _, _, _]) (out := [_, _, _, _]) rfl (by rfl) rfl Try.call15 (cwith_d v d1 d2) rfl rfl HM254.out [] rfl (covS_box 3 rfl (covS_box 2 rfl (covS_box 1 rfl (covS_box 0 rfl covS_nil)))) rfl rfl ?_
      rintro W256 hm255 hg257
      rw [hw'.out]
      have HM258 := Lib.hid hm255
      clear hm255
      simp only [Act.put, List.setIfInBounds_toArray, List.set_cons_succ, List.set_cons_zero]
      refine wpS_read0 (i := 42) (d := some 89) rfl (by rfl) (fun _ => run_eqV (htv.out) rfl rfl rfl) rfl ?_
      simp only [Act.put, List.setIfInBounds_toArray, List.set_cons_succ, List.set_cons_zero]
      refine wpS_does2 (i := 45) (d := some 92) (rem := [_, _, _, _]) (out := [_, _, _, _]) rfl (by rfl) rfl Try.call13 (chas_d v d1 d2) rfl rfl HM258.out [] rfl (covS_box 3 rfl (covS_box 2 rfl (covS_box 1 rfl (covS_box 0 rfl covS_nil)))) rfl rfl ?_
      rintro W260 hm259 hg261
      rw [ht.out]
      have HM262 := Lib.hid hm259
      clear hm259
      simp only [Act.put, List.setIfInBounds_toArray, List.set_cons_succ, List.set_cons_zero]
      refine wpS_this [46, 47, 48] rfl (by kernel_rfl) (by simp only [pickL, nthL, List.cons_append, List.nil_append]; rfl) ?_
      repeat (go_big_quiet_step (fail))
      refine wpQuiet_nil ?_
      refine wpS_does0 (i := 49) (d := some 96) (rem := [_, _, _, _]) (out := [_, _, _, _]) rfl (by rfl) rfl Try.call19 (vawake_d)  HM262.out [] rfl (covS_box 3 rfl (covS_box 2 rfl (covS_box 1 rfl (covS_box 0 rfl covS_nil)))) rfl rfl ?_
      rintro W264 hm263 hg265
      have HM266 := Lib.hid hm263
      clear hm263
      simp only [Act.put, List.setIfInBounds_toArray, List.set_cons_succ, List.set_cons_zero]
      refine wpS_this [50, 51] rfl (by kernel_rfl) (by simp only [pickL, nthL, List.cons_append, List.nil_append]; rfl) ?_
      repeat (go_big_quiet_step (fail))
      refine wpQuiet_nil ?_
      refine wpS_nil ?_
      refine then_normal ?_
      refine wp_ret ?_
      refine bodyPost_ret (results_tmp rfl _ _ _) rfl ?_
      exact does_ret (Mem.only (M := []) HM266.out [] rfl) rfl rfl

end Go.Proofs.Ytlcmlecamfmadaa
