/- Clock: ClockOrder. -/
import Derived.Test.YtlcmlecamfmadaaVcA
namespace Go.Proofs.Ytlcmlecamfmadaa
open Go Go.RowKit Go.BigFrame

set_option maxHeartbeats 4000000 in
set_option maxRecDepth 100000 in
theorem order_d (a1 a2 b1 b2 c1 c2 : Int) : Does Try.prog 6 #[.agg #[.int .i64 a1, .int .i64 a2], .agg #[.int .i64 b1, .int .i64 b2], .agg #[.int .i64 c1, .int .i64 c2]] [] (.bool true) [] := by
  intro w H hp
  have HM0 := Lib.hid (mem_refl hp)
  clear hp
  go_enter Try.func6, Try.ntmps6
  refine wp_seq ?_
  refine wp_region_N [(0, 3), (1, 3), (2, 3), (3, 1)] (by kernel_rfl) ?_
  refine wpS_boxA (i := 0) (dd := 3) rfl (by rfl) rfl rfl HM0.out covS_nil rfl ?_
  rintro b3 W2 hm1 -
  have HM4 := Lib.hid hm1
  clear hm1
  simp only [Act.put, List.setIfInBounds_toArray, List.set_cons_succ, List.set_cons_zero]
  refine wpS_boxA (i := 1) (dd := 4) rfl (by rfl) rfl rfl HM4.out covS_nil rfl ?_
  rintro b7 W6 hm5 -
  have HM8 := Lib.hid hm5
  clear hm5
  simp only [Act.put, List.setIfInBounds_toArray, List.set_cons_succ, List.set_cons_zero]
  refine wpS_boxA (i := 2) (dd := 5) rfl (by rfl) rfl rfl HM8.out covS_nil rfl ?_
  rintro b11 W10 hm9 -
  have HM12 := Lib.hid hm9
  clear hm9
  simp only [Act.put, List.setIfInBounds_toArray, List.set_cons_succ, List.set_cons_zero]
  refine wpS_this [3] rfl (by kernel_rfl) (by simp only [pickL, nthL, List.cons_append, List.nil_append]; rfl) ?_
  repeat (go_big_quiet_step (fail))
  refine wpQuiet_nil ?_
  refine wpS_nil ?_
  refine then_normal ?_
  refine wp_seq ?_
  obtain ⟨x, hx'⟩ := int_letter (cmpE (a1, a2) (b1, b2))
  have hx := Lib.hid hx'
  clear hx'
  obtain ⟨y, hy'⟩ := int_letter (cmpE (b1, b2) (c1, c2))
  have hy := Lib.hid hy'
  clear hy'
  obtain ⟨z, hz'⟩ := int_letter (cmpE (a1, a2) (c1, c2))
  have hz := Lib.hid hz'
  clear hz'
  obtain ⟨r, hr'⟩ := int_letter (cmpE (b1, b2) (a1, a2))
  have hrb := cmpE_cmp.bnd (b1, b2) (a1, a2)
  rw [hr'] at hrb
  obtain ⟨hr0, hr1⟩ := hrb
  have hxr0 := cmpE_cmp.neg (a1, a2) (b1, b2)
  rw [hx.out, hr'] at hxr0
  have gxr : (x == -r) = true := beq_iff_eq.2 hxr0
  obtain ⟨e0, he0'⟩ := bool_letter (x == 0)
  have he : Hid (decide (((a1, a2) : En) = (b1, b2)) = e0) := Lib.hid (by rw [← he0', Bool.eq_iff_iff, decide_eq_true_iff, beq_iff_eq, ← hx.out, cmpE_zero])
  have ge0 : (e0 == e0) = true := beq_self_eq_true _
  clear hxr0
  have hr := Lib.hid hr'
  clear hr'
  refine wp_region_M (fun k => k ∈ ([b3, b7, b11] : List Nat)) [(0, 1), (1, 1), (3, 2), (4, 2), (6, 2), (7, 2), (2, 3), (5, 3), (8, 3), (9, 1), (10, 1), (11, 1)] (by kernel_rfl) (by kernel_rfl) HM12.out ?_
  intro W13 hm14
  have HM15 := Lib.hid hm14
  clear hm14
  have Cb3 := Mem.cell HM15.out 2 rfl
  have Cb4 := Mem.cell HM15.out 1 rfl
  refine wpS_this [0, 1] rfl (by kernel_rfl) (by simp only [pickL, nthL, List.cons_append, List.nil_append]; rfl) ?_
  repeat (go_big_quiet_step (fail))
  refine wpQuiet_nil ?_
  clear Cb3 Cb4
  have Cb4 := Mem.cell HM15.out 1 rfl
  have Cb5 := Mem.cell HM15.out 0 rfl
  have Cb3 := Mem.cell HM15.out 2 rfl
  refine wpS_stay [3, 4, 6, 7] rfl (by kernel_rfl) (by simp only [pickL, nthL, List.cons_append, List.nil_append]; rfl) ?_
  repeat (go_big_quiet_step (fail))
  refine wpQuiet_nil ?_
  clear Cb4 Cb5 Cb3
  refine wpS_does2 (i := 2) (d := some 12) (rem := [_, _, _]) (out := [_, _, _]) rfl (by rfl) rfl Try.call17 (ccmp_d a1 a2 b1 b2) rfl rfl HM15.out [] rfl (covS_box 2 rfl (covS_box 1 rfl (covS_box 0 rfl covS_nil))) rfl rfl ?_
  rintro W17 hm16 hg18
  rw [hx.out]
  have HM19 := Lib.hid hm16
  clear hm16
  simp only [Act.put, List.setIfInBounds_toArray, List.set_cons_succ, List.set_cons_zero]
  refine wpS_does2 (i := 5) (d := some 15) (rem := [_, _, _]) (out := [_, _, _]) rfl (by rfl) rfl Try.call17 (ccmp_d b1 b2 c1 c2) rfl rfl HM19.out [] rfl (covS_box 2 rfl (covS_box 1 rfl (covS_box 0 rfl covS_nil))) rfl rfl ?_
  rintro W21 hm20 hg22
  rw [hy.out]
  have HM23 := Lib.hid hm20
  clear hm20
  simp only [Act.put, List.setIfInBounds_toArray, List.set_cons_succ, List.set_cons_zero]
  refine wpS_does2 (i := 8) (d := some 18) (rem := [_, _, _]) (out := [_, _, _]) rfl (by rfl) rfl Try.call17 (ccmp_d a1 a2 c1 c2) rfl rfl HM23.out [] rfl (covS_box 2 rfl (covS_box 1 rfl (covS_box 0 rfl covS_nil))) rfl rfl ?_
  rintro W25 hm24 hg26
  rw [hz.out]
  have HM27 := Lib.hid hm24
  clear hm24
  simp only [Act.put, List.setIfInBounds_toArray, List.set_cons_succ, List.set_cons_zero]
  refine wpS_this [9, 10, 11] rfl (by kernel_rfl) (by simp only [pickL, nthL, List.cons_append, List.nil_append]; rfl) ?_
  repeat (go_big_quiet_step (fail))
  refine wpQuiet_nil ?_
  refine wpS_nil ?_
  refine then_normal ?_
  refine wp_seq ?_
  rcases ord_ways (a1, a2) (b1, b2) (c1, c2) with o1 | ⟨o1, o2⟩ | ⟨o1, o2⟩ | ⟨o1, o2, o3⟩ | ⟨o1, o2, o3⟩
  · rw [hx.out] at o1
    have g1 : decide (0 < x) = true := decide_eq_true (by omega)
    have g2 : decide (0 ≤ x) = true := decide_eq_true (by omega)
    clear o1
    have he1 : (x == 0) = e0 := he0'
    refine wp_region_N [(0, 1), (1, 1), (2, 1), (3, 3), (4, 1), (5, 1), (6, 1), (7, 1), (8, 1), (9, 1), (10, 1), (11, 1), (12, 1), (13, 1), (14, 1), (15, 1), (16, 1), (17, 1), (18, 1), (19, 1), (20, 1), (21, 1), (22, 1), (23, 1), (24, 1), (25, 1), (26, 1), (27, 1), (28, 1), (29, 1), (30, 1), (31, 1), (32, 1), (33, 1), (34, 1), (35, 1), (36, 1), (37, 1), (38, 1), (39, 3), (40, 1), (41, 1)] (by kernel_rfl) ?_
    have Cb4 := Mem.cell HM27.out 1 rfl
    have Cb3 := Mem.cell HM27.out 2 rfl
    refine wpS_this [0, 1, 2] rfl (by kernel_rfl) (by simp only [pickL, nthL, List.cons_append, List.nil_append]; rfl) ?_
    repeat (go_big_quiet_step (fail))
    refine wpQuiet_nil ?_
    clear Cb4 Cb3
    refine wpS_does2 (i := 3) (d := some 22) (rem := [_, _, _]) (out := [_, _, _]) rfl (by rfl) rfl Try.call17 (ccmp_d b1 b2 a1 a2) rfl rfl HM27.out [] rfl covS_nil rfl rfl ?_
    rintro W29 hm28 -
    rw [hr.out]
    have HM30 := Lib.hid hm28
    clear hm28
    simp only [Act.put, List.setIfInBounds_toArray, List.set_cons_succ, List.set_cons_zero]
    have Cb3 := Mem.cell HM30.out 2 rfl
    have Cb4 := Mem.cell HM30.out 1 rfl
    refine wpS_this [4, 5, 6, 7, 8, 9, 10] rfl (by kernel_rfl) (by simp only [pickL, nthL, List.cons_append, List.nil_append]; rfl) ?_
    repeat (go_big_quiet_step (fail))
    refine wpQuiet_nil ?_
    clear Cb3 Cb4
    refine wpS_read (i := 11) (d := some 30) rfl (by rfl) (run_eqDb (p := (a1, a2)) (q := (b1, b2)) (he.out) rfl rfl rfl) rfl ?_
    simp only [Act.put, List.setIfInBounds_toArray, List.set_cons_succ, List.set_cons_zero]
    refine wpS_this [12, 13, 14, 15, 16, 17, 18, 19, 20, 21, 22, 23, 24, 25, 26, 27, 28, 29, 30, 31, 32, 33, 34, 35, 36, 37, 38] rfl (by kernel_rfl) (by simp only [pickL, nthL, List.cons_append, List.nil_append]; rfl) ?_
    repeat (go_big_quiet_step (fail))
    refine wpQuiet_nil ?_
    refine wpS_does0 (i := 39) (d := some 58) (rem := [_, _, _]) (out := [_, _, _]) rfl (by rfl) rfl Try.call19 (vawake_d)  HM30.out [] rfl covS_nil rfl rfl ?_
    rintro W32 hm31 -
    have HM33 := Lib.hid hm31
    clear hm31
    simp only [Act.put, List.setIfInBounds_toArray, List.set_cons_succ, List.set_cons_zero]
    refine wpS_this [40, 41] rfl (by kernel_rfl) (by simp only [pickL, nthL, List.cons_append, List.nil_append]; rfl) ?_
    repeat (go_big_quiet_step (fail))
    refine wpQuiet_nil ?_
    refine wpS_nil ?_
    refine then_normal ?_
    refine wp_ret ?_
    refine bodyPost_ret (results_tmp rfl _ _ _) rfl ?_
    exact does_ret (Mem.only (M := []) HM33.out [] rfl) rfl rfl
  · rw [hx.out] at o1
    rw [hy.out] at o2
    have g1 : decide (0 < x) = false := decide_eq_false (by omega)
    have g3 : decide (0 < y) = true := decide_eq_true (by omega)
    have g2 : decide (0 ≤ x) = true := decide_eq_true (by omega)
    clear o1 o2
    have he1 : (x == 0) = e0 := he0'
    refine wp_region_N [(0, 1), (1, 1), (2, 1), (3, 3), (4, 1), (5, 1), (6, 1), (7, 1), (8, 1), (9, 1), (10, 1), (11, 1), (12, 1), (13, 1), (14, 1), (15, 1), (16, 1), (17, 1), (18, 1), (19, 1), (20, 1), (21, 1), (22, 1), (23, 1), (24, 1), (25, 1), (26, 1), (27, 1), (28, 1), (29, 1), (30, 1), (31, 1), (32, 1), (33, 1), (34, 1), (35, 1), (36, 1), (37, 1), (38, 1), (39, 3), (40, 1), (41, 1)] (by kernel_rfl) ?_
    have Cb4 := Mem.cell HM27.out 1 rfl
    have Cb3 := Mem.cell HM27.out 2 rfl
    refine wpS_this [0, 1, 2] rfl (by kernel_rfl) (by simp only [pickL, nthL, List.cons_append, List.nil_append]; rfl) ?_
    repeat (go_big_quiet_step (fail))
    refine wpQuiet_nil ?_
    clear Cb4 Cb3
    refine wpS_does2 (i := 3) (d := some 22) (rem := [_, _, _]) (out := [_, _, _]) rfl (by rfl) rfl Try.call17 (ccmp_d b1 b2 a1 a2) rfl rfl HM27.out [] rfl covS_nil rfl rfl ?_
    rintro W35 hm34 -
    rw [hr.out]
    have HM36 := Lib.hid hm34
    clear hm34
    simp only [Act.put, List.setIfInBounds_toArray, List.set_cons_succ, List.set_cons_zero]
    have Cb3 := Mem.cell HM36.out 2 rfl
    have Cb4 := Mem.cell HM36.out 1 rfl
    refine wpS_this [4, 5, 6, 7, 8, 9, 10] rfl (by kernel_rfl) (by simp only [pickL, nthL, List.cons_append, List.nil_append]; rfl) ?_
    repeat (go_big_quiet_step (fail))
    refine wpQuiet_nil ?_
    clear Cb3 Cb4
    refine wpS_read (i := 11) (d := some 30) rfl (by rfl) (run_eqDb (p := (a1, a2)) (q := (b1, b2)) (he.out) rfl rfl rfl) rfl ?_
    simp only [Act.put, List.setIfInBounds_toArray, List.set_cons_succ, List.set_cons_zero]
    refine wpS_this [12, 13, 14, 15, 16, 17, 18, 19, 20, 21, 22, 23, 24, 25, 26, 27, 28, 29, 30, 31, 32, 33, 34, 35, 36, 37, 38] rfl (by kernel_rfl) (by simp only [pickL, nthL, List.cons_append, List.nil_append]; rfl) ?_
    repeat (go_big_quiet_step (fail))
    refine wpQuiet_nil ?_
    refine wpS_does0 (i := 39) (d := some 58) (rem := [_, _, _]) (out := [_, _, _]) rfl (by rfl) rfl Try.call19 (vawake_d)  HM36.out [] rfl covS_nil rfl rfl ?_
    rintro W38 hm37 -
    have HM39 := Lib.hid hm37
    clear hm37
    simp only [Act.put, List.setIfInBounds_toArray, List.set_cons_succ, List.set_cons_zero]
    refine wpS_this [40, 41] rfl (by kernel_rfl) (by simp only [pickL, nthL, List.cons_append, List.nil_append]; rfl) ?_
    repeat (go_big_quiet_step (fail))
    refine wpQuiet_nil ?_
    refine wpS_nil ?_
    refine then_normal ?_
    refine wp_ret ?_
    refine bodyPost_ret (results_tmp rfl _ _ _) rfl ?_
    exact does_ret (Mem.only (M := []) HM39.out [] rfl) rfl rfl
  · rw [hx.out] at o1
    rw [hy.out] at o2
    have g1 : decide (0 < x) = false := decide_eq_false (by omega)
    have g3 : decide (0 < y) = true := decide_eq_true (by omega)
    have g2 : decide (0 ≤ x) = false := decide_eq_false (by omega)
    clear o1 o2
    have he1 : (x == 0) = e0 := he0'
    refine wp_region_N [(0, 1), (1, 1), (2, 1), (3, 3), (4, 1), (5, 1), (6, 1), (7, 1), (8, 1), (9, 1), (10, 1), (11, 1), (12, 1), (13, 1), (14, 1), (15, 1), (16, 1), (17, 1), (18, 1), (19, 1), (20, 1), (21, 1), (22, 1), (23, 1), (24, 1), (25, 1), (26, 1), (27, 1), (28, 1), (29, 1), (30, 1), (31, 1), (32, 1), (33, 1), (34, 1), (35, 1), (36, 1), (37, 1), (38, 1), (39, 3), (40, 1), (41, 1)] (by kernel_rfl) ?_
    have Cb4 := Mem.cell HM27.out 1 rfl
    have Cb3 := Mem.cell HM27.out 2 rfl
    refine wpS_this [0, 1, 2] rfl (by kernel_rfl) (by simp only [pickL, nthL, List.cons_append, List.nil_append]; rfl) ?_
    repeat (go_big_quiet_step (fail))
    refine wpQuiet_nil ?_
    clear Cb4 Cb3
    refine wpS_does2 (i := 3) (d := some 22) (rem := [_, _, _]) (out := [_, _, _]) rfl (by rfl) rfl Try.call17 (ccmp_d b1 b2 a1 a2) rfl rfl HM27.out [] rfl covS_nil rfl rfl ?_
    rintro W41 hm40 -
    rw [hr.out]
    have HM42 := Lib.hid hm40
    clear hm40
    simp only [Act.put, List.setIfInBounds_toArray, List.set_cons_succ, List.set_cons_zero]
    have Cb3 := Mem.cell HM42.out 2 rfl
    have Cb4 := Mem.cell HM42.out 1 rfl
    refine wpS_this [4, 5, 6, 7, 8, 9, 10] rfl (by kernel_rfl) (by simp only [pickL, nthL, List.cons_append, List.nil_append]; rfl) ?_
    repeat (go_big_quiet_step (fail))
    refine wpQuiet_nil ?_
    clear Cb3 Cb4
    refine wpS_read (i := 11) (d := some 30) rfl (by rfl) (run_eqDb (p := (a1, a2)) (q := (b1, b2)) (he.out) rfl rfl rfl) rfl ?_
    simp only [Act.put, List.setIfInBounds_toArray, List.set_cons_succ, List.set_cons_zero]
    refine wpS_this [12, 13, 14, 15, 16, 17, 18, 19, 20, 21, 22, 23, 24, 25, 26, 27, 28, 29, 30, 31, 32, 33, 34, 35, 36, 37, 38] rfl (by kernel_rfl) (by simp only [pickL, nthL, List.cons_append, List.nil_append]; rfl) ?_
    repeat (go_big_quiet_step (fail))
    refine wpQuiet_nil ?_
    refine wpS_does0 (i := 39) (d := some 58) (rem := [_, _, _]) (out := [_, _, _]) rfl (by rfl) rfl Try.call19 (vawake_d)  HM42.out [] rfl covS_nil rfl rfl ?_
    rintro W44 hm43 -
    have HM45 := Lib.hid hm43
    clear hm43
    simp only [Act.put, List.setIfInBounds_toArray, List.set_cons_succ, List.set_cons_zero]
    refine wpS_this [40, 41] rfl (by kernel_rfl) (by simp only [pickL, nthL, List.cons_append, List.nil_append]; rfl) ?_
    repeat (go_big_quiet_step (fail))
    refine wpQuiet_nil ?_
    refine wpS_nil ?_
    refine then_normal ?_
    refine wp_ret ?_
    refine bodyPost_ret (results_tmp rfl _ _ _) rfl ?_
    exact does_ret (Mem.only (M := []) HM45.out [] rfl) rfl rfl
  · rw [hx.out] at o1
    rw [hy.out] at o2
    rw [hz.out] at o3
    have g1 : decide (0 < x) = false := decide_eq_false (by omega)
    have g3 : decide (0 < y) = false := decide_eq_false (by omega)
    have g4 : decide (z ≤ 0) = true := decide_eq_true (by omega)
    have g2 : decide (0 ≤ x) = true := decide_eq_true (by omega)
    clear o1 o2 o3
    have he1 : (x == 0) = e0 := he0'
    refine wp_region_N [(0, 1), (1, 1), (2, 1), (3, 3), (4, 1), (5, 1), (6, 1), (7, 1), (8, 1), (9, 1), (10, 1), (11, 1), (12, 1), (13, 1), (14, 1), (15, 1), (16, 1), (17, 1), (18, 1), (19, 1), (20, 1), (21, 1), (22, 1), (23, 1), (24, 1), (25, 1), (26, 1), (27, 1), (28, 1), (29, 1), (30, 1), (31, 1), (32, 1), (33, 1), (34, 1), (35, 1), (36, 1), (37, 1), (38, 1), (39, 3), (40, 1), (41, 1)] (by kernel_rfl) ?_
    have Cb4 := Mem.cell HM27.out 1 rfl
    have Cb3 := Mem.cell HM27.out 2 rfl
    refine wpS_this [0, 1, 2] rfl (by kernel_rfl) (by simp only [pickL, nthL, List.cons_append, List.nil_append]; rfl) ?_
    repeat (go_big_quiet_step (fail))
    refine wpQuiet_nil ?_
    clear Cb4 Cb3
    refine wpS_does2 (i := 3) (d := some 22) (rem := [_, _, _]) (out := [_, _, _]) rfl (by rfl) rfl Try.call17 (ccmp_d b1 b2 a1 a2) rfl rfl HM27.out [] rfl covS_nil rfl rfl ?_
    rintro W47 hm46 -
    rw [hr.out]
    have HM48 := Lib.hid hm46
    clear hm46
    simp only [Act.put, List.setIfInBounds_toArray, List.set_cons_succ, List.set_cons_zero]
    have Cb3 := Mem.cell HM48.out 2 rfl
    have Cb4 := Mem.cell HM48.out 1 rfl
    refine wpS_this [4, 5, 6, 7, 8, 9, 10] rfl (by kernel_rfl) (by simp only [pickL, nthL, List.cons_append, List.nil_append]; rfl) ?_
    repeat (go_big_quiet_step (fail))
    refine wpQuiet_nil ?_
    clear Cb3 Cb4
    refine wpS_read (i := 11) (d := some 30) rfl (by rfl) (run_eqDb (p := (a1, a2)) (q := (b1, b2)) (he.out) rfl rfl rfl) rfl ?_
    simp only [Act.put, List.setIfInBounds_toArray, List.set_cons_succ, List.set_cons_zero]
    refine wpS_this [12, 13, 14, 15, 16, 17, 18, 19, 20, 21, 22, 23, 24, 25, 26, 27, 28, 29, 30, 31, 32, 33, 34, 35, 36, 37, 38] rfl (by kernel_rfl) (by simp only [pickL, nthL, List.cons_append, List.nil_append]; rfl) ?_
    repeat (go_big_quiet_step (fail))
    refine wpQuiet_nil ?_
    refine wpS_does0 (i := 39) (d := some 58) (rem := [_, _, _]) (out := [_, _, _]) rfl (by rfl) rfl Try.call19 (vawake_d)  HM48.out [] rfl covS_nil rfl rfl ?_
    rintro W50 hm49 -
    have HM51 := Lib.hid hm49
    clear hm49
    simp only [Act.put, List.setIfInBounds_toArray, List.set_cons_succ, List.set_cons_zero]
    refine wpS_this [40, 41] rfl (by kernel_rfl) (by simp only [pickL, nthL, List.cons_append, List.nil_append]; rfl) ?_
    repeat (go_big_quiet_step (fail))
    refine wpQuiet_nil ?_
    refine wpS_nil ?_
    refine then_normal ?_
    refine wp_ret ?_
    refine bodyPost_ret (results_tmp rfl _ _ _) rfl ?_
    exact does_ret (Mem.only (M := []) HM51.out [] rfl) rfl rfl
  · rw [hx.out] at o1
    rw [hy.out] at o2
    rw [hz.out] at o3
    have g1 : decide (0 < x) = false := decide_eq_false (by omega)
    have g3 : decide (0 < y) = false := decide_eq_false (by omega)
    have g4 : decide (z ≤ 0) = true := decide_eq_true (by omega)
    have g2 : decide (0 ≤ x) = false := decide_eq_false (by omega)
    have g5 : decide (z < 0) = true := decide_eq_true (by omega)
    clear o1 o2 o3
    have he1 : (x == 0) = e0 := he0'
    refine wp_region_N [(0, 1), (1, 1), (2, 1), (3, 3), (4, 1), (5, 1), (6, 1), (7, 1), (8, 1), (9, 1), (10, 1), (11, 1), (12, 1), (13, 1), (14, 1), (15, 1), (16, 1), (17, 1), (18, 1), (19, 1), (20, 1), (21, 1), (22, 1), (23, 1), (24, 1), (25, 1), (26, 1), (27, 1), (28, 1), (29, 1), (30, 1), (31, 1), (32, 1), (33, 1), (34, 1), (35, 1), (36, 1), (37, 1), (38, 1), (39, 3), (40, 1), (41, 1)] (by kernel_rfl) ?_
    have Cb4 := Mem.cell HM27.out 1 rfl
    have Cb3 := Mem.cell HM27.out 2 rfl
    refine wpS_this [0, 1, 2] rfl (by kernel_rfl) (by simp only [pickL, nthL, List.cons_append, List.nil_append]; rfl) ?_
    repeat (go_big_quiet_step (fail))
    refine wpQuiet_nil ?_
    clear Cb4 Cb3
    refine wpS_does2 (i := 3) (d := some 22) (rem := [_, _, _]) (out := [_, _, _]) rfl (by rfl) rfl Try.call17 (ccmp_d b1 b2 a1 a2) rfl rfl HM27.out [] rfl covS_nil rfl rfl ?_
    rintro W53 hm52 -
    rw [hr.out]
    have HM54 := Lib.hid hm52
    clear hm52
    simp only [Act.put, List.setIfInBounds_toArray, List.set_cons_succ, List.set_cons_zero]
    have Cb3 := Mem.cell HM54.out 2 rfl
    have Cb4 := Mem.cell HM54.out 1 rfl
    refine wpS_this [4, 5, 6, 7, 8, 9, 10] rfl (by kernel_rfl) (by simp only [pickL, nthL, List.cons_append, List.nil_append]; rfl) ?_
    repeat (go_big_quiet_step (fail))
    refine wpQuiet_nil ?_
    clear Cb3 Cb4
    refine wpS_read (i := 11) (d := some 30) rfl (by rfl) (run_eqDb (p := (a1, a2)) (q := (b1, b2)) (he.out) rfl rfl rfl) rfl ?_
    simp only [Act.put, List.setIfInBounds_toArray, List.set_cons_succ, List.set_cons_zero]
    refine wpS_this [12, 13, 14, 15, 16, 17, 18, 19, 20, 21, 22, 23, 24, 25, 26, 27, 28, 29, 30, 31, 32, 33, 34, 35, 36, 37, 38] rfl (by kernel_rfl) (by simp only [pickL, nthL, List.cons_append, List.nil_append]; rfl) ?_
    repeat (go_big_quiet_step (fail))
    refine wpQuiet_nil ?_
    refine wpS_does0 (i := 39) (d := some 58) (rem := [_, _, _]) (out := [_, _, _]) rfl (by rfl) rfl Try.call19 (vawake_d)  HM54.out [] rfl covS_nil rfl rfl ?_
    rintro W56 hm55 -
    have HM57 := Lib.hid hm55
    clear hm55
    simp only [Act.put, List.setIfInBounds_toArray, List.set_cons_succ, List.set_cons_zero]
    refine wpS_this [40, 41] rfl (by kernel_rfl) (by simp only [pickL, nthL, List.cons_append, List.nil_append]; rfl) ?_
    repeat (go_big_quiet_step (fail))
    refine wpQuiet_nil ?_
    refine wpS_nil ?_
    refine then_normal ?_
    refine wp_ret ?_
    refine bodyPost_ret (results_tmp rfl _ _ _) rfl ?_
    exact does_ret (Mem.only (M := []) HM57.out [] rfl) rfl rfl

end Go.Proofs.Ytlcmlecamfmadaa
