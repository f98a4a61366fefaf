/- Clock: ClockForms. -/
import Derived.Test.YtlcmlecamfmadaaVcA
namespace Go.Proofs.Ytlcmlecamfmadaa
open Go Go.RowKit Go.BigFrame

set_option maxHeartbeats 4000000 in
set_option maxRecDepth 100000 in
theorem forms_d (a b : Nat → Int) (d1 d2 e1 e2 : Int) : Does Try.prog 3 #[vV a, vV b, .agg #[.int .i64 d1, .int .i64 d2], .agg #[.int .i64 e1, .int .i64 e2]] [] (.bool true) [] := by
  intro w H hp
  have HM0 := Lib.hid (mem_refl hp)
  clear hp
  go_enter Try.func3, Try.ntmps3
  refine wp_seq ?_
  refine wp_region_N [(0, 3), (1, 3), (2, 3), (3, 3), (4, 1)] (by kernel_rfl) ?_
  refine wpS_boxA (i := 0) (dd := 4) rfl (by rfl) rfl rfl HM0.out covS_nil rfl ?_
  rintro b3 W2 hm1 -
  have HM4 := Lib.hid hm1
  clear hm1
  simp only [Act.put, List.setIfInBounds_toArray, List.set_cons_succ, List.set_cons_zero]
  refine wpS_boxA (i := 1) (dd := 5) rfl (by rfl) rfl rfl HM4.out covS_nil rfl ?_
  rintro b7 W6 hm5 -
  have HM8 := Lib.hid hm5
  clear hm5
  simp only [Act.put, List.setIfInBounds_toArray, List.set_cons_succ, List.set_cons_zero]
  refine wpS_boxA (i := 2) (dd := 6) rfl (by rfl) rfl rfl HM8.out covS_nil rfl ?_
  rintro b11 W10 hm9 -
  have HM12 := Lib.hid hm9
  clear hm9
  simp only [Act.put, List.setIfInBounds_toArray, List.set_cons_succ, List.set_cons_zero]
  refine wpS_boxA (i := 3) (dd := 7) rfl (by rfl) rfl rfl HM12.out covS_nil rfl ?_
  rintro b15 W14 hm13 -
  have HM16 := Lib.hid hm13
  clear hm13
  simp only [Act.put, List.setIfInBounds_toArray, List.set_cons_succ, List.set_cons_zero]
  refine wpS_this [4] rfl (by kernel_rfl) (by simp only [pickL, nthL, List.cons_append, List.nil_append]; rfl) ?_
  repeat (go_big_quiet_step (fail))
  refine wpQuiet_nil ?_
  refine wpS_nil ?_
  refine then_normal ?_
  refine wp_seq ?_
  obtain ⟨p, hp'⟩ := bool_letter (mayV a)
  have hp := Lib.hid hp'
  clear hp'
  obtain ⟨q, hq'⟩ := bool_letter (belowV a b)
  have hq := Lib.hid hq'
  clear hq'
  obtain ⟨h, hh'⟩ := bool_letter (hasV a (d1, d2))
  have hh := Lib.hid hh'
  clear hh'
  obtain ⟨z, hz'⟩ := int_letter (cmpE (d1, d2) (e1, e2))
  have hz := Lib.hid hz'
  clear hz'
  have gp : (p == p) = true := beq_self_eq_true _
  have gq : (q == q) = true := beq_self_eq_true _
  have gh : (h == h) = true := beq_self_eq_true _
  have gz : (z == z) = true := beq_self_eq_true _
  refine wp_region_M (fun k => k ∈ ([b3, b7, b11, b15] : List Nat)) [(0, 1), (2, 2), (1, 3), (3, 3), (4, 1), (5, 1), (6, 1), (7, 1), (9, 2), (10, 2), (8, 3), (11, 3), (12, 1), (13, 1), (14, 1), (15, 1), (16, 1), (18, 2), (19, 2), (17, 3), (20, 3), (21, 1), (22, 1), (23, 1), (24, 1), (25, 1), (27, 2), (28, 2), (26, 3), (29, 3), (30, 1), (31, 1), (32, 1), (33, 1), (34, 1), (36, 2), (37, 2), (35, 3), (38, 3), (39, 1), (40, 1), (41, 1), (42, 1), (43, 1), (45, 2), (46, 2), (44, 3), (47, 3), (48, 1), (49, 1), (50, 1), (51, 3), (52, 1), (53, 1)] (by kernel_rfl) (by kernel_rfl) HM16.out ?_
  intro W17 hm18
  have HM19 := Lib.hid hm18
  clear hm18
  refine wpS_loadA (i := 0) (d := some 9) (cells := vcC (a)) rfl (by rfl) rfl rfl (HM19.out.cells0 3 rfl) Try.underlying23 rfl (by kernel_rfl) rfl ?_
  simp only [Act.put, List.setIfInBounds_toArray, List.set_cons_succ, List.set_cons_zero]
  refine wpS_loadA2 (i := 2) (d := some 11) (cells := vcC (a)) rfl (by rfl) rfl rfl (by simp) (HM19.out.cells0 3 rfl) Try.underlying23 rfl (by kernel_rfl) rfl ?_
  simp only [Act.put, List.setIfInBounds_toArray, List.set_cons_succ, List.set_cons_zero]
  refine wpS_does1 (i := 1) (d := some 10) (rem := [_, _, _, _]) (out := [_, _, _, _]) rfl (by rfl) rfl Try.call7 (cmay_d a) rfl HM19.out [] rfl (covS_box 3 rfl (covS_box 2 rfl (covS_box 1 rfl (covS_box 0 rfl covS_nil)))) rfl rfl ?_
  rintro W21 hm20 hg22
  rw [hp.out]
  have HM23 := Lib.hid hm20
  clear hm20
  simp only [Act.put, List.setIfInBounds_toArray, List.set_cons_succ, List.set_cons_zero]
  refine wpS_does1 (i := 3) (d := some 12) (rem := [_, _, _, _]) (out := [_, _, _, _]) rfl (by rfl) rfl Try.call8 (rvmay_d a) rfl HM23.out [] rfl (covS_box 3 rfl (covS_box 2 rfl (covS_box 1 rfl (covS_box 0 rfl covS_nil)))) rfl rfl ?_
  rintro W25 hm24 hg26
  rw [hp.out]
  have HM27 := Lib.hid hm24
  clear hm24
  simp only [Act.put, List.setIfInBounds_toArray, List.set_cons_succ, List.set_cons_zero]
  refine wpS_this [4, 5] rfl (by kernel_rfl) (by simp only [pickL, nthL, List.cons_append, List.nil_append]; rfl) ?_
  repeat (go_big_quiet_step (fail))
  refine wpQuiet_nil ?_
  refine wpS_loadA (i := 6) (d := some 15) (cells := vcC (a)) rfl (by rfl) rfl rfl (HM27.out.cells0 3 rfl) Try.underlying23 rfl (by kernel_rfl) rfl ?_
  simp only [Act.put, List.setIfInBounds_toArray, List.set_cons_succ, List.set_cons_zero]
  refine wpS_loadA (i := 7) (d := some 16) (cells := vcC (b)) rfl (by rfl) rfl rfl (HM27.out.cells0 2 rfl) Try.underlying23 rfl (by kernel_rfl) rfl ?_
  simp only [Act.put, List.setIfInBounds_toArray, List.set_cons_succ, List.set_cons_zero]
  refine wpS_loadA2 (i := 9) (d := some 18) (cells := vcC (a)) rfl (by rfl) rfl rfl (by simp) (HM27.out.cells0 3 rfl) Try.underlying23 rfl (by kernel_rfl) rfl ?_
  simp only [Act.put, List.setIfInBounds_toArray, List.set_cons_succ, List.set_cons_zero]
  refine wpS_loadA2 (i := 10) (d := some 19) (cells := vcC (b)) rfl (by rfl) rfl rfl (by simp) (HM27.out.cells0 2 rfl) Try.underlying23 rfl (by kernel_rfl) rfl ?_
  simp only [Act.put, List.setIfInBounds_toArray, List.set_cons_succ, List.set_cons_zero]
  refine wpS_does2 (i := 8) (d := some 17) (rem := [_, _, _, _]) (out := [_, _, _, _]) rfl (by rfl) rfl Try.call9 (cjoin_d a b) rfl rfl HM27.out [] rfl (covS_box 3 rfl (covS_box 2 rfl (covS_box 1 rfl (covS_box 0 rfl covS_nil)))) rfl rfl ?_
  rintro W29 hm28 hg30
  have HM31 := Lib.hid hm28
  clear hm28
  simp only [Act.put, List.setIfInBounds_toArray, List.set_cons_succ, List.set_cons_zero]
  refine wpS_does2 (i := 11) (d := some 20) (rem := [_, _, _, _]) (out := [_, _, _, _]) rfl (by rfl) rfl Try.call10 (rvjoin_d a b) rfl rfl HM31.out [] rfl (covS_box 3 rfl (covS_box 2 rfl (covS_box 1 rfl (covS_box 0 rfl covS_nil)))) rfl rfl ?_
  rintro W33 hm32 hg34
  have HM35 := Lib.hid hm32
  clear hm32
  simp only [Act.put, List.setIfInBounds_toArray, List.set_cons_succ, List.set_cons_zero]
  refine wpS_read (i := 12) (d := some 21) rfl (by rfl) (run_eqV (eq_self _) rfl rfl rfl) rfl ?_
  simp only [Act.put, List.setIfInBounds_toArray, List.set_cons_succ, List.set_cons_zero]
  refine wpS_this [13, 14] rfl (by kernel_rfl) (by simp only [pickL, nthL, List.cons_append, List.nil_append]; rfl) ?_
  repeat (go_big_quiet_step (fail))
  refine wpQuiet_nil ?_
  refine wpS_loadA (i := 15) (d := some 24) (cells := vcC (a)) rfl (by rfl) rfl rfl (HM35.out.cells0 3 rfl) Try.underlying23 rfl (by kernel_rfl) rfl ?_
  simp only [Act.put, List.setIfInBounds_toArray, List.set_cons_succ, List.set_cons_zero]
  refine wpS_loadA (i := 16) (d := some 25) (cells := vcC (b)) rfl (by rfl) rfl rfl (HM35.out.cells0 2 rfl) Try.underlying23 rfl (by kernel_rfl) rfl ?_
  simp only [Act.put, List.setIfInBounds_toArray, List.set_cons_succ, List.set_cons_zero]
  refine wpS_loadA2 (i := 18) (d := some 27) (cells := vcC (a)) rfl (by rfl) rfl rfl (by simp) (HM35.out.cells0 3 rfl) Try.underlying23 rfl (by kernel_rfl) rfl ?_
  simp only [Act.put, List.setIfInBounds_toArray, List.set_cons_succ, List.set_cons_zero]
  refine wpS_loadA2 (i := 19) (d := some 28) (cells := vcC (b)) rfl (by rfl) rfl rfl (by simp) (HM35.out.cells0 2 rfl) Try.underlying23 rfl (by kernel_rfl) rfl ?_
  simp only [Act.put, List.setIfInBounds_toArray, List.set_cons_succ, List.set_cons_zero]
  refine wpS_does2 (i := 17) (d := some 26) (rem := [_, _, _, _]) (out := [_, _, _, _]) rfl (by rfl) rfl Try.call11 (cbelow_d a b) rfl rfl HM35.out [] rfl (covS_box 3 rfl (covS_box 2 rfl (covS_box 1 rfl (covS_box 0 rfl covS_nil)))) rfl rfl ?_
  rintro W37 hm36 hg38
  rw [hq.out]
  have HM39 := Lib.hid hm36
  clear hm36
  simp only [Act.put, List.setIfInBounds_toArray, List.set_cons_succ, List.set_cons_zero]
  refine wpS_does2 (i := 20) (d := some 29) (rem := [_, _, _, _]) (out := [_, _, _, _]) rfl (by rfl) rfl Try.call12 (rvbelow_d a b) rfl rfl HM39.out [] rfl (covS_box 3 rfl (covS_box 2 rfl (covS_box 1 rfl (covS_box 0 rfl covS_nil)))) rfl rfl ?_
  rintro W41 hm40 hg42
  rw [hq.out]
  have HM43 := Lib.hid hm40
  clear hm40
  simp only [Act.put, List.setIfInBounds_toArray, List.set_cons_succ, List.set_cons_zero]
  refine wpS_this [21, 22, 23] rfl (by kernel_rfl) (by simp only [pickL, nthL, List.cons_append, List.nil_append]; rfl) ?_
  repeat (go_big_quiet_step (fail))
  refine wpQuiet_nil ?_
  refine wpS_loadA (i := 24) (d := some 33) (cells := vcC (a)) rfl (by rfl) rfl rfl (HM43.out.cells0 3 rfl) Try.underlying23 rfl (by kernel_rfl) rfl ?_
  simp only [Act.put, List.setIfInBounds_toArray, List.set_cons_succ, List.set_cons_zero]
  have Cb6 := Mem.cell HM43.out 1 rfl
  refine wpS_this [25] rfl (by kernel_rfl) (by simp only [pickL, nthL, List.cons_append, List.nil_append]; rfl) ?_
  repeat (go_big_quiet_step (fail))
  refine wpQuiet_nil ?_
  clear Cb6
  refine wpS_loadA2 (i := 27) (d := some 36) (cells := vcC (a)) rfl (by rfl) rfl rfl (by simp) (HM43.out.cells0 3 rfl) Try.underlying23 rfl (by kernel_rfl) rfl ?_
  simp only [Act.put, List.setIfInBounds_toArray, List.set_cons_succ, List.set_cons_zero]
  have Cb6 := Mem.cell HM43.out 1 rfl
  refine wpS_stay [28] rfl (by kernel_rfl) (by simp only [pickL, nthL, List.cons_append, List.nil_append]; rfl) ?_
  repeat (go_big_quiet_step (fail))
  refine wpQuiet_nil ?_
  clear Cb6
  refine wpS_does2 (i := 26) (d := some 35) (rem := [_, _, _, _]) (out := [_, _, _, _]) rfl (by rfl) rfl Try.call13 (chas_d a d1 d2) rfl rfl HM43.out [] rfl (covS_box 3 rfl (covS_box 2 rfl (covS_box 1 rfl (covS_box 0 rfl covS_nil)))) rfl rfl ?_
  rintro W45 hm44 hg46
  rw [hh.out]
  have HM47 := Lib.hid hm44
  clear hm44
  simp only [Act.put, List.setIfInBounds_toArray, List.set_cons_succ, List.set_cons_zero]
  refine wpS_does2 (i := 29) (d := some 38) (rem := [_, _, _, _]) (out := [_, _, _, _]) rfl (by rfl) rfl Try.call14 (rvhas_d a d1 d2) rfl rfl HM47.out [] rfl (covS_box 3 rfl (covS_box 2 rfl (covS_box 1 rfl (covS_box 0 rfl covS_nil)))) rfl rfl ?_
  rintro W49 hm48 hg50
  rw [hh.out]
  have HM51 := Lib.hid hm48
  clear hm48
  simp only [Act.put, List.setIfInBounds_toArray, List.set_cons_succ, List.set_cons_zero]
  refine wpS_this [30, 31, 32] rfl (by kernel_rfl) (by simp only [pickL, nthL, List.cons_append, List.nil_append]; rfl) ?_
  repeat (go_big_quiet_step (fail))
  refine wpQuiet_nil ?_
  refine wpS_loadA (i := 33) (d := some 42) (cells := vcC (a)) rfl (by rfl) rfl rfl (HM51.out.cells0 3 rfl) Try.underlying23 rfl (by kernel_rfl) rfl ?_
  simp only [Act.put, List.setIfInBounds_toArray, List.set_cons_succ, List.set_cons_zero]
  have Cb6 := Mem.cell HM51.out 1 rfl
  refine wpS_this [34] rfl (by kernel_rfl) (by simp only [pickL, nthL, List.cons_append, List.nil_append]; rfl) ?_
  repeat (go_big_quiet_step (fail))
  refine wpQuiet_nil ?_
  clear Cb6
  refine wpS_loadA2 (i := 36) (d := some 45) (cells := vcC (a)) rfl (by rfl) rfl rfl (by simp) (HM51.out.cells0 3 rfl) Try.underlying23 rfl (by kernel_rfl) rfl ?_
  simp only [Act.put, List.setIfInBounds_toArray, List.set_cons_succ, List.set_cons_zero]
  have Cb6 := Mem.cell HM51.out 1 rfl
  refine wpS_stay [37] rfl (by kernel_rfl) (by simp only [pickL, nthL, List.cons_append, List.nil_append]; rfl) ?_
  repeat (go_big_quiet_step (fail))
  refine wpQuiet_nil ?_
  clear Cb6
  refine wpS_does2 (i := 35) (d := some 44) (rem := [_, _, _, _]) (out := [_, _, _, _]) rfl (by rfl) rfl Try.call15 (cwith_d a d1 d2) rfl rfl HM51.out [] rfl (covS_box 3 rfl (covS_box 2 rfl (covS_box 1 rfl (covS_box 0 rfl covS_nil)))) rfl rfl ?_
  rintro W53 hm52 hg54
  have HM55 := Lib.hid hm52
  clear hm52
  simp only [Act.put, List.setIfInBounds_toArray, List.set_cons_succ, List.set_cons_zero]
  refine wpS_does2 (i := 38) (d := some 47) (rem := [_, _, _, _]) (out := [_, _, _, _]) rfl (by rfl) rfl Try.call16 (rvwith_d a d1 d2) rfl rfl HM55.out [] rfl (covS_box 3 rfl (covS_box 2 rfl (covS_box 1 rfl (covS_box 0 rfl covS_nil)))) rfl rfl ?_
  rintro W57 hm56 hg58
  have HM59 := Lib.hid hm56
  clear hm56
  simp only [Act.put, List.setIfInBounds_toArray, List.set_cons_succ, List.set_cons_zero]
  refine wpS_read (i := 39) (d := some 48) rfl (by rfl) (run_eqV (eq_self _) rfl rfl rfl) rfl ?_
  simp only [Act.put, List.setIfInBounds_toArray, List.set_cons_succ, List.set_cons_zero]
  have Cb6 := Mem.cell HM59.out 1 rfl
  have Cb7 := Mem.cell HM59.out 0 rfl
  refine wpS_this [40, 41, 42, 43] rfl (by kernel_rfl) (by simp only [pickL, nthL, List.cons_append, List.nil_append]; rfl) ?_
  repeat (go_big_quiet_step (fail))
  refine wpQuiet_nil ?_
  clear Cb6 Cb7
  have Cb6 := Mem.cell HM59.out 1 rfl
  have Cb7 := Mem.cell HM59.out 0 rfl
  refine wpS_stay [45, 46] rfl (by kernel_rfl) (by simp only [pickL, nthL, List.cons_append, List.nil_append]; rfl) ?_
  repeat (go_big_quiet_step (fail))
  refine wpQuiet_nil ?_
  clear Cb6 Cb7
  refine wpS_does2 (i := 44) (d := some 53) (rem := [_, _, _, _]) (out := [_, _, _, _]) rfl (by rfl) rfl Try.call17 (ccmp_d d1 d2 e1 e2) rfl rfl HM59.out [] rfl (covS_box 3 rfl (covS_box 2 rfl (covS_box 1 rfl (covS_box 0 rfl covS_nil)))) rfl rfl ?_
  rintro W61 hm60 hg62
  rw [hz.out]
  have HM63 := Lib.hid hm60
  clear hm60
  simp only [Act.put, List.setIfInBounds_toArray, List.set_cons_succ, List.set_cons_zero]
  refine wpS_does2 (i := 47) (d := some 56) (rem := [_, _, _, _]) (out := [_, _, _, _]) rfl (by rfl) rfl Try.call18 (rvcmp_d d1 d2 e1 e2) rfl rfl HM63.out [] rfl (covS_box 3 rfl (covS_box 2 rfl (covS_box 1 rfl (covS_box 0 rfl covS_nil)))) rfl rfl ?_
  rintro W65 hm64 hg66
  rw [hz.out]
  have HM67 := Lib.hid hm64
  clear hm64
  simp only [Act.put, List.setIfInBounds_toArray, List.set_cons_succ, List.set_cons_zero]
  refine wpS_this [48, 49, 50] rfl (by kernel_rfl) (by simp only [pickL, nthL, List.cons_append, List.nil_append]; rfl) ?_
  repeat (go_big_quiet_step (fail))
  refine wpQuiet_nil ?_
  refine wpS_does0 (i := 51) (d := some 60) (rem := [_, _, _, _]) (out := [_, _, _, _]) rfl (by rfl) rfl Try.call19 (vawake_d)  HM67.out [] rfl (covS_box 3 rfl (covS_box 2 rfl (covS_box 1 rfl (covS_box 0 rfl covS_nil)))) rfl rfl ?_
  rintro W69 hm68 hg70
  have HM71 := Lib.hid hm68
  clear hm68
  simp only [Act.put, List.setIfInBounds_toArray, List.set_cons_succ, List.set_cons_zero]
  refine wpS_this [52, 53] rfl (by kernel_rfl) (by simp only [pickL, nthL, List.cons_append, List.nil_append]; rfl) ?_
  repeat (go_big_quiet_step (fail))
  refine wpQuiet_nil ?_
  refine wpS_nil ?_
  refine then_normal ?_
  refine wp_ret ?_
  refine bodyPost_ret (results_tmp rfl _ _ _) rfl ?_
  exact does_ret (Mem.only (M := []) HM71.out [] rfl) rfl rfl

end Go.Proofs.Ytlcmlecamfmadaa
