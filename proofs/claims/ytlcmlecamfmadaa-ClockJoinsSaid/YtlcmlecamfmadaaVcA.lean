/- Clock: awake. -/
import Derived.Test.YtlcmlecamfmadaaVcL
namespace Go.Proofs.Ytlcmlecamfmadaa
open Go Go.RowKit Go.BigFrame

set_option maxHeartbeats 4000000 in
set_option maxRecDepth 100000 in
theorem vawake_d  : Does Try.prog 19 #[] [] (.bool true) [] := by
  intro w H hp
  have HM0 := Lib.hid (mem_refl hp)
  clear hp
  go_enter Try.func19, Try.ntmps19
  refine wp_seq ?_
  refine wp_region_N [(0, 1)] (by kernel_rfl) ?_
  refine wpS_this [0] rfl (by kernel_rfl) (by simp only [pickL, nthL, List.cons_append, List.nil_append]; rfl) ?_
  repeat (go_big_quiet_step (fail))
  refine wpQuiet_nil ?_
  refine wpS_nil ?_
  refine then_normal ?_
  refine wp_seq ?_
  refine wp_region_N [(0, 1), (1, 1), (2, 3), (3, 3), (4, 3)] (by kernel_rfl) ?_
  refine wpS_this [0, 1] rfl (by kernel_rfl) (by simp only [pickL, nthL, List.cons_append, List.nil_append]; rfl) ?_
  repeat (go_big_quiet_step (fail))
  refine wpQuiet_nil ?_
  refine wpS_does2 (i := 2) (d := some 4) (rem := []) (out := []) rfl (by rfl) rfl Try.call15 (cwith_d (fun _ => 0) 0 2) rfl rfl HM0.out [] rfl covS_nil rfl rfl ?_
  rintro W2 hm1 -
  have HM3 := Lib.hid hm1
  clear hm1
  simp only [Act.put, List.setIfInBounds_toArray, List.set_cons_succ, List.set_cons_zero]
  refine wpS_alloc (i := 3) (dd := 1) (z := vV (fun _ => 0)) (cs := (vcC (fun _ => 0)).toArray) rfl (by rfl) rfl (by kernel_rfl) rfl HM3.out covS_nil rfl ?_
  rintro b6 W5 hm4 -
  have HM7 := Lib.hid hm4
  clear hm4
  simp only [Act.put, List.setIfInBounds_toArray, List.set_cons_succ, List.set_cons_zero]
  refine wpS_storeA (i := 4) (L2 := []) (cs' := vcC ((withV (fun _ => 0) (0, 2)))) rfl (by rfl) rfl rfl rfl (by kernel_rfl) (vcC_one _) HM7.out 0 rfl rfl (by kernel_rfl) (by kernel_rfl) covS_nil rfl ?_
  rintro W9 hm8 -
  have HM10 := Lib.hid hm8
  clear hm8
  refine wpS_nil ?_
  refine then_normal ?_
  refine wp_seq ?_
  refine wp_region_N [(0, 1), (1, 1), (2, 3), (3, 1), (4, 1), (5, 1), (6, 3), (7, 1), (8, 1), (9, 1), (10, 1), (11, 1), (12, 3), (13, 1), (14, 1)] (by kernel_rfl) ?_
  refine wpS_loadA (i := 0) (d := some 5) (cells := vcC ((withV (fun _ => 0) (0, 2)))) rfl (by rfl) rfl rfl (HM10.out.cells0 0 rfl) Try.underlying23 rfl (by kernel_rfl) rfl ?_
  simp only [Act.put, List.setIfInBounds_toArray, List.set_cons_succ, List.set_cons_zero]
  refine wpS_this [1] rfl (by kernel_rfl) (by simp only [pickL, nthL, List.cons_append, List.nil_append]; rfl) ?_
  repeat (go_big_quiet_step (fail))
  refine wpQuiet_nil ?_
  refine wpS_does2 (i := 2) (d := some 7) (rem := [_]) (out := [_]) rfl (by rfl) rfl Try.call13 (chas_d (withV (fun _ => 0) (0, 2)) 0 2) rfl rfl HM10.out [] rfl covS_nil rfl rfl ?_
  rintro W12 hm11 -
  rw [show hasV (withV (fun _ => 0) (0, 2)) (0, 2) = true from by decide +kernel]
  have HM13 := Lib.hid hm11
  clear hm11
  simp only [Act.put, List.setIfInBounds_toArray, List.set_cons_succ, List.set_cons_zero]
  refine wpS_this [3] rfl (by kernel_rfl) (by simp only [pickL, nthL, List.cons_append, List.nil_append]; rfl) ?_
  repeat (go_big_quiet_step (fail))
  refine wpQuiet_nil ?_
  refine wpS_loadA (i := 4) (d := some 9) (cells := vcC ((withV (fun _ => 0) (0, 2)))) rfl (by rfl) rfl rfl (HM13.out.cells0 0 rfl) Try.underlying23 rfl (by kernel_rfl) rfl ?_
  simp only [Act.put, List.setIfInBounds_toArray, List.set_cons_succ, List.set_cons_zero]
  refine wpS_this [5] rfl (by kernel_rfl) (by simp only [pickL, nthL, List.cons_append, List.nil_append]; rfl) ?_
  repeat (go_big_quiet_step (fail))
  refine wpQuiet_nil ?_
  refine wpS_does2 (i := 6) (d := some 11) (rem := [_]) (out := [_]) rfl (by rfl) rfl Try.call13 (chas_d (withV (fun _ => 0) (0, 2)) 0 3) rfl rfl HM13.out [] rfl covS_nil rfl rfl ?_
  rintro W15 hm14 -
  rw [show hasV (withV (fun _ => 0) (0, 2)) (0, 3) = false from by decide +kernel]
  have HM16 := Lib.hid hm14
  clear hm14
  simp only [Act.put, List.setIfInBounds_toArray, List.set_cons_succ, List.set_cons_zero]
  refine wpS_this [7, 8, 9, 10] rfl (by kernel_rfl) (by simp only [pickL, nthL, List.cons_append, List.nil_append]; rfl) ?_
  repeat (go_big_quiet_step (fail))
  refine wpQuiet_nil ?_
  refine wpS_loadA (i := 11) (d := some 16) (cells := vcC ((withV (fun _ => 0) (0, 2)))) rfl (by rfl) rfl rfl (HM16.out.cells0 0 rfl) Try.underlying23 rfl (by kernel_rfl) rfl ?_
  simp only [Act.put, List.setIfInBounds_toArray, List.set_cons_succ, List.set_cons_zero]
  refine wpS_does2 (i := 12) (d := some 17) (rem := [_]) (out := [_]) rfl (by rfl) rfl Try.call11 (cbelow_d (fun _ => 0) (withV (fun _ => 0) (0, 2))) rfl rfl HM16.out [] rfl covS_nil rfl rfl ?_
  rintro W18 hm17 -
  rw [show belowV (fun _ => 0) (withV (fun _ => 0) (0, 2)) = true from by decide +kernel]
  have HM19 := Lib.hid hm17
  clear hm17
  simp only [Act.put, List.setIfInBounds_toArray, List.set_cons_succ, List.set_cons_zero]
  refine wpS_this [13, 14] rfl (by kernel_rfl) (by simp only [pickL, nthL, List.cons_append, List.nil_append]; rfl) ?_
  repeat (go_big_quiet_step (fail))
  refine wpQuiet_nil ?_
  refine wpS_nil ?_
  refine then_normal ?_
  refine wp_ret ?_
  refine bodyPost_ret (results_tmp rfl _ _ _) rfl ?_
  exact does_ret (Mem.only (M := []) HM19.out [] rfl) rfl rfl

end Go.Proofs.Ytlcmlecamfmadaa
