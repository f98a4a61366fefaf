/- Space: awake. -/
import Derived.Test.YthibiejneggmoaaDoorSpL
namespace Go.Proofs.YthibiejneggmoaaDoor
open Go Go.RowKit Go.BigFrame

set_option maxHeartbeats 4000000 in
set_option maxRecDepth 100000 in
theorem sawake_d  : Does Tryd.prog 4 #[] [] (.bool true) [] := by
  intro w H hp
  have HM0 := Lib.hid (mem_refl hp)
  clear hp
  go_enter Tryd.func4, Tryd.ntmps4
  refine wp_seq ?_
  refine wp_region_N [(0, 1)] (by kernel_rfl) ?_
  refine wpS_this [0] rfl (by kernel_rfl) (by simp only [pickL, nthL, List.cons_append, List.nil_append]; rfl) ?_
  repeat (go_big_quiet_step (fail))
  refine wpQuiet_nil ?_
  refine wpS_nil ?_
  refine then_normal ?_
  refine wp_seq ?_
  refine wp_region_N [(0, 3), (1, 1)] (by kernel_rfl) ?_
  refine wpS_buildN elemI (i := 0) (dd := 2) (n := 3) (xs := [0, 1, 0]) (cs := #[.int .i64 0, .int .i64 1, .int .i64 0]) rfl (by rfl) (fun _ => by kernel_rfl) rfl rfl HM0.out covS_nil rfl ?_
  rintro b3 W4 hm5 -
  have HM6 := Lib.hid hm5
  clear hm5
  simp only [Act.put, List.setIfInBounds_toArray, List.set_cons_succ, List.set_cons_zero]
  refine wpS_this [1] rfl (by kernel_rfl) (by simp only [pickL, nthL, List.cons_append, List.nil_append]; rfl) ?_
  repeat (go_big_quiet_step (fail))
  refine wpQuiet_nil ?_
  refine wpS_nil ?_
  refine then_normal ?_
  refine wp_seq ?_
  refine wp_region_N [(0, 1), (1, 3), (2, 1), (3, 1), (4, 1), (5, 3), (6, 1), (7, 1), (8, 1), (9, 1), (10, 3), (11, 1), (12, 1), (13, 1), (14, 1), (15, 3), (16, 1), (17, 1), (18, 1)] (by kernel_rfl) ?_
  refine wpS_this [0] rfl (by kernel_rfl) (by simp only [pickL, nthL, List.cons_append, List.nil_append]; rfl) ?_
  repeat (go_big_quiet_step (fail))
  refine wpQuiet_nil ?_
  refine wpS_does2 (i := 1) (d := some 4) (rem := []) (out := [_]) rfl (by rfl) rfl Tryd.call7 (spnext_d (rowT elemI _ _) _ [0, 1, 0] rowOwn (by decide) 0) rfl rfl HM6.out [0] rfl covS_nil rfl rfl ?_
  rintro W8 hm7 -
  rw [show nextI [0, 1, 0] 0 = 2 from by decide +kernel]
  have HM9 := Lib.hid hm7
  clear hm7
  simp only [Act.put, List.setIfInBounds_toArray, List.set_cons_succ, List.set_cons_zero]
  refine wpS_this [2, 3, 4] rfl (by kernel_rfl) (by simp only [pickL, nthL, List.cons_append, List.nil_append]; rfl) ?_
  repeat (go_big_quiet_step (fail))
  refine wpQuiet_nil ?_
  refine wpS_does2 (i := 5) (d := some 8) (rem := []) (out := [_]) rfl (by rfl) rfl Tryd.call7 (spnext_d (rowT elemI _ _) _ [0, 1, 0] rowOwn (by decide) 1) rfl rfl HM9.out [0] rfl covS_nil rfl rfl ?_
  rintro W11 hm10 -
  rw [show nextI [0, 1, 0] 1 = 16 from by decide +kernel]
  have HM12 := Lib.hid hm10
  clear hm10
  simp only [Act.put, List.setIfInBounds_toArray, List.set_cons_succ, List.set_cons_zero]
  refine wpS_this [6, 7, 8, 9] rfl (by kernel_rfl) (by simp only [pickL, nthL, List.cons_append, List.nil_append]; rfl) ?_
  repeat (go_big_quiet_step (fail))
  refine wpQuiet_nil ?_
  refine wpS_does2 (i := 10) (d := some 13) (rem := []) (out := [_]) rfl (by rfl) rfl Tryd.call9 (spleast_d (rowT elemI _ _) _ [0, 1, 0] rowOwn (by decide) 0) rfl rfl HM12.out [0] rfl covS_nil rfl rfl ?_
  rintro W14 hm13 -
  rw [show leastI [0, 1, 0] 0 = 2 from by decide +kernel]
  have HM15 := Lib.hid hm13
  clear hm13
  simp only [Act.put, List.setIfInBounds_toArray, List.set_cons_succ, List.set_cons_zero]
  refine wpS_this [11, 12, 13, 14] rfl (by kernel_rfl) (by simp only [pickL, nthL, List.cons_append, List.nil_append]; rfl) ?_
  repeat (go_big_quiet_step (fail))
  refine wpQuiet_nil ?_
  refine wpS_does1 (i := 15) (d := some 18) (rem := []) (out := [_]) rfl (by rfl) rfl Tryd.call13 (sptext_d (rowT elemI _ _) _ [0, 1, 0] rowOwn (by decide)) rfl HM15.out [0] rfl covS_nil rfl rfl ?_
  rintro W17 hm16 -
  rw [show textB (whoL [0, 1, 0]) 16 = ⟨#[48, 49, 48, 45, 45, 45, 45, 45, 45, 45, 45, 45, 45, 45, 45, 45]⟩ from by decide +kernel]
  have HM18 := Lib.hid hm16
  clear hm16
  simp only [Act.put, List.setIfInBounds_toArray, List.set_cons_succ, List.set_cons_zero]
  refine wpS_read (i := 16) (d := some 19) rfl (by rfl) (run_eqS (b := true) (decide_eq_true rfl) rfl rfl rfl) rfl ?_
  simp only [Act.put, List.setIfInBounds_toArray, List.set_cons_succ, List.set_cons_zero]
  refine wpS_this [17, 18] rfl (by kernel_rfl) (by simp only [pickL, nthL, List.cons_append, List.nil_append]; rfl) ?_
  repeat (go_big_quiet_step (fail))
  refine wpQuiet_nil ?_
  refine wpS_nil ?_
  refine then_normal ?_
  refine wp_ret ?_
  refine bodyPost_ret (results_tmp rfl _ _ _) rfl ?_
  exact does_ret (Mem.only (M := []) HM18.out [] rfl) rfl rfl

end Go.Proofs.YthibiejneggmoaaDoor
