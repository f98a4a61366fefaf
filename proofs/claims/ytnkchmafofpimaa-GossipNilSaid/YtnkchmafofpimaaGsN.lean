/- GossipNil. -/
import Derived.Test.YtnkchmafofpimaaGsY
import Derived.Test.YtnkchmafofpimaaGsL
namespace Go.Proofs.Ytnkchmafofpimaa
open Go Go.RowKit Go.BigFrame

theorem same_no : sameR noR noR = true := by decide +kernel
set_option maxHeartbeats 4000000 in
set_option maxRecDepth 100000 in
theorem nil_d (y : CallG) : Does Try.prog 4 #[.agg (CallG.enc y).toArray] [] (.bool true) [] := by
  intro w H hp
  have HM0 := Lib.hid (mem_refl hp)
  clear hp
  go_enter Try.func4, Try.ntmps4
  refine wp_seq ?_
  refine wp_region_N [(0, 3), (1, 1)] (by kernel_rfl) ?_
  refine wpS_boxA (i := 0) (dd := 1) rfl (by rfl) rfl rfl HM0.out covS_nil rfl ?_
  rintro b3 W2 hm1 -
  have HM4 := Lib.hid hm1
  clear hm1
  simp only [Act.put, List.setIfInBounds_toArray, List.set_cons_succ, List.set_cons_zero]
  refine wpS_this [1] rfl (by kernel_rfl) (by simp only [pickL, nthL, List.cons_append, List.nil_append]; rfl) ?_
  repeat (go_big_quiet_step (fail))
  refine wpQuiet_nil ?_
  refine wpS_nil ?_
  refine then_normal ?_
  refine wp_seq ?_
  refine wp_seq ?_
  cases hl' : litB [y]
  · have hl := Lib.hid hl'
    clear hl'
    refine wp_region_N [(0, 1), (1, 3), (2, 3), (3, 1)] (by kernel_rfl) ?_
    refine wpS_loadA (i := 0) (d := some 6) (cells := CallG.enc y) rfl (by rfl) rfl rfl (HM4.out.sub 0 rfl (fun k u h => by rw [Nat.zero_add]; exact h)) Try.underlying40 rfl (by kernel_rfl) rfl ?_
    simp only [Act.put, List.setIfInBounds_toArray, List.set_cons_succ, List.set_cons_zero]
    refine wpS_buildN elemG (i := 1) (dd := 7) (n := 1) (xs := [y]) (cs := (CallG.enc y ++ []).toArray) rfl (by rfl) (fun _ => by kernel_rfl) rfl rfl HM4.out covS_nil rfl ?_
    rintro b7 W8 hm9 -
    have HM10 := Lib.hid hm9
    clear hm9
    simp only [Act.put, List.setIfInBounds_toArray, List.set_cons_succ, List.set_cons_zero]
    refine wpS_does1 (i := 2) (d := some 8) (rem := [_]) (out := [_, _]) rfl (by rfl) rfl Try.call8 (light_d (rowT elemG _ _) _ [y] rowOwnE) rfl HM10.out [0] rfl covS_nil rfl rfl ?_
    rintro W12 hm11 -
    rw [hl.out]
    have HM13 := Lib.hid hm11
    clear hm11
    simp only [Act.put, List.setIfInBounds_toArray, List.set_cons_succ, List.set_cons_zero]
    refine wpS_this [3] rfl (by kernel_rfl) (by simp only [pickL, nthL, List.cons_append, List.nil_append]; rfl) ?_
    repeat (go_big_quiet_step (fail))
    refine wpQuiet_nil ?_
    refine wpS_nil ?_
    refine then_normal ?_
    refine wp_cond_true rfl ?_
    refine wp_seq ?_
    refine wp_region_N [(0, 3), (1, 1)] (by kernel_rfl) ?_
    refine wpS_does0 (i := 0) (d := some 10) (rem := [_, _]) (out := [_, _]) rfl (by rfl) rfl Try.call9 (awake_d)  HM13.out [] rfl covS_nil rfl rfl ?_
    rintro W15 hm14 -
    have HM16 := Lib.hid hm14
    clear hm14
    simp only [Act.put, List.setIfInBounds_toArray, List.set_cons_succ, List.set_cons_zero]
    refine wpS_this [1] rfl (by kernel_rfl) (by simp only [pickL, nthL, List.cons_append, List.nil_append]; rfl) ?_
    repeat (go_big_quiet_step (fail))
    refine wpQuiet_nil ?_
    refine wpS_nil ?_
    refine then_normal ?_
    refine wp_ret ?_
    refine then_ret ?_
    refine bodyPost_ret (results_tmp rfl _ _ _) rfl ?_
    exact does_ret (Mem.only (M := []) HM16.out [] rfl) rfl rfl
  · have hl := Lib.hid hl'
    clear hl'
    refine wp_region_N [(0, 1), (1, 3), (2, 3), (3, 1)] (by kernel_rfl) ?_
    refine wpS_loadA (i := 0) (d := some 6) (cells := CallG.enc y) rfl (by rfl) rfl rfl (HM4.out.sub 0 rfl (fun k u h => by rw [Nat.zero_add]; exact h)) Try.underlying40 rfl (by kernel_rfl) rfl ?_
    simp only [Act.put, List.setIfInBounds_toArray, List.set_cons_succ, List.set_cons_zero]
    refine wpS_buildN elemG (i := 1) (dd := 7) (n := 1) (xs := [y]) (cs := (CallG.enc y ++ []).toArray) rfl (by rfl) (fun _ => by kernel_rfl) rfl rfl HM4.out covS_nil rfl ?_
    rintro b19 W20 hm21 -
    have HM22 := Lib.hid hm21
    clear hm21
    simp only [Act.put, List.setIfInBounds_toArray, List.set_cons_succ, List.set_cons_zero]
    refine wpS_does1 (i := 2) (d := some 8) (rem := [_]) (out := [_, _]) rfl (by rfl) rfl Try.call8 (light_d (rowT elemG _ _) _ [y] rowOwnE) rfl HM22.out [0] rfl covS_nil rfl rfl ?_
    rintro W24 hm23 -
    rw [hl.out]
    have HM25 := Lib.hid hm23
    clear hm23
    simp only [Act.put, List.setIfInBounds_toArray, List.set_cons_succ, List.set_cons_zero]
    refine wpS_this [3] rfl (by kernel_rfl) (by simp only [pickL, nthL, List.cons_append, List.nil_append]; rfl) ?_
    repeat (go_big_quiet_step (fail))
    refine wpQuiet_nil ?_
    refine wpS_nil ?_
    refine then_normal ?_
    refine wp_cond_false rfl ?_
    refine wp_skip ?_
    refine then_normal ?_
    refine wp_seq ?_
    refine wp_region_N [(0, 1)] (by kernel_rfl) ?_
    refine wpS_this [0] rfl (by kernel_rfl) (by simp only [pickL, nthL, List.cons_append, List.nil_append]; rfl) ?_
    repeat (go_big_quiet_step (fail))
    refine wpQuiet_nil ?_
    refine wpS_nil ?_
    refine then_normal ?_
    refine wp_seq ?_
    refine wp_region_N [(0, 1), (1, 1), (2, 1), (3, 1), (4, 1), (5, 3)] (by kernel_rfl) ?_
    refine wpS_this [0, 1] rfl (by kernel_rfl) (by simp only [pickL, nthL, List.cons_append, List.nil_append]; rfl) ?_
    repeat (go_big_quiet_step (fail))
    refine wpQuiet_nil ?_
    refine wpS_load1 (i := 2) (d := some 13) (u := .int .i64 y.frm) rfl (by rfl) rfl rfl (HM25.out.sub1 1 rfl rfl) Try.underlying3 rfl rfl ?_
    simp only [Act.put, List.setIfInBounds_toArray, List.set_cons_succ, List.set_cons_zero]
    refine wpS_this [3] rfl (by kernel_rfl) (by simp only [pickL, nthL, List.cons_append, List.nil_append]; rfl) ?_
    repeat (go_big_quiet_step (fail))
    refine wpQuiet_nil ?_
    refine wpS_loadA (i := 4) (d := some 15) (cells := rgC y.r (.slice y.p y.n y.c)) rfl (by rfl) rfl rfl (HM25.out.sub 1 rfl (fun _ _ h => sub_app [_, _] _ [_, _] h)) Try.underlying37 rfl (by kernel_rfl) rfl ?_
    simp only [Act.put, List.setIfInBounds_toArray, List.set_cons_succ, List.set_cons_zero]
    refine wpS_does3 (i := 5) (d := some 16) (rem := [_, _]) (out := [_, _]) rfl (by rfl) rfl Try.call14 (gheard0_d _ _ _) rfl rfl rfl HM25.out [] rfl covS_nil rfl rfl ?_
    rintro W27 hm26 -
    have HM28 := Lib.hid hm26
    clear hm26
    simp only [Act.put, List.setIfInBounds_toArray, List.set_cons_succ, List.set_cons_zero]
    refine wpS_nil ?_
    refine then_normal ?_
    refine wp_seq ?_
    refine wp_region_N [(0, 1), (1, 1), (2, 1), (3, 3), (4, 1), (5, 1), (6, 1), (7, 3), (8, 3), (9, 1)] (by kernel_rfl) ?_
    refine wpS_this [0, 1] rfl (by kernel_rfl) (by simp only [pickL, nthL, List.cons_append, List.nil_append]; rfl) ?_
    repeat (go_big_quiet_step (fail))
    refine wpQuiet_nil ?_
    refine wpS_load1 (i := 2) (d := some 20) (u := .int .i64 y.frm) rfl (by rfl) rfl rfl (HM28.out.sub1 1 rfl rfl) Try.underlying3 rfl rfl ?_
    simp only [Act.put, List.setIfInBounds_toArray, List.set_cons_succ, List.set_cons_zero]
    refine wpS_does2 (i := 3) (d := some 21) (rem := [_, _]) (out := [_, _]) rfl (by rfl) rfl Try.call16 (gknows0_d _) rfl rfl HM28.out [] rfl covS_nil rfl rfl ?_
    rintro W30 hm29 -
    have HM31 := Lib.hid hm29
    clear hm29
    simp only [Act.put, List.setIfInBounds_toArray, List.set_cons_succ, List.set_cons_zero]
    refine wpS_this [4, 5, 6] rfl (by kernel_rfl) (by simp only [pickL, nthL, List.cons_append, List.nil_append]; rfl) ?_
    repeat (go_big_quiet_step (fail))
    refine wpQuiet_nil ?_
    refine wpS_alloc (i := 7) (dd := 4) (z := rgV noR (.slice none 0 0)) (cs := (rgC noR (.slice none 0 0)).toArray) rfl (by rfl) rfl (by kernel_rfl) rfl HM31.out covS_nil rfl ?_
    rintro b34 W33 hm32 -
    have HM35 := Lib.hid hm32
    clear hm32
    simp only [Act.put, List.setIfInBounds_toArray, List.set_cons_succ, List.set_cons_zero]
    refine wpS_storeA (i := 8) (L2 := [_, _]) (cs' := rgC (noR) (.slice none 0 0)) rfl (by rfl) rfl rfl rfl (by kernel_rfl) (rgC_one _ _ _) HM35.out 0 rfl rfl (by kernel_rfl) (by kernel_rfl) covS_nil rfl ?_
    rintro W37 hm36 -
    have HM38 := Lib.hid hm36
    clear hm36
    refine wpS_this [9] rfl (by kernel_rfl) (by simp only [pickL, nthL, List.cons_append, List.nil_append]; rfl) ?_
    repeat (go_big_quiet_step (fail))
    refine wpQuiet_nil ?_
    refine wpS_nil ?_
    refine then_normal ?_
    refine wp_seq ?_
    refine wp_region_N [(0, 1), (1, 1), (2, 1), (3, 1), (4, 1), (5, 1), (6, 1), (7, 3), (8, 1), (9, 1), (10, 1), (11, 1), (12, 1), (13, 1), (14, 1), (15, 1), (16, 3), (17, 1), (18, 1), (19, 3), (20, 1), (21, 1)] (by kernel_rfl) ?_
    refine wpS_this [0, 1] rfl (by kernel_rfl) (by simp only [pickL, nthL, List.cons_append, List.nil_append]; rfl) ?_
    repeat (go_big_quiet_step (fail))
    refine wpQuiet_nil ?_
    refine wpS_loadA (i := 2) (d := some 26) (cells := rgC y.r (.slice y.p y.n y.c)) rfl (by rfl) rfl rfl (HM38.out.sub 2 rfl (fun _ _ h => sub_app [_, _] _ [_, _] h)) Try.underlying37 rfl (by kernel_rfl) rfl ?_
    simp only [Act.put, List.setIfInBounds_toArray, List.set_cons_succ, List.set_cons_zero]
    refine wpS_this [3] rfl (by kernel_rfl) (by simp only [pickL, nthL, List.cons_append, List.nil_append]; rfl) ?_
    repeat (go_big_quiet_step (fail))
    refine wpQuiet_nil ?_
    refine wpS_load1 (i := 4) (d := some 28) (u := .slice y.pp y.pn y.pc) rfl (by rfl) rfl rfl (HM38.out.sub1 2 rfl rfl) Try.underlying30 rfl rfl ?_
    simp only [Act.put, List.setIfInBounds_toArray, List.set_cons_succ, List.set_cons_zero]
    refine wpS_this [5] rfl (by kernel_rfl) (by simp only [pickL, nthL, List.cons_append, List.nil_append]; rfl) ?_
    repeat (go_big_quiet_step (fail))
    refine wpQuiet_nil ?_
    refine wpS_load1 (i := 6) (d := some 30) (u := .int .u64 y.draw) rfl (by rfl) rfl rfl (HM38.out.sub1 2 rfl rfl) Try.underlying38 rfl rfl ?_
    simp only [Act.put, List.setIfInBounds_toArray, List.set_cons_succ, List.set_cons_zero]
    refine wpS_does4 (i := 7) (d := some 31) (rem := [_, _, _]) (out := [_, _, _]) rfl (by rfl) rfl Try.call12 (gturn0_d _ _ _ _) rfl rfl rfl rfl HM38.out [] rfl covS_nil rfl rfl ?_
    rintro W40 hm39 -
    have HM41 := Lib.hid hm39
    clear hm39
    simp only [Act.put, List.setIfInBounds_toArray, List.set_cons_succ, List.set_cons_zero]
    refine wpS_this [8, 9, 10, 11, 12, 13] rfl (by kernel_rfl) (by simp only [pickL, nthL, List.cons_append, List.nil_append]; rfl) ?_
    repeat (go_big_quiet_step (fail))
    refine wpQuiet_nil ?_
    refine wpS_loadA (i := 14) (d := some 38) (cells := rgC (noR) (.slice none 0 0)) rfl (by rfl) rfl rfl (HM41.out.sub 0 rfl (fun k u h => by rw [Nat.zero_add]; exact h)) Try.underlying37 rfl (by kernel_rfl) rfl ?_
    simp only [Act.put, List.setIfInBounds_toArray, List.set_cons_succ, List.set_cons_zero]
    refine wpS_read (i := 15) (d := some 39) (v := rgV noR (.slice none 0 0)) rfl (by rfl) (by kernel_rfl) rfl ?_
    simp only [Act.put, List.setIfInBounds_toArray, List.set_cons_succ, List.set_cons_zero]
    refine wpS_does2 (i := 16) (d := some 40) (rem := [_, _]) (out := [_, _, _]) rfl (by rfl) rfl Try.call18 (gsame_d _ _ noR (srcNil _) (Nat.zero_le _) _ noR (srcNil _) (Nat.zero_le _)) rfl rfl HM41.out [0] rfl covS_nil rfl rfl ?_
    rintro W43 hm42 -
    rw [same_no]
    have HM44 := Lib.hid hm42
    clear hm42
    simp only [Act.put, List.setIfInBounds_toArray, List.set_cons_succ, List.set_cons_zero]
    refine wpS_this [17, 18] rfl (by kernel_rfl) (by simp only [pickL, nthL, List.cons_append, List.nil_append]; rfl) ?_
    repeat (go_big_quiet_step (fail))
    refine wpQuiet_nil ?_
    refine wpS_does0 (i := 19) (d := some 43) (rem := [_, _, _]) (out := [_, _, _]) rfl (by rfl) rfl Try.call9 (awake_d)  HM44.out [] rfl covS_nil rfl rfl ?_
    rintro W46 hm45 -
    have HM47 := Lib.hid hm45
    clear hm45
    simp only [Act.put, List.setIfInBounds_toArray, List.set_cons_succ, List.set_cons_zero]
    refine wpS_this [20, 21] rfl (by kernel_rfl) (by simp only [pickL, nthL, List.cons_append, List.nil_append]; rfl) ?_
    repeat (go_big_quiet_step (fail))
    refine wpQuiet_nil ?_
    refine wpS_nil ?_
    refine then_normal ?_
    refine wp_ret ?_
    refine bodyPost_ret (results_tmp rfl _ _ _) rfl ?_
    exact does_ret (Mem.only (M := []) HM47.out [] rfl) rfl rfl

end Go.Proofs.Ytnkchmafofpimaa
