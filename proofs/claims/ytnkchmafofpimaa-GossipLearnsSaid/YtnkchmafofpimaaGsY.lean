/- The laws' awake. -/
import Derived.Test.YtnkchmafofpimaaGsW
import Derived.Test.YtnkchmafofpimaaGsX
namespace Go.Proofs.Ytnkchmafofpimaa
open Go Go.RowKit Go.BigFrame

theorem may_one : mayR (oneR 0) = true := by decide +kernel
theorem awake_first : turnA (newT 0) (oneR 0) [2] 5 = 2 := by decide +kernel
theorem awake_next : turnA (heardT (turnT (newT 0) [2] 5) 2 (oneR 0)) (oneR 0) [2] 5 = -1 := by decide +kernel
set_option maxHeartbeats 4000000 in
set_option maxRecDepth 100000 in
theorem awake_d  : Does Try.prog 9 #[] [] (.bool true) [] := by
  intro w H hp
  have HM0 := Lib.hid (mem_refl hp)
  clear hp
  go_enter Try.func9, Try.ntmps9
  refine wp_seq ?_
  refine wp_region_N [(0, 1)] (by kernel_rfl) ?_
  refine wpS_this [0] rfl (by kernel_rfl) (by simp only [pickL, nthL, List.cons_append, List.nil_append]; rfl) ?_
  repeat (go_big_quiet_step (fail))
  refine wpQuiet_nil ?_
  refine wpS_nil ?_
  refine then_normal ?_
  refine wp_seq ?_
  refine wp_region_N [(0, 3), (1, 1), (2, 1), (3, 1), (4, 3), (5, 3), (6, 1)] (by kernel_rfl) ?_
  refine wpS_doesU1 (i := 0) (d := some 6) (rem := []) rfl (by rfl) rfl Try.call23 (rfirst_d 0 (oneR 0) true rfl) rfl HM0.out [] rfl covS_nil (fun _ => rfl) rfl ?_
  rintro u3 W2 hm1 -
  obtain ⟨px, cx, rfl, hm1q⟩ := Mem.ringE (n := 0) rfl hm1
  clear hm1
  have HM4 := Lib.hid hm1q
  clear hm1q
  simp only [Act.put, List.setIfInBounds_toArray, List.set_cons_succ, List.set_cons_zero]
  refine wpS_this [1, 2, 3] rfl (by kernel_rfl) (by simp only [pickL, nthL, List.cons_append, List.nil_append]; rfl) ?_
  repeat (go_big_quiet_step (fail))
  refine wpQuiet_nil ?_
  refine wpS_alloc (i := 4) (dd := 1) (z := rgV noR (.slice none 0 0)) (cs := (rgC noR (.slice none 0 0)).toArray) rfl (by rfl) rfl (by kernel_rfl) rfl HM4.out covS_nil rfl ?_
  rintro b7 W6 hm5 -
  have HM8 := Lib.hid hm5
  clear hm5
  simp only [Act.put, List.setIfInBounds_toArray, List.set_cons_succ, List.set_cons_zero]
  refine wpS_storeA (i := 5) (L2 := [_]) (cs' := rgC (oneR 0) (.slice px 0 cx)) rfl (by rfl) rfl rfl rfl (by kernel_rfl) (rgC_one _ _ _) HM8.out 0 rfl rfl (by kernel_rfl) (by kernel_rfl) covS_nil rfl ?_
  rintro W10 hm9 -
  have HM11 := Lib.hid hm9
  clear hm9
  refine wpS_this [6] rfl (by kernel_rfl) (by simp only [pickL, nthL, List.cons_append, List.nil_append]; rfl) ?_
  repeat (go_big_quiet_step (fail))
  refine wpQuiet_nil ?_
  refine wpS_nil ?_
  refine then_normal ?_
  refine wp_seq ?_
  refine wp_region_N [(0, 3), (1, 1)] (by kernel_rfl) ?_
  refine wpS_doesU1 (i := 0) (d := some 9) (rem := [_]) rfl (by rfl) rfl Try.call10 (gnew_d 0 rfl (rowT elemI (.slice px 0 cx) (oneR 0).p.2.2)) rfl HM11.out [1] rfl covS_nil (fun _ => rfl) rfl ?_
  rintro u14 W13 hm12 -
  obtain ⟨d, rfl, hm12q⟩ := Mem.someGt hm12
  clear hm12
  have HM15 := Lib.hid hm12q
  clear hm12q
  simp only [Act.put, List.setIfInBounds_toArray, List.set_cons_succ, List.set_cons_zero]
  refine wpS_this [1] rfl (by kernel_rfl) (by simp only [pickL, nthL, List.cons_append, List.nil_append]; rfl) ?_
  repeat (go_big_quiet_step (fail))
  refine wpQuiet_nil ?_
  refine wpS_nil ?_
  refine then_normal ?_
  refine wp_seq ?_
  refine wp_region_N [(0, 1), (1, 1), (2, 3), (3, 3), (4, 1)] (by kernel_rfl) ?_
  refine wpS_this [0] rfl (by kernel_rfl) (by simp only [pickL, nthL, List.cons_append, List.nil_append]; rfl) ?_
  repeat (go_big_quiet_step (fail))
  refine wpQuiet_nil ?_
  refine wpS_loadA (i := 1) (d := some 11) (cells := rgC (oneR 0) (.slice px 0 cx)) rfl (by rfl) rfl rfl (HM15.out.sub 1 rfl (fun k u h => by rw [Nat.zero_add]; exact h)) Try.underlying37 rfl (by kernel_rfl) rfl ?_
  simp only [Act.put, List.setIfInBounds_toArray, List.set_cons_succ, List.set_cons_zero]
  refine wpS_buildN elemI (i := 2) (dd := 12) (n := 1) (xs := [2]) (cs := #[.int .i64 2]) rfl (by rfl) (fun _ => by kernel_rfl) rfl rfl HM15.out covS_nil rfl ?_
  rintro b18 W19 hm20 -
  have HM21 := Lib.hid hm20
  clear hm20
  simp only [Act.put, List.setIfInBounds_toArray, List.set_cons_succ, List.set_cons_zero]
  refine wpS_does4 (i := 3) (d := some 13) (rem := [_]) (out := [_, _, _]) rfl (by rfl) rfl Try.call12 (gturnP_d d (newT 0) (rowT elemI (.slice px 0 cx) (oneR 0).p.2.2) _ _ (oneR 0) rowT_reads (Nat.zero_le _) _ [2] rowT_reads (Nat.le_of_ble_eq_true rfl) 5 (by decide) (by decide)) rfl rfl rfl rfl HM21.out [1, 0] rfl covS_nil rfl rfl ?_
  rintro W23 hm22 -
  rw [awake_first]
  have HM24 := Lib.hid hm22
  clear hm22
  simp only [Act.put, List.setIfInBounds_toArray, List.set_cons_succ, List.set_cons_zero]
  refine wpS_this [4] rfl (by kernel_rfl) (by simp only [pickL, nthL, List.cons_append, List.nil_append]; rfl) ?_
  repeat (go_big_quiet_step (fail))
  refine wpQuiet_nil ?_
  refine wpS_nil ?_
  refine then_normal ?_
  refine wp_seq ?_
  refine wp_region_N [(0, 1), (1, 1), (2, 3)] (by kernel_rfl) ?_
  refine wpS_this [0] rfl (by kernel_rfl) (by simp only [pickL, nthL, List.cons_append, List.nil_append]; rfl) ?_
  repeat (go_big_quiet_step (fail))
  refine wpQuiet_nil ?_
  refine wpS_loadA (i := 1) (d := some 15) (cells := rgC (oneR 0) (.slice px 0 cx)) rfl (by rfl) rfl rfl (HM24.out.sub 2 rfl (fun k u h => by rw [Nat.zero_add]; exact h)) Try.underlying37 rfl (by kernel_rfl) rfl ?_
  simp only [Act.put, List.setIfInBounds_toArray, List.set_cons_succ, List.set_cons_zero]
  refine wpS_does3 (i := 2) (d := some 16) (rem := [_, _]) (out := [_, _, _]) rfl (by rfl) rfl Try.call14 (gheard_d d (turnT (newT 0) [2] 5) (rowT elemI (.slice px 0 cx) (oneR 0).p.2.2) 2 _ (oneR 0) rowT_reads (Nat.zero_le _)) rfl rfl rfl HM24.out [0] rfl covS_nil rfl rfl ?_
  rintro W26 hm25 -
  have HM27 := Lib.hid hm25
  clear hm25
  simp only [Act.put, List.setIfInBounds_toArray, List.set_cons_succ, List.set_cons_zero]
  refine wpS_nil ?_
  refine then_normal ?_
  refine wp_seq ?_
  refine wp_region_N [(0, 1), (1, 1), (2, 1), (3, 1), (4, 1), (5, 3), (6, 3), (7, 1), (8, 1), (9, 1)] (by kernel_rfl) ?_
  refine wpS_this [0, 1, 2, 3] rfl (by kernel_rfl) (by simp only [pickL, nthL, List.cons_append, List.nil_append]; rfl) ?_
  repeat (go_big_quiet_step (fail))
  refine wpQuiet_nil ?_
  refine wpS_loadA (i := 4) (d := some 21) (cells := rgC (oneR 0) (.slice px 0 cx)) rfl (by rfl) rfl rfl (HM27.out.sub 2 rfl (fun k u h => by rw [Nat.zero_add]; exact h)) Try.underlying37 rfl (by kernel_rfl) rfl ?_
  simp only [Act.put, List.setIfInBounds_toArray, List.set_cons_succ, List.set_cons_zero]
  refine wpS_buildN elemI (i := 5) (dd := 22) (n := 1) (xs := [2]) (cs := #[.int .i64 2]) rfl (by rfl) (fun _ => by kernel_rfl) rfl rfl HM27.out covS_nil rfl ?_
  rintro b30 W31 hm32 -
  have HM33 := Lib.hid hm32
  clear hm32
  simp only [Act.put, List.setIfInBounds_toArray, List.set_cons_succ, List.set_cons_zero]
  refine wpS_does4 (i := 6) (d := some 23) (rem := [_, _]) (out := [_, _, _, _]) rfl (by rfl) rfl Try.call12 (gturnP_d d (heardT (turnT (newT 0) [2] 5) 2 (oneR 0)) (rowT elemI (.slice px 0 cx) (oneR 0).p.2.2) _ _ (oneR 0) rowT_reads (Nat.zero_le _) _ [2] rowT_reads (Nat.le_of_ble_eq_true rfl) 5 (by decide) (by decide)) rfl rfl rfl rfl HM33.out [1, 0] rfl covS_nil rfl rfl ?_
  rintro W35 hm34 -
  rw [awake_next]
  have HM36 := Lib.hid hm34
  clear hm34
  simp only [Act.put, List.setIfInBounds_toArray, List.set_cons_succ, List.set_cons_zero]
  refine wpS_this [7, 8, 9] rfl (by kernel_rfl) (by simp only [pickL, nthL, List.cons_append, List.nil_append]; rfl) ?_
  repeat (go_big_quiet_step (fail))
  refine wpQuiet_nil ?_
  refine wpS_nil ?_
  refine then_normal ?_
  refine wp_ret ?_
  refine bodyPost_ret (results_tmp rfl _ _ _) rfl ?_
  exact does_ret (Mem.only (M := []) HM36.out [] rfl) rfl rfl

end Go.Proofs.Ytnkchmafofpimaa
