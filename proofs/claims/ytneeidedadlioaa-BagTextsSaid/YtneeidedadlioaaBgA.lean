/- Bags: awake. -/
import Derived.Test.YtneeidedadlioaaBgL
namespace Go.Proofs.Ytneeidedadlioaa
open Go Go.RowKit Go.BigFrame

def wa : Bg := putB noB (fun _ => 0) (0, 1) ⟨#[97]⟩
def wb : Bg := putB wa (fun _ => 0) (1, 1) ⟨#[98]⟩
def wc : Bg := putB wb wb.k (0, 2) ⟨#[99]⟩
theorem put_wa : putBR noB (fun _ => 0) (0, 1) ⟨#[97]⟩ = (wa, 0) := by
  unfold putBR
  rw [if_pos (by decide +kernel), if_pos (by decide +kernel)]
  rfl
theorem put_wb : putBR wa (fun _ => 0) (1, 1) ⟨#[98]⟩ = (wb, 0) := by
  unfold putBR
  rw [if_pos (by decide +kernel), if_pos (by decide +kernel)]
  rfl
theorem put_wc : putBR wb wb.k (0, 2) ⟨#[99]⟩ = (wc, 0) := by
  unfold putBR
  rw [if_pos (by decide +kernel), if_pos (by decide +kernel)]
  rfl
theorem wc_one : wc.v[0]? = some ((0, 2), ⟨#[99]⟩) := by decide +kernel
set_option maxHeartbeats 4000000 in
set_option maxRecDepth 100000 in
theorem bawake_d  : Does Try.prog 8 #[] [] (.bool true) [] := by
  intro w H hp
  have HM0 := Lib.hid (mem_refl hp)
  clear hp
  go_enter Try.func8, Try.ntmps8
  refine wp_seq ?_
  refine wp_region_N [(0, 1)] (by kernel_rfl) ?_
  refine wpS_this [0] rfl (by kernel_rfl) (by simp only [pickL, nthL, List.cons_append, List.nil_append]; rfl) ?_
  repeat (go_big_quiet_step (fail))
  refine wpQuiet_nil ?_
  refine wpS_nil ?_
  refine then_normal ?_
  refine wp_seq ?_
  refine wp_region_N [(0, 1), (1, 1), (2, 1), (3, 3), (4, 1), (5, 1), (6, 1), (7, 3), (8, 3), (9, 1)] (by kernel_rfl) ?_
  refine wpS_this [0, 1, 2] rfl (by kernel_rfl) (by simp only [pickL, nthL, List.cons_append, List.nil_append]; rfl) ?_
  repeat (go_big_quiet_step (fail))
  refine wpQuiet_nil ?_
  refine wpS_doesU4 (i := 3) (d := some 11) (rem := []) rfl (by rfl) rfl Try.call16 (DoesU.ofList (bput_d (listT []) _ noB (vNil _) (Nat.zero_le _) (fun _ => 0) 0 1 ⟨#[97]⟩ wa 0 put_wa)) rfl rfl rfl rfl HM0.out [] rfl covS_nil (fun _ => rfl) rfl ?_
  rintro u3 W2 hm1 -
  obtain ⟨px, cx, rfl, hm1q⟩ := Mem.bagE (n := 1) (by decide +kernel) hm1
  clear hm1
  have HM4 := Lib.hid hm1q
  clear hm1q
  simp only [Act.put, List.setIfInBounds_toArray, List.set_cons_succ, List.set_cons_zero]
  refine wpS_this [4, 5, 6] rfl (by kernel_rfl) (by simp only [pickL, nthL, List.cons_append, List.nil_append]; rfl) ?_
  repeat (go_big_quiet_step (fail))
  refine wpQuiet_nil ?_
  refine wpS_alloc (i := 7) (dd := 1) (z := bgV noB.k (.slice none 0 0)) (cs := (bgC noB.k (.slice none 0 0)).toArray) rfl (by rfl) rfl (by kernel_rfl) rfl HM4.out covS_nil rfl ?_
  rintro b7 W6 hm5 -
  have HM8 := Lib.hid hm5
  clear hm5
  simp only [Act.put, List.setIfInBounds_toArray, List.set_cons_succ, List.set_cons_zero]
  refine wpS_storeA (i := 8) (L2 := [_]) (cs' := bgC (wa.k) (.slice px 1 cx)) rfl (by rfl) rfl rfl rfl (by kernel_rfl) (bgC_one _ _ _) HM8.out 0 rfl rfl (by kernel_rfl) (by kernel_rfl) covS_nil rfl ?_
  rintro W10 hm9 -
  have HM11 := Lib.hid hm9
  clear hm9
  refine wpS_this [9] rfl (by kernel_rfl) (by simp only [pickL, nthL, List.cons_append, List.nil_append]; rfl) ?_
  repeat (go_big_quiet_step (fail))
  refine wpQuiet_nil ?_
  refine wpS_nil ?_
  refine then_normal ?_
  refine wp_seq ?_
  refine wp_region_N [(0, 1), (1, 1), (2, 1), (3, 3), (4, 1), (5, 1), (6, 1), (7, 3), (8, 3), (9, 1)] (by kernel_rfl) ?_
  refine wpS_loadA (i := 0) (d := some 15) (cells := bgC (wa.k) (.slice px 1 cx)) rfl (by rfl) rfl rfl (HM11.out.part 0 rfl (bgC_all)) Try.underlying27 rfl (by kernel_rfl) rfl ?_
  simp only [Act.put, List.setIfInBounds_toArray, List.set_cons_succ, List.set_cons_zero]
  refine wpS_this [1, 2] rfl (by kernel_rfl) (by simp only [pickL, nthL, List.cons_append, List.nil_append]; rfl) ?_
  repeat (go_big_quiet_step (fail))
  refine wpQuiet_nil ?_
  refine wpS_doesU4 (i := 3) (d := some 18) (rem := [_]) rfl (by rfl) rfl Try.call16 (bput_d (rowT elemV _ _) _ wa rowT_reads (by decide +kernel) (fun _ => 0) 1 1 ⟨#[98]⟩ wb 0 put_wb) rfl rfl rfl rfl HM11.out [1] rfl covS_nil (fun _ => rfl) rfl ?_
  rintro u14 W13 hm12 -
  obtain ⟨py, cy, rfl, hm12q⟩ := Mem.bagE (n := 2) (by decide +kernel) hm12
  clear hm12
  have HM15 := Lib.hid hm12q
  clear hm12q
  simp only [Act.put, List.setIfInBounds_toArray, List.set_cons_succ, List.set_cons_zero]
  refine wpS_this [4, 5, 6] rfl (by kernel_rfl) (by simp only [pickL, nthL, List.cons_append, List.nil_append]; rfl) ?_
  repeat (go_big_quiet_step (fail))
  refine wpQuiet_nil ?_
  refine wpS_alloc (i := 7) (dd := 3) (z := bgV noB.k (.slice none 0 0)) (cs := (bgC noB.k (.slice none 0 0)).toArray) rfl (by rfl) rfl (by kernel_rfl) rfl HM15.out covS_nil rfl ?_
  rintro b18 W17 hm16 -
  have HM19 := Lib.hid hm16
  clear hm16
  simp only [Act.put, List.setIfInBounds_toArray, List.set_cons_succ, List.set_cons_zero]
  refine wpS_storeA (i := 8) (L2 := [_, _, _]) (cs' := bgC (wb.k) (.slice py 2 cy)) rfl (by rfl) rfl rfl rfl (by kernel_rfl) (bgC_one _ _ _) HM19.out 0 rfl rfl (by kernel_rfl) (by kernel_rfl) covS_nil rfl ?_
  rintro W21 hm20 -
  have HM22 := Lib.hid hm20
  clear hm20
  refine wpS_this [9] rfl (by kernel_rfl) (by simp only [pickL, nthL, List.cons_append, List.nil_append]; rfl) ?_
  repeat (go_big_quiet_step (fail))
  refine wpQuiet_nil ?_
  refine wpS_nil ?_
  refine then_normal ?_
  refine wp_seq ?_
  refine wp_region_N [(0, 1), (1, 1), (2, 1), (3, 1), (4, 3), (5, 1), (6, 1), (7, 1), (8, 3), (9, 3), (10, 1)] (by kernel_rfl) ?_
  refine wpS_loadA (i := 0) (d := some 22) (cells := bgC (wb.k) (.slice py 2 cy)) rfl (by rfl) rfl rfl (HM22.out.part 0 rfl (bgC_all)) Try.underlying27 rfl (by kernel_rfl) rfl ?_
  simp only [Act.put, List.setIfInBounds_toArray, List.set_cons_succ, List.set_cons_zero]
  refine wpS_this [1] rfl (by kernel_rfl) (by simp only [pickL, nthL, List.cons_append, List.nil_append]; rfl) ?_
  repeat (go_big_quiet_step (fail))
  refine wpQuiet_nil ?_
  refine wpS_loadA (i := 2) (d := some 24) (cells := vcC (wb.k)) rfl (by rfl) rfl rfl (HM22.out.part 0 rfl (bgC_vc)) Try.underlying24 rfl (by kernel_rfl) rfl ?_
  simp only [Act.put, List.setIfInBounds_toArray, List.set_cons_succ, List.set_cons_zero]
  refine wpS_this [3] rfl (by kernel_rfl) (by simp only [pickL, nthL, List.cons_append, List.nil_append]; rfl) ?_
  repeat (go_big_quiet_step (fail))
  refine wpQuiet_nil ?_
  refine wpS_doesU4 (i := 4) (d := some 26) (rem := [_, _, _]) rfl (by rfl) rfl Try.call16 (bput_d (rowT elemV _ _) _ wb rowT_reads (by decide +kernel) wb.k 0 2 ⟨#[99]⟩ wc 0 put_wc) rfl rfl rfl rfl HM22.out [1] rfl covS_nil (fun _ => rfl) rfl ?_
  rintro u25 W24 hm23 -
  obtain ⟨pz, cz, rfl, hm23q⟩ := Mem.bagE (n := 1) (by decide +kernel) hm23
  clear hm23
  have HM26 := Lib.hid hm23q
  clear hm23q
  simp only [Act.put, List.setIfInBounds_toArray, List.set_cons_succ, List.set_cons_zero]
  refine wpS_this [5, 6, 7] rfl (by kernel_rfl) (by simp only [pickL, nthL, List.cons_append, List.nil_append]; rfl) ?_
  repeat (go_big_quiet_step (fail))
  refine wpQuiet_nil ?_
  refine wpS_alloc (i := 8) (dd := 5) (z := bgV noB.k (.slice none 0 0)) (cs := (bgC noB.k (.slice none 0 0)).toArray) rfl (by rfl) rfl (by kernel_rfl) rfl HM26.out covS_nil rfl ?_
  rintro b29 W28 hm27 -
  have HM30 := Lib.hid hm27
  clear hm27
  simp only [Act.put, List.setIfInBounds_toArray, List.set_cons_succ, List.set_cons_zero]
  refine wpS_storeA (i := 9) (L2 := [_, _, _, _, _]) (cs' := bgC (wc.k) (.slice pz 1 cz)) rfl (by rfl) rfl rfl rfl (by kernel_rfl) (bgC_one _ _ _) HM30.out 0 rfl rfl (by kernel_rfl) (by kernel_rfl) covS_nil rfl ?_
  rintro W32 hm31 -
  have HM33 := Lib.hid hm31
  clear hm31
  refine wpS_this [10] rfl (by kernel_rfl) (by simp only [pickL, nthL, List.cons_append, List.nil_append]; rfl) ?_
  repeat (go_big_quiet_step (fail))
  refine wpQuiet_nil ?_
  refine wpS_nil ?_
  refine then_normal ?_
  refine wp_seq ?_
  refine wp_region_N [(0, 1), (1, 1), (2, 1), (3, 1), (4, 1), (5, 1), (6, 1), (7, 1), (8, 1), (9, 1), (10, 1), (11, 1), (12, 1), (13, 1), (14, 1), (15, 1), (16, 1), (17, 1), (18, 1), (19, 1), (20, 1), (21, 1), (22, 1), (23, 1), (24, 1), (25, 1), (26, 1), (27, 1), (28, 1), (29, 1), (30, 1)] (by kernel_rfl) ?_
  refine wpS_this [0, 1, 2, 3, 4, 5, 6, 7, 8, 9, 10, 11] rfl (by kernel_rfl) (by simp only [pickL, nthL, List.cons_append, List.nil_append]; rfl) ?_
  repeat (go_big_quiet_step (fail))
  refine wpQuiet_nil ?_
  refine wpS_load1 (i := 12) (d := some 41) (u := .slice py 2 cy) rfl (by rfl) rfl rfl (HM33.out.part1 3 rfl bgC_sl) Try.underlying25 rfl rfl ?_
  simp only [Act.put, List.setIfInBounds_toArray, List.set_cons_succ, List.set_cons_zero]
  refine wpS_this [13, 14, 15, 16, 17] rfl (by kernel_rfl) (by simp only [pickL, nthL, List.cons_append, List.nil_append]; rfl) ?_
  repeat (go_big_quiet_step (fail))
  refine wpQuiet_nil ?_
  refine wpS_load1 (i := 18) (d := some 47) (u := .slice pz 1 cz) rfl (by rfl) rfl rfl (HM33.out.part1 0 rfl bgC_sl) Try.underlying25 rfl rfl ?_
  simp only [Act.put, List.setIfInBounds_toArray, List.set_cons_succ, List.set_cons_zero]
  refine wpS_this [19, 20, 21, 22, 23] rfl (by kernel_rfl) (by simp only [pickL, nthL, List.cons_append, List.nil_append]; rfl) ?_
  repeat (go_big_quiet_step (fail))
  refine wpQuiet_nil ?_
  refine wpS_load1 (i := 24) (d := some 53) (u := .slice pz 1 cz) rfl (by rfl) rfl rfl (HM33.out.part1 0 rfl bgC_sl) Try.underlying25 rfl rfl ?_
  simp only [Act.put, List.setIfInBounds_toArray, List.set_cons_succ, List.set_cons_zero]
  refine wpS_index (E := elemV) (i := 25) (d := some 54) rfl (by rfl) rfl rfl rfl (HM33.out.row 1 rfl vRow) (wc_one) rfl ?_
  intro eb34 eo35 hc36
  simp only [Act.put, List.setIfInBounds_toArray, List.set_cons_succ, List.set_cons_zero]
  refine wpS_this [26] rfl (by kernel_rfl) (by simp only [pickL, nthL, List.cons_append, List.nil_append]; rfl) ?_
  repeat (go_big_quiet_step (fail))
  refine wpQuiet_nil ?_
  refine wpS_load1 (i := 27) (d := some 56) (u := .string ⟨#[99]⟩) rfl (by rfl) rfl rfl (hc36 2 _ rfl) Try.underlying9 rfl rfl ?_
  simp only [Act.put, List.setIfInBounds_toArray, List.set_cons_succ, List.set_cons_zero]
  refine wpS_this [28, 29, 30] rfl (by kernel_rfl) (by simp only [pickL, nthL, List.cons_append, List.nil_append]; rfl) ?_
  repeat (go_big_quiet_step (fail))
  refine wpQuiet_nil ?_
  refine wpS_nil ?_
  refine then_normal ?_
  refine wp_ret ?_
  refine bodyPost_ret (results_tmp rfl _ _ _) rfl ?_
  exact does_ret (Mem.only (M := []) HM33.out [] rfl) rfl rfl

end Go.Proofs.Ytneeidedadlioaa
