/- Clock: ClockJoins. -/
import Derived.Test.YtlcmlecamfmadaaVcA
namespace Go.Proofs.Ytlcmlecamfmadaa
open Go Go.RowKit Go.BigFrame

set_option maxHeartbeats 4000000 in
set_option maxRecDepth 100000 in
theorem joins_d (a b c : Nat → Int) (d1 d2 : Int) : Does Try.prog 4 #[vV a, vV b, vV c, .agg #[.int .i64 d1, .int .i64 d2]] [] (.bool true) [] := by
  intro w H hp
  have HM0 := Lib.hid (mem_refl hp)
  clear hp
  go_enter Try.func4, Try.ntmps4
  refine wp_seq ?_
  refine wp_region_N [(0, 3), (1, 3), (2, 3), (3, 3), (4, 1)] (by kernel_rfl) ?_
  refine wpS_boxA (i := 0) (dd := 4) rfl (by rfl) rfl rfl HM0.out covS_nil rfl ?_
  rintro b3 W2 hm1 -
  have HM4 := Lib.hid hm1
  clear hm1
  simp only [Act.put, List.setIfInBounds_toArray, List.set_cons_succ, List.set_cons_zero]
  refine wpS_boxA (i := 1) (dd := 5) rfl (by rfl) rfl rfl HM4.out covS_nil rfl ?_
  rintro b7 W6 hm5 -
  have HM8 := Lib.hid hm5
  clear hm5
  simp only [Act.put, List.setIfInBounds_toArray, List.set_cons_succ, List.set_cons_zero]
  refine wpS_boxA (i := 2) (dd := 6) rfl (by rfl) rfl rfl HM8.out covS_nil rfl ?_
  rintro b11 W10 hm9 -
  have HM12 := Lib.hid hm9
  clear hm9
  simp only [Act.put, List.setIfInBounds_toArray, List.set_cons_succ, List.set_cons_zero]
  refine wpS_boxA (i := 3) (dd := 7) rfl (by rfl) rfl rfl HM12.out covS_nil rfl ?_
  rintro b15 W14 hm13 -
  have HM16 := Lib.hid hm13
  clear hm13
  simp only [Act.put, List.setIfInBounds_toArray, List.set_cons_succ, List.set_cons_zero]
  refine wpS_this [4] rfl (by kernel_rfl) (by simp only [pickL, nthL, List.cons_append, List.nil_append]; rfl) ?_
  repeat (go_big_quiet_step (fail))
  refine wpQuiet_nil ?_
  refine wpS_nil ?_
  refine then_normal ?_
  refine wp_seq ?_
  obtain ⟨x, hx'⟩ := vec_letter (joinV a b)
  have hx := Lib.hid hx'
  clear hx'
  refine wp_region_N [(0, 1), (1, 1), (2, 3), (3, 3), (4, 3)] (by kernel_rfl) ?_
  refine wpS_loadA (i := 0) (d := some 11) (cells := vcC (a)) rfl (by rfl) rfl rfl (HM16.out.cells0 3 rfl) Try.underlying23 rfl (by kernel_rfl) rfl ?_
  simp only [Act.put, List.setIfInBounds_toArray, List.set_cons_succ, List.set_cons_zero]
  refine wpS_loadA (i := 1) (d := some 12) (cells := vcC (b)) rfl (by rfl) rfl rfl (HM16.out.cells0 2 rfl) Try.underlying23 rfl (by kernel_rfl) rfl ?_
  simp only [Act.put, List.setIfInBounds_toArray, List.set_cons_succ, List.set_cons_zero]
  refine wpS_does2 (i := 2) (d := some 13) (rem := [_, _, _, _]) (out := [_, _, _, _]) rfl (by rfl) rfl Try.call9 (cjoin_d a b) rfl rfl HM16.out [] rfl covS_nil rfl rfl ?_
  rintro W18 hm17 -
  rw [hx.out]
  have HM19 := Lib.hid hm17
  clear hm17
  simp only [Act.put, List.setIfInBounds_toArray, List.set_cons_succ, List.set_cons_zero]
  refine wpS_alloc (i := 3) (dd := 9) (z := vV (fun _ => 0)) (cs := (vcC (fun _ => 0)).toArray) rfl (by rfl) rfl (by kernel_rfl) rfl HM19.out covS_nil rfl ?_
  rintro b22 W21 hm20 -
  have HM23 := Lib.hid hm20
  clear hm20
  simp only [Act.put, List.setIfInBounds_toArray, List.set_cons_succ, List.set_cons_zero]
  refine wpS_storeA (i := 4) (L2 := [_, _, _, _]) (cs' := vcC (x)) rfl (by rfl) rfl rfl rfl (by kernel_rfl) (vcC_one _) HM23.out 0 rfl rfl (by kernel_rfl) (by kernel_rfl) covS_nil rfl ?_
  rintro W25 hm24 -
  have HM26 := Lib.hid hm24
  clear hm24
  refine wpS_nil ?_
  refine then_normal ?_
  refine wp_seq ?_
  refine wp_seq ?_
  obtain ⟨y, hy'⟩ := vec_letter (joinV x c)
  have hy := Lib.hid hy'
  clear hy'
  obtain ⟨z, hz'⟩ := vec_letter (joinV b c)
  have hz := Lib.hid hz'
  clear hz'
  have hax : Hid (belowV a x = true) := Lib.hid (by rw [← hx.out]; exact belowV_left a b)
  have hbx : Hid (belowV b x = true) := Lib.hid (by rw [← hx.out]; exact belowV_right a b)
  refine wp_cut_F [14, 15, 16, 17, 18, 19, 20, 21, 22, 23, 24, 25, 26, 27, 28, 29, 30, 31, 32, 33, 34, 35, 36, 37, 38, 39, 40, 41, 42, 43, 44, 45, 46, 47, 48, 49, 50, 51, 52, 53, 54, 55, 56, 57, 58, 59, 60, 61, 62, 63, 64] (fun vs W' => vs 64 = .bool false ∧ Mem [boxT b22 (.cells (vcC (x)).toArray 23 (0, 0)), boxT b15 (.cells #[.int .i64 d1, .int .i64 d2] 25 (0, 0)), boxT b11 (.cells (vcC (c)).toArray 23 (0, 0)), boxT b7 (.cells (vcC (b)).toArray 23 (0, 0)), boxT b3 (.cells (vcC (a)).toArray 23 (0, 0))] H w W') ?_ ?_
  · rcases (show belowV a c = false ∨ (belowV a c = true ∧ belowV b c = false) ∨ (belowV a c = true ∧ belowV b c = true) from by cases belowV a c <;> cases belowV b c <;> simp) with k1 | ⟨k1, k2⟩ | ⟨k1, k2⟩
    · replace k1 := Lib.hid k1
      obtain ⟨y, hy'⟩ := vec_letter (joinV x c)
      have hy := Lib.hid hy'
      clear hy'
      obtain ⟨z, hz'⟩ := vec_letter (joinV b c)
      have hz := Lib.hid hz'
      clear hz'
      have hax : Hid (belowV a x = true) := Lib.hid (by rw [← hx.out]; exact belowV_left a b)
      have hbx : Hid (belowV b x = true) := Lib.hid (by rw [← hx.out]; exact belowV_right a b)
      refine wp_region_M (fun k => k ∈ ([b3, b7, b11, b15, b22] : List Nat)) [(0, 2), (1, 1), (2, 1), (3, 3), (4, 1), (5, 1), (6, 1), (7, 1), (9, 2), (10, 2), (11, 2), (8, 3), (12, 3), (13, 3), (14, 1), (15, 1), (16, 1), (17, 1), (18, 1), (20, 2), (19, 3), (21, 1), (22, 1), (23, 1), (24, 1), (25, 1), (26, 3), (27, 1), (28, 1), (29, 1), (30, 1), (31, 1), (32, 3), (33, 1), (34, 1), (35, 1), (36, 1), (37, 1), (38, 3), (39, 1), (40, 1), (41, 1), (42, 3), (43, 1), (44, 1), (45, 1), (46, 1), (47, 3), (48, 1), (49, 1), (50, 1)] (by kernel_rfl) (by kernel_rfl) HM26.out ?_
      intro W27 hm28
      have HM29 := Lib.hid hm28
      clear hm28
      refine wpS_loadA2 (i := 0) (d := some 14) (cells := vcC (x)) rfl (by rfl) rfl rfl (by simp) (HM29.out.cells0 0 rfl) Try.underlying23 rfl (by kernel_rfl) rfl ?_
      simp only [Act.put, List.setIfInBounds_toArray, List.set_cons_succ, List.set_cons_zero]
      refine wpS_loadA (i := 1) (d := some 15) (cells := vcC (b)) rfl (by rfl) rfl rfl (HM29.out.cells0 3 rfl) Try.underlying23 rfl (by kernel_rfl) rfl ?_
      simp only [Act.put, List.setIfInBounds_toArray, List.set_cons_succ, List.set_cons_zero]
      refine wpS_loadA (i := 2) (d := some 16) (cells := vcC (a)) rfl (by rfl) rfl rfl (HM29.out.cells0 4 rfl) Try.underlying23 rfl (by kernel_rfl) rfl ?_
      simp only [Act.put, List.setIfInBounds_toArray, List.set_cons_succ, List.set_cons_zero]
      refine wpS_does2 (i := 3) (d := some 17) (rem := [_, _, _, _, _]) (out := [_, _, _, _, _]) rfl (by rfl) rfl Try.call9 (cjoin_d b a) rfl rfl HM29.out [] rfl (covS_box 4 rfl (covS_box 3 rfl (covS_box 2 rfl (covS_box 1 rfl (covS_box 0 rfl covS_nil))))) rfl rfl ?_
      rintro W31 hm30 hg32
      rw [joinV_comm, hx.out]
      have HM33 := Lib.hid hm30
      clear hm30
      simp only [Act.put, List.setIfInBounds_toArray, List.set_cons_succ, List.set_cons_zero]
      refine wpS_read (i := 4) (d := some 18) rfl (by rfl) (run_neV (ne_self _) rfl rfl rfl) rfl ?_
      simp only [Act.put, List.setIfInBounds_toArray, List.set_cons_succ, List.set_cons_zero]
      refine wpS_this [5] rfl (by kernel_rfl) (by simp only [pickL, nthL, List.cons_append, List.nil_append]; rfl) ?_
      repeat (go_big_quiet_step (fail))
      refine wpQuiet_nil ?_
      refine wpS_loadA (i := 6) (d := some 20) (cells := vcC (x)) rfl (by rfl) rfl rfl (HM33.out.cells0 0 rfl) Try.underlying23 rfl (by kernel_rfl) rfl ?_
      simp only [Act.put, List.setIfInBounds_toArray, List.set_cons_succ, List.set_cons_zero]
      refine wpS_loadA (i := 7) (d := some 21) (cells := vcC (c)) rfl (by rfl) rfl rfl (HM33.out.cells0 2 rfl) Try.underlying23 rfl (by kernel_rfl) rfl ?_
      simp only [Act.put, List.setIfInBounds_toArray, List.set_cons_succ, List.set_cons_zero]
      refine wpS_loadA2 (i := 9) (d := some 23) (cells := vcC (a)) rfl (by rfl) rfl rfl (by simp) (HM33.out.cells0 4 rfl) Try.underlying23 rfl (by kernel_rfl) rfl ?_
      simp only [Act.put, List.setIfInBounds_toArray, List.set_cons_succ, List.set_cons_zero]
      refine wpS_loadA2 (i := 10) (d := some 24) (cells := vcC (b)) rfl (by rfl) rfl rfl (by simp) (HM33.out.cells0 3 rfl) Try.underlying23 rfl (by kernel_rfl) rfl ?_
      simp only [Act.put, List.setIfInBounds_toArray, List.set_cons_succ, List.set_cons_zero]
      refine wpS_loadA2 (i := 11) (d := some 25) (cells := vcC (c)) rfl (by rfl) rfl rfl (by simp) (HM33.out.cells0 2 rfl) Try.underlying23 rfl (by kernel_rfl) rfl ?_
      simp only [Act.put, List.setIfInBounds_toArray, List.set_cons_succ, List.set_cons_zero]
      refine wpS_does2 (i := 8) (d := some 22) (rem := [_, _, _, _, _]) (out := [_, _, _, _, _]) rfl (by rfl) rfl Try.call9 (cjoin_d x c) rfl rfl HM33.out [] rfl (covS_box 4 rfl (covS_box 3 rfl (covS_box 2 rfl (covS_box 1 rfl (covS_box 0 rfl covS_nil))))) rfl rfl ?_
      rintro W35 hm34 hg36
      rw [hy.out]
      have HM37 := Lib.hid hm34
      clear hm34
      simp only [Act.put, List.setIfInBounds_toArray, List.set_cons_succ, List.set_cons_zero]
      refine wpS_does2 (i := 12) (d := some 26) (rem := [_, _, _, _, _]) (out := [_, _, _, _, _]) rfl (by rfl) rfl Try.call9 (cjoin_d b c) rfl rfl HM37.out [] rfl (covS_box 4 rfl (covS_box 3 rfl (covS_box 2 rfl (covS_box 1 rfl (covS_box 0 rfl covS_nil))))) rfl rfl ?_
      rintro W39 hm38 hg40
      rw [hz.out]
      have HM41 := Lib.hid hm38
      clear hm38
      simp only [Act.put, List.setIfInBounds_toArray, List.set_cons_succ, List.set_cons_zero]
      refine wpS_does2 (i := 13) (d := some 27) (rem := [_, _, _, _, _]) (out := [_, _, _, _, _]) rfl (by rfl) rfl Try.call9 (cjoin_d a z) rfl rfl HM41.out [] rfl (covS_box 4 rfl (covS_box 3 rfl (covS_box 2 rfl (covS_box 1 rfl (covS_box 0 rfl covS_nil))))) rfl rfl ?_
      rintro W43 hm42 hg44
      rw [← hz.out, ← joinV_assoc, hx.out, hy.out]
      have HM45 := Lib.hid hm42
      clear hm42
      simp only [Act.put, List.setIfInBounds_toArray, List.set_cons_succ, List.set_cons_zero]
      refine wpS_read (i := 14) (d := some 28) rfl (by rfl) (run_neV (ne_self _) rfl rfl rfl) rfl ?_
      simp only [Act.put, List.setIfInBounds_toArray, List.set_cons_succ, List.set_cons_zero]
      refine wpS_this [15, 16] rfl (by kernel_rfl) (by simp only [pickL, nthL, List.cons_append, List.nil_append]; rfl) ?_
      repeat (go_big_quiet_step (fail))
      refine wpQuiet_nil ?_
      refine wpS_loadA (i := 17) (d := some 31) (cells := vcC (a)) rfl (by rfl) rfl rfl (HM45.out.cells0 4 rfl) Try.underlying23 rfl (by kernel_rfl) rfl ?_
      simp only [Act.put, List.setIfInBounds_toArray, List.set_cons_succ, List.set_cons_zero]
      refine wpS_loadA (i := 18) (d := some 32) (cells := vcC (a)) rfl (by rfl) rfl rfl (HM45.out.cells0 4 rfl) Try.underlying23 rfl (by kernel_rfl) rfl ?_
      simp only [Act.put, List.setIfInBounds_toArray, List.set_cons_succ, List.set_cons_zero]
      refine wpS_loadA2 (i := 20) (d := some 34) (cells := vcC (a)) rfl (by rfl) rfl rfl (by simp) (HM45.out.cells0 4 rfl) Try.underlying23 rfl (by kernel_rfl) rfl ?_
      simp only [Act.put, List.setIfInBounds_toArray, List.set_cons_succ, List.set_cons_zero]
      refine wpS_does2 (i := 19) (d := some 33) (rem := [_, _, _, _, _]) (out := [_, _, _, _, _]) rfl (by rfl) rfl Try.call9 (cjoin_d a a) rfl rfl HM45.out [] rfl (covS_box 4 rfl (covS_box 3 rfl (covS_box 2 rfl (covS_box 1 rfl (covS_box 0 rfl covS_nil))))) rfl rfl ?_
      rintro W47 hm46 hg48
      rw [joinV_self]
      have HM49 := Lib.hid hm46
      clear hm46
      simp only [Act.put, List.setIfInBounds_toArray, List.set_cons_succ, List.set_cons_zero]
      refine wpS_read (i := 21) (d := some 35) rfl (by rfl) (run_neV (ne_self _) rfl rfl rfl) rfl ?_
      simp only [Act.put, List.setIfInBounds_toArray, List.set_cons_succ, List.set_cons_zero]
      refine wpS_this [22, 23] rfl (by kernel_rfl) (by simp only [pickL, nthL, List.cons_append, List.nil_append]; rfl) ?_
      repeat (go_big_quiet_step (fail))
      refine wpQuiet_nil ?_
      refine wpS_loadA (i := 24) (d := some 38) (cells := vcC (a)) rfl (by rfl) rfl rfl (HM49.out.cells0 4 rfl) Try.underlying23 rfl (by kernel_rfl) rfl ?_
      simp only [Act.put, List.setIfInBounds_toArray, List.set_cons_succ, List.set_cons_zero]
      refine wpS_loadA (i := 25) (d := some 39) (cells := vcC (x)) rfl (by rfl) rfl rfl (HM49.out.cells0 0 rfl) Try.underlying23 rfl (by kernel_rfl) rfl ?_
      simp only [Act.put, List.setIfInBounds_toArray, List.set_cons_succ, List.set_cons_zero]
      refine wpS_does2 (i := 26) (d := some 40) (rem := [_, _, _, _, _]) (out := [_, _, _, _, _]) rfl (by rfl) rfl Try.call11 (cbelow_d a x) rfl rfl HM49.out [] rfl (covS_box 4 rfl (covS_box 3 rfl (covS_box 2 rfl (covS_box 1 rfl (covS_box 0 rfl covS_nil))))) rfl rfl ?_
      rintro W51 hm50 hg52
      rw [hax.out]
      have HM53 := Lib.hid hm50
      clear hm50
      simp only [Act.put, List.setIfInBounds_toArray, List.set_cons_succ, List.set_cons_zero]
      refine wpS_this [27, 28, 29] rfl (by kernel_rfl) (by simp only [pickL, nthL, List.cons_append, List.nil_append]; rfl) ?_
      repeat (go_big_quiet_step (fail))
      refine wpQuiet_nil ?_
      refine wpS_loadA (i := 30) (d := some 44) (cells := vcC (b)) rfl (by rfl) rfl rfl (HM53.out.cells0 3 rfl) Try.underlying23 rfl (by kernel_rfl) rfl ?_
      simp only [Act.put, List.setIfInBounds_toArray, List.set_cons_succ, List.set_cons_zero]
      refine wpS_loadA (i := 31) (d := some 45) (cells := vcC (x)) rfl (by rfl) rfl rfl (HM53.out.cells0 0 rfl) Try.underlying23 rfl (by kernel_rfl) rfl ?_
      simp only [Act.put, List.setIfInBounds_toArray, List.set_cons_succ, List.set_cons_zero]
      refine wpS_does2 (i := 32) (d := some 46) (rem := [_, _, _, _, _]) (out := [_, _, _, _, _]) rfl (by rfl) rfl Try.call11 (cbelow_d b x) rfl rfl HM53.out [] rfl (covS_box 4 rfl (covS_box 3 rfl (covS_box 2 rfl (covS_box 1 rfl (covS_box 0 rfl covS_nil))))) rfl rfl ?_
      rintro W55 hm54 hg56
      rw [hbx.out]
      have HM57 := Lib.hid hm54
      clear hm54
      simp only [Act.put, List.setIfInBounds_toArray, List.set_cons_succ, List.set_cons_zero]
      refine wpS_this [33, 34, 35] rfl (by kernel_rfl) (by simp only [pickL, nthL, List.cons_append, List.nil_append]; rfl) ?_
      repeat (go_big_quiet_step (fail))
      refine wpQuiet_nil ?_
      refine wpS_loadA (i := 36) (d := some 50) (cells := vcC (a)) rfl (by rfl) rfl rfl (HM57.out.cells0 4 rfl) Try.underlying23 rfl (by kernel_rfl) rfl ?_
      simp only [Act.put, List.setIfInBounds_toArray, List.set_cons_succ, List.set_cons_zero]
      refine wpS_loadA (i := 37) (d := some 51) (cells := vcC (c)) rfl (by rfl) rfl rfl (HM57.out.cells0 2 rfl) Try.underlying23 rfl (by kernel_rfl) rfl ?_
      simp only [Act.put, List.setIfInBounds_toArray, List.set_cons_succ, List.set_cons_zero]
      refine wpS_does2 (i := 38) (d := some 52) (rem := [_, _, _, _, _]) (out := [_, _, _, _, _]) rfl (by rfl) rfl Try.call11 (cbelow_d a c) rfl rfl HM57.out [] rfl (covS_box 4 rfl (covS_box 3 rfl (covS_box 2 rfl (covS_box 1 rfl (covS_box 0 rfl covS_nil))))) rfl rfl ?_
      rintro W59 hm58 hg60
      rw [k1.out]
      have HM61 := Lib.hid hm58
      clear hm58
      simp only [Act.put, List.setIfInBounds_toArray, List.set_cons_succ, List.set_cons_zero]
      refine wpS_this [39] rfl (by kernel_rfl) (by simp only [pickL, nthL, List.cons_append, List.nil_append]; rfl) ?_
      repeat (go_big_quiet_step (fail))
      refine wpQuiet_nil ?_
      refine wpS_skip (i := 40) (d := some 54) rfl (by rfl) rfl ?_
      simp only [Act.put, List.setIfInBounds_toArray, List.set_cons_succ, List.set_cons_zero]
      refine wpS_skip (i := 41) (d := some 55) rfl (by rfl) rfl ?_
      simp only [Act.put, List.setIfInBounds_toArray, List.set_cons_succ, List.set_cons_zero]
      refine wpS_skip (i := 42) (d := some 56) rfl (by rfl) rfl ?_
      simp only [Act.put, List.setIfInBounds_toArray, List.set_cons_succ, List.set_cons_zero]
      refine wpS_this [43, 44] rfl (by kernel_rfl) (by simp only [pickL, nthL, List.cons_append, List.nil_append]; rfl) ?_
      repeat (go_big_quiet_step (fail))
      refine wpQuiet_nil ?_
      refine wpS_skip (i := 45) (d := some 59) rfl (by rfl) rfl ?_
      simp only [Act.put, List.setIfInBounds_toArray, List.set_cons_succ, List.set_cons_zero]
      refine wpS_skip (i := 46) (d := some 60) rfl (by rfl) rfl ?_
      simp only [Act.put, List.setIfInBounds_toArray, List.set_cons_succ, List.set_cons_zero]
      refine wpS_skip (i := 47) (d := some 61) rfl (by rfl) rfl ?_
      simp only [Act.put, List.setIfInBounds_toArray, List.set_cons_succ, List.set_cons_zero]
      refine wpS_this [48, 49, 50] rfl (by kernel_rfl) (by simp only [pickL, nthL, List.cons_append, List.nil_append]; rfl) ?_
      repeat (go_big_quiet_step (fail))
      refine wpQuiet_nil ?_
      refine wpS_nil ?_
      refine then_normal ?_
      refine ⟨by kernel_rfl, ?_⟩
      exact ⟨rfl, (Mem.only (M := [_, _, _, _, _]) HM61.out [0, 0, 0, 0, 0] rfl)⟩
    · replace k1 := Lib.hid k1
      replace k2 := Lib.hid k2
      obtain ⟨y, hy'⟩ := vec_letter (joinV x c)
      have hy := Lib.hid hy'
      clear hy'
      obtain ⟨z, hz'⟩ := vec_letter (joinV b c)
      have hz := Lib.hid hz'
      clear hz'
      have hax : Hid (belowV a x = true) := Lib.hid (by rw [← hx.out]; exact belowV_left a b)
      have hbx : Hid (belowV b x = true) := Lib.hid (by rw [← hx.out]; exact belowV_right a b)
      refine wp_region_M (fun k => k ∈ ([b3, b7, b11, b15, b22] : List Nat)) [(0, 2), (1, 1), (2, 1), (3, 3), (4, 1), (5, 1), (6, 1), (7, 1), (9, 2), (10, 2), (11, 2), (8, 3), (12, 3), (13, 3), (14, 1), (15, 1), (16, 1), (17, 1), (18, 1), (20, 2), (19, 3), (21, 1), (22, 1), (23, 1), (24, 1), (25, 1), (26, 3), (27, 1), (28, 1), (29, 1), (30, 1), (31, 1), (32, 3), (33, 1), (34, 1), (35, 1), (36, 1), (37, 1), (38, 3), (39, 1), (40, 1), (41, 1), (42, 3), (43, 1), (44, 1), (45, 1), (46, 1), (47, 3), (48, 1), (49, 1), (50, 1)] (by kernel_rfl) (by kernel_rfl) HM26.out ?_
      intro W62 hm63
      have HM64 := Lib.hid hm63
      clear hm63
      refine wpS_loadA2 (i := 0) (d := some 14) (cells := vcC (x)) rfl (by rfl) rfl rfl (by simp) (HM64.out.cells0 0 rfl) Try.underlying23 rfl (by kernel_rfl) rfl ?_
      simp only [Act.put, List.setIfInBounds_toArray, List.set_cons_succ, List.set_cons_zero]
      refine wpS_loadA (i := 1) (d := some 15) (cells := vcC (b)) rfl (by rfl) rfl rfl (HM64.out.cells0 3 rfl) Try.underlying23 rfl (by kernel_rfl) rfl ?_
      simp only [Act.put, List.setIfInBounds_toArray, List.set_cons_succ, List.set_cons_zero]
      refine wpS_loadA (i := 2) (d := some 16) (cells := vcC (a)) rfl (by rfl) rfl rfl (HM64.out.cells0 4 rfl) Try.underlying23 rfl (by kernel_rfl) rfl ?_
      simp only [Act.put, List.setIfInBounds_toArray, List.set_cons_succ, List.set_cons_zero]
      refine wpS_does2 (i := 3) (d := some 17) (rem := [_, _, _, _, _]) (out := [_, _, _, _, _]) rfl (by rfl) rfl Try.call9 (cjoin_d b a) rfl rfl HM64.out [] rfl (covS_box 4 rfl (covS_box 3 rfl (covS_box 2 rfl (covS_box 1 rfl (covS_box 0 rfl covS_nil))))) rfl rfl ?_
      rintro W66 hm65 hg67
      rw [joinV_comm, hx.out]
      have HM68 := Lib.hid hm65
      clear hm65
      simp only [Act.put, List.setIfInBounds_toArray, List.set_cons_succ, List.set_cons_zero]
      refine wpS_read (i := 4) (d := some 18) rfl (by rfl) (run_neV (ne_self _) rfl rfl rfl) rfl ?_
      simp only [Act.put, List.setIfInBounds_toArray, List.set_cons_succ, List.set_cons_zero]
      refine wpS_this [5] rfl (by kernel_rfl) (by simp only [pickL, nthL, List.cons_append, List.nil_append]; rfl) ?_
      repeat (go_big_quiet_step (fail))
      refine wpQuiet_nil ?_
      refine wpS_loadA (i := 6) (d := some 20) (cells := vcC (x)) rfl (by rfl) rfl rfl (HM68.out.cells0 0 rfl) Try.underlying23 rfl (by kernel_rfl) rfl ?_
      simp only [Act.put, List.setIfInBounds_toArray, List.set_cons_succ, List.set_cons_zero]
      refine wpS_loadA (i := 7) (d := some 21) (cells := vcC (c)) rfl (by rfl) rfl rfl (HM68.out.cells0 2 rfl) Try.underlying23 rfl (by kernel_rfl) rfl ?_
      simp only [Act.put, List.setIfInBounds_toArray, List.set_cons_succ, List.set_cons_zero]
      refine wpS_loadA2 (i := 9) (d := some 23) (cells := vcC (a)) rfl (by rfl) rfl rfl (by simp) (HM68.out.cells0 4 rfl) Try.underlying23 rfl (by kernel_rfl) rfl ?_
      simp only [Act.put, List.setIfInBounds_toArray, List.set_cons_succ, List.set_cons_zero]
      refine wpS_loadA2 (i := 10) (d := some 24) (cells := vcC (b)) rfl (by rfl) rfl rfl (by simp) (HM68.out.cells0 3 rfl) Try.underlying23 rfl (by kernel_rfl) rfl ?_
      simp only [Act.put, List.setIfInBounds_toArray, List.set_cons_succ, List.set_cons_zero]
      refine wpS_loadA2 (i := 11) (d := some 25) (cells := vcC (c)) rfl (by rfl) rfl rfl (by simp) (HM68.out.cells0 2 rfl) Try.underlying23 rfl (by kernel_rfl) rfl ?_
      simp only [Act.put, List.setIfInBounds_toArray, List.set_cons_succ, List.set_cons_zero]
      refine wpS_does2 (i := 8) (d := some 22) (rem := [_, _, _, _, _]) (out := [_, _, _, _, _]) rfl (by rfl) rfl Try.call9 (cjoin_d x c) rfl rfl HM68.out [] rfl (covS_box 4 rfl (covS_box 3 rfl (covS_box 2 rfl (covS_box 1 rfl (covS_box 0 rfl covS_nil))))) rfl rfl ?_
      rintro W70 hm69 hg71
      rw [hy.out]
      have HM72 := Lib.hid hm69
      clear hm69
      simp only [Act.put, List.setIfInBounds_toArray, List.set_cons_succ, List.set_cons_zero]
      refine wpS_does2 (i := 12) (d := some 26) (rem := [_, _, _, _, _]) (out := [_, _, _, _, _]) rfl (by rfl) rfl Try.call9 (cjoin_d b c) rfl rfl HM72.out [] rfl (covS_box 4 rfl (covS_box 3 rfl (covS_box 2 rfl (covS_box 1 rfl (covS_box 0 rfl covS_nil))))) rfl rfl ?_
      rintro W74 hm73 hg75
      rw [hz.out]
      have HM76 := Lib.hid hm73
      clear hm73
      simp only [Act.put, List.setIfInBounds_toArray, List.set_cons_succ, List.set_cons_zero]
      refine wpS_does2 (i := 13) (d := some 27) (rem := [_, _, _, _, _]) (out := [_, _, _, _, _]) rfl (by rfl) rfl Try.call9 (cjoin_d a z) rfl rfl HM76.out [] rfl (covS_box 4 rfl (covS_box 3 rfl (covS_box 2 rfl (covS_box 1 rfl (covS_box 0 rfl covS_nil))))) rfl rfl ?_
      rintro W78 hm77 hg79
      rw [← hz.out, ← joinV_assoc, hx.out, hy.out]
      have HM80 := Lib.hid hm77
      clear hm77
      simp only [Act.put, List.setIfInBounds_toArray, List.set_cons_succ, List.set_cons_zero]
      refine wpS_read (i := 14) (d := some 28) rfl (by rfl) (run_neV (ne_self _) rfl rfl rfl) rfl ?_
      simp only [Act.put, List.setIfInBounds_toArray, List.set_cons_succ, List.set_cons_zero]
      refine wpS_this [15, 16] rfl (by kernel_rfl) (by simp only [pickL, nthL, List.cons_append, List.nil_append]; rfl) ?_
      repeat (go_big_quiet_step (fail))
      refine wpQuiet_nil ?_
      refine wpS_loadA (i := 17) (d := some 31) (cells := vcC (a)) rfl (by rfl) rfl rfl (HM80.out.cells0 4 rfl) Try.underlying23 rfl (by kernel_rfl) rfl ?_
      simp only [Act.put, List.setIfInBounds_toArray, List.set_cons_succ, List.set_cons_zero]
      refine wpS_loadA (i := 18) (d := some 32) (cells := vcC (a)) rfl (by rfl) rfl rfl (HM80.out.cells0 4 rfl) Try.underlying23 rfl (by kernel_rfl) rfl ?_
      simp only [Act.put, List.setIfInBounds_toArray, List.set_cons_succ, List.set_cons_zero]
      refine wpS_loadA2 (i := 20) (d := some 34) (cells := vcC (a)) rfl (by rfl) rfl rfl (by simp) (HM80.out.cells0 4 rfl) Try.underlying23 rfl (by kernel_rfl) rfl ?_
      simp only [Act.put, List.setIfInBounds_toArray, List.set_cons_succ, List.set_cons_zero]
      refine wpS_does2 (i := 19) (d := some 33) (rem := [_, _, _, _, _]) (out := [_, _, _, _, _]) rfl (by rfl) rfl Try.call9 (cjoin_d a a) rfl rfl HM80.out [] rfl (covS_box 4 rfl (covS_box 3 rfl (covS_box 2 rfl (covS_box 1 rfl (covS_box 0 rfl covS_nil))))) rfl rfl ?_
      rintro W82 hm81 hg83
      rw [joinV_self]
      have HM84 := Lib.hid hm81
      clear hm81
      simp only [Act.put, List.setIfInBounds_toArray, List.set_cons_succ, List.set_cons_zero]
      refine wpS_read (i := 21) (d := some 35) rfl (by rfl) (run_neV (ne_self _) rfl rfl rfl) rfl ?_
      simp only [Act.put, List.setIfInBounds_toArray, List.set_cons_succ, List.set_cons_zero]
      refine wpS_this [22, 23] rfl (by kernel_rfl) (by simp only [pickL, nthL, List.cons_append, List.nil_append]; rfl) ?_
      repeat (go_big_quiet_step (fail))
      refine wpQuiet_nil ?_
      refine wpS_loadA (i := 24) (d := some 38) (cells := vcC (a)) rfl (by rfl) rfl rfl (HM84.out.cells0 4 rfl) Try.underlying23 rfl (by kernel_rfl) rfl ?_
      simp only [Act.put, List.setIfInBounds_toArray, List.set_cons_succ, List.set_cons_zero]
      refine wpS_loadA (i := 25) (d := some 39) (cells := vcC (x)) rfl (by rfl) rfl rfl (HM84.out.cells0 0 rfl) Try.underlying23 rfl (by kernel_rfl) rfl ?_
      simp only [Act.put, List.setIfInBounds_toArray, List.set_cons_succ, List.set_cons_zero]
      refine wpS_does2 (i := 26) (d := some 40) (rem := [_, _, _, _, _]) (out := [_, _, _, _, _]) rfl (by rfl) rfl Try.call11 (cbelow_d a x) rfl rfl HM84.out [] rfl (covS_box 4 rfl (covS_box 3 rfl (covS_box 2 rfl (covS_box 1 rfl (covS_box 0 rfl covS_nil))))) rfl rfl ?_
      rintro W86 hm85 hg87
      rw [hax.out]
      have HM88 := Lib.hid hm85
      clear hm85
      simp only [Act.put, List.setIfInBounds_toArray, List.set_cons_succ, List.set_cons_zero]
      refine wpS_this [27, 28, 29] rfl (by kernel_rfl) (by simp only [pickL, nthL, List.cons_append, List.nil_append]; rfl) ?_
      repeat (go_big_quiet_step (fail))
      refine wpQuiet_nil ?_
      refine wpS_loadA (i := 30) (d := some 44) (cells := vcC (b)) rfl (by rfl) rfl rfl (HM88.out.cells0 3 rfl) Try.underlying23 rfl (by kernel_rfl) rfl ?_
      simp only [Act.put, List.setIfInBounds_toArray, List.set_cons_succ, List.set_cons_zero]
      refine wpS_loadA (i := 31) (d := some 45) (cells := vcC (x)) rfl (by rfl) rfl rfl (HM88.out.cells0 0 rfl) Try.underlying23 rfl (by kernel_rfl) rfl ?_
      simp only [Act.put, List.setIfInBounds_toArray, List.set_cons_succ, List.set_cons_zero]
      refine wpS_does2 (i := 32) (d := some 46) (rem := [_, _, _, _, _]) (out := [_, _, _, _, _]) rfl (by rfl) rfl Try.call11 (cbelow_d b x) rfl rfl HM88.out [] rfl (covS_box 4 rfl (covS_box 3 rfl (covS_box 2 rfl (covS_box 1 rfl (covS_box 0 rfl covS_nil))))) rfl rfl ?_
      rintro W90 hm89 hg91
      rw [hbx.out]
      have HM92 := Lib.hid hm89
      clear hm89
      simp only [Act.put, List.setIfInBounds_toArray, List.set_cons_succ, List.set_cons_zero]
      refine wpS_this [33, 34, 35] rfl (by kernel_rfl) (by simp only [pickL, nthL, List.cons_append, List.nil_append]; rfl) ?_
      repeat (go_big_quiet_step (fail))
      refine wpQuiet_nil ?_
      refine wpS_loadA (i := 36) (d := some 50) (cells := vcC (a)) rfl (by rfl) rfl rfl (HM92.out.cells0 4 rfl) Try.underlying23 rfl (by kernel_rfl) rfl ?_
      simp only [Act.put, List.setIfInBounds_toArray, List.set_cons_succ, List.set_cons_zero]
      refine wpS_loadA (i := 37) (d := some 51) (cells := vcC (c)) rfl (by rfl) rfl rfl (HM92.out.cells0 2 rfl) Try.underlying23 rfl (by kernel_rfl) rfl ?_
      simp only [Act.put, List.setIfInBounds_toArray, List.set_cons_succ, List.set_cons_zero]
      refine wpS_does2 (i := 38) (d := some 52) (rem := [_, _, _, _, _]) (out := [_, _, _, _, _]) rfl (by rfl) rfl Try.call11 (cbelow_d a c) rfl rfl HM92.out [] rfl (covS_box 4 rfl (covS_box 3 rfl (covS_box 2 rfl (covS_box 1 rfl (covS_box 0 rfl covS_nil))))) rfl rfl ?_
      rintro W94 hm93 hg95
      rw [k1.out]
      have HM96 := Lib.hid hm93
      clear hm93
      simp only [Act.put, List.setIfInBounds_toArray, List.set_cons_succ, List.set_cons_zero]
      refine wpS_this [39] rfl (by kernel_rfl) (by simp only [pickL, nthL, List.cons_append, List.nil_append]; rfl) ?_
      repeat (go_big_quiet_step (fail))
      refine wpQuiet_nil ?_
      refine wpS_loadA (i := 40) (d := some 54) (cells := vcC (b)) rfl (by rfl) rfl rfl (HM96.out.cells0 3 rfl) Try.underlying23 rfl (by kernel_rfl) rfl ?_
      simp only [Act.put, List.setIfInBounds_toArray, List.set_cons_succ, List.set_cons_zero]
      refine wpS_loadA (i := 41) (d := some 55) (cells := vcC (c)) rfl (by rfl) rfl rfl (HM96.out.cells0 2 rfl) Try.underlying23 rfl (by kernel_rfl) rfl ?_
      simp only [Act.put, List.setIfInBounds_toArray, List.set_cons_succ, List.set_cons_zero]
      refine wpS_does2 (i := 42) (d := some 56) (rem := [_, _, _, _, _]) (out := [_, _, _, _, _]) rfl (by rfl) rfl Try.call11 (cbelow_d b c) rfl rfl HM96.out [] rfl (covS_box 4 rfl (covS_box 3 rfl (covS_box 2 rfl (covS_box 1 rfl (covS_box 0 rfl covS_nil))))) rfl rfl ?_
      rintro W98 hm97 hg99
      rw [k2.out]
      have HM100 := Lib.hid hm97
      clear hm97
      simp only [Act.put, List.setIfInBounds_toArray, List.set_cons_succ, List.set_cons_zero]
      refine wpS_this [43, 44] rfl (by kernel_rfl) (by simp only [pickL, nthL, List.cons_append, List.nil_append]; rfl) ?_
      repeat (go_big_quiet_step (fail))
      refine wpQuiet_nil ?_
      refine wpS_skip (i := 45) (d := some 59) rfl (by rfl) rfl ?_
      simp only [Act.put, List.setIfInBounds_toArray, List.set_cons_succ, List.set_cons_zero]
      refine wpS_skip (i := 46) (d := some 60) rfl (by rfl) rfl ?_
      simp only [Act.put, List.setIfInBounds_toArray, List.set_cons_succ, List.set_cons_zero]
      refine wpS_skip (i := 47) (d := some 61) rfl (by rfl) rfl ?_
      simp only [Act.put, List.setIfInBounds_toArray, List.set_cons_succ, List.set_cons_zero]
      refine wpS_this [48, 49, 50] rfl (by kernel_rfl) (by simp only [pickL, nthL, List.cons_append, List.nil_append]; rfl) ?_
      repeat (go_big_quiet_step (fail))
      refine wpQuiet_nil ?_
      refine wpS_nil ?_
      refine then_normal ?_
      refine ⟨by kernel_rfl, ?_⟩
      exact ⟨rfl, (Mem.only (M := [_, _, _, _, _]) HM100.out [0, 0, 0, 0, 0] rfl)⟩
    · have k3 : Hid (belowV x c = true) := Lib.hid (by rw [← hx.out]; exact belowV_lub k1 k2)
      replace k1 := Lib.hid k1
      replace k2 := Lib.hid k2
      obtain ⟨y, hy'⟩ := vec_letter (joinV x c)
      have hy := Lib.hid hy'
      clear hy'
      obtain ⟨z, hz'⟩ := vec_letter (joinV b c)
      have hz := Lib.hid hz'
      clear hz'
      have hax : Hid (belowV a x = true) := Lib.hid (by rw [← hx.out]; exact belowV_left a b)
      have hbx : Hid (belowV b x = true) := Lib.hid (by rw [← hx.out]; exact belowV_right a b)
      refine wp_region_M (fun k => k ∈ ([b3, b7, b11, b15, b22] : List Nat)) [(0, 2), (1, 1), (2, 1), (3, 3), (4, 1), (5, 1), (6, 1), (7, 1), (9, 2), (10, 2), (11, 2), (8, 3), (12, 3), (13, 3), (14, 1), (15, 1), (16, 1), (17, 1), (18, 1), (20, 2), (19, 3), (21, 1), (22, 1), (23, 1), (24, 1), (25, 1), (26, 3), (27, 1), (28, 1), (29, 1), (30, 1), (31, 1), (32, 3), (33, 1), (34, 1), (35, 1), (36, 1), (37, 1), (38, 3), (39, 1), (40, 1), (41, 1), (42, 3), (43, 1), (44, 1), (45, 1), (46, 1), (47, 3), (48, 1), (49, 1), (50, 1)] (by kernel_rfl) (by kernel_rfl) HM26.out ?_
      intro W101 hm102
      have HM103 := Lib.hid hm102
      clear hm102
      refine wpS_loadA2 (i := 0) (d := some 14) (cells := vcC (x)) rfl (by rfl) rfl rfl (by simp) (HM103.out.cells0 0 rfl) Try.underlying23 rfl (by kernel_rfl) rfl ?_
      simp only [Act.put, List.setIfInBounds_toArray, List.set_cons_succ, List.set_cons_zero]
      refine wpS_loadA (i := 1) (d := some 15) (cells := vcC (b)) rfl (by rfl) rfl rfl (HM103.out.cells0 3 rfl) Try.underlying23 rfl (by kernel_rfl) rfl ?_
      simp only [Act.put, List.setIfInBounds_toArray, List.set_cons_succ, List.set_cons_zero]
      refine wpS_loadA (i := 2) (d := some 16) (cells := vcC (a)) rfl (by rfl) rfl rfl (HM103.out.cells0 4 rfl) Try.underlying23 rfl (by kernel_rfl) rfl ?_
      simp only [Act.put, List.setIfInBounds_toArray, List.set_cons_succ, List.set_cons_zero]
      refine wpS_does2 (i := 3) (d := some 17) (rem := [_, _, _, _, _]) (out := [_, _, _, _, _]) rfl (by rfl) rfl Try.call9 (cjoin_d b a) rfl rfl HM103.out [] rfl (covS_box 4 rfl (covS_box 3 rfl (covS_box 2 rfl (covS_box 1 rfl (covS_box 0 rfl covS_nil))))) rfl rfl ?_
      rintro W105 hm104 hg106
      rw [joinV_comm, hx.out]
      have HM107 := Lib.hid hm104
      clear hm104
      simp only [Act.put, List.setIfInBounds_toArray, List.set_cons_succ, List.set_cons_zero]
      refine wpS_read (i := 4) (d := some 18) rfl (by rfl) (run_neV (ne_self _) rfl rfl rfl) rfl ?_
      simp only [Act.put, List.setIfInBounds_toArray, List.set_cons_succ, List.set_cons_zero]
      refine wpS_this [5] rfl (by kernel_rfl) (by simp only [pickL, nthL, List.cons_append, List.nil_append]; rfl) ?_
      repeat (go_big_quiet_step (fail))
      refine wpQuiet_nil ?_
      refine wpS_loadA (i := 6) (d := some 20) (cells := vcC (x)) rfl (by rfl) rfl rfl (HM107.out.cells0 0 rfl) Try.underlying23 rfl (by kernel_rfl) rfl ?_
      simp only [Act.put, List.setIfInBounds_toArray, List.set_cons_succ, List.set_cons_zero]
      refine wpS_loadA (i := 7) (d := some 21) (cells := vcC (c)) rfl (by rfl) rfl rfl (HM107.out.cells0 2 rfl) Try.underlying23 rfl (by kernel_rfl) rfl ?_
      simp only [Act.put, List.setIfInBounds_toArray, List.set_cons_succ, List.set_cons_zero]
      refine wpS_loadA2 (i := 9) (d := some 23) (cells := vcC (a)) rfl (by rfl) rfl rfl (by simp) (HM107.out.cells0 4 rfl) Try.underlying23 rfl (by kernel_rfl) rfl ?_
      simp only [Act.put, List.setIfInBounds_toArray, List.set_cons_succ, List.set_cons_zero]
      refine wpS_loadA2 (i := 10) (d := some 24) (cells := vcC (b)) rfl (by rfl) rfl rfl (by simp) (HM107.out.cells0 3 rfl) Try.underlying23 rfl (by kernel_rfl) rfl ?_
      simp only [Act.put, List.setIfInBounds_toArray, List.set_cons_succ, List.set_cons_zero]
      refine wpS_loadA2 (i := 11) (d := some 25) (cells := vcC (c)) rfl (by rfl) rfl rfl (by simp) (HM107.out.cells0 2 rfl) Try.underlying23 rfl (by kernel_rfl) rfl ?_
      simp only [Act.put, List.setIfInBounds_toArray, List.set_cons_succ, List.set_cons_zero]
      refine wpS_does2 (i := 8) (d := some 22) (rem := [_, _, _, _, _]) (out := [_, _, _, _, _]) rfl (by rfl) rfl Try.call9 (cjoin_d x c) rfl rfl HM107.out [] rfl (covS_box 4 rfl (covS_box 3 rfl (covS_box 2 rfl (covS_box 1 rfl (covS_box 0 rfl covS_nil))))) rfl rfl ?_
      rintro W109 hm108 hg110
      rw [hy.out]
      have HM111 := Lib.hid hm108
      clear hm108
      simp only [Act.put, List.setIfInBounds_toArray, List.set_cons_succ, List.set_cons_zero]
      refine wpS_does2 (i := 12) (d := some 26) (rem := [_, _, _, _, _]) (out := [_, _, _, _, _]) rfl (by rfl) rfl Try.call9 (cjoin_d b c) rfl rfl HM111.out [] rfl (covS_box 4 rfl (covS_box 3 rfl (covS_box 2 rfl (covS_box 1 rfl (covS_box 0 rfl covS_nil))))) rfl rfl ?_
      rintro W113 hm112 hg114
      rw [hz.out]
      have HM115 := Lib.hid hm112
      clear hm112
      simp only [Act.put, List.setIfInBounds_toArray, List.set_cons_succ, List.set_cons_zero]
      refine wpS_does2 (i := 13) (d := some 27) (rem := [_, _, _, _, _]) (out := [_, _, _, _, _]) rfl (by rfl) rfl Try.call9 (cjoin_d a z) rfl rfl HM115.out [] rfl (covS_box 4 rfl (covS_box 3 rfl (covS_box 2 rfl (covS_box 1 rfl (covS_box 0 rfl covS_nil))))) rfl rfl ?_
      rintro W117 hm116 hg118
      rw [← hz.out, ← joinV_assoc, hx.out, hy.out]
      have HM119 := Lib.hid hm116
      clear hm116
      simp only [Act.put, List.setIfInBounds_toArray, List.set_cons_succ, List.set_cons_zero]
      refine wpS_read (i := 14) (d := some 28) rfl (by rfl) (run_neV (ne_self _) rfl rfl rfl) rfl ?_
      simp only [Act.put, List.setIfInBounds_toArray, List.set_cons_succ, List.set_cons_zero]
      refine wpS_this [15, 16] rfl (by kernel_rfl) (by simp only [pickL, nthL, List.cons_append, List.nil_append]; rfl) ?_
      repeat (go_big_quiet_step (fail))
      refine wpQuiet_nil ?_
      refine wpS_loadA (i := 17) (d := some 31) (cells := vcC (a)) rfl (by rfl) rfl rfl (HM119.out.cells0 4 rfl) Try.underlying23 rfl (by kernel_rfl) rfl ?_
      simp only [Act.put, List.setIfInBounds_toArray, List.set_cons_succ, List.set_cons_zero]
      refine wpS_loadA (i := 18) (d := some 32) (cells := vcC (a)) rfl (by rfl) rfl rfl (HM119.out.cells0 4 rfl) Try.underlying23 rfl (by kernel_rfl) rfl ?_
      simp only [Act.put, List.setIfInBounds_toArray, List.set_cons_succ, List.set_cons_zero]
      refine wpS_loadA2 (i := 20) (d := some 34) (cells := vcC (a)) rfl (by rfl) rfl rfl (by simp) (HM119.out.cells0 4 rfl) Try.underlying23 rfl (by kernel_rfl) rfl ?_
      simp only [Act.put, List.setIfInBounds_toArray, List.set_cons_succ, List.set_cons_zero]
      refine wpS_does2 (i := 19) (d := some 33) (rem := [_, _, _, _, _]) (out := [_, _, _, _, _]) rfl (by rfl) rfl Try.call9 (cjoin_d a a) rfl rfl HM119.out [] rfl (covS_box 4 rfl (covS_box 3 rfl (covS_box 2 rfl (covS_box 1 rfl (covS_box 0 rfl covS_nil))))) rfl rfl ?_
      rintro W121 hm120 hg122
      rw [joinV_self]
      have HM123 := Lib.hid hm120
      clear hm120
      simp only [Act.put, List.setIfInBounds_toArray, List.set_cons_succ, List.set_cons_zero]
      refine wpS_read (i := 21) (d := some 35) rfl (by rfl) (run_neV (ne_self _) rfl rfl rfl) rfl ?_
      simp only [Act.put, List.setIfInBounds_toArray, List.set_cons_succ, List.set_cons_zero]
      refine wpS_this [22, 23] rfl (by kernel_rfl) (by simp only [pickL, nthL, List.cons_append, List.nil_append]; rfl) ?_
      repeat (go_big_quiet_step (fail))
      refine wpQuiet_nil ?_
      refine wpS_loadA (i := 24) (d := some 38) (cells := vcC (a)) rfl (by rfl) rfl rfl (HM123.out.cells0 4 rfl) Try.underlying23 rfl (by kernel_rfl) rfl ?_
      simp only [Act.put, List.setIfInBounds_toArray, List.set_cons_succ, List.set_cons_zero]
      refine wpS_loadA (i := 25) (d := some 39) (cells := vcC (x)) rfl (by rfl) rfl rfl (HM123.out.cells0 0 rfl) Try.underlying23 rfl (by kernel_rfl) rfl ?_
      simp only [Act.put, List.setIfInBounds_toArray, List.set_cons_succ, List.set_cons_zero]
      refine wpS_does2 (i := 26) (d := some 40) (rem := [_, _, _, _, _]) (out := [_, _, _, _, _]) rfl (by rfl) rfl Try.call11 (cbelow_d a x) rfl rfl HM123.out [] rfl (covS_box 4 rfl (covS_box 3 rfl (covS_box 2 rfl (covS_box 1 rfl (covS_box 0 rfl covS_nil))))) rfl rfl ?_
      rintro W125 hm124 hg126
      rw [hax.out]
      have HM127 := Lib.hid hm124
      clear hm124
      simp only [Act.put, List.setIfInBounds_toArray, List.set_cons_succ, List.set_cons_zero]
      refine wpS_this [27, 28, 29] rfl (by kernel_rfl) (by simp only [pickL, nthL, List.cons_append, List.nil_append]; rfl) ?_
      repeat (go_big_quiet_step (fail))
      refine wpQuiet_nil ?_
      refine wpS_loadA (i := 30) (d := some 44) (cells := vcC (b)) rfl (by rfl) rfl rfl (HM127.out.cells0 3 rfl) Try.underlying23 rfl (by kernel_rfl) rfl ?_
      simp only [Act.put, List.setIfInBounds_toArray, List.set_cons_succ, List.set_cons_zero]
      refine wpS_loadA (i := 31) (d := some 45) (cells := vcC (x)) rfl (by rfl) rfl rfl (HM127.out.cells0 0 rfl) Try.underlying23 rfl (by kernel_rfl) rfl ?_
      simp only [Act.put, List.setIfInBounds_toArray, List.set_cons_succ, List.set_cons_zero]
      refine wpS_does2 (i := 32) (d := some 46) (rem := [_, _, _, _, _]) (out := [_, _, _, _, _]) rfl (by rfl) rfl Try.call11 (cbelow_d b x) rfl rfl HM127.out [] rfl (covS_box 4 rfl (covS_box 3 rfl (covS_box 2 rfl (covS_box 1 rfl (covS_box 0 rfl covS_nil))))) rfl rfl ?_
      rintro W129 hm128 hg130
      rw [hbx.out]
      have HM131 := Lib.hid hm128
      clear hm128
      simp only [Act.put, List.setIfInBounds_toArray, List.set_cons_succ, List.set_cons_zero]
      refine wpS_this [33, 34, 35] rfl (by kernel_rfl) (by simp only [pickL, nthL, List.cons_append, List.nil_append]; rfl) ?_
      repeat (go_big_quiet_step (fail))
      refine wpQuiet_nil ?_
      refine wpS_loadA (i := 36) (d := some 50) (cells := vcC (a)) rfl (by rfl) rfl rfl (HM131.out.cells0 4 rfl) Try.underlying23 rfl (by kernel_rfl) rfl ?_
      simp only [Act.put, List.setIfInBounds_toArray, List.set_cons_succ, List.set_cons_zero]
      refine wpS_loadA (i := 37) (d := some 51) (cells := vcC (c)) rfl (by rfl) rfl rfl (HM131.out.cells0 2 rfl) Try.underlying23 rfl (by kernel_rfl) rfl ?_
      simp only [Act.put, List.setIfInBounds_toArray, List.set_cons_succ, List.set_cons_zero]
      refine wpS_does2 (i := 38) (d := some 52) (rem := [_, _, _, _, _]) (out := [_, _, _, _, _]) rfl (by rfl) rfl Try.call11 (cbelow_d a c) rfl rfl HM131.out [] rfl (covS_box 4 rfl (covS_box 3 rfl (covS_box 2 rfl (covS_box 1 rfl (covS_box 0 rfl covS_nil))))) rfl rfl ?_
      rintro W133 hm132 hg134
      rw [k1.out]
      have HM135 := Lib.hid hm132
      clear hm132
      simp only [Act.put, List.setIfInBounds_toArray, List.set_cons_succ, List.set_cons_zero]
      refine wpS_this [39] rfl (by kernel_rfl) (by simp only [pickL, nthL, List.cons_append, List.nil_append]; rfl) ?_
      repeat (go_big_quiet_step (fail))
      refine wpQuiet_nil ?_
      refine wpS_loadA (i := 40) (d := some 54) (cells := vcC (b)) rfl (by rfl) rfl rfl (HM135.out.cells0 3 rfl) Try.underlying23 rfl (by kernel_rfl) rfl ?_
      simp only [Act.put, List.setIfInBounds_toArray, List.set_cons_succ, List.set_cons_zero]
      refine wpS_loadA (i := 41) (d := some 55) (cells := vcC (c)) rfl (by rfl) rfl rfl (HM135.out.cells0 2 rfl) Try.underlying23 rfl (by kernel_rfl) rfl ?_
      simp only [Act.put, List.setIfInBounds_toArray, List.set_cons_succ, List.set_cons_zero]
      refine wpS_does2 (i := 42) (d := some 56) (rem := [_, _, _, _, _]) (out := [_, _, _, _, _]) rfl (by rfl) rfl Try.call11 (cbelow_d b c) rfl rfl HM135.out [] rfl (covS_box 4 rfl (covS_box 3 rfl (covS_box 2 rfl (covS_box 1 rfl (covS_box 0 rfl covS_nil))))) rfl rfl ?_
      rintro W137 hm136 hg138
      rw [k2.out]
      have HM139 := Lib.hid hm136
      clear hm136
      simp only [Act.put, List.setIfInBounds_toArray, List.set_cons_succ, List.set_cons_zero]
      refine wpS_this [43, 44] rfl (by kernel_rfl) (by simp only [pickL, nthL, List.cons_append, List.nil_append]; rfl) ?_
      repeat (go_big_quiet_step (fail))
      refine wpQuiet_nil ?_
      refine wpS_loadA (i := 45) (d := some 59) (cells := vcC (x)) rfl (by rfl) rfl rfl (HM139.out.cells0 0 rfl) Try.underlying23 rfl (by kernel_rfl) rfl ?_
      simp only [Act.put, List.setIfInBounds_toArray, List.set_cons_succ, List.set_cons_zero]
      refine wpS_loadA (i := 46) (d := some 60) (cells := vcC (c)) rfl (by rfl) rfl rfl (HM139.out.cells0 2 rfl) Try.underlying23 rfl (by kernel_rfl) rfl ?_
      simp only [Act.put, List.setIfInBounds_toArray, List.set_cons_succ, List.set_cons_zero]
      refine wpS_does2 (i := 47) (d := some 61) (rem := [_, _, _, _, _]) (out := [_, _, _, _, _]) rfl (by rfl) rfl Try.call11 (cbelow_d x c) rfl rfl HM139.out [] rfl (covS_box 4 rfl (covS_box 3 rfl (covS_box 2 rfl (covS_box 1 rfl (covS_box 0 rfl covS_nil))))) rfl rfl ?_
      rintro W141 hm140 hg142
      rw [k3.out]
      have HM143 := Lib.hid hm140
      clear hm140
      simp only [Act.put, List.setIfInBounds_toArray, List.set_cons_succ, List.set_cons_zero]
      refine wpS_this [48, 49, 50] rfl (by kernel_rfl) (by simp only [pickL, nthL, List.cons_append, List.nil_append]; rfl) ?_
      repeat (go_big_quiet_step (fail))
      refine wpQuiet_nil ?_
      refine wpS_nil ?_
      refine then_normal ?_
      refine ⟨by kernel_rfl, ?_⟩
      exact ⟨rfl, (Mem.only (M := [_, _, _, _, _]) HM143.out [0, 0, 0, 0, 0] rfl)⟩
  rintro vs W' ⟨e64, hm⟩
  simp only [putAll, List.map_cons, List.map_nil, Act.put, List.setIfInBounds_toArray, List.set_cons_succ, List.set_cons_zero]
  rw [e64]
  clear e64
  have HM144 := Lib.hid hm
  clear hm
  refine then_normal ?_
  refine wp_cond_false rfl ?_
  refine wp_skip ?_
  refine then_normal ?_
  refine wp_seq ?_
  refine wp_seq ?_
  refine wp_cut_F [65, 66, 67, 68, 69, 70, 71, 72, 73, 74, 75, 76, 77, 78, 79, 80, 81, 82, 83, 84, 85, 86, 87, 88, 89, 90, 91, 92] (fun vs W' => vs 92 = .bool false ∧ Mem [boxT b22 (.cells (vcC (x)).toArray 23 (0, 0)), boxT b15 (.cells #[.int .i64 d1, .int .i64 d2] 25 (0, 0)), boxT b11 (.cells (vcC (c)).toArray 23 (0, 0)), boxT b7 (.cells (vcC (b)).toArray 23 (0, 0)), boxT b3 (.cells (vcC (a)).toArray 23 (0, 0))] H w W') ?_ ?_
  · rcases (show (hasV a (d1, d2) = true ∧ hasV b (d1, d2) = true ∧ belowV a b = true) ∨ (hasV a (d1, d2) = true ∧ hasV b (d1, d2) = true ∧ belowV a b = false) ∨ (hasV a (d1, d2) = true ∧ hasV b (d1, d2) = false ∧ belowV a b = false) ∨ (hasV a (d1, d2) = false ∧ hasV b (d1, d2) = true ∧ belowV a b = true) ∨ (hasV a (d1, d2) = false ∧ hasV b (d1, d2) = true ∧ belowV a b = false) ∨ (hasV a (d1, d2) = false ∧ hasV b (d1, d2) = false ∧ belowV a b = true) ∨ (hasV a (d1, d2) = false ∧ hasV b (d1, d2) = false ∧ belowV a b = false) from by
        have hb : belowV a b = true → hasV a (d1, d2) = true → hasV b (d1, d2) = true := fun h1 h2 => hasV_below h1 h2
        cases h1 : hasV a (d1, d2) <;> cases h2 : hasV b (d1, d2) <;> cases h3 : belowV a b <;> simp_all) with ⟨p1, q1, s1⟩ | ⟨p1, q1, s1⟩ | ⟨p1, q1, s1⟩ | ⟨p1, q1, s1⟩ | ⟨p1, q1, s1⟩ | ⟨p1, q1, s1⟩ | ⟨p1, q1, s1⟩
    · have hpq : Hid (hasV x (d1, d2) = true) := Lib.hid (by rw [← hx.out, hasV_join, p1, q1]; rfl)
      replace p1 := Lib.hid p1
      replace q1 := Lib.hid q1
      replace s1 := Lib.hid s1
      refine wp_region_M (fun k => k ∈ ([b3, b7, b11, b15, b22] : List Nat)) [(0, 1), (1, 1), (3, 2), (4, 2), (2, 3), (5, 3), (6, 1), (7, 1), (8, 1), (9, 3), (10, 1), (11, 1), (12, 1), (13, 1), (14, 1), (15, 3), (16, 1), (17, 1), (18, 1), (19, 3), (20, 1), (21, 1), (22, 1), (23, 1), (24, 3), (25, 1), (26, 1), (27, 1)] (by kernel_rfl) (by kernel_rfl) HM144.out ?_
      intro W145 hm146
      have HM147 := Lib.hid hm146
      clear hm146
      refine wpS_loadA (i := 0) (d := some 65) (cells := vcC (x)) rfl (by rfl) rfl rfl (HM147.out.cells0 0 rfl) Try.underlying23 rfl (by kernel_rfl) rfl ?_
      simp only [Act.put, List.setIfInBounds_toArray, List.set_cons_succ, List.set_cons_zero]
      have Cb7 := Mem.cell HM147.out 1 rfl
      refine wpS_this [1] rfl (by kernel_rfl) (by simp only [pickL, nthL, List.cons_append, List.nil_append]; rfl) ?_
      repeat (go_big_quiet_step (fail))
      refine wpQuiet_nil ?_
      clear Cb7
      refine wpS_loadA2 (i := 3) (d := some 68) (cells := vcC (a)) rfl (by rfl) rfl rfl (by simp) (HM147.out.cells0 4 rfl) Try.underlying23 rfl (by kernel_rfl) rfl ?_
      simp only [Act.put, List.setIfInBounds_toArray, List.set_cons_succ, List.set_cons_zero]
      have Cb7 := Mem.cell HM147.out 1 rfl
      refine wpS_stay [4] rfl (by kernel_rfl) (by simp only [pickL, nthL, List.cons_append, List.nil_append]; rfl) ?_
      repeat (go_big_quiet_step (fail))
      refine wpQuiet_nil ?_
      clear Cb7
      refine wpS_does2 (i := 2) (d := some 67) (rem := [_, _, _, _, _]) (out := [_, _, _, _, _]) rfl (by rfl) rfl Try.call13 (chas_d x d1 d2) rfl rfl HM147.out [] rfl (covS_box 4 rfl (covS_box 3 rfl (covS_box 2 rfl (covS_box 1 rfl (covS_box 0 rfl covS_nil))))) rfl rfl ?_
      rintro W149 hm148 hg150
      rw [hpq.out]
      have HM151 := Lib.hid hm148
      clear hm148
      simp only [Act.put, List.setIfInBounds_toArray, List.set_cons_succ, List.set_cons_zero]
      refine wpS_does2 (i := 5) (d := some 70) (rem := [_, _, _, _, _]) (out := [_, _, _, _, _]) rfl (by rfl) rfl Try.call13 (chas_d a d1 d2) rfl rfl HM151.out [] rfl (covS_box 4 rfl (covS_box 3 rfl (covS_box 2 rfl (covS_box 1 rfl (covS_box 0 rfl covS_nil))))) rfl rfl ?_
      rintro W153 hm152 hg154
      rw [p1.out]
      have HM155 := Lib.hid hm152
      clear hm152
      simp only [Act.put, List.setIfInBounds_toArray, List.set_cons_succ, List.set_cons_zero]
      refine wpS_this [6] rfl (by kernel_rfl) (by simp only [pickL, nthL, List.cons_append, List.nil_append]; rfl) ?_
      repeat (go_big_quiet_step (fail))
      refine wpQuiet_nil ?_
      refine wpS_skip (i := 7) (d := some 72) rfl (by rfl) rfl ?_
      simp only [Act.put, List.setIfInBounds_toArray, List.set_cons_succ, List.set_cons_zero]
      have Cb7 := Mem.cell HM155.out 1 rfl
      refine wpS_this [8] rfl (by kernel_rfl) (by simp only [pickL, nthL, List.cons_append, List.nil_append]; rfl) ?_
      repeat (go_big_quiet_step (fail))
      refine wpQuiet_nil ?_
      clear Cb7
      refine wpS_skip (i := 9) (d := some 74) rfl (by rfl) rfl ?_
      simp only [Act.put, List.setIfInBounds_toArray, List.set_cons_succ, List.set_cons_zero]
      refine wpS_this [10, 11, 12] rfl (by kernel_rfl) (by simp only [pickL, nthL, List.cons_append, List.nil_append]; rfl) ?_
      repeat (go_big_quiet_step (fail))
      refine wpQuiet_nil ?_
      refine wpS_loadA (i := 13) (d := some 78) (cells := vcC (a)) rfl (by rfl) rfl rfl (HM155.out.cells0 4 rfl) Try.underlying23 rfl (by kernel_rfl) rfl ?_
      simp only [Act.put, List.setIfInBounds_toArray, List.set_cons_succ, List.set_cons_zero]
      refine wpS_loadA (i := 14) (d := some 79) (cells := vcC (b)) rfl (by rfl) rfl rfl (HM155.out.cells0 3 rfl) Try.underlying23 rfl (by kernel_rfl) rfl ?_
      simp only [Act.put, List.setIfInBounds_toArray, List.set_cons_succ, List.set_cons_zero]
      refine wpS_does2 (i := 15) (d := some 80) (rem := [_, _, _, _, _]) (out := [_, _, _, _, _]) rfl (by rfl) rfl Try.call11 (cbelow_d a b) rfl rfl HM155.out [] rfl (covS_box 4 rfl (covS_box 3 rfl (covS_box 2 rfl (covS_box 1 rfl (covS_box 0 rfl covS_nil))))) rfl rfl ?_
      rintro W157 hm156 hg158
      rw [s1.out]
      have HM159 := Lib.hid hm156
      clear hm156
      simp only [Act.put, List.setIfInBounds_toArray, List.set_cons_succ, List.set_cons_zero]
      refine wpS_this [16] rfl (by kernel_rfl) (by simp only [pickL, nthL, List.cons_append, List.nil_append]; rfl) ?_
      repeat (go_big_quiet_step (fail))
      refine wpQuiet_nil ?_
      refine wpS_loadA (i := 17) (d := some 82) (cells := vcC (a)) rfl (by rfl) rfl rfl (HM159.out.cells0 4 rfl) Try.underlying23 rfl (by kernel_rfl) rfl ?_
      simp only [Act.put, List.setIfInBounds_toArray, List.set_cons_succ, List.set_cons_zero]
      have Cb7 := Mem.cell HM159.out 1 rfl
      refine wpS_this [18] rfl (by kernel_rfl) (by simp only [pickL, nthL, List.cons_append, List.nil_append]; rfl) ?_
      repeat (go_big_quiet_step (fail))
      refine wpQuiet_nil ?_
      clear Cb7
      refine wpS_does2 (i := 19) (d := some 84) (rem := [_, _, _, _, _]) (out := [_, _, _, _, _]) rfl (by rfl) rfl Try.call13 (chas_d a d1 d2) rfl rfl HM159.out [] rfl (covS_box 4 rfl (covS_box 3 rfl (covS_box 2 rfl (covS_box 1 rfl (covS_box 0 rfl covS_nil))))) rfl rfl ?_
      rintro W161 hm160 hg162
      rw [p1.out]
      have HM163 := Lib.hid hm160
      clear hm160
      simp only [Act.put, List.setIfInBounds_toArray, List.set_cons_succ, List.set_cons_zero]
      refine wpS_this [20, 21] rfl (by kernel_rfl) (by simp only [pickL, nthL, List.cons_append, List.nil_append]; rfl) ?_
      repeat (go_big_quiet_step (fail))
      refine wpQuiet_nil ?_
      refine wpS_loadA (i := 22) (d := some 87) (cells := vcC (b)) rfl (by rfl) rfl rfl (HM163.out.cells0 3 rfl) Try.underlying23 rfl (by kernel_rfl) rfl ?_
      simp only [Act.put, List.setIfInBounds_toArray, List.set_cons_succ, List.set_cons_zero]
      have Cb7 := Mem.cell HM163.out 1 rfl
      refine wpS_this [23] rfl (by kernel_rfl) (by simp only [pickL, nthL, List.cons_append, List.nil_append]; rfl) ?_
      repeat (go_big_quiet_step (fail))
      refine wpQuiet_nil ?_
      clear Cb7
      refine wpS_does2 (i := 24) (d := some 89) (rem := [_, _, _, _, _]) (out := [_, _, _, _, _]) rfl (by rfl) rfl Try.call13 (chas_d b d1 d2) rfl rfl HM163.out [] rfl (covS_box 4 rfl (covS_box 3 rfl (covS_box 2 rfl (covS_box 1 rfl (covS_box 0 rfl covS_nil))))) rfl rfl ?_
      rintro W165 hm164 hg166
      rw [q1.out]
      have HM167 := Lib.hid hm164
      clear hm164
      simp only [Act.put, List.setIfInBounds_toArray, List.set_cons_succ, List.set_cons_zero]
      refine wpS_this [25, 26, 27] rfl (by kernel_rfl) (by simp only [pickL, nthL, List.cons_append, List.nil_append]; rfl) ?_
      repeat (go_big_quiet_step (fail))
      refine wpQuiet_nil ?_
      refine wpS_nil ?_
      refine then_normal ?_
      refine ⟨by kernel_rfl, ?_⟩
      exact ⟨rfl, (Mem.only (M := [_, _, _, _, _]) HM167.out [0, 0, 0, 0, 0] rfl)⟩
    · have hpq : Hid (hasV x (d1, d2) = true) := Lib.hid (by rw [← hx.out, hasV_join, p1, q1]; rfl)
      replace p1 := Lib.hid p1
      replace q1 := Lib.hid q1
      replace s1 := Lib.hid s1
      refine wp_region_M (fun k => k ∈ ([b3, b7, b11, b15, b22] : List Nat)) [(0, 1), (1, 1), (3, 2), (4, 2), (2, 3), (5, 3), (6, 1), (7, 1), (8, 1), (9, 3), (10, 1), (11, 1), (12, 1), (13, 1), (14, 1), (15, 3), (16, 1), (17, 1), (18, 1), (19, 3), (20, 1), (21, 1), (22, 1), (23, 1), (24, 3), (25, 1), (26, 1), (27, 1)] (by kernel_rfl) (by kernel_rfl) HM144.out ?_
      intro W168 hm169
      have HM170 := Lib.hid hm169
      clear hm169
      refine wpS_loadA (i := 0) (d := some 65) (cells := vcC (x)) rfl (by rfl) rfl rfl (HM170.out.cells0 0 rfl) Try.underlying23 rfl (by kernel_rfl) rfl ?_
      simp only [Act.put, List.setIfInBounds_toArray, List.set_cons_succ, List.set_cons_zero]
      have Cb7 := Mem.cell HM170.out 1 rfl
      refine wpS_this [1] rfl (by kernel_rfl) (by simp only [pickL, nthL, List.cons_append, List.nil_append]; rfl) ?_
      repeat (go_big_quiet_step (fail))
      refine wpQuiet_nil ?_
      clear Cb7
      refine wpS_loadA2 (i := 3) (d := some 68) (cells := vcC (a)) rfl (by rfl) rfl rfl (by simp) (HM170.out.cells0 4 rfl) Try.underlying23 rfl (by kernel_rfl) rfl ?_
      simp only [Act.put, List.setIfInBounds_toArray, List.set_cons_succ, List.set_cons_zero]
      have Cb7 := Mem.cell HM170.out 1 rfl
      refine wpS_stay [4] rfl (by kernel_rfl) (by simp only [pickL, nthL, List.cons_append, List.nil_append]; rfl) ?_
      repeat (go_big_quiet_step (fail))
      refine wpQuiet_nil ?_
      clear Cb7
      refine wpS_does2 (i := 2) (d := some 67) (rem := [_, _, _, _, _]) (out := [_, _, _, _, _]) rfl (by rfl) rfl Try.call13 (chas_d x d1 d2) rfl rfl HM170.out [] rfl (covS_box 4 rfl (covS_box 3 rfl (covS_box 2 rfl (covS_box 1 rfl (covS_box 0 rfl covS_nil))))) rfl rfl ?_
      rintro W172 hm171 hg173
      rw [hpq.out]
      have HM174 := Lib.hid hm171
      clear hm171
      simp only [Act.put, List.setIfInBounds_toArray, List.set_cons_succ, List.set_cons_zero]
      refine wpS_does2 (i := 5) (d := some 70) (rem := [_, _, _, _, _]) (out := [_, _, _, _, _]) rfl (by rfl) rfl Try.call13 (chas_d a d1 d2) rfl rfl HM174.out [] rfl (covS_box 4 rfl (covS_box 3 rfl (covS_box 2 rfl (covS_box 1 rfl (covS_box 0 rfl covS_nil))))) rfl rfl ?_
      rintro W176 hm175 hg177
      rw [p1.out]
      have HM178 := Lib.hid hm175
      clear hm175
      simp only [Act.put, List.setIfInBounds_toArray, List.set_cons_succ, List.set_cons_zero]
      refine wpS_this [6] rfl (by kernel_rfl) (by simp only [pickL, nthL, List.cons_append, List.nil_append]; rfl) ?_
      repeat (go_big_quiet_step (fail))
      refine wpQuiet_nil ?_
      refine wpS_skip (i := 7) (d := some 72) rfl (by rfl) rfl ?_
      simp only [Act.put, List.setIfInBounds_toArray, List.set_cons_succ, List.set_cons_zero]
      have Cb7 := Mem.cell HM178.out 1 rfl
      refine wpS_this [8] rfl (by kernel_rfl) (by simp only [pickL, nthL, List.cons_append, List.nil_append]; rfl) ?_
      repeat (go_big_quiet_step (fail))
      refine wpQuiet_nil ?_
      clear Cb7
      refine wpS_skip (i := 9) (d := some 74) rfl (by rfl) rfl ?_
      simp only [Act.put, List.setIfInBounds_toArray, List.set_cons_succ, List.set_cons_zero]
      refine wpS_this [10, 11, 12] rfl (by kernel_rfl) (by simp only [pickL, nthL, List.cons_append, List.nil_append]; rfl) ?_
      repeat (go_big_quiet_step (fail))
      refine wpQuiet_nil ?_
      refine wpS_loadA (i := 13) (d := some 78) (cells := vcC (a)) rfl (by rfl) rfl rfl (HM178.out.cells0 4 rfl) Try.underlying23 rfl (by kernel_rfl) rfl ?_
      simp only [Act.put, List.setIfInBounds_toArray, List.set_cons_succ, List.set_cons_zero]
      refine wpS_loadA (i := 14) (d := some 79) (cells := vcC (b)) rfl (by rfl) rfl rfl (HM178.out.cells0 3 rfl) Try.underlying23 rfl (by kernel_rfl) rfl ?_
      simp only [Act.put, List.setIfInBounds_toArray, List.set_cons_succ, List.set_cons_zero]
      refine wpS_does2 (i := 15) (d := some 80) (rem := [_, _, _, _, _]) (out := [_, _, _, _, _]) rfl (by rfl) rfl Try.call11 (cbelow_d a b) rfl rfl HM178.out [] rfl (covS_box 4 rfl (covS_box 3 rfl (covS_box 2 rfl (covS_box 1 rfl (covS_box 0 rfl covS_nil))))) rfl rfl ?_
      rintro W180 hm179 hg181
      rw [s1.out]
      have HM182 := Lib.hid hm179
      clear hm179
      simp only [Act.put, List.setIfInBounds_toArray, List.set_cons_succ, List.set_cons_zero]
      refine wpS_this [16] rfl (by kernel_rfl) (by simp only [pickL, nthL, List.cons_append, List.nil_append]; rfl) ?_
      repeat (go_big_quiet_step (fail))
      refine wpQuiet_nil ?_
      refine wpS_skip (i := 17) (d := some 82) rfl (by rfl) rfl ?_
      simp only [Act.put, List.setIfInBounds_toArray, List.set_cons_succ, List.set_cons_zero]
      have Cb7 := Mem.cell HM182.out 1 rfl
      refine wpS_this [18] rfl (by kernel_rfl) (by simp only [pickL, nthL, List.cons_append, List.nil_append]; rfl) ?_
      repeat (go_big_quiet_step (fail))
      refine wpQuiet_nil ?_
      clear Cb7
      refine wpS_skip (i := 19) (d := some 84) rfl (by rfl) rfl ?_
      simp only [Act.put, List.setIfInBounds_toArray, List.set_cons_succ, List.set_cons_zero]
      refine wpS_this [20, 21] rfl (by kernel_rfl) (by simp only [pickL, nthL, List.cons_append, List.nil_append]; rfl) ?_
      repeat (go_big_quiet_step (fail))
      refine wpQuiet_nil ?_
      refine wpS_skip (i := 22) (d := some 87) rfl (by rfl) rfl ?_
      simp only [Act.put, List.setIfInBounds_toArray, List.set_cons_succ, List.set_cons_zero]
      have Cb7 := Mem.cell HM182.out 1 rfl
      refine wpS_this [23] rfl (by kernel_rfl) (by simp only [pickL, nthL, List.cons_append, List.nil_append]; rfl) ?_
      repeat (go_big_quiet_step (fail))
      refine wpQuiet_nil ?_
      clear Cb7
      refine wpS_skip (i := 24) (d := some 89) rfl (by rfl) rfl ?_
      simp only [Act.put, List.setIfInBounds_toArray, List.set_cons_succ, List.set_cons_zero]
      refine wpS_this [25, 26, 27] rfl (by kernel_rfl) (by simp only [pickL, nthL, List.cons_append, List.nil_append]; rfl) ?_
      repeat (go_big_quiet_step (fail))
      refine wpQuiet_nil ?_
      refine wpS_nil ?_
      refine then_normal ?_
      refine ⟨by kernel_rfl, ?_⟩
      exact ⟨rfl, (Mem.only (M := [_, _, _, _, _]) HM182.out [0, 0, 0, 0, 0] rfl)⟩
    · have hpq : Hid (hasV x (d1, d2) = true) := Lib.hid (by rw [← hx.out, hasV_join, p1, q1]; rfl)
      replace p1 := Lib.hid p1
      replace q1 := Lib.hid q1
      replace s1 := Lib.hid s1
      refine wp_region_M (fun k => k ∈ ([b3, b7, b11, b15, b22] : List Nat)) [(0, 1), (1, 1), (3, 2), (4, 2), (2, 3), (5, 3), (6, 1), (7, 1), (8, 1), (9, 3), (10, 1), (11, 1), (12, 1), (13, 1), (14, 1), (15, 3), (16, 1), (17, 1), (18, 1), (19, 3), (20, 1), (21, 1), (22, 1), (23, 1), (24, 3), (25, 1), (26, 1), (27, 1)] (by kernel_rfl) (by kernel_rfl) HM144.out ?_
      intro W183 hm184
      have HM185 := Lib.hid hm184
      clear hm184
      refine wpS_loadA (i := 0) (d := some 65) (cells := vcC (x)) rfl (by rfl) rfl rfl (HM185.out.cells0 0 rfl) Try.underlying23 rfl (by kernel_rfl) rfl ?_
      simp only [Act.put, List.setIfInBounds_toArray, List.set_cons_succ, List.set_cons_zero]
      have Cb7 := Mem.cell HM185.out 1 rfl
      refine wpS_this [1] rfl (by kernel_rfl) (by simp only [pickL, nthL, List.cons_append, List.nil_append]; rfl) ?_
      repeat (go_big_quiet_step (fail))
      refine wpQuiet_nil ?_
      clear Cb7
      refine wpS_loadA2 (i := 3) (d := some 68) (cells := vcC (a)) rfl (by rfl) rfl rfl (by simp) (HM185.out.cells0 4 rfl) Try.underlying23 rfl (by kernel_rfl) rfl ?_
      simp only [Act.put, List.setIfInBounds_toArray, List.set_cons_succ, List.set_cons_zero]
      have Cb7 := Mem.cell HM185.out 1 rfl
      refine wpS_stay [4] rfl (by kernel_rfl) (by simp only [pickL, nthL, List.cons_append, List.nil_append]; rfl) ?_
      repeat (go_big_quiet_step (fail))
      refine wpQuiet_nil ?_
      clear Cb7
      refine wpS_does2 (i := 2) (d := some 67) (rem := [_, _, _, _, _]) (out := [_, _, _, _, _]) rfl (by rfl) rfl Try.call13 (chas_d x d1 d2) rfl rfl HM185.out [] rfl (covS_box 4 rfl (covS_box 3 rfl (covS_box 2 rfl (covS_box 1 rfl (covS_box 0 rfl covS_nil))))) rfl rfl ?_
      rintro W187 hm186 hg188
      rw [hpq.out]
      have HM189 := Lib.hid hm186
      clear hm186
      simp only [Act.put, List.setIfInBounds_toArray, List.set_cons_succ, List.set_cons_zero]
      refine wpS_does2 (i := 5) (d := some 70) (rem := [_, _, _, _, _]) (out := [_, _, _, _, _]) rfl (by rfl) rfl Try.call13 (chas_d a d1 d2) rfl rfl HM189.out [] rfl (covS_box 4 rfl (covS_box 3 rfl (covS_box 2 rfl (covS_box 1 rfl (covS_box 0 rfl covS_nil))))) rfl rfl ?_
      rintro W191 hm190 hg192
      rw [p1.out]
      have HM193 := Lib.hid hm190
      clear hm190
      simp only [Act.put, List.setIfInBounds_toArray, List.set_cons_succ, List.set_cons_zero]
      refine wpS_this [6] rfl (by kernel_rfl) (by simp only [pickL, nthL, List.cons_append, List.nil_append]; rfl) ?_
      repeat (go_big_quiet_step (fail))
      refine wpQuiet_nil ?_
      refine wpS_skip (i := 7) (d := some 72) rfl (by rfl) rfl ?_
      simp only [Act.put, List.setIfInBounds_toArray, List.set_cons_succ, List.set_cons_zero]
      have Cb7 := Mem.cell HM193.out 1 rfl
      refine wpS_this [8] rfl (by kernel_rfl) (by simp only [pickL, nthL, List.cons_append, List.nil_append]; rfl) ?_
      repeat (go_big_quiet_step (fail))
      refine wpQuiet_nil ?_
      clear Cb7
      refine wpS_skip (i := 9) (d := some 74) rfl (by rfl) rfl ?_
      simp only [Act.put, List.setIfInBounds_toArray, List.set_cons_succ, List.set_cons_zero]
      refine wpS_this [10, 11, 12] rfl (by kernel_rfl) (by simp only [pickL, nthL, List.cons_append, List.nil_append]; rfl) ?_
      repeat (go_big_quiet_step (fail))
      refine wpQuiet_nil ?_
      refine wpS_loadA (i := 13) (d := some 78) (cells := vcC (a)) rfl (by rfl) rfl rfl (HM193.out.cells0 4 rfl) Try.underlying23 rfl (by kernel_rfl) rfl ?_
      simp only [Act.put, List.setIfInBounds_toArray, List.set_cons_succ, List.set_cons_zero]
      refine wpS_loadA (i := 14) (d := some 79) (cells := vcC (b)) rfl (by rfl) rfl rfl (HM193.out.cells0 3 rfl) Try.underlying23 rfl (by kernel_rfl) rfl ?_
      simp only [Act.put, List.setIfInBounds_toArray, List.set_cons_succ, List.set_cons_zero]
      refine wpS_does2 (i := 15) (d := some 80) (rem := [_, _, _, _, _]) (out := [_, _, _, _, _]) rfl (by rfl) rfl Try.call11 (cbelow_d a b) rfl rfl HM193.out [] rfl (covS_box 4 rfl (covS_box 3 rfl (covS_box 2 rfl (covS_box 1 rfl (covS_box 0 rfl covS_nil))))) rfl rfl ?_
      rintro W195 hm194 hg196
      rw [s1.out]
      have HM197 := Lib.hid hm194
      clear hm194
      simp only [Act.put, List.setIfInBounds_toArray, List.set_cons_succ, List.set_cons_zero]
      refine wpS_this [16] rfl (by kernel_rfl) (by simp only [pickL, nthL, List.cons_append, List.nil_append]; rfl) ?_
      repeat (go_big_quiet_step (fail))
      refine wpQuiet_nil ?_
      refine wpS_skip (i := 17) (d := some 82) rfl (by rfl) rfl ?_
      simp only [Act.put, List.setIfInBounds_toArray, List.set_cons_succ, List.set_cons_zero]
      have Cb7 := Mem.cell HM197.out 1 rfl
      refine wpS_this [18] rfl (by kernel_rfl) (by simp only [pickL, nthL, List.cons_append, List.nil_append]; rfl) ?_
      repeat (go_big_quiet_step (fail))
      refine wpQuiet_nil ?_
      clear Cb7
      refine wpS_skip (i := 19) (d := some 84) rfl (by rfl) rfl ?_
      simp only [Act.put, List.setIfInBounds_toArray, List.set_cons_succ, List.set_cons_zero]
      refine wpS_this [20, 21] rfl (by kernel_rfl) (by simp only [pickL, nthL, List.cons_append, List.nil_append]; rfl) ?_
      repeat (go_big_quiet_step (fail))
      refine wpQuiet_nil ?_
      refine wpS_skip (i := 22) (d := some 87) rfl (by rfl) rfl ?_
      simp only [Act.put, List.setIfInBounds_toArray, List.set_cons_succ, List.set_cons_zero]
      have Cb7 := Mem.cell HM197.out 1 rfl
      refine wpS_this [23] rfl (by kernel_rfl) (by simp only [pickL, nthL, List.cons_append, List.nil_append]; rfl) ?_
      repeat (go_big_quiet_step (fail))
      refine wpQuiet_nil ?_
      clear Cb7
      refine wpS_skip (i := 24) (d := some 89) rfl (by rfl) rfl ?_
      simp only [Act.put, List.setIfInBounds_toArray, List.set_cons_succ, List.set_cons_zero]
      refine wpS_this [25, 26, 27] rfl (by kernel_rfl) (by simp only [pickL, nthL, List.cons_append, List.nil_append]; rfl) ?_
      repeat (go_big_quiet_step (fail))
      refine wpQuiet_nil ?_
      refine wpS_nil ?_
      refine then_normal ?_
      refine ⟨by kernel_rfl, ?_⟩
      exact ⟨rfl, (Mem.only (M := [_, _, _, _, _]) HM197.out [0, 0, 0, 0, 0] rfl)⟩
    · have hpq : Hid (hasV x (d1, d2) = true) := Lib.hid (by rw [← hx.out, hasV_join, p1, q1]; rfl)
      replace p1 := Lib.hid p1
      replace q1 := Lib.hid q1
      replace s1 := Lib.hid s1
      refine wp_region_M (fun k => k ∈ ([b3, b7, b11, b15, b22] : List Nat)) [(0, 1), (1, 1), (3, 2), (4, 2), (2, 3), (5, 3), (6, 1), (7, 1), (8, 1), (9, 3), (10, 1), (11, 1), (12, 1), (13, 1), (14, 1), (15, 3), (16, 1), (17, 1), (18, 1), (19, 3), (20, 1), (21, 1), (22, 1), (23, 1), (24, 3), (25, 1), (26, 1), (27, 1)] (by kernel_rfl) (by kernel_rfl) HM144.out ?_
      intro W198 hm199
      have HM200 := Lib.hid hm199
      clear hm199
      refine wpS_loadA (i := 0) (d := some 65) (cells := vcC (x)) rfl (by rfl) rfl rfl (HM200.out.cells0 0 rfl) Try.underlying23 rfl (by kernel_rfl) rfl ?_
      simp only [Act.put, List.setIfInBounds_toArray, List.set_cons_succ, List.set_cons_zero]
      have Cb7 := Mem.cell HM200.out 1 rfl
      refine wpS_this [1] rfl (by kernel_rfl) (by simp only [pickL, nthL, List.cons_append, List.nil_append]; rfl) ?_
      repeat (go_big_quiet_step (fail))
      refine wpQuiet_nil ?_
      clear Cb7
      refine wpS_loadA2 (i := 3) (d := some 68) (cells := vcC (a)) rfl (by rfl) rfl rfl (by simp) (HM200.out.cells0 4 rfl) Try.underlying23 rfl (by kernel_rfl) rfl ?_
      simp only [Act.put, List.setIfInBounds_toArray, List.set_cons_succ, List.set_cons_zero]
      have Cb7 := Mem.cell HM200.out 1 rfl
      refine wpS_stay [4] rfl (by kernel_rfl) (by simp only [pickL, nthL, List.cons_append, List.nil_append]; rfl) ?_
      repeat (go_big_quiet_step (fail))
      refine wpQuiet_nil ?_
      clear Cb7
      refine wpS_does2 (i := 2) (d := some 67) (rem := [_, _, _, _, _]) (out := [_, _, _, _, _]) rfl (by rfl) rfl Try.call13 (chas_d x d1 d2) rfl rfl HM200.out [] rfl (covS_box 4 rfl (covS_box 3 rfl (covS_box 2 rfl (covS_box 1 rfl (covS_box 0 rfl covS_nil))))) rfl rfl ?_
      rintro W202 hm201 hg203
      rw [hpq.out]
      have HM204 := Lib.hid hm201
      clear hm201
      simp only [Act.put, List.setIfInBounds_toArray, List.set_cons_succ, List.set_cons_zero]
      refine wpS_does2 (i := 5) (d := some 70) (rem := [_, _, _, _, _]) (out := [_, _, _, _, _]) rfl (by rfl) rfl Try.call13 (chas_d a d1 d2) rfl rfl HM204.out [] rfl (covS_box 4 rfl (covS_box 3 rfl (covS_box 2 rfl (covS_box 1 rfl (covS_box 0 rfl covS_nil))))) rfl rfl ?_
      rintro W206 hm205 hg207
      rw [p1.out]
      have HM208 := Lib.hid hm205
      clear hm205
      simp only [Act.put, List.setIfInBounds_toArray, List.set_cons_succ, List.set_cons_zero]
      refine wpS_this [6] rfl (by kernel_rfl) (by simp only [pickL, nthL, List.cons_append, List.nil_append]; rfl) ?_
      repeat (go_big_quiet_step (fail))
      refine wpQuiet_nil ?_
      refine wpS_loadA (i := 7) (d := some 72) (cells := vcC (b)) rfl (by rfl) rfl rfl (HM208.out.cells0 3 rfl) Try.underlying23 rfl (by kernel_rfl) rfl ?_
      simp only [Act.put, List.setIfInBounds_toArray, List.set_cons_succ, List.set_cons_zero]
      have Cb7 := Mem.cell HM208.out 1 rfl
      refine wpS_this [8] rfl (by kernel_rfl) (by simp only [pickL, nthL, List.cons_append, List.nil_append]; rfl) ?_
      repeat (go_big_quiet_step (fail))
      refine wpQuiet_nil ?_
      clear Cb7
      refine wpS_does2 (i := 9) (d := some 74) (rem := [_, _, _, _, _]) (out := [_, _, _, _, _]) rfl (by rfl) rfl Try.call13 (chas_d b d1 d2) rfl rfl HM208.out [] rfl (covS_box 4 rfl (covS_box 3 rfl (covS_box 2 rfl (covS_box 1 rfl (covS_box 0 rfl covS_nil))))) rfl rfl ?_
      rintro W210 hm209 hg211
      rw [q1.out]
      have HM212 := Lib.hid hm209
      clear hm209
      simp only [Act.put, List.setIfInBounds_toArray, List.set_cons_succ, List.set_cons_zero]
      refine wpS_this [10, 11, 12] rfl (by kernel_rfl) (by simp only [pickL, nthL, List.cons_append, List.nil_append]; rfl) ?_
      repeat (go_big_quiet_step (fail))
      refine wpQuiet_nil ?_
      refine wpS_loadA (i := 13) (d := some 78) (cells := vcC (a)) rfl (by rfl) rfl rfl (HM212.out.cells0 4 rfl) Try.underlying23 rfl (by kernel_rfl) rfl ?_
      simp only [Act.put, List.setIfInBounds_toArray, List.set_cons_succ, List.set_cons_zero]
      refine wpS_loadA (i := 14) (d := some 79) (cells := vcC (b)) rfl (by rfl) rfl rfl (HM212.out.cells0 3 rfl) Try.underlying23 rfl (by kernel_rfl) rfl ?_
      simp only [Act.put, List.setIfInBounds_toArray, List.set_cons_succ, List.set_cons_zero]
      refine wpS_does2 (i := 15) (d := some 80) (rem := [_, _, _, _, _]) (out := [_, _, _, _, _]) rfl (by rfl) rfl Try.call11 (cbelow_d a b) rfl rfl HM212.out [] rfl (covS_box 4 rfl (covS_box 3 rfl (covS_box 2 rfl (covS_box 1 rfl (covS_box 0 rfl covS_nil))))) rfl rfl ?_
      rintro W214 hm213 hg215
      rw [s1.out]
      have HM216 := Lib.hid hm213
      clear hm213
      simp only [Act.put, List.setIfInBounds_toArray, List.set_cons_succ, List.set_cons_zero]
      refine wpS_this [16] rfl (by kernel_rfl) (by simp only [pickL, nthL, List.cons_append, List.nil_append]; rfl) ?_
      repeat (go_big_quiet_step (fail))
      refine wpQuiet_nil ?_
      refine wpS_loadA (i := 17) (d := some 82) (cells := vcC (a)) rfl (by rfl) rfl rfl (HM216.out.cells0 4 rfl) Try.underlying23 rfl (by kernel_rfl) rfl ?_
      simp only [Act.put, List.setIfInBounds_toArray, List.set_cons_succ, List.set_cons_zero]
      have Cb7 := Mem.cell HM216.out 1 rfl
      refine wpS_this [18] rfl (by kernel_rfl) (by simp only [pickL, nthL, List.cons_append, List.nil_append]; rfl) ?_
      repeat (go_big_quiet_step (fail))
      refine wpQuiet_nil ?_
      clear Cb7
      refine wpS_does2 (i := 19) (d := some 84) (rem := [_, _, _, _, _]) (out := [_, _, _, _, _]) rfl (by rfl) rfl Try.call13 (chas_d a d1 d2) rfl rfl HM216.out [] rfl (covS_box 4 rfl (covS_box 3 rfl (covS_box 2 rfl (covS_box 1 rfl (covS_box 0 rfl covS_nil))))) rfl rfl ?_
      rintro W218 hm217 hg219
      rw [p1.out]
      have HM220 := Lib.hid hm217
      clear hm217
      simp only [Act.put, List.setIfInBounds_toArray, List.set_cons_succ, List.set_cons_zero]
      refine wpS_this [20, 21] rfl (by kernel_rfl) (by simp only [pickL, nthL, List.cons_append, List.nil_append]; rfl) ?_
      repeat (go_big_quiet_step (fail))
      refine wpQuiet_nil ?_
      refine wpS_skip (i := 22) (d := some 87) rfl (by rfl) rfl ?_
      simp only [Act.put, List.setIfInBounds_toArray, List.set_cons_succ, List.set_cons_zero]
      have Cb7 := Mem.cell HM220.out 1 rfl
      refine wpS_this [23] rfl (by kernel_rfl) (by simp only [pickL, nthL, List.cons_append, List.nil_append]; rfl) ?_
      repeat (go_big_quiet_step (fail))
      refine wpQuiet_nil ?_
      clear Cb7
      refine wpS_skip (i := 24) (d := some 89) rfl (by rfl) rfl ?_
      simp only [Act.put, List.setIfInBounds_toArray, List.set_cons_succ, List.set_cons_zero]
      refine wpS_this [25, 26, 27] rfl (by kernel_rfl) (by simp only [pickL, nthL, List.cons_append, List.nil_append]; rfl) ?_
      repeat (go_big_quiet_step (fail))
      refine wpQuiet_nil ?_
      refine wpS_nil ?_
      refine then_normal ?_
      refine ⟨by kernel_rfl, ?_⟩
      exact ⟨rfl, (Mem.only (M := [_, _, _, _, _]) HM220.out [0, 0, 0, 0, 0] rfl)⟩
    · have hpq : Hid (hasV x (d1, d2) = true) := Lib.hid (by rw [← hx.out, hasV_join, p1, q1]; rfl)
      replace p1 := Lib.hid p1
      replace q1 := Lib.hid q1
      replace s1 := Lib.hid s1
      refine wp_region_M (fun k => k ∈ ([b3, b7, b11, b15, b22] : List Nat)) [(0, 1), (1, 1), (3, 2), (4, 2), (2, 3), (5, 3), (6, 1), (7, 1), (8, 1), (9, 3), (10, 1), (11, 1), (12, 1), (13, 1), (14, 1), (15, 3), (16, 1), (17, 1), (18, 1), (19, 3), (20, 1), (21, 1), (22, 1), (23, 1), (24, 3), (25, 1), (26, 1), (27, 1)] (by kernel_rfl) (by kernel_rfl) HM144.out ?_
      intro W221 hm222
      have HM223 := Lib.hid hm222
      clear hm222
      refine wpS_loadA (i := 0) (d := some 65) (cells := vcC (x)) rfl (by rfl) rfl rfl (HM223.out.cells0 0 rfl) Try.underlying23 rfl (by kernel_rfl) rfl ?_
      simp only [Act.put, List.setIfInBounds_toArray, List.set_cons_succ, List.set_cons_zero]
      have Cb7 := Mem.cell HM223.out 1 rfl
      refine wpS_this [1] rfl (by kernel_rfl) (by simp only [pickL, nthL, List.cons_append, List.nil_append]; rfl) ?_
      repeat (go_big_quiet_step (fail))
      refine wpQuiet_nil ?_
      clear Cb7
      refine wpS_loadA2 (i := 3) (d := some 68) (cells := vcC (a)) rfl (by rfl) rfl rfl (by simp) (HM223.out.cells0 4 rfl) Try.underlying23 rfl (by kernel_rfl) rfl ?_
      simp only [Act.put, List.setIfInBounds_toArray, List.set_cons_succ, List.set_cons_zero]
      have Cb7 := Mem.cell HM223.out 1 rfl
      refine wpS_stay [4] rfl (by kernel_rfl) (by simp only [pickL, nthL, List.cons_append, List.nil_append]; rfl) ?_
      repeat (go_big_quiet_step (fail))
      refine wpQuiet_nil ?_
      clear Cb7
      refine wpS_does2 (i := 2) (d := some 67) (rem := [_, _, _, _, _]) (out := [_, _, _, _, _]) rfl (by rfl) rfl Try.call13 (chas_d x d1 d2) rfl rfl HM223.out [] rfl (covS_box 4 rfl (covS_box 3 rfl (covS_box 2 rfl (covS_box 1 rfl (covS_box 0 rfl covS_nil))))) rfl rfl ?_
      rintro W225 hm224 hg226
      rw [hpq.out]
      have HM227 := Lib.hid hm224
      clear hm224
      simp only [Act.put, List.setIfInBounds_toArray, List.set_cons_succ, List.set_cons_zero]
      refine wpS_does2 (i := 5) (d := some 70) (rem := [_, _, _, _, _]) (out := [_, _, _, _, _]) rfl (by rfl) rfl Try.call13 (chas_d a d1 d2) rfl rfl HM227.out [] rfl (covS_box 4 rfl (covS_box 3 rfl (covS_box 2 rfl (covS_box 1 rfl (covS_box 0 rfl covS_nil))))) rfl rfl ?_
      rintro W229 hm228 hg230
      rw [p1.out]
      have HM231 := Lib.hid hm228
      clear hm228
      simp only [Act.put, List.setIfInBounds_toArray, List.set_cons_succ, List.set_cons_zero]
      refine wpS_this [6] rfl (by kernel_rfl) (by simp only [pickL, nthL, List.cons_append, List.nil_append]; rfl) ?_
      repeat (go_big_quiet_step (fail))
      refine wpQuiet_nil ?_
      refine wpS_loadA (i := 7) (d := some 72) (cells := vcC (b)) rfl (by rfl) rfl rfl (HM231.out.cells0 3 rfl) Try.underlying23 rfl (by kernel_rfl) rfl ?_
      simp only [Act.put, List.setIfInBounds_toArray, List.set_cons_succ, List.set_cons_zero]
      have Cb7 := Mem.cell HM231.out 1 rfl
      refine wpS_this [8] rfl (by kernel_rfl) (by simp only [pickL, nthL, List.cons_append, List.nil_append]; rfl) ?_
      repeat (go_big_quiet_step (fail))
      refine wpQuiet_nil ?_
      clear Cb7
      refine wpS_does2 (i := 9) (d := some 74) (rem := [_, _, _, _, _]) (out := [_, _, _, _, _]) rfl (by rfl) rfl Try.call13 (chas_d b d1 d2) rfl rfl HM231.out [] rfl (covS_box 4 rfl (covS_box 3 rfl (covS_box 2 rfl (covS_box 1 rfl (covS_box 0 rfl covS_nil))))) rfl rfl ?_
      rintro W233 hm232 hg234
      rw [q1.out]
      have HM235 := Lib.hid hm232
      clear hm232
      simp only [Act.put, List.setIfInBounds_toArray, List.set_cons_succ, List.set_cons_zero]
      refine wpS_this [10, 11, 12] rfl (by kernel_rfl) (by simp only [pickL, nthL, List.cons_append, List.nil_append]; rfl) ?_
      repeat (go_big_quiet_step (fail))
      refine wpQuiet_nil ?_
      refine wpS_loadA (i := 13) (d := some 78) (cells := vcC (a)) rfl (by rfl) rfl rfl (HM235.out.cells0 4 rfl) Try.underlying23 rfl (by kernel_rfl) rfl ?_
      simp only [Act.put, List.setIfInBounds_toArray, List.set_cons_succ, List.set_cons_zero]
      refine wpS_loadA (i := 14) (d := some 79) (cells := vcC (b)) rfl (by rfl) rfl rfl (HM235.out.cells0 3 rfl) Try.underlying23 rfl (by kernel_rfl) rfl ?_
      simp only [Act.put, List.setIfInBounds_toArray, List.set_cons_succ, List.set_cons_zero]
      refine wpS_does2 (i := 15) (d := some 80) (rem := [_, _, _, _, _]) (out := [_, _, _, _, _]) rfl (by rfl) rfl Try.call11 (cbelow_d a b) rfl rfl HM235.out [] rfl (covS_box 4 rfl (covS_box 3 rfl (covS_box 2 rfl (covS_box 1 rfl (covS_box 0 rfl covS_nil))))) rfl rfl ?_
      rintro W237 hm236 hg238
      rw [s1.out]
      have HM239 := Lib.hid hm236
      clear hm236
      simp only [Act.put, List.setIfInBounds_toArray, List.set_cons_succ, List.set_cons_zero]
      refine wpS_this [16] rfl (by kernel_rfl) (by simp only [pickL, nthL, List.cons_append, List.nil_append]; rfl) ?_
      repeat (go_big_quiet_step (fail))
      refine wpQuiet_nil ?_
      refine wpS_skip (i := 17) (d := some 82) rfl (by rfl) rfl ?_
      simp only [Act.put, List.setIfInBounds_toArray, List.set_cons_succ, List.set_cons_zero]
      have Cb7 := Mem.cell HM239.out 1 rfl
      refine wpS_this [18] rfl (by kernel_rfl) (by simp only [pickL, nthL, List.cons_append, List.nil_append]; rfl) ?_
      repeat (go_big_quiet_step (fail))
      refine wpQuiet_nil ?_
      clear Cb7
      refine wpS_skip (i := 19) (d := some 84) rfl (by rfl) rfl ?_
      simp only [Act.put, List.setIfInBounds_toArray, List.set_cons_succ, List.set_cons_zero]
      refine wpS_this [20, 21] rfl (by kernel_rfl) (by simp only [pickL, nthL, List.cons_append, List.nil_append]; rfl) ?_
      repeat (go_big_quiet_step (fail))
      refine wpQuiet_nil ?_
      refine wpS_skip (i := 22) (d := some 87) rfl (by rfl) rfl ?_
      simp only [Act.put, List.setIfInBounds_toArray, List.set_cons_succ, List.set_cons_zero]
      have Cb7 := Mem.cell HM239.out 1 rfl
      refine wpS_this [23] rfl (by kernel_rfl) (by simp only [pickL, nthL, List.cons_append, List.nil_append]; rfl) ?_
      repeat (go_big_quiet_step (fail))
      refine wpQuiet_nil ?_
      clear Cb7
      refine wpS_skip (i := 24) (d := some 89) rfl (by rfl) rfl ?_
      simp only [Act.put, List.setIfInBounds_toArray, List.set_cons_succ, List.set_cons_zero]
      refine wpS_this [25, 26, 27] rfl (by kernel_rfl) (by simp only [pickL, nthL, List.cons_append, List.nil_append]; rfl) ?_
      repeat (go_big_quiet_step (fail))
      refine wpQuiet_nil ?_
      refine wpS_nil ?_
      refine then_normal ?_
      refine ⟨by kernel_rfl, ?_⟩
      exact ⟨rfl, (Mem.only (M := [_, _, _, _, _]) HM239.out [0, 0, 0, 0, 0] rfl)⟩
    · have hpq : Hid (hasV x (d1, d2) = false) := Lib.hid (by rw [← hx.out, hasV_join, p1, q1]; rfl)
      replace p1 := Lib.hid p1
      replace q1 := Lib.hid q1
      replace s1 := Lib.hid s1
      refine wp_region_M (fun k => k ∈ ([b3, b7, b11, b15, b22] : List Nat)) [(0, 1), (1, 1), (3, 2), (4, 2), (2, 3), (5, 3), (6, 1), (7, 1), (8, 1), (9, 3), (10, 1), (11, 1), (12, 1), (13, 1), (14, 1), (15, 3), (16, 1), (17, 1), (18, 1), (19, 3), (20, 1), (21, 1), (22, 1), (23, 1), (24, 3), (25, 1), (26, 1), (27, 1)] (by kernel_rfl) (by kernel_rfl) HM144.out ?_
      intro W240 hm241
      have HM242 := Lib.hid hm241
      clear hm241
      refine wpS_loadA (i := 0) (d := some 65) (cells := vcC (x)) rfl (by rfl) rfl rfl (HM242.out.cells0 0 rfl) Try.underlying23 rfl (by kernel_rfl) rfl ?_
      simp only [Act.put, List.setIfInBounds_toArray, List.set_cons_succ, List.set_cons_zero]
      have Cb7 := Mem.cell HM242.out 1 rfl
      refine wpS_this [1] rfl (by kernel_rfl) (by simp only [pickL, nthL, List.cons_append, List.nil_append]; rfl) ?_
      repeat (go_big_quiet_step (fail))
      refine wpQuiet_nil ?_
      clear Cb7
      refine wpS_loadA2 (i := 3) (d := some 68) (cells := vcC (a)) rfl (by rfl) rfl rfl (by simp) (HM242.out.cells0 4 rfl) Try.underlying23 rfl (by kernel_rfl) rfl ?_
      simp only [Act.put, List.setIfInBounds_toArray, List.set_cons_succ, List.set_cons_zero]
      have Cb7 := Mem.cell HM242.out 1 rfl
      refine wpS_stay [4] rfl (by kernel_rfl) (by simp only [pickL, nthL, List.cons_append, List.nil_append]; rfl) ?_
      repeat (go_big_quiet_step (fail))
      refine wpQuiet_nil ?_
      clear Cb7
      refine wpS_does2 (i := 2) (d := some 67) (rem := [_, _, _, _, _]) (out := [_, _, _, _, _]) rfl (by rfl) rfl Try.call13 (chas_d x d1 d2) rfl rfl HM242.out [] rfl (covS_box 4 rfl (covS_box 3 rfl (covS_box 2 rfl (covS_box 1 rfl (covS_box 0 rfl covS_nil))))) rfl rfl ?_
      rintro W244 hm243 hg245
      rw [hpq.out]
      have HM246 := Lib.hid hm243
      clear hm243
      simp only [Act.put, List.setIfInBounds_toArray, List.set_cons_succ, List.set_cons_zero]
      refine wpS_does2 (i := 5) (d := some 70) (rem := [_, _, _, _, _]) (out := [_, _, _, _, _]) rfl (by rfl) rfl Try.call13 (chas_d a d1 d2) rfl rfl HM246.out [] rfl (covS_box 4 rfl (covS_box 3 rfl (covS_box 2 rfl (covS_box 1 rfl (covS_box 0 rfl covS_nil))))) rfl rfl ?_
      rintro W248 hm247 hg249
      rw [p1.out]
      have HM250 := Lib.hid hm247
      clear hm247
      simp only [Act.put, List.setIfInBounds_toArray, List.set_cons_succ, List.set_cons_zero]
      refine wpS_this [6] rfl (by kernel_rfl) (by simp only [pickL, nthL, List.cons_append, List.nil_append]; rfl) ?_
      repeat (go_big_quiet_step (fail))
      refine wpQuiet_nil ?_
      refine wpS_loadA (i := 7) (d := some 72) (cells := vcC (b)) rfl (by rfl) rfl rfl (HM250.out.cells0 3 rfl) Try.underlying23 rfl (by kernel_rfl) rfl ?_
      simp only [Act.put, List.setIfInBounds_toArray, List.set_cons_succ, List.set_cons_zero]
      have Cb7 := Mem.cell HM250.out 1 rfl
      refine wpS_this [8] rfl (by kernel_rfl) (by simp only [pickL, nthL, List.cons_append, List.nil_append]; rfl) ?_
      repeat (go_big_quiet_step (fail))
      refine wpQuiet_nil ?_
      clear Cb7
      refine wpS_does2 (i := 9) (d := some 74) (rem := [_, _, _, _, _]) (out := [_, _, _, _, _]) rfl (by rfl) rfl Try.call13 (chas_d b d1 d2) rfl rfl HM250.out [] rfl (covS_box 4 rfl (covS_box 3 rfl (covS_box 2 rfl (covS_box 1 rfl (covS_box 0 rfl covS_nil))))) rfl rfl ?_
      rintro W252 hm251 hg253
      rw [q1.out]
      have HM254 := Lib.hid hm251
      clear hm251
      simp only [Act.put, List.setIfInBounds_toArray, List.set_cons_succ, List.set_cons_zero]
      refine wpS_this [10, 11, 12] rfl (by kernel_rfl) (by simp only [pickL, nthL, List.cons_append, List.nil_append]; rfl) ?_
      repeat (go_big_quiet_step (fail))
      refine wpQuiet_nil ?_
      refine wpS_loadA (i := 13) (d := some 78) (cells := vcC (a)) rfl (by rfl) rfl rfl (HM254.out.cells0 4 rfl) Try.underlying23 rfl (by kernel_rfl) rfl ?_
      simp only [Act.put, List.setIfInBounds_toArray, List.set_cons_succ, List.set_cons_zero]
      refine wpS_loadA (i := 14) (d := some 79) (cells := vcC (b)) rfl (by rfl) rfl rfl (HM254.out.cells0 3 rfl) Try.underlying23 rfl (by kernel_rfl) rfl ?_
      simp only [Act.put, List.setIfInBounds_toArray, List.set_cons_succ, List.set_cons_zero]
      refine wpS_does2 (i := 15) (d := some 80) (rem := [_, _, _, _, _]) (out := [_, _, _, _, _]) rfl (by rfl) rfl Try.call11 (cbelow_d a b) rfl rfl HM254.out [] rfl (covS_box 4 rfl (covS_box 3 rfl (covS_box 2 rfl (covS_box 1 rfl (covS_box 0 rfl covS_nil))))) rfl rfl ?_
      rintro W256 hm255 hg257
      rw [s1.out]
      have HM258 := Lib.hid hm255
      clear hm255
      simp only [Act.put, List.setIfInBounds_toArray, List.set_cons_succ, List.set_cons_zero]
      refine wpS_this [16] rfl (by kernel_rfl) (by simp only [pickL, nthL, List.cons_append, List.nil_append]; rfl) ?_
      repeat (go_big_quiet_step (fail))
      refine wpQuiet_nil ?_
      refine wpS_loadA (i := 17) (d := some 82) (cells := vcC (a)) rfl (by rfl) rfl rfl (HM258.out.cells0 4 rfl) Try.underlying23 rfl (by kernel_rfl) rfl ?_
      simp only [Act.put, List.setIfInBounds_toArray, List.set_cons_succ, List.set_cons_zero]
      have Cb7 := Mem.cell HM258.out 1 rfl
      refine wpS_this [18] rfl (by kernel_rfl) (by simp only [pickL, nthL, List.cons_append, List.nil_append]; rfl) ?_
      repeat (go_big_quiet_step (fail))
      refine wpQuiet_nil ?_
      clear Cb7
      refine wpS_does2 (i := 19) (d := some 84) (rem := [_, _, _, _, _]) (out := [_, _, _, _, _]) rfl (by rfl) rfl Try.call13 (chas_d a d1 d2) rfl rfl HM258.out [] rfl (covS_box 4 rfl (covS_box 3 rfl (covS_box 2 rfl (covS_box 1 rfl (covS_box 0 rfl covS_nil))))) rfl rfl ?_
      rintro W260 hm259 hg261
      rw [p1.out]
      have HM262 := Lib.hid hm259
      clear hm259
      simp only [Act.put, List.setIfInBounds_toArray, List.set_cons_succ, List.set_cons_zero]
      refine wpS_this [20, 21] rfl (by kernel_rfl) (by simp only [pickL, nthL, List.cons_append, List.nil_append]; rfl) ?_
      repeat (go_big_quiet_step (fail))
      refine wpQuiet_nil ?_
      refine wpS_skip (i := 22) (d := some 87) rfl (by rfl) rfl ?_
      simp only [Act.put, List.setIfInBounds_toArray, List.set_cons_succ, List.set_cons_zero]
      have Cb7 := Mem.cell HM262.out 1 rfl
      refine wpS_this [23] rfl (by kernel_rfl) (by simp only [pickL, nthL, List.cons_append, List.nil_append]; rfl) ?_
      repeat (go_big_quiet_step (fail))
      refine wpQuiet_nil ?_
      clear Cb7
      refine wpS_skip (i := 24) (d := some 89) rfl (by rfl) rfl ?_
      simp only [Act.put, List.setIfInBounds_toArray, List.set_cons_succ, List.set_cons_zero]
      refine wpS_this [25, 26, 27] rfl (by kernel_rfl) (by simp only [pickL, nthL, List.cons_append, List.nil_append]; rfl) ?_
      repeat (go_big_quiet_step (fail))
      refine wpQuiet_nil ?_
      refine wpS_nil ?_
      refine then_normal ?_
      refine ⟨by kernel_rfl, ?_⟩
      exact ⟨rfl, (Mem.only (M := [_, _, _, _, _]) HM262.out [0, 0, 0, 0, 0] rfl)⟩
    · have hpq : Hid (hasV x (d1, d2) = false) := Lib.hid (by rw [← hx.out, hasV_join, p1, q1]; rfl)
      replace p1 := Lib.hid p1
      replace q1 := Lib.hid q1
      replace s1 := Lib.hid s1
      refine wp_region_M (fun k => k ∈ ([b3, b7, b11, b15, b22] : List Nat)) [(0, 1), (1, 1), (3, 2), (4, 2), (2, 3), (5, 3), (6, 1), (7, 1), (8, 1), (9, 3), (10, 1), (11, 1), (12, 1), (13, 1), (14, 1), (15, 3), (16, 1), (17, 1), (18, 1), (19, 3), (20, 1), (21, 1), (22, 1), (23, 1), (24, 3), (25, 1), (26, 1), (27, 1)] (by kernel_rfl) (by kernel_rfl) HM144.out ?_
      intro W263 hm264
      have HM265 := Lib.hid hm264
      clear hm264
      refine wpS_loadA (i := 0) (d := some 65) (cells := vcC (x)) rfl (by rfl) rfl rfl (HM265.out.cells0 0 rfl) Try.underlying23 rfl (by kernel_rfl) rfl ?_
      simp only [Act.put, List.setIfInBounds_toArray, List.set_cons_succ, List.set_cons_zero]
      have Cb7 := Mem.cell HM265.out 1 rfl
      refine wpS_this [1] rfl (by kernel_rfl) (by simp only [pickL, nthL, List.cons_append, List.nil_append]; rfl) ?_
      repeat (go_big_quiet_step (fail))
      refine wpQuiet_nil ?_
      clear Cb7
      refine wpS_loadA2 (i := 3) (d := some 68) (cells := vcC (a)) rfl (by rfl) rfl rfl (by simp) (HM265.out.cells0 4 rfl) Try.underlying23 rfl (by kernel_rfl) rfl ?_
      simp only [Act.put, List.setIfInBounds_toArray, List.set_cons_succ, List.set_cons_zero]
      have Cb7 := Mem.cell HM265.out 1 rfl
      refine wpS_stay [4] rfl (by kernel_rfl) (by simp only [pickL, nthL, List.cons_append, List.nil_append]; rfl) ?_
      repeat (go_big_quiet_step (fail))
      refine wpQuiet_nil ?_
      clear Cb7
      refine wpS_does2 (i := 2) (d := some 67) (rem := [_, _, _, _, _]) (out := [_, _, _, _, _]) rfl (by rfl) rfl Try.call13 (chas_d x d1 d2) rfl rfl HM265.out [] rfl (covS_box 4 rfl (covS_box 3 rfl (covS_box 2 rfl (covS_box 1 rfl (covS_box 0 rfl covS_nil))))) rfl rfl ?_
      rintro W267 hm266 hg268
      rw [hpq.out]
      have HM269 := Lib.hid hm266
      clear hm266
      simp only [Act.put, List.setIfInBounds_toArray, List.set_cons_succ, List.set_cons_zero]
      refine wpS_does2 (i := 5) (d := some 70) (rem := [_, _, _, _, _]) (out := [_, _, _, _, _]) rfl (by rfl) rfl Try.call13 (chas_d a d1 d2) rfl rfl HM269.out [] rfl (covS_box 4 rfl (covS_box 3 rfl (covS_box 2 rfl (covS_box 1 rfl (covS_box 0 rfl covS_nil))))) rfl rfl ?_
      rintro W271 hm270 hg272
      rw [p1.out]
      have HM273 := Lib.hid hm270
      clear hm270
      simp only [Act.put, List.setIfInBounds_toArray, List.set_cons_succ, List.set_cons_zero]
      refine wpS_this [6] rfl (by kernel_rfl) (by simp only [pickL, nthL, List.cons_append, List.nil_append]; rfl) ?_
      repeat (go_big_quiet_step (fail))
      refine wpQuiet_nil ?_
      refine wpS_loadA (i := 7) (d := some 72) (cells := vcC (b)) rfl (by rfl) rfl rfl (HM273.out.cells0 3 rfl) Try.underlying23 rfl (by kernel_rfl) rfl ?_
      simp only [Act.put, List.setIfInBounds_toArray, List.set_cons_succ, List.set_cons_zero]
      have Cb7 := Mem.cell HM273.out 1 rfl
      refine wpS_this [8] rfl (by kernel_rfl) (by simp only [pickL, nthL, List.cons_append, List.nil_append]; rfl) ?_
      repeat (go_big_quiet_step (fail))
      refine wpQuiet_nil ?_
      clear Cb7
      refine wpS_does2 (i := 9) (d := some 74) (rem := [_, _, _, _, _]) (out := [_, _, _, _, _]) rfl (by rfl) rfl Try.call13 (chas_d b d1 d2) rfl rfl HM273.out [] rfl (covS_box 4 rfl (covS_box 3 rfl (covS_box 2 rfl (covS_box 1 rfl (covS_box 0 rfl covS_nil))))) rfl rfl ?_
      rintro W275 hm274 hg276
      rw [q1.out]
      have HM277 := Lib.hid hm274
      clear hm274
      simp only [Act.put, List.setIfInBounds_toArray, List.set_cons_succ, List.set_cons_zero]
      refine wpS_this [10, 11, 12] rfl (by kernel_rfl) (by simp only [pickL, nthL, List.cons_append, List.nil_append]; rfl) ?_
      repeat (go_big_quiet_step (fail))
      refine wpQuiet_nil ?_
      refine wpS_loadA (i := 13) (d := some 78) (cells := vcC (a)) rfl (by rfl) rfl rfl (HM277.out.cells0 4 rfl) Try.underlying23 rfl (by kernel_rfl) rfl ?_
      simp only [Act.put, List.setIfInBounds_toArray, List.set_cons_succ, List.set_cons_zero]
      refine wpS_loadA (i := 14) (d := some 79) (cells := vcC (b)) rfl (by rfl) rfl rfl (HM277.out.cells0 3 rfl) Try.underlying23 rfl (by kernel_rfl) rfl ?_
      simp only [Act.put, List.setIfInBounds_toArray, List.set_cons_succ, List.set_cons_zero]
      refine wpS_does2 (i := 15) (d := some 80) (rem := [_, _, _, _, _]) (out := [_, _, _, _, _]) rfl (by rfl) rfl Try.call11 (cbelow_d a b) rfl rfl HM277.out [] rfl (covS_box 4 rfl (covS_box 3 rfl (covS_box 2 rfl (covS_box 1 rfl (covS_box 0 rfl covS_nil))))) rfl rfl ?_
      rintro W279 hm278 hg280
      rw [s1.out]
      have HM281 := Lib.hid hm278
      clear hm278
      simp only [Act.put, List.setIfInBounds_toArray, List.set_cons_succ, List.set_cons_zero]
      refine wpS_this [16] rfl (by kernel_rfl) (by simp only [pickL, nthL, List.cons_append, List.nil_append]; rfl) ?_
      repeat (go_big_quiet_step (fail))
      refine wpQuiet_nil ?_
      refine wpS_skip (i := 17) (d := some 82) rfl (by rfl) rfl ?_
      simp only [Act.put, List.setIfInBounds_toArray, List.set_cons_succ, List.set_cons_zero]
      have Cb7 := Mem.cell HM281.out 1 rfl
      refine wpS_this [18] rfl (by kernel_rfl) (by simp only [pickL, nthL, List.cons_append, List.nil_append]; rfl) ?_
      repeat (go_big_quiet_step (fail))
      refine wpQuiet_nil ?_
      clear Cb7
      refine wpS_skip (i := 19) (d := some 84) rfl (by rfl) rfl ?_
      simp only [Act.put, List.setIfInBounds_toArray, List.set_cons_succ, List.set_cons_zero]
      refine wpS_this [20, 21] rfl (by kernel_rfl) (by simp only [pickL, nthL, List.cons_append, List.nil_append]; rfl) ?_
      repeat (go_big_quiet_step (fail))
      refine wpQuiet_nil ?_
      refine wpS_skip (i := 22) (d := some 87) rfl (by rfl) rfl ?_
      simp only [Act.put, List.setIfInBounds_toArray, List.set_cons_succ, List.set_cons_zero]
      have Cb7 := Mem.cell HM281.out 1 rfl
      refine wpS_this [23] rfl (by kernel_rfl) (by simp only [pickL, nthL, List.cons_append, List.nil_append]; rfl) ?_
      repeat (go_big_quiet_step (fail))
      refine wpQuiet_nil ?_
      clear Cb7
      refine wpS_skip (i := 24) (d := some 89) rfl (by rfl) rfl ?_
      simp only [Act.put, List.setIfInBounds_toArray, List.set_cons_succ, List.set_cons_zero]
      refine wpS_this [25, 26, 27] rfl (by kernel_rfl) (by simp only [pickL, nthL, List.cons_append, List.nil_append]; rfl) ?_
      repeat (go_big_quiet_step (fail))
      refine wpQuiet_nil ?_
      refine wpS_nil ?_
      refine then_normal ?_
      refine ⟨by kernel_rfl, ?_⟩
      exact ⟨rfl, (Mem.only (M := [_, _, _, _, _]) HM281.out [0, 0, 0, 0, 0] rfl)⟩
  rintro vs W' ⟨e92, hm⟩
  simp only [putAll, List.map_cons, List.map_nil, Act.put, List.setIfInBounds_toArray, List.set_cons_succ, List.set_cons_zero]
  rw [e92]
  clear e92
  have HM282 := Lib.hid hm
  clear hm
  refine then_normal ?_
  refine wp_cond_false rfl ?_
  refine wp_skip ?_
  refine then_normal ?_
  refine wp_seq ?_
  obtain ⟨w', hw''⟩ := vec_letter (withV a (d1, d2))
  have haw : Hid (belowV a w' = true) := Lib.hid (by rw [← hw'']; exact belowV_with a _)
  have hw' := Lib.hid hw''
  clear hw''
  refine wp_region_N [(0, 1), (1, 1), (2, 3), (3, 3), (4, 3)] (by kernel_rfl) ?_
  refine wpS_loadA (i := 0) (d := some 93) (cells := vcC (a)) rfl (by rfl) rfl rfl (HM282.out.cells0 4 rfl) Try.underlying23 rfl (by kernel_rfl) rfl ?_
  simp only [Act.put, List.setIfInBounds_toArray, List.set_cons_succ, List.set_cons_zero]
  have Cb7 := Mem.cell HM282.out 1 rfl
  refine wpS_this [1] rfl (by kernel_rfl) (by simp only [pickL, nthL, List.cons_append, List.nil_append]; rfl) ?_
  repeat (go_big_quiet_step (fail))
  refine wpQuiet_nil ?_
  clear Cb7
  refine wpS_does2 (i := 2) (d := some 95) (rem := [_, _, _, _, _]) (out := [_, _, _, _, _]) rfl (by rfl) rfl Try.call15 (cwith_d a d1 d2) rfl rfl HM282.out [] rfl covS_nil rfl rfl ?_
  rintro W284 hm283 -
  rw [hw'.out]
  have HM285 := Lib.hid hm283
  clear hm283
  simp only [Act.put, List.setIfInBounds_toArray, List.set_cons_succ, List.set_cons_zero]
  refine wpS_alloc (i := 3) (dd := 10) (z := vV (fun _ => 0)) (cs := (vcC (fun _ => 0)).toArray) rfl (by rfl) rfl (by kernel_rfl) rfl HM285.out covS_nil rfl ?_
  rintro b288 W287 hm286 -
  have HM289 := Lib.hid hm286
  clear hm286
  simp only [Act.put, List.setIfInBounds_toArray, List.set_cons_succ, List.set_cons_zero]
  refine wpS_storeA (i := 4) (L2 := [_, _, _, _, _]) (cs' := vcC (w')) rfl (by rfl) rfl rfl rfl (by kernel_rfl) (vcC_one _) HM289.out 0 rfl rfl (by kernel_rfl) (by kernel_rfl) covS_nil rfl ?_
  rintro W291 hm290 -
  have HM292 := Lib.hid hm290
  clear hm290
  refine wpS_nil ?_
  refine then_normal ?_
  refine wp_seq ?_
  cases s1 : belowV a b <;> rcases (show d1 < 0 ∨ (¬ d1 < 0 ∧ 8 ≤ d1) ∨ (¬ d1 < 0 ∧ ¬ 8 ≤ d1 ∧ d2 < 1) ∨ (¬ d1 < 0 ∧ ¬ 8 ≤ d1 ∧ ¬ d2 < 1) from by omega) with k1 | ⟨k1, k2⟩ | ⟨k1, k2, k3⟩ | ⟨k1, k2, k3⟩
  · replace s1 := Lib.hid s1
    have g1 := decide_eq_true k1
    clear k1
    have he : Hid (decide (tab8 a = tab8 b) = false) := Lib.hid (by rw [← belowV_anti, s1.out]; rfl)
    refine wp_region_M (fun k => k ∈ ([b3, b7, b11, b15, b22, b288] : List Nat)) [(0, 1), (1, 1), (2, 3), (3, 1), (4, 1), (5, 1), (6, 1), (7, 1), (8, 1), (9, 1), (10, 1), (11, 1), (12, 1), (13, 1), (14, 1), (15, 1), (16, 1), (17, 1), (18, 1), (19, 1), (20, 3), (21, 1), (22, 1), (23, 1), (24, 1), (25, 1), (32, 2), (33, 2), (34, 0), (26, 3), (27, 1), (28, 1), (29, 1), (30, 3), (31, 1), (35, 1), (36, 1), (37, 1), (38, 3), (39, 1), (40, 1)] (by kernel_rfl) (by kernel_rfl) HM292.out ?_
    intro W293 hm294
    have HM295 := Lib.hid hm294
    clear hm294
    refine wpS_loadA (i := 0) (d := some 96) (cells := vcC (a)) rfl (by rfl) rfl rfl (HM295.out.cells0 5 rfl) Try.underlying23 rfl (by kernel_rfl) rfl ?_
    simp only [Act.put, List.setIfInBounds_toArray, List.set_cons_succ, List.set_cons_zero]
    refine wpS_loadA (i := 1) (d := some 97) (cells := vcC (w')) rfl (by rfl) rfl rfl (HM295.out.cells0 0 rfl) Try.underlying23 rfl (by kernel_rfl) rfl ?_
    simp only [Act.put, List.setIfInBounds_toArray, List.set_cons_succ, List.set_cons_zero]
    refine wpS_does2 (i := 2) (d := some 98) (rem := [_, _, _, _, _, _]) (out := [_, _, _, _, _, _]) rfl (by rfl) rfl Try.call11 (cbelow_d a w') rfl rfl HM295.out [] rfl (covS_box 5 rfl (covS_box 4 rfl (covS_box 3 rfl (covS_box 2 rfl (covS_box 1 rfl (covS_box 0 rfl covS_nil)))))) rfl rfl ?_
    rintro W297 hm296 hg298
    rw [haw.out]
    have HM299 := Lib.hid hm296
    clear hm296
    simp only [Act.put, List.setIfInBounds_toArray, List.set_cons_succ, List.set_cons_zero]
    have Cb7 := Mem.cell HM299.out 2 rfl
    refine wpS_this [3, 4, 5, 6, 7, 8, 9, 10, 11, 12, 13, 14, 15, 16, 17] rfl (by kernel_rfl) (by simp only [pickL, nthL, List.cons_append, List.nil_append]; rfl) ?_
    repeat (go_big_quiet_step (fail))
    refine wpQuiet_nil ?_
    clear Cb7
    refine wpS_skip (i := 18) (d := some 114) rfl (by rfl) rfl ?_
    simp only [Act.put, List.setIfInBounds_toArray, List.set_cons_succ, List.set_cons_zero]
    have Cb7 := Mem.cell HM299.out 2 rfl
    refine wpS_this [19] rfl (by kernel_rfl) (by simp only [pickL, nthL, List.cons_append, List.nil_append]; rfl) ?_
    repeat (go_big_quiet_step (fail))
    refine wpQuiet_nil ?_
    clear Cb7
    refine wpS_skip (i := 20) (d := some 116) rfl (by rfl) rfl ?_
    simp only [Act.put, List.setIfInBounds_toArray, List.set_cons_succ, List.set_cons_zero]
    refine wpS_this [21, 22, 23] rfl (by kernel_rfl) (by simp only [pickL, nthL, List.cons_append, List.nil_append]; rfl) ?_
    repeat (go_big_quiet_step (fail))
    refine wpQuiet_nil ?_
    refine wpS_loadA (i := 24) (d := some 120) (cells := vcC (a)) rfl (by rfl) rfl rfl (HM299.out.cells0 5 rfl) Try.underlying23 rfl (by kernel_rfl) rfl ?_
    simp only [Act.put, List.setIfInBounds_toArray, List.set_cons_succ, List.set_cons_zero]
    refine wpS_loadA (i := 25) (d := some 121) (cells := vcC (b)) rfl (by rfl) rfl rfl (HM299.out.cells0 4 rfl) Try.underlying23 rfl (by kernel_rfl) rfl ?_
    simp only [Act.put, List.setIfInBounds_toArray, List.set_cons_succ, List.set_cons_zero]
    refine wpS_loadA2 (i := 32) (d := some 128) (cells := vcC (a)) rfl (by rfl) rfl rfl (by simp) (HM299.out.cells0 5 rfl) Try.underlying23 rfl (by kernel_rfl) rfl ?_
    simp only [Act.put, List.setIfInBounds_toArray, List.set_cons_succ, List.set_cons_zero]
    refine wpS_loadA2 (i := 33) (d := some 129) (cells := vcC (b)) rfl (by rfl) rfl rfl (by simp) (HM299.out.cells0 4 rfl) Try.underlying23 rfl (by kernel_rfl) rfl ?_
    simp only [Act.put, List.setIfInBounds_toArray, List.set_cons_succ, List.set_cons_zero]
    refine wpS_read0 (i := 34) (d := some 130) rfl (by rfl) (fun _ => run_eqV (he.out) rfl rfl rfl) rfl ?_
    simp only [Act.put, List.setIfInBounds_toArray, List.set_cons_succ, List.set_cons_zero]
    refine wpS_does2 (i := 26) (d := some 122) (rem := [_, _, _, _, _, _]) (out := [_, _, _, _, _, _]) rfl (by rfl) rfl Try.call11 (cbelow_d a b) rfl rfl HM299.out [] rfl (covS_box 5 rfl (covS_box 4 rfl (covS_box 3 rfl (covS_box 2 rfl (covS_box 1 rfl (covS_box 0 rfl covS_nil)))))) rfl rfl ?_
    rintro W301 hm300 hg302
    rw [s1.out]
    have HM303 := Lib.hid hm300
    clear hm300
    simp only [Act.put, List.setIfInBounds_toArray, List.set_cons_succ, List.set_cons_zero]
    refine wpS_this [27] rfl (by kernel_rfl) (by simp only [pickL, nthL, List.cons_append, List.nil_append]; rfl) ?_
    repeat (go_big_quiet_step (fail))
    refine wpQuiet_nil ?_
    refine wpS_skip (i := 28) (d := some 124) rfl (by rfl) rfl ?_
    simp only [Act.put, List.setIfInBounds_toArray, List.set_cons_succ, List.set_cons_zero]
    refine wpS_skip (i := 29) (d := some 125) rfl (by rfl) rfl ?_
    simp only [Act.put, List.setIfInBounds_toArray, List.set_cons_succ, List.set_cons_zero]
    refine wpS_skip (i := 30) (d := some 126) rfl (by rfl) rfl ?_
    simp only [Act.put, List.setIfInBounds_toArray, List.set_cons_succ, List.set_cons_zero]
    refine wpS_this [31, 35, 36, 37] rfl (by kernel_rfl) (by simp only [pickL, nthL, List.cons_append, List.nil_append]; rfl) ?_
    repeat (go_big_quiet_step (fail))
    refine wpQuiet_nil ?_
    refine wpS_does0 (i := 38) (d := some 134) (rem := [_, _, _, _, _, _]) (out := [_, _, _, _, _, _]) rfl (by rfl) rfl Try.call19 (vawake_d)  HM303.out [] rfl (covS_box 5 rfl (covS_box 4 rfl (covS_box 3 rfl (covS_box 2 rfl (covS_box 1 rfl (covS_box 0 rfl covS_nil)))))) rfl rfl ?_
    rintro W305 hm304 hg306
    have HM307 := Lib.hid hm304
    clear hm304
    simp only [Act.put, List.setIfInBounds_toArray, List.set_cons_succ, List.set_cons_zero]
    refine wpS_this [39, 40] rfl (by kernel_rfl) (by simp only [pickL, nthL, List.cons_append, List.nil_append]; rfl) ?_
    repeat (go_big_quiet_step (fail))
    refine wpQuiet_nil ?_
    refine wpS_nil ?_
    refine then_normal ?_
    refine wp_ret ?_
    refine bodyPost_ret (results_tmp rfl _ _ _) rfl ?_
    exact does_ret (Mem.only (M := []) HM307.out [] rfl) rfl rfl
  · replace s1 := Lib.hid s1
    have g1 := decide_eq_false k1
    have g2 := decide_eq_true k2
    clear k1 k2
    have he : Hid (decide (tab8 a = tab8 b) = false) := Lib.hid (by rw [← belowV_anti, s1.out]; rfl)
    refine wp_region_M (fun k => k ∈ ([b3, b7, b11, b15, b22, b288] : List Nat)) [(0, 1), (1, 1), (2, 3), (3, 1), (4, 1), (5, 1), (6, 1), (7, 1), (8, 1), (9, 1), (10, 1), (11, 1), (12, 1), (13, 1), (14, 1), (15, 1), (16, 1), (17, 1), (18, 1), (19, 1), (20, 3), (21, 1), (22, 1), (23, 1), (24, 1), (25, 1), (32, 2), (33, 2), (34, 0), (26, 3), (27, 1), (28, 1), (29, 1), (30, 3), (31, 1), (35, 1), (36, 1), (37, 1), (38, 3), (39, 1), (40, 1)] (by kernel_rfl) (by kernel_rfl) HM292.out ?_
    intro W308 hm309
    have HM310 := Lib.hid hm309
    clear hm309
    refine wpS_loadA (i := 0) (d := some 96) (cells := vcC (a)) rfl (by rfl) rfl rfl (HM310.out.cells0 5 rfl) Try.underlying23 rfl (by kernel_rfl) rfl ?_
    simp only [Act.put, List.setIfInBounds_toArray, List.set_cons_succ, List.set_cons_zero]
    refine wpS_loadA (i := 1) (d := some 97) (cells := vcC (w')) rfl (by rfl) rfl rfl (HM310.out.cells0 0 rfl) Try.underlying23 rfl (by kernel_rfl) rfl ?_
    simp only [Act.put, List.setIfInBounds_toArray, List.set_cons_succ, List.set_cons_zero]
    refine wpS_does2 (i := 2) (d := some 98) (rem := [_, _, _, _, _, _]) (out := [_, _, _, _, _, _]) rfl (by rfl) rfl Try.call11 (cbelow_d a w') rfl rfl HM310.out [] rfl (covS_box 5 rfl (covS_box 4 rfl (covS_box 3 rfl (covS_box 2 rfl (covS_box 1 rfl (covS_box 0 rfl covS_nil)))))) rfl rfl ?_
    rintro W312 hm311 hg313
    rw [haw.out]
    have HM314 := Lib.hid hm311
    clear hm311
    simp only [Act.put, List.setIfInBounds_toArray, List.set_cons_succ, List.set_cons_zero]
    have Cb7 := Mem.cell HM314.out 2 rfl
    refine wpS_this [3, 4, 5, 6, 7, 8, 9, 10, 11, 12, 13, 14, 15, 16, 17] rfl (by kernel_rfl) (by simp only [pickL, nthL, List.cons_append, List.nil_append]; rfl) ?_
    repeat (go_big_quiet_step (fail))
    refine wpQuiet_nil ?_
    clear Cb7
    refine wpS_skip (i := 18) (d := some 114) rfl (by rfl) rfl ?_
    simp only [Act.put, List.setIfInBounds_toArray, List.set_cons_succ, List.set_cons_zero]
    have Cb7 := Mem.cell HM314.out 2 rfl
    refine wpS_this [19] rfl (by kernel_rfl) (by simp only [pickL, nthL, List.cons_append, List.nil_append]; rfl) ?_
    repeat (go_big_quiet_step (fail))
    refine wpQuiet_nil ?_
    clear Cb7
    refine wpS_skip (i := 20) (d := some 116) rfl (by rfl) rfl ?_
    simp only [Act.put, List.setIfInBounds_toArray, List.set_cons_succ, List.set_cons_zero]
    refine wpS_this [21, 22, 23] rfl (by kernel_rfl) (by simp only [pickL, nthL, List.cons_append, List.nil_append]; rfl) ?_
    repeat (go_big_quiet_step (fail))
    refine wpQuiet_nil ?_
    refine wpS_loadA (i := 24) (d := some 120) (cells := vcC (a)) rfl (by rfl) rfl rfl (HM314.out.cells0 5 rfl) Try.underlying23 rfl (by kernel_rfl) rfl ?_
    simp only [Act.put, List.setIfInBounds_toArray, List.set_cons_succ, List.set_cons_zero]
    refine wpS_loadA (i := 25) (d := some 121) (cells := vcC (b)) rfl (by rfl) rfl rfl (HM314.out.cells0 4 rfl) Try.underlying23 rfl (by kernel_rfl) rfl ?_
    simp only [Act.put, List.setIfInBounds_toArray, List.set_cons_succ, List.set_cons_zero]
    refine wpS_loadA2 (i := 32) (d := some 128) (cells := vcC (a)) rfl (by rfl) rfl rfl (by simp) (HM314.out.cells0 5 rfl) Try.underlying23 rfl (by kernel_rfl) rfl ?_
    simp only [Act.put, List.setIfInBounds_toArray, List.set_cons_succ, List.set_cons_zero]
    refine wpS_loadA2 (i := 33) (d := some 129) (cells := vcC (b)) rfl (by rfl) rfl rfl (by simp) (HM314.out.cells0 4 rfl) Try.underlying23 rfl (by kernel_rfl) rfl ?_
    simp only [Act.put, List.setIfInBounds_toArray, List.set_cons_succ, List.set_cons_zero]
    refine wpS_read0 (i := 34) (d := some 130) rfl (by rfl) (fun _ => run_eqV (he.out) rfl rfl rfl) rfl ?_
    simp only [Act.put, List.setIfInBounds_toArray, List.set_cons_succ, List.set_cons_zero]
    refine wpS_does2 (i := 26) (d := some 122) (rem := [_, _, _, _, _, _]) (out := [_, _, _, _, _, _]) rfl (by rfl) rfl Try.call11 (cbelow_d a b) rfl rfl HM314.out [] rfl (covS_box 5 rfl (covS_box 4 rfl (covS_box 3 rfl (covS_box 2 rfl (covS_box 1 rfl (covS_box 0 rfl covS_nil)))))) rfl rfl ?_
    rintro W316 hm315 hg317
    rw [s1.out]
    have HM318 := Lib.hid hm315
    clear hm315
    simp only [Act.put, List.setIfInBounds_toArray, List.set_cons_succ, List.set_cons_zero]
    refine wpS_this [27] rfl (by kernel_rfl) (by simp only [pickL, nthL, List.cons_append, List.nil_append]; rfl) ?_
    repeat (go_big_quiet_step (fail))
    refine wpQuiet_nil ?_
    refine wpS_skip (i := 28) (d := some 124) rfl (by rfl) rfl ?_
    simp only [Act.put, List.setIfInBounds_toArray, List.set_cons_succ, List.set_cons_zero]
    refine wpS_skip (i := 29) (d := some 125) rfl (by rfl) rfl ?_
    simp only [Act.put, List.setIfInBounds_toArray, List.set_cons_succ, List.set_cons_zero]
    refine wpS_skip (i := 30) (d := some 126) rfl (by rfl) rfl ?_
    simp only [Act.put, List.setIfInBounds_toArray, List.set_cons_succ, List.set_cons_zero]
    refine wpS_this [31, 35, 36, 37] rfl (by kernel_rfl) (by simp only [pickL, nthL, List.cons_append, List.nil_append]; rfl) ?_
    repeat (go_big_quiet_step (fail))
    refine wpQuiet_nil ?_
    refine wpS_does0 (i := 38) (d := some 134) (rem := [_, _, _, _, _, _]) (out := [_, _, _, _, _, _]) rfl (by rfl) rfl Try.call19 (vawake_d)  HM318.out [] rfl (covS_box 5 rfl (covS_box 4 rfl (covS_box 3 rfl (covS_box 2 rfl (covS_box 1 rfl (covS_box 0 rfl covS_nil)))))) rfl rfl ?_
    rintro W320 hm319 hg321
    have HM322 := Lib.hid hm319
    clear hm319
    simp only [Act.put, List.setIfInBounds_toArray, List.set_cons_succ, List.set_cons_zero]
    refine wpS_this [39, 40] rfl (by kernel_rfl) (by simp only [pickL, nthL, List.cons_append, List.nil_append]; rfl) ?_
    repeat (go_big_quiet_step (fail))
    refine wpQuiet_nil ?_
    refine wpS_nil ?_
    refine then_normal ?_
    refine wp_ret ?_
    refine bodyPost_ret (results_tmp rfl _ _ _) rfl ?_
    exact does_ret (Mem.only (M := []) HM322.out [] rfl) rfl rfl
  · replace s1 := Lib.hid s1
    have g1 := decide_eq_false k1
    have g2 := decide_eq_false k2
    have g3 := decide_eq_true k3
    clear k1 k2 k3
    have he : Hid (decide (tab8 a = tab8 b) = false) := Lib.hid (by rw [← belowV_anti, s1.out]; rfl)
    refine wp_region_M (fun k => k ∈ ([b3, b7, b11, b15, b22, b288] : List Nat)) [(0, 1), (1, 1), (2, 3), (3, 1), (4, 1), (5, 1), (6, 1), (7, 1), (8, 1), (9, 1), (10, 1), (11, 1), (12, 1), (13, 1), (14, 1), (15, 1), (16, 1), (17, 1), (18, 1), (19, 1), (20, 3), (21, 1), (22, 1), (23, 1), (24, 1), (25, 1), (32, 2), (33, 2), (34, 0), (26, 3), (27, 1), (28, 1), (29, 1), (30, 3), (31, 1), (35, 1), (36, 1), (37, 1), (38, 3), (39, 1), (40, 1)] (by kernel_rfl) (by kernel_rfl) HM292.out ?_
    intro W323 hm324
    have HM325 := Lib.hid hm324
    clear hm324
    refine wpS_loadA (i := 0) (d := some 96) (cells := vcC (a)) rfl (by rfl) rfl rfl (HM325.out.cells0 5 rfl) Try.underlying23 rfl (by kernel_rfl) rfl ?_
    simp only [Act.put, List.setIfInBounds_toArray, List.set_cons_succ, List.set_cons_zero]
    refine wpS_loadA (i := 1) (d := some 97) (cells := vcC (w')) rfl (by rfl) rfl rfl (HM325.out.cells0 0 rfl) Try.underlying23 rfl (by kernel_rfl) rfl ?_
    simp only [Act.put, List.setIfInBounds_toArray, List.set_cons_succ, List.set_cons_zero]
    refine wpS_does2 (i := 2) (d := some 98) (rem := [_, _, _, _, _, _]) (out := [_, _, _, _, _, _]) rfl (by rfl) rfl Try.call11 (cbelow_d a w') rfl rfl HM325.out [] rfl (covS_box 5 rfl (covS_box 4 rfl (covS_box 3 rfl (covS_box 2 rfl (covS_box 1 rfl (covS_box 0 rfl covS_nil)))))) rfl rfl ?_
    rintro W327 hm326 hg328
    rw [haw.out]
    have HM329 := Lib.hid hm326
    clear hm326
    simp only [Act.put, List.setIfInBounds_toArray, List.set_cons_succ, List.set_cons_zero]
    have Cb7 := Mem.cell HM329.out 2 rfl
    refine wpS_this [3, 4, 5, 6, 7, 8, 9, 10, 11, 12, 13, 14, 15, 16, 17] rfl (by kernel_rfl) (by simp only [pickL, nthL, List.cons_append, List.nil_append]; rfl) ?_
    repeat (go_big_quiet_step (fail))
    refine wpQuiet_nil ?_
    clear Cb7
    refine wpS_skip (i := 18) (d := some 114) rfl (by rfl) rfl ?_
    simp only [Act.put, List.setIfInBounds_toArray, List.set_cons_succ, List.set_cons_zero]
    have Cb7 := Mem.cell HM329.out 2 rfl
    refine wpS_this [19] rfl (by kernel_rfl) (by simp only [pickL, nthL, List.cons_append, List.nil_append]; rfl) ?_
    repeat (go_big_quiet_step (fail))
    refine wpQuiet_nil ?_
    clear Cb7
    refine wpS_skip (i := 20) (d := some 116) rfl (by rfl) rfl ?_
    simp only [Act.put, List.setIfInBounds_toArray, List.set_cons_succ, List.set_cons_zero]
    refine wpS_this [21, 22, 23] rfl (by kernel_rfl) (by simp only [pickL, nthL, List.cons_append, List.nil_append]; rfl) ?_
    repeat (go_big_quiet_step (fail))
    refine wpQuiet_nil ?_
    refine wpS_loadA (i := 24) (d := some 120) (cells := vcC (a)) rfl (by rfl) rfl rfl (HM329.out.cells0 5 rfl) Try.underlying23 rfl (by kernel_rfl) rfl ?_
    simp only [Act.put, List.setIfInBounds_toArray, List.set_cons_succ, List.set_cons_zero]
    refine wpS_loadA (i := 25) (d := some 121) (cells := vcC (b)) rfl (by rfl) rfl rfl (HM329.out.cells0 4 rfl) Try.underlying23 rfl (by kernel_rfl) rfl ?_
    simp only [Act.put, List.setIfInBounds_toArray, List.set_cons_succ, List.set_cons_zero]
    refine wpS_loadA2 (i := 32) (d := some 128) (cells := vcC (a)) rfl (by rfl) rfl rfl (by simp) (HM329.out.cells0 5 rfl) Try.underlying23 rfl (by kernel_rfl) rfl ?_
    simp only [Act.put, List.setIfInBounds_toArray, List.set_cons_succ, List.set_cons_zero]
    refine wpS_loadA2 (i := 33) (d := some 129) (cells := vcC (b)) rfl (by rfl) rfl rfl (by simp) (HM329.out.cells0 4 rfl) Try.underlying23 rfl (by kernel_rfl) rfl ?_
    simp only [Act.put, List.setIfInBounds_toArray, List.set_cons_succ, List.set_cons_zero]
    refine wpS_read0 (i := 34) (d := some 130) rfl (by rfl) (fun _ => run_eqV (he.out) rfl rfl rfl) rfl ?_
    simp only [Act.put, List.setIfInBounds_toArray, List.set_cons_succ, List.set_cons_zero]
    refine wpS_does2 (i := 26) (d := some 122) (rem := [_, _, _, _, _, _]) (out := [_, _, _, _, _, _]) rfl (by rfl) rfl Try.call11 (cbelow_d a b) rfl rfl HM329.out [] rfl (covS_box 5 rfl (covS_box 4 rfl (covS_box 3 rfl (covS_box 2 rfl (covS_box 1 rfl (covS_box 0 rfl covS_nil)))))) rfl rfl ?_
    rintro W331 hm330 hg332
    rw [s1.out]
    have HM333 := Lib.hid hm330
    clear hm330
    simp only [Act.put, List.setIfInBounds_toArray, List.set_cons_succ, List.set_cons_zero]
    refine wpS_this [27] rfl (by kernel_rfl) (by simp only [pickL, nthL, List.cons_append, List.nil_append]; rfl) ?_
    repeat (go_big_quiet_step (fail))
    refine wpQuiet_nil ?_
    refine wpS_skip (i := 28) (d := some 124) rfl (by rfl) rfl ?_
    simp only [Act.put, List.setIfInBounds_toArray, List.set_cons_succ, List.set_cons_zero]
    refine wpS_skip (i := 29) (d := some 125) rfl (by rfl) rfl ?_
    simp only [Act.put, List.setIfInBounds_toArray, List.set_cons_succ, List.set_cons_zero]
    refine wpS_skip (i := 30) (d := some 126) rfl (by rfl) rfl ?_
    simp only [Act.put, List.setIfInBounds_toArray, List.set_cons_succ, List.set_cons_zero]
    refine wpS_this [31, 35, 36, 37] rfl (by kernel_rfl) (by simp only [pickL, nthL, List.cons_append, List.nil_append]; rfl) ?_
    repeat (go_big_quiet_step (fail))
    refine wpQuiet_nil ?_
    refine wpS_does0 (i := 38) (d := some 134) (rem := [_, _, _, _, _, _]) (out := [_, _, _, _, _, _]) rfl (by rfl) rfl Try.call19 (vawake_d)  HM333.out [] rfl (covS_box 5 rfl (covS_box 4 rfl (covS_box 3 rfl (covS_box 2 rfl (covS_box 1 rfl (covS_box 0 rfl covS_nil)))))) rfl rfl ?_
    rintro W335 hm334 hg336
    have HM337 := Lib.hid hm334
    clear hm334
    simp only [Act.put, List.setIfInBounds_toArray, List.set_cons_succ, List.set_cons_zero]
    refine wpS_this [39, 40] rfl (by kernel_rfl) (by simp only [pickL, nthL, List.cons_append, List.nil_append]; rfl) ?_
    repeat (go_big_quiet_step (fail))
    refine wpQuiet_nil ?_
    refine wpS_nil ?_
    refine then_normal ?_
    refine wp_ret ?_
    refine bodyPost_ret (results_tmp rfl _ _ _) rfl ?_
    exact does_ret (Mem.only (M := []) HM337.out [] rfl) rfl rfl
  · replace s1 := Lib.hid s1
    have g1 := decide_eq_false k1
    have g2 := decide_eq_false k2
    have g3 := decide_eq_false k3
    have hhw : Hid (hasV w' (d1, d2) = true) := Lib.hid (by rw [← hw'.out]; exact hasV_with (show 0 ≤ d1 ∧ d1 < 8 by omega) (show 1 ≤ d2 by omega))
    clear k1 k2 k3
    have he : Hid (decide (tab8 a = tab8 b) = false) := Lib.hid (by rw [← belowV_anti, s1.out]; rfl)
    refine wp_region_M (fun k => k ∈ ([b3, b7, b11, b15, b22, b288] : List Nat)) [(0, 1), (1, 1), (2, 3), (3, 1), (4, 1), (5, 1), (6, 1), (7, 1), (8, 1), (9, 1), (10, 1), (11, 1), (12, 1), (13, 1), (14, 1), (15, 1), (16, 1), (17, 1), (18, 1), (19, 1), (20, 3), (21, 1), (22, 1), (23, 1), (24, 1), (25, 1), (32, 2), (33, 2), (34, 0), (26, 3), (27, 1), (28, 1), (29, 1), (30, 3), (31, 1), (35, 1), (36, 1), (37, 1), (38, 3), (39, 1), (40, 1)] (by kernel_rfl) (by kernel_rfl) HM292.out ?_
    intro W338 hm339
    have HM340 := Lib.hid hm339
    clear hm339
    refine wpS_loadA (i := 0) (d := some 96) (cells := vcC (a)) rfl (by rfl) rfl rfl (HM340.out.cells0 5 rfl) Try.underlying23 rfl (by kernel_rfl) rfl ?_
    simp only [Act.put, List.setIfInBounds_toArray, List.set_cons_succ, List.set_cons_zero]
    refine wpS_loadA (i := 1) (d := some 97) (cells := vcC (w')) rfl (by rfl) rfl rfl (HM340.out.cells0 0 rfl) Try.underlying23 rfl (by kernel_rfl) rfl ?_
    simp only [Act.put, List.setIfInBounds_toArray, List.set_cons_succ, List.set_cons_zero]
    refine wpS_does2 (i := 2) (d := some 98) (rem := [_, _, _, _, _, _]) (out := [_, _, _, _, _, _]) rfl (by rfl) rfl Try.call11 (cbelow_d a w') rfl rfl HM340.out [] rfl (covS_box 5 rfl (covS_box 4 rfl (covS_box 3 rfl (covS_box 2 rfl (covS_box 1 rfl (covS_box 0 rfl covS_nil)))))) rfl rfl ?_
    rintro W342 hm341 hg343
    rw [haw.out]
    have HM344 := Lib.hid hm341
    clear hm341
    simp only [Act.put, List.setIfInBounds_toArray, List.set_cons_succ, List.set_cons_zero]
    have Cb7 := Mem.cell HM344.out 2 rfl
    refine wpS_this [3, 4, 5, 6, 7, 8, 9, 10, 11, 12, 13, 14, 15, 16, 17] rfl (by kernel_rfl) (by simp only [pickL, nthL, List.cons_append, List.nil_append]; rfl) ?_
    repeat (go_big_quiet_step (fail))
    refine wpQuiet_nil ?_
    clear Cb7
    refine wpS_loadA (i := 18) (d := some 114) (cells := vcC (w')) rfl (by rfl) rfl rfl (HM344.out.cells0 0 rfl) Try.underlying23 rfl (by kernel_rfl) rfl ?_
    simp only [Act.put, List.setIfInBounds_toArray, List.set_cons_succ, List.set_cons_zero]
    have Cb7 := Mem.cell HM344.out 2 rfl
    refine wpS_this [19] rfl (by kernel_rfl) (by simp only [pickL, nthL, List.cons_append, List.nil_append]; rfl) ?_
    repeat (go_big_quiet_step (fail))
    refine wpQuiet_nil ?_
    clear Cb7
    refine wpS_does2 (i := 20) (d := some 116) (rem := [_, _, _, _, _, _]) (out := [_, _, _, _, _, _]) rfl (by rfl) rfl Try.call13 (chas_d w' d1 d2) rfl rfl HM344.out [] rfl (covS_box 5 rfl (covS_box 4 rfl (covS_box 3 rfl (covS_box 2 rfl (covS_box 1 rfl (covS_box 0 rfl covS_nil)))))) rfl rfl ?_
    rintro W346 hm345 hg347
    rw [hhw.out]
    have HM348 := Lib.hid hm345
    clear hm345
    simp only [Act.put, List.setIfInBounds_toArray, List.set_cons_succ, List.set_cons_zero]
    refine wpS_this [21, 22, 23] rfl (by kernel_rfl) (by simp only [pickL, nthL, List.cons_append, List.nil_append]; rfl) ?_
    repeat (go_big_quiet_step (fail))
    refine wpQuiet_nil ?_
    refine wpS_loadA (i := 24) (d := some 120) (cells := vcC (a)) rfl (by rfl) rfl rfl (HM348.out.cells0 5 rfl) Try.underlying23 rfl (by kernel_rfl) rfl ?_
    simp only [Act.put, List.setIfInBounds_toArray, List.set_cons_succ, List.set_cons_zero]
    refine wpS_loadA (i := 25) (d := some 121) (cells := vcC (b)) rfl (by rfl) rfl rfl (HM348.out.cells0 4 rfl) Try.underlying23 rfl (by kernel_rfl) rfl ?_
    simp only [Act.put, List.setIfInBounds_toArray, List.set_cons_succ, List.set_cons_zero]
    refine wpS_loadA2 (i := 32) (d := some 128) (cells := vcC (a)) rfl (by rfl) rfl rfl (by simp) (HM348.out.cells0 5 rfl) Try.underlying23 rfl (by kernel_rfl) rfl ?_
    simp only [Act.put, List.setIfInBounds_toArray, List.set_cons_succ, List.set_cons_zero]
    refine wpS_loadA2 (i := 33) (d := some 129) (cells := vcC (b)) rfl (by rfl) rfl rfl (by simp) (HM348.out.cells0 4 rfl) Try.underlying23 rfl (by kernel_rfl) rfl ?_
    simp only [Act.put, List.setIfInBounds_toArray, List.set_cons_succ, List.set_cons_zero]
    refine wpS_read0 (i := 34) (d := some 130) rfl (by rfl) (fun _ => run_eqV (he.out) rfl rfl rfl) rfl ?_
    simp only [Act.put, List.setIfInBounds_toArray, List.set_cons_succ, List.set_cons_zero]
    refine wpS_does2 (i := 26) (d := some 122) (rem := [_, _, _, _, _, _]) (out := [_, _, _, _, _, _]) rfl (by rfl) rfl Try.call11 (cbelow_d a b) rfl rfl HM348.out [] rfl (covS_box 5 rfl (covS_box 4 rfl (covS_box 3 rfl (covS_box 2 rfl (covS_box 1 rfl (covS_box 0 rfl covS_nil)))))) rfl rfl ?_
    rintro W350 hm349 hg351
    rw [s1.out]
    have HM352 := Lib.hid hm349
    clear hm349
    simp only [Act.put, List.setIfInBounds_toArray, List.set_cons_succ, List.set_cons_zero]
    refine wpS_this [27] rfl (by kernel_rfl) (by simp only [pickL, nthL, List.cons_append, List.nil_append]; rfl) ?_
    repeat (go_big_quiet_step (fail))
    refine wpQuiet_nil ?_
    refine wpS_skip (i := 28) (d := some 124) rfl (by rfl) rfl ?_
    simp only [Act.put, List.setIfInBounds_toArray, List.set_cons_succ, List.set_cons_zero]
    refine wpS_skip (i := 29) (d := some 125) rfl (by rfl) rfl ?_
    simp only [Act.put, List.setIfInBounds_toArray, List.set_cons_succ, List.set_cons_zero]
    refine wpS_skip (i := 30) (d := some 126) rfl (by rfl) rfl ?_
    simp only [Act.put, List.setIfInBounds_toArray, List.set_cons_succ, List.set_cons_zero]
    refine wpS_this [31, 35, 36, 37] rfl (by kernel_rfl) (by simp only [pickL, nthL, List.cons_append, List.nil_append]; rfl) ?_
    repeat (go_big_quiet_step (fail))
    refine wpQuiet_nil ?_
    refine wpS_does0 (i := 38) (d := some 134) (rem := [_, _, _, _, _, _]) (out := [_, _, _, _, _, _]) rfl (by rfl) rfl Try.call19 (vawake_d)  HM352.out [] rfl (covS_box 5 rfl (covS_box 4 rfl (covS_box 3 rfl (covS_box 2 rfl (covS_box 1 rfl (covS_box 0 rfl covS_nil)))))) rfl rfl ?_
    rintro W354 hm353 hg355
    have HM356 := Lib.hid hm353
    clear hm353
    simp only [Act.put, List.setIfInBounds_toArray, List.set_cons_succ, List.set_cons_zero]
    refine wpS_this [39, 40] rfl (by kernel_rfl) (by simp only [pickL, nthL, List.cons_append, List.nil_append]; rfl) ?_
    repeat (go_big_quiet_step (fail))
    refine wpQuiet_nil ?_
    refine wpS_nil ?_
    refine then_normal ?_
    refine wp_ret ?_
    refine bodyPost_ret (results_tmp rfl _ _ _) rfl ?_
    exact does_ret (Mem.only (M := []) HM356.out [] rfl) rfl rfl
  · replace s1 := Lib.hid s1
    have g1 := decide_eq_true k1
    clear k1
    obtain ⟨t, ht'⟩ := bool_letter (belowV b a)
    have he : Hid (decide (tab8 a = tab8 b) = t) := Lib.hid (by rw [← belowV_anti, s1.out, ht']; rfl)
    have ht := Lib.hid ht'
    clear ht'
    have gt : (t == t) = true := beq_self_eq_true _
    refine wp_region_M (fun k => k ∈ ([b3, b7, b11, b15, b22, b288] : List Nat)) [(0, 1), (1, 1), (2, 3), (3, 1), (4, 1), (5, 1), (6, 1), (7, 1), (8, 1), (9, 1), (10, 1), (11, 1), (12, 1), (13, 1), (14, 1), (15, 1), (16, 1), (17, 1), (18, 1), (19, 1), (20, 3), (21, 1), (22, 1), (23, 1), (24, 1), (25, 1), (32, 2), (33, 2), (34, 0), (26, 3), (27, 1), (28, 1), (29, 1), (30, 3), (31, 1), (35, 1), (36, 1), (37, 1), (38, 3), (39, 1), (40, 1)] (by kernel_rfl) (by kernel_rfl) HM292.out ?_
    intro W357 hm358
    have HM359 := Lib.hid hm358
    clear hm358
    refine wpS_loadA (i := 0) (d := some 96) (cells := vcC (a)) rfl (by rfl) rfl rfl (HM359.out.cells0 5 rfl) Try.underlying23 rfl (by kernel_rfl) rfl ?_
    simp only [Act.put, List.setIfInBounds_toArray, List.set_cons_succ, List.set_cons_zero]
    refine wpS_loadA (i := 1) (d := some 97) (cells := vcC (w')) rfl (by rfl) rfl rfl (HM359.out.cells0 0 rfl) Try.underlying23 rfl (by kernel_rfl) rfl ?_
    simp only [Act.put, List.setIfInBounds_toArray, List.set_cons_succ, List.set_cons_zero]
    refine wpS_does2 (i := 2) (d := some 98) (rem := [_, _, _, _, _, _]) (out := [_, _, _, _, _, _]) rfl (by rfl) rfl Try.call11 (cbelow_d a w') rfl rfl HM359.out [] rfl (covS_box 5 rfl (covS_box 4 rfl (covS_box 3 rfl (covS_box 2 rfl (covS_box 1 rfl (covS_box 0 rfl covS_nil)))))) rfl rfl ?_
    rintro W361 hm360 hg362
    rw [haw.out]
    have HM363 := Lib.hid hm360
    clear hm360
    simp only [Act.put, List.setIfInBounds_toArray, List.set_cons_succ, List.set_cons_zero]
    have Cb7 := Mem.cell HM363.out 2 rfl
    refine wpS_this [3, 4, 5, 6, 7, 8, 9, 10, 11, 12, 13, 14, 15, 16, 17] rfl (by kernel_rfl) (by simp only [pickL, nthL, List.cons_append, List.nil_append]; rfl) ?_
    repeat (go_big_quiet_step (fail))
    refine wpQuiet_nil ?_
    clear Cb7
    refine wpS_skip (i := 18) (d := some 114) rfl (by rfl) rfl ?_
    simp only [Act.put, List.setIfInBounds_toArray, List.set_cons_succ, List.set_cons_zero]
    have Cb7 := Mem.cell HM363.out 2 rfl
    refine wpS_this [19] rfl (by kernel_rfl) (by simp only [pickL, nthL, List.cons_append, List.nil_append]; rfl) ?_
    repeat (go_big_quiet_step (fail))
    refine wpQuiet_nil ?_
    clear Cb7
    refine wpS_skip (i := 20) (d := some 116) rfl (by rfl) rfl ?_
    simp only [Act.put, List.setIfInBounds_toArray, List.set_cons_succ, List.set_cons_zero]
    refine wpS_this [21, 22, 23] rfl (by kernel_rfl) (by simp only [pickL, nthL, List.cons_append, List.nil_append]; rfl) ?_
    repeat (go_big_quiet_step (fail))
    refine wpQuiet_nil ?_
    refine wpS_loadA (i := 24) (d := some 120) (cells := vcC (a)) rfl (by rfl) rfl rfl (HM363.out.cells0 5 rfl) Try.underlying23 rfl (by kernel_rfl) rfl ?_
    simp only [Act.put, List.setIfInBounds_toArray, List.set_cons_succ, List.set_cons_zero]
    refine wpS_loadA (i := 25) (d := some 121) (cells := vcC (b)) rfl (by rfl) rfl rfl (HM363.out.cells0 4 rfl) Try.underlying23 rfl (by kernel_rfl) rfl ?_
    simp only [Act.put, List.setIfInBounds_toArray, List.set_cons_succ, List.set_cons_zero]
    refine wpS_loadA2 (i := 32) (d := some 128) (cells := vcC (a)) rfl (by rfl) rfl rfl (by simp) (HM363.out.cells0 5 rfl) Try.underlying23 rfl (by kernel_rfl) rfl ?_
    simp only [Act.put, List.setIfInBounds_toArray, List.set_cons_succ, List.set_cons_zero]
    refine wpS_loadA2 (i := 33) (d := some 129) (cells := vcC (b)) rfl (by rfl) rfl rfl (by simp) (HM363.out.cells0 4 rfl) Try.underlying23 rfl (by kernel_rfl) rfl ?_
    simp only [Act.put, List.setIfInBounds_toArray, List.set_cons_succ, List.set_cons_zero]
    refine wpS_read0 (i := 34) (d := some 130) rfl (by rfl) (fun _ => run_eqV (he.out) rfl rfl rfl) rfl ?_
    simp only [Act.put, List.setIfInBounds_toArray, List.set_cons_succ, List.set_cons_zero]
    refine wpS_does2 (i := 26) (d := some 122) (rem := [_, _, _, _, _, _]) (out := [_, _, _, _, _, _]) rfl (by rfl) rfl Try.call11 (cbelow_d a b) rfl rfl HM363.out [] rfl (covS_box 5 rfl (covS_box 4 rfl (covS_box 3 rfl (covS_box 2 rfl (covS_box 1 rfl (covS_box 0 rfl covS_nil)))))) rfl rfl ?_
    rintro W365 hm364 hg366
    rw [s1.out]
    have HM367 := Lib.hid hm364
    clear hm364
    simp only [Act.put, List.setIfInBounds_toArray, List.set_cons_succ, List.set_cons_zero]
    refine wpS_this [27] rfl (by kernel_rfl) (by simp only [pickL, nthL, List.cons_append, List.nil_append]; rfl) ?_
    repeat (go_big_quiet_step (fail))
    refine wpQuiet_nil ?_
    refine wpS_loadA (i := 28) (d := some 124) (cells := vcC (b)) rfl (by rfl) rfl rfl (HM367.out.cells0 4 rfl) Try.underlying23 rfl (by kernel_rfl) rfl ?_
    simp only [Act.put, List.setIfInBounds_toArray, List.set_cons_succ, List.set_cons_zero]
    refine wpS_loadA (i := 29) (d := some 125) (cells := vcC (a)) rfl (by rfl) rfl rfl (HM367.out.cells0 5 rfl) Try.underlying23 rfl (by kernel_rfl) rfl ?_
    simp only [Act.put, List.setIfInBounds_toArray, List.set_cons_succ, List.set_cons_zero]
    refine wpS_does2 (i := 30) (d := some 126) (rem := [_, _, _, _, _, _]) (out := [_, _, _, _, _, _]) rfl (by rfl) rfl Try.call11 (cbelow_d b a) rfl rfl HM367.out [] rfl (covS_box 5 rfl (covS_box 4 rfl (covS_box 3 rfl (covS_box 2 rfl (covS_box 1 rfl (covS_box 0 rfl covS_nil)))))) rfl rfl ?_
    rintro W369 hm368 hg370
    rw [ht.out]
    have HM371 := Lib.hid hm368
    clear hm368
    simp only [Act.put, List.setIfInBounds_toArray, List.set_cons_succ, List.set_cons_zero]
    refine wpS_this [31, 35, 36, 37] rfl (by kernel_rfl) (by simp only [pickL, nthL, List.cons_append, List.nil_append]; rfl) ?_
    repeat (go_big_quiet_step (fail))
    refine wpQuiet_nil ?_
    refine wpS_does0 (i := 38) (d := some 134) (rem := [_, _, _, _, _, _]) (out := [_, _, _, _, _, _]) rfl (by rfl) rfl Try.call19 (vawake_d)  HM371.out [] rfl (covS_box 5 rfl (covS_box 4 rfl (covS_box 3 rfl (covS_box 2 rfl (covS_box 1 rfl (covS_box 0 rfl covS_nil)))))) rfl rfl ?_
    rintro W373 hm372 hg374
    have HM375 := Lib.hid hm372
    clear hm372
    simp only [Act.put, List.setIfInBounds_toArray, List.set_cons_succ, List.set_cons_zero]
    refine wpS_this [39, 40] rfl (by kernel_rfl) (by simp only [pickL, nthL, List.cons_append, List.nil_append]; rfl) ?_
    repeat (go_big_quiet_step (fail))
    refine wpQuiet_nil ?_
    refine wpS_nil ?_
    refine then_normal ?_
    refine wp_ret ?_
    refine bodyPost_ret (results_tmp rfl _ _ _) rfl ?_
    exact does_ret (Mem.only (M := []) HM375.out [] rfl) rfl rfl
  · replace s1 := Lib.hid s1
    have g1 := decide_eq_false k1
    have g2 := decide_eq_true k2
    clear k1 k2
    obtain ⟨t, ht'⟩ := bool_letter (belowV b a)
    have he : Hid (decide (tab8 a = tab8 b) = t) := Lib.hid (by rw [← belowV_anti, s1.out, ht']; rfl)
    have ht := Lib.hid ht'
    clear ht'
    have gt : (t == t) = true := beq_self_eq_true _
    refine wp_region_M (fun k => k ∈ ([b3, b7, b11, b15, b22, b288] : List Nat)) [(0, 1), (1, 1), (2, 3), (3, 1), (4, 1), (5, 1), (6, 1), (7, 1), (8, 1), (9, 1), (10, 1), (11, 1), (12, 1), (13, 1), (14, 1), (15, 1), (16, 1), (17, 1), (18, 1), (19, 1), (20, 3), (21, 1), (22, 1), (23, 1), (24, 1), (25, 1), (32, 2), (33, 2), (34, 0), (26, 3), (27, 1), (28, 1), (29, 1), (30, 3), (31, 1), (35, 1), (36, 1), (37, 1), (38, 3), (39, 1), (40, 1)] (by kernel_rfl) (by kernel_rfl) HM292.out ?_
    intro W376 hm377
    have HM378 := Lib.hid hm377
    clear hm377
    refine wpS_loadA (i := 0) (d := some 96) (cells := vcC (a)) rfl (by rfl) rfl rfl (HM378.out.cells0 5 rfl) Try.underlying23 rfl (by kernel_rfl) rfl ?_
    simp only [Act.put, List.setIfInBounds_toArray, List.set_cons_succ, List.set_cons_zero]
    refine wpS_loadA (i := 1) (d := some 97) (cells := vcC (w')) rfl (by rfl) rfl rfl (HM378.out.cells0 0 rfl) Try.underlying23 rfl (by kernel_rfl) rfl ?_
    simp only [Act.put, List.setIfInBounds_toArray, List.set_cons_succ, List.set_cons_zero]
    refine wpS_does2 (i := 2) (d := some 98) (rem := [_, _, _, _, _, _]) (out := [_, _, _, _, _, _]) rfl (by rfl) rfl Try.call11 (cbelow_d a w') rfl rfl HM378.out [] rfl (covS_box 5 rfl (covS_box 4 rfl (covS_box 3 rfl (covS_box 2 rfl (covS_box 1 rfl (covS_box 0 rfl covS_nil)))))) rfl rfl ?_
    rintro W380 hm379 hg381
    rw [haw.out]
    have HM382 := Lib.hid hm379
    clear hm379
    simp only [Act.put, List.setIfInBounds_toArray, List.set_cons_succ, List.set_cons_zero]
    have Cb7 := Mem.cell HM382.out 2 rfl
    refine wpS_this [3, 4, 5, 6, 7, 8, 9, 10, 11, 12, 13, 14, 15, 16, 17] rfl (by kernel_rfl) (by simp only [pickL, nthL, List.cons_append, List.nil_append]; rfl) ?_
    repeat (go_big_quiet_step (fail))
    refine wpQuiet_nil ?_
    clear Cb7
    refine wpS_skip (i := 18) (d := some 114) rfl (by rfl) rfl ?_
    simp only [Act.put, List.setIfInBounds_toArray, List.set_cons_succ, List.set_cons_zero]
    have Cb7 := Mem.cell HM382.out 2 rfl
    refine wpS_this [19] rfl (by kernel_rfl) (by simp only [pickL, nthL, List.cons_append, List.nil_append]; rfl) ?_
    repeat (go_big_quiet_step (fail))
    refine wpQuiet_nil ?_
    clear Cb7
    refine wpS_skip (i := 20) (d := some 116) rfl (by rfl) rfl ?_
    simp only [Act.put, List.setIfInBounds_toArray, List.set_cons_succ, List.set_cons_zero]
    refine wpS_this [21, 22, 23] rfl (by kernel_rfl) (by simp only [pickL, nthL, List.cons_append, List.nil_append]; rfl) ?_
    repeat (go_big_quiet_step (fail))
    refine wpQuiet_nil ?_
    refine wpS_loadA (i := 24) (d := some 120) (cells := vcC (a)) rfl (by rfl) rfl rfl (HM382.out.cells0 5 rfl) Try.underlying23 rfl (by kernel_rfl) rfl ?_
    simp only [Act.put, List.setIfInBounds_toArray, List.set_cons_succ, List.set_cons_zero]
    refine wpS_loadA (i := 25) (d := some 121) (cells := vcC (b)) rfl (by rfl) rfl rfl (HM382.out.cells0 4 rfl) Try.underlying23 rfl (by kernel_rfl) rfl ?_
    simp only [Act.put, List.setIfInBounds_toArray, List.set_cons_succ, List.set_cons_zero]
    refine wpS_loadA2 (i := 32) (d := some 128) (cells := vcC (a)) rfl (by rfl) rfl rfl (by simp) (HM382.out.cells0 5 rfl) Try.underlying23 rfl (by kernel_rfl) rfl ?_
    simp only [Act.put, List.setIfInBounds_toArray, List.set_cons_succ, List.set_cons_zero]
    refine wpS_loadA2 (i := 33) (d := some 129) (cells := vcC (b)) rfl (by rfl) rfl rfl (by simp) (HM382.out.cells0 4 rfl) Try.underlying23 rfl (by kernel_rfl) rfl ?_
    simp only [Act.put, List.setIfInBounds_toArray, List.set_cons_succ, List.set_cons_zero]
    refine wpS_read0 (i := 34) (d := some 130) rfl (by rfl) (fun _ => run_eqV (he.out) rfl rfl rfl) rfl ?_
    simp only [Act.put, List.setIfInBounds_toArray, List.set_cons_succ, List.set_cons_zero]
    refine wpS_does2 (i := 26) (d := some 122) (rem := [_, _, _, _, _, _]) (out := [_, _, _, _, _, _]) rfl (by rfl) rfl Try.call11 (cbelow_d a b) rfl rfl HM382.out [] rfl (covS_box 5 rfl (covS_box 4 rfl (covS_box 3 rfl (covS_box 2 rfl (covS_box 1 rfl (covS_box 0 rfl covS_nil)))))) rfl rfl ?_
    rintro W384 hm383 hg385
    rw [s1.out]
    have HM386 := Lib.hid hm383
    clear hm383
    simp only [Act.put, List.setIfInBounds_toArray, List.set_cons_succ, List.set_cons_zero]
    refine wpS_this [27] rfl (by kernel_rfl) (by simp only [pickL, nthL, List.cons_append, List.nil_append]; rfl) ?_
    repeat (go_big_quiet_step (fail))
    refine wpQuiet_nil ?_
    refine wpS_loadA (i := 28) (d := some 124) (cells := vcC (b)) rfl (by rfl) rfl rfl (HM386.out.cells0 4 rfl) Try.underlying23 rfl (by kernel_rfl) rfl ?_
    simp only [Act.put, List.setIfInBounds_toArray, List.set_cons_succ, List.set_cons_zero]
    refine wpS_loadA (i := 29) (d := some 125) (cells := vcC (a)) rfl (by rfl) rfl rfl (HM386.out.cells0 5 rfl) Try.underlying23 rfl (by kernel_rfl) rfl ?_
    simp only [Act.put, List.setIfInBounds_toArray, List.set_cons_succ, List.set_cons_zero]
    refine wpS_does2 (i := 30) (d := some 126) (rem := [_, _, _, _, _, _]) (out := [_, _, _, _, _, _]) rfl (by rfl) rfl Try.call11 (cbelow_d b a) rfl rfl HM386.out [] rfl (covS_box 5 rfl (covS_box 4 rfl (covS_box 3 rfl (covS_box 2 rfl (covS_box 1 rfl (covS_box 0 rfl covS_nil)))))) rfl rfl ?_
    rintro W388 hm387 hg389
    rw [ht.out]
    have HM390 := Lib.hid hm387
    clear hm387
    simp only [Act.put, List.setIfInBounds_toArray, List.set_cons_succ, List.set_cons_zero]
    refine wpS_this [31, 35, 36, 37] rfl (by kernel_rfl) (by simp only [pickL, nthL, List.cons_append, List.nil_append]; rfl) ?_
    repeat (go_big_quiet_step (fail))
    refine wpQuiet_nil ?_
    refine wpS_does0 (i := 38) (d := some 134) (rem := [_, _, _, _, _, _]) (out := [_, _, _, _, _, _]) rfl (by rfl) rfl Try.call19 (vawake_d)  HM390.out [] rfl (covS_box 5 rfl (covS_box 4 rfl (covS_box 3 rfl (covS_box 2 rfl (covS_box 1 rfl (covS_box 0 rfl covS_nil)))))) rfl rfl ?_
    rintro W392 hm391 hg393
    have HM394 := Lib.hid hm391
    clear hm391
    simp only [Act.put, List.setIfInBounds_toArray, List.set_cons_succ, List.set_cons_zero]
    refine wpS_this [39, 40] rfl (by kernel_rfl) (by simp only [pickL, nthL, List.cons_append, List.nil_append]; rfl) ?_
    repeat (go_big_quiet_step (fail))
    refine wpQuiet_nil ?_
    refine wpS_nil ?_
    refine then_normal ?_
    refine wp_ret ?_
    refine bodyPost_ret (results_tmp rfl _ _ _) rfl ?_
    exact does_ret (Mem.only (M := []) HM394.out [] rfl) rfl rfl
  · replace s1 := Lib.hid s1
    have g1 := decide_eq_false k1
    have g2 := decide_eq_false k2
    have g3 := decide_eq_true k3
    clear k1 k2 k3
    obtain ⟨t, ht'⟩ := bool_letter (belowV b a)
    have he : Hid (decide (tab8 a = tab8 b) = t) := Lib.hid (by rw [← belowV_anti, s1.out, ht']; rfl)
    have ht := Lib.hid ht'
    clear ht'
    have gt : (t == t) = true := beq_self_eq_true _
    refine wp_region_M (fun k => k ∈ ([b3, b7, b11, b15, b22, b288] : List Nat)) [(0, 1), (1, 1), (2, 3), (3, 1), (4, 1), (5, 1), (6, 1), (7, 1), (8, 1), (9, 1), (10, 1), (11, 1), (12, 1), (13, 1), (14, 1), (15, 1), (16, 1), (17, 1), (18, 1), (19, 1), (20, 3), (21, 1), (22, 1), (23, 1), (24, 1), (25, 1), (32, 2), (33, 2), (34, 0), (26, 3), (27, 1), (28, 1), (29, 1), (30, 3), (31, 1), (35, 1), (36, 1), (37, 1), (38, 3), (39, 1), (40, 1)] (by kernel_rfl) (by kernel_rfl) HM292.out ?_
    intro W395 hm396
    have HM397 := Lib.hid hm396
    clear hm396
    refine wpS_loadA (i := 0) (d := some 96) (cells := vcC (a)) rfl (by rfl) rfl rfl (HM397.out.cells0 5 rfl) Try.underlying23 rfl (by kernel_rfl) rfl ?_
    simp only [Act.put, List.setIfInBounds_toArray, List.set_cons_succ, List.set_cons_zero]
    refine wpS_loadA (i := 1) (d := some 97) (cells := vcC (w')) rfl (by rfl) rfl rfl (HM397.out.cells0 0 rfl) Try.underlying23 rfl (by kernel_rfl) rfl ?_
    simp only [Act.put, List.setIfInBounds_toArray, List.set_cons_succ, List.set_cons_zero]
    refine wpS_does2 (i := 2) (d := some 98) (rem := [_, _, _, _, _, _]) (out := [_, _, _, _, _, _]) rfl (by rfl) rfl Try.call11 (cbelow_d a w') rfl rfl HM397.out [] rfl (covS_box 5 rfl (covS_box 4 rfl (covS_box 3 rfl (covS_box 2 rfl (covS_box 1 rfl (covS_box 0 rfl covS_nil)))))) rfl rfl ?_
    rintro W399 hm398 hg400
    rw [haw.out]
    have HM401 := Lib.hid hm398
    clear hm398
    simp only [Act.put, List.setIfInBounds_toArray, List.set_cons_succ, List.set_cons_zero]
    have Cb7 := Mem.cell HM401.out 2 rfl
    refine wpS_this [3, 4, 5, 6, 7, 8, 9, 10, 11, 12, 13, 14, 15, 16, 17] rfl (by kernel_rfl) (by simp only [pickL, nthL, List.cons_append, List.nil_append]; rfl) ?_
    repeat (go_big_quiet_step (fail))
    refine wpQuiet_nil ?_
    clear Cb7
    refine wpS_skip (i := 18) (d := some 114) rfl (by rfl) rfl ?_
    simp only [Act.put, List.setIfInBounds_toArray, List.set_cons_succ, List.set_cons_zero]
    have Cb7 := Mem.cell HM401.out 2 rfl
    refine wpS_this [19] rfl (by kernel_rfl) (by simp only [pickL, nthL, List.cons_append, List.nil_append]; rfl) ?_
    repeat (go_big_quiet_step (fail))
    refine wpQuiet_nil ?_
    clear Cb7
    refine wpS_skip (i := 20) (d := some 116) rfl (by rfl) rfl ?_
    simp only [Act.put, List.setIfInBounds_toArray, List.set_cons_succ, List.set_cons_zero]
    refine wpS_this [21, 22, 23] rfl (by kernel_rfl) (by simp only [pickL, nthL, List.cons_append, List.nil_append]; rfl) ?_
    repeat (go_big_quiet_step (fail))
    refine wpQuiet_nil ?_
    refine wpS_loadA (i := 24) (d := some 120) (cells := vcC (a)) rfl (by rfl) rfl rfl (HM401.out.cells0 5 rfl) Try.underlying23 rfl (by kernel_rfl) rfl ?_
    simp only [Act.put, List.setIfInBounds_toArray, List.set_cons_succ, List.set_cons_zero]
    refine wpS_loadA (i := 25) (d := some 121) (cells := vcC (b)) rfl (by rfl) rfl rfl (HM401.out.cells0 4 rfl) Try.underlying23 rfl (by kernel_rfl) rfl ?_
    simp only [Act.put, List.setIfInBounds_toArray, List.set_cons_succ, List.set_cons_zero]
    refine wpS_loadA2 (i := 32) (d := some 128) (cells := vcC (a)) rfl (by rfl) rfl rfl (by simp) (HM401.out.cells0 5 rfl) Try.underlying23 rfl (by kernel_rfl) rfl ?_
    simp only [Act.put, List.setIfInBounds_toArray, List.set_cons_succ, List.set_cons_zero]
    refine wpS_loadA2 (i := 33) (d := some 129) (cells := vcC (b)) rfl (by rfl) rfl rfl (by simp) (HM401.out.cells0 4 rfl) Try.underlying23 rfl (by kernel_rfl) rfl ?_
    simp only [Act.put, List.setIfInBounds_toArray, List.set_cons_succ, List.set_cons_zero]
    refine wpS_read0 (i := 34) (d := some 130) rfl (by rfl) (fun _ => run_eqV (he.out) rfl rfl rfl) rfl ?_
    simp only [Act.put, List.setIfInBounds_toArray, List.set_cons_succ, List.set_cons_zero]
    refine wpS_does2 (i := 26) (d := some 122) (rem := [_, _, _, _, _, _]) (out := [_, _, _, _, _, _]) rfl (by rfl) rfl Try.call11 (cbelow_d a b) rfl rfl HM401.out [] rfl (covS_box 5 rfl (covS_box 4 rfl (covS_box 3 rfl (covS_box 2 rfl (covS_box 1 rfl (covS_box 0 rfl covS_nil)))))) rfl rfl ?_
    rintro W403 hm402 hg404
    rw [s1.out]
    have HM405 := Lib.hid hm402
    clear hm402
    simp only [Act.put, List.setIfInBounds_toArray, List.set_cons_succ, List.set_cons_zero]
    refine wpS_this [27] rfl (by kernel_rfl) (by simp only [pickL, nthL, List.cons_append, List.nil_append]; rfl) ?_
    repeat (go_big_quiet_step (fail))
    refine wpQuiet_nil ?_
    refine wpS_loadA (i := 28) (d := some 124) (cells := vcC (b)) rfl (by rfl) rfl rfl (HM405.out.cells0 4 rfl) Try.underlying23 rfl (by kernel_rfl) rfl ?_
    simp only [Act.put, List.setIfInBounds_toArray, List.set_cons_succ, List.set_cons_zero]
    refine wpS_loadA (i := 29) (d := some 125) (cells := vcC (a)) rfl (by rfl) rfl rfl (HM405.out.cells0 5 rfl) Try.underlying23 rfl (by kernel_rfl) rfl ?_
    simp only [Act.put, List.setIfInBounds_toArray, List.set_cons_succ, List.set_cons_zero]
    refine wpS_does2 (i := 30) (d := some 126) (rem := [_, _, _, _, _, _]) (out := [_, _, _, _, _, _]) rfl (by rfl) rfl Try.call11 (cbelow_d b a) rfl rfl HM405.out [] rfl (covS_box 5 rfl (covS_box 4 rfl (covS_box 3 rfl (covS_box 2 rfl (covS_box 1 rfl (covS_box 0 rfl covS_nil)))))) rfl rfl ?_
    rintro W407 hm406 hg408
    rw [ht.out]
    have HM409 := Lib.hid hm406
    clear hm406
    simp only [Act.put, List.setIfInBounds_toArray, List.set_cons_succ, List.set_cons_zero]
    refine wpS_this [31, 35, 36, 37] rfl (by kernel_rfl) (by simp only [pickL, nthL, List.cons_append, List.nil_append]; rfl) ?_
    repeat (go_big_quiet_step (fail))
    refine wpQuiet_nil ?_
    refine wpS_does0 (i := 38) (d := some 134) (rem := [_, _, _, _, _, _]) (out := [_, _, _, _, _, _]) rfl (by rfl) rfl Try.call19 (vawake_d)  HM409.out [] rfl (covS_box 5 rfl (covS_box 4 rfl (covS_box 3 rfl (covS_box 2 rfl (covS_box 1 rfl (covS_box 0 rfl covS_nil)))))) rfl rfl ?_
    rintro W411 hm410 hg412
    have HM413 := Lib.hid hm410
    clear hm410
    simp only [Act.put, List.setIfInBounds_toArray, List.set_cons_succ, List.set_cons_zero]
    refine wpS_this [39, 40] rfl (by kernel_rfl) (by simp only [pickL, nthL, List.cons_append, List.nil_append]; rfl) ?_
    repeat (go_big_quiet_step (fail))
    refine wpQuiet_nil ?_
    refine wpS_nil ?_
    refine then_normal ?_
    refine wp_ret ?_
    refine bodyPost_ret (results_tmp rfl _ _ _) rfl ?_
    exact does_ret (Mem.only (M := []) HM413.out [] rfl) rfl rfl
  · replace s1 := Lib.hid s1
    have g1 := decide_eq_false k1
    have g2 := decide_eq_false k2
    have g3 := decide_eq_false k3
    have hhw : Hid (hasV w' (d1, d2) = true) := Lib.hid (by rw [← hw'.out]; exact hasV_with (show 0 ≤ d1 ∧ d1 < 8 by omega) (show 1 ≤ d2 by omega))
    clear k1 k2 k3
    obtain ⟨t, ht'⟩ := bool_letter (belowV b a)
    have he : Hid (decide (tab8 a = tab8 b) = t) := Lib.hid (by rw [← belowV_anti, s1.out, ht']; rfl)
    have ht := Lib.hid ht'
    clear ht'
    have gt : (t == t) = true := beq_self_eq_true _
    refine wp_region_M (fun k => k ∈ ([b3, b7, b11, b15, b22, b288] : List Nat)) [(0, 1), (1, 1), (2, 3), (3, 1), (4, 1), (5, 1), (6, 1), (7, 1), (8, 1), (9, 1), (10, 1), (11, 1), (12, 1), (13, 1), (14, 1), (15, 1), (16, 1), (17, 1), (18, 1), (19, 1), (20, 3), (21, 1), (22, 1), (23, 1), (24, 1), (25, 1), (32, 2), (33, 2), (34, 0), (26, 3), (27, 1), (28, 1), (29, 1), (30, 3), (31, 1), (35, 1), (36, 1), (37, 1), (38, 3), (39, 1), (40, 1)] (by kernel_rfl) (by kernel_rfl) HM292.out ?_
    intro W414 hm415
    have HM416 := Lib.hid hm415
    clear hm415
    refine wpS_loadA (i := 0) (d := some 96) (cells := vcC (a)) rfl (by rfl) rfl rfl (HM416.out.cells0 5 rfl) Try.underlying23 rfl (by kernel_rfl) rfl ?_
    simp only [Act.put, List.setIfInBounds_toArray, List.set_cons_succ, List.set_cons_zero]
    refine wpS_loadA (i := 1) (d := some 97) (cells := vcC (w')) rfl (by rfl) rfl rfl (HM416.out.cells0 0 rfl) Try.underlying23 rfl (by kernel_rfl) rfl ?_
    simp only [Act.put, List.setIfInBounds_toArray, List.set_cons_succ, List.set_cons_zero]
    refine wpS_does2 (i := 2) (d := some 98) (rem := [_, _, _, _, _, _]) (out := [_, _, _, _, _, _]) rfl (by rfl) rfl Try.call11 (cbelow_d a w') rfl rfl HM416.out [] rfl (covS_box 5 rfl (covS_box 4 rfl (covS_box 3 rfl (covS_box 2 rfl (covS_box 1 rfl (covS_box 0 rfl covS_nil)))))) rfl rfl ?_
    rintro W418 hm417 hg419
    rw [haw.out]
    have HM420 := Lib.hid hm417
    clear hm417
    simp only [Act.put, List.setIfInBounds_toArray, List.set_cons_succ, List.set_cons_zero]
    have Cb7 := Mem.cell HM420.out 2 rfl
    refine wpS_this [3, 4, 5, 6, 7, 8, 9, 10, 11, 12, 13, 14, 15, 16, 17] rfl (by kernel_rfl) (by simp only [pickL, nthL, List.cons_append, List.nil_append]; rfl) ?_
    repeat (go_big_quiet_step (fail))
    refine wpQuiet_nil ?_
    clear Cb7
    refine wpS_loadA (i := 18) (d := some 114) (cells := vcC (w')) rfl (by rfl) rfl rfl (HM420.out.cells0 0 rfl) Try.underlying23 rfl (by kernel_rfl) rfl ?_
    simp only [Act.put, List.setIfInBounds_toArray, List.set_cons_succ, List.set_cons_zero]
    have Cb7 := Mem.cell HM420.out 2 rfl
    refine wpS_this [19] rfl (by kernel_rfl) (by simp only [pickL, nthL, List.cons_append, List.nil_append]; rfl) ?_
    repeat (go_big_quiet_step (fail))
    refine wpQuiet_nil ?_
    clear Cb7
    refine wpS_does2 (i := 20) (d := some 116) (rem := [_, _, _, _, _, _]) (out := [_, _, _, _, _, _]) rfl (by rfl) rfl Try.call13 (chas_d w' d1 d2) rfl rfl HM420.out [] rfl (covS_box 5 rfl (covS_box 4 rfl (covS_box 3 rfl (covS_box 2 rfl (covS_box 1 rfl (covS_box 0 rfl covS_nil)))))) rfl rfl ?_
    rintro W422 hm421 hg423
    rw [hhw.out]
    have HM424 := Lib.hid hm421
    clear hm421
    simp only [Act.put, List.setIfInBounds_toArray, List.set_cons_succ, List.set_cons_zero]
    refine wpS_this [21, 22, 23] rfl (by kernel_rfl) (by simp only [pickL, nthL, List.cons_append, List.nil_append]; rfl) ?_
    repeat (go_big_quiet_step (fail))
    refine wpQuiet_nil ?_
    refine wpS_loadA (i := 24) (d := some 120) (cells := vcC (a)) rfl (by rfl) rfl rfl (HM424.out.cells0 5 rfl) Try.underlying23 rfl (by kernel_rfl) rfl ?_
    simp only [Act.put, List.setIfInBounds_toArray, List.set_cons_succ, List.set_cons_zero]
    refine wpS_loadA (i := 25) (d := some 121) (cells := vcC (b)) rfl (by rfl) rfl rfl (HM424.out.cells0 4 rfl) Try.underlying23 rfl (by kernel_rfl) rfl ?_
    simp only [Act.put, List.setIfInBounds_toArray, List.set_cons_succ, List.set_cons_zero]
    refine wpS_loadA2 (i := 32) (d := some 128) (cells := vcC (a)) rfl (by rfl) rfl rfl (by simp) (HM424.out.cells0 5 rfl) Try.underlying23 rfl (by kernel_rfl) rfl ?_
    simp only [Act.put, List.setIfInBounds_toArray, List.set_cons_succ, List.set_cons_zero]
    refine wpS_loadA2 (i := 33) (d := some 129) (cells := vcC (b)) rfl (by rfl) rfl rfl (by simp) (HM424.out.cells0 4 rfl) Try.underlying23 rfl (by kernel_rfl) rfl ?_
    simp only [Act.put, List.setIfInBounds_toArray, List.set_cons_succ, List.set_cons_zero]
    refine wpS_read0 (i := 34) (d := some 130) rfl (by rfl) (fun _ => run_eqV (he.out) rfl rfl rfl) rfl ?_
    simp only [Act.put, List.setIfInBounds_toArray, List.set_cons_succ, List.set_cons_zero]
    refine wpS_does2 (i := 26) (d := some 122) (rem := [_, _, _, _, _, _]) (out := [_, _, _, _, _, _]) rfl (by rfl) rfl Try.call11 (cbelow_d a b) rfl rfl HM424.out [] rfl (covS_box 5 rfl (covS_box 4 rfl (covS_box 3 rfl (covS_box 2 rfl (covS_box 1 rfl (covS_box 0 rfl covS_nil)))))) rfl rfl ?_
    rintro W426 hm425 hg427
    rw [s1.out]
    have HM428 := Lib.hid hm425
    clear hm425
    simp only [Act.put, List.setIfInBounds_toArray, List.set_cons_succ, List.set_cons_zero]
    refine wpS_this [27] rfl (by kernel_rfl) (by simp only [pickL, nthL, List.cons_append, List.nil_append]; rfl) ?_
    repeat (go_big_quiet_step (fail))
    refine wpQuiet_nil ?_
    refine wpS_loadA (i := 28) (d := some 124) (cells := vcC (b)) rfl (by rfl) rfl rfl (HM428.out.cells0 4 rfl) Try.underlying23 rfl (by kernel_rfl) rfl ?_
    simp only [Act.put, List.setIfInBounds_toArray, List.set_cons_succ, List.set_cons_zero]
    refine wpS_loadA (i := 29) (d := some 125) (cells := vcC (a)) rfl (by rfl) rfl rfl (HM428.out.cells0 5 rfl) Try.underlying23 rfl (by kernel_rfl) rfl ?_
    simp only [Act.put, List.setIfInBounds_toArray, List.set_cons_succ, List.set_cons_zero]
    refine wpS_does2 (i := 30) (d := some 126) (rem := [_, _, _, _, _, _]) (out := [_, _, _, _, _, _]) rfl (by rfl) rfl Try.call11 (cbelow_d b a) rfl rfl HM428.out [] rfl (covS_box 5 rfl (covS_box 4 rfl (covS_box 3 rfl (covS_box 2 rfl (covS_box 1 rfl (covS_box 0 rfl covS_nil)))))) rfl rfl ?_
    rintro W430 hm429 hg431
    rw [ht.out]
    have HM432 := Lib.hid hm429
    clear hm429
    simp only [Act.put, List.setIfInBounds_toArray, List.set_cons_succ, List.set_cons_zero]
    refine wpS_this [31, 35, 36, 37] rfl (by kernel_rfl) (by simp only [pickL, nthL, List.cons_append, List.nil_append]; rfl) ?_
    repeat (go_big_quiet_step (fail))
    refine wpQuiet_nil ?_
    refine wpS_does0 (i := 38) (d := some 134) (rem := [_, _, _, _, _, _]) (out := [_, _, _, _, _, _]) rfl (by rfl) rfl Try.call19 (vawake_d)  HM432.out [] rfl (covS_box 5 rfl (covS_box 4 rfl (covS_box 3 rfl (covS_box 2 rfl (covS_box 1 rfl (covS_box 0 rfl covS_nil)))))) rfl rfl ?_
    rintro W434 hm433 hg435
    have HM436 := Lib.hid hm433
    clear hm433
    simp only [Act.put, List.setIfInBounds_toArray, List.set_cons_succ, List.set_cons_zero]
    refine wpS_this [39, 40] rfl (by kernel_rfl) (by simp only [pickL, nthL, List.cons_append, List.nil_append]; rfl) ?_
    repeat (go_big_quiet_step (fail))
    refine wpQuiet_nil ?_
    refine wpS_nil ?_
    refine then_normal ?_
    refine wp_ret ?_
    refine bodyPost_ret (results_tmp rfl _ _ _) rfl ?_
    exact does_ret (Mem.only (M := []) HM436.out [] rfl) rfl rfl

end Go.Proofs.Ytlcmlecamfmadaa
