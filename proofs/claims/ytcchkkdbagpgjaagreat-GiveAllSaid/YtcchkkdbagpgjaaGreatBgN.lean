/- BgN: BgI, BgK, BgN. -/
import Derived.Test.YtcchkkdbagpgjaaGreatBgV
import Derived.Test.YtcchkkdbagpgjaaGreatBgM
import Derived.Test.YtcchkkdbagpgjaaGreatVcL
import Derived.Test.YtcchkkdbagpgjaaGreatPB
namespace Go.Proofs.YtcchkkdbagpgjaaGreat
section
open Go Go.RowKit Go.BigFrame
set_option maxHeartbeats 4000000 in
set_option maxRecDepth 100000 in
theorem insV_d (p pv : Option Addr) (c cv i : Nat) (xs : List Vl) (y : Vl) (hi : i ≤ xs.length) (hl : xs.length ≤ 4398046510976) (hc : xs.length ≤ c) : DoesU Tryz.prog 136 #[.slice p xs.length c, .int .i64 (i : Int), .slice pv 1 cv] [rowT elemV (.slice p xs.length c) xs, rowT elemV (.slice pv 1 cv) [y]] (fun u => [rowT elemV u (xs.take i ++ y :: xs.drop i)]) := by
  intro w H hp
  have HM0 := Lib.hid (mem_refl hp)
  clear hp
  go_enter Tryz.func136, Tryz.ntmps136
  refine wp_seq ?_
  refine wp_region_N [(0, 1)] (by kernel_rfl) ?_
  refine wpS_this [0] rfl (by kernel_rfl) (by simp only [pickL, nthL, List.cons_append, List.nil_append]; rfl) ?_
  repeat (go_big_quiet_step (fail))
  refine wpQuiet_nil ?_
  refine wpS_nil ?_
  refine then_normal ?_
  refine wp_seq ?_
  skip
  · have g0 : ((1 : Int) == 0) = false := by decide
    refine wp_region_N [(0, 1), (1, 1), (2, 1)] (by kernel_rfl) ?_
    refine wpS_this [0, 1] rfl (by kernel_rfl) (by simp only [pickL, nthL, List.cons_append, List.nil_append]; rfl) ?_
    repeat (go_big_quiet_step (fail))
    refine wpQuiet_nil ?_
    refine wpS_read (i := 2) (d := some 12) rfl (by rfl) (run_tailE (E := elemV) (k := i) hi rfl rfl rfl) rfl ?_
    simp only [Act.put, List.setIfInBounds_toArray, List.set_cons_succ, List.set_cons_zero]
    refine wpS_nil ?_
    refine then_normal ?_
    refine wp_seq ?_
    refine wp_region_N [(0, 1), (1, 1), (2, 1)] (by kernel_rfl) ?_
    refine wpS_this [0, 1, 2] rfl (by kernel_rfl) (by simp only [pickL, nthL, List.cons_append, List.nil_append]; rfl) ?_
    repeat (go_big_quiet_step (fail))
    refine wpQuiet_nil ?_
    refine wpS_nil ?_
    refine then_normal ?_
    refine wp_seq ?_
    refine wp_seq ?_
    refine wp_region_N [(0, 1), (1, 1)] (by kernel_rfl) ?_
    refine wpS_this [0, 1] rfl (by kernel_rfl) (by simp only [pickL, nthL, List.cons_append, List.nil_append]; rfl) ?_
    repeat (go_big_quiet_step (fail))
    refine wpQuiet_nil ?_
    refine wpS_nil ?_
    refine then_normal ?_
    refine wp_cond_false rfl ?_
    refine wp_skip ?_
    refine then_normal ?_
    refine wp_seq ?_
    refine wp_region_N [(0, 1), (1, 1), (2, 1)] (by kernel_rfl) ?_
    refine wpS_this [0, 1, 2] rfl (by kernel_rfl) (by simp only [pickL, nthL, List.cons_append, List.nil_append]; rfl) ?_
    repeat (go_big_quiet_step (fail))
    refine wpQuiet_nil ?_
    refine wpS_nil ?_
    refine then_normal ?_
    refine wp_seq ?_
    refine wp_seq ?_
    rcases Nat.lt_or_eq_of_le hi with hlt | heq
    · have g1 : ((i : Int) == (xs.length : Int)) = false := beq_eq_false_iff_ne.2 (by omega)
      refine wp_region_N [(0, 1), (1, 1), (2, 1)] (by kernel_rfl) ?_
      refine wpS_this [0, 1, 2] rfl (by kernel_rfl) (by simp only [pickL, nthL, List.cons_append, List.nil_append]; rfl) ?_
      repeat (go_big_quiet_step (fail))
      refine wpQuiet_nil ?_
      refine wpS_nil ?_
      refine then_normal ?_
      refine wp_cond_false rfl ?_
      refine wp_skip ?_
      refine then_normal ?_
      refine wp_seq ?_
      refine wp_seq ?_
      rcases Nat.lt_or_ge c (xs.length + 1) with hro | hro
      · have g2 : decide ((c : Int) < (xs.length : Int) + 1) = true := decide_eq_true (by omega)
        have g2' : decide (c < xs.length + 1) = true := decide_eq_true hro
        obtain ⟨m, hm0⟩ : ∃ m, xs.length + 1 - i = m := ⟨_, rfl⟩
        have hme : Hid ((xs.length : Int) + 1 - (i : Int) = (m : Int)) := Lib.hid (by omega)
        have hix : i ≤ xs.length := by omega
        obtain ⟨g, cur, rfl, -, hnc, hcm, hcl', hct', hb1⟩ := Mem.rowOpen HM0.out (by omega)
        obtain ⟨vb, cv, rfl, -, hvc, -, -, hvt', hb2⟩ := Mem.rowOpen (Mem.only (M := [_, _]) hb1 [1, 0] rfl) Nat.zero_lt_one
        clear hb1
        have hne := Lib.hid (Mem.ne_box hb2)
        have hc0 : Hid (cur.length ≠ 0) := Lib.hid (by rw [hcl']; exact Nat.mul_ne_zero (by omega) (by decide))
        have hcl := Lib.hid hcl'
        clear hcl'
        have hct := Lib.hid hct'
        clear hct'
        have hvt := Lib.hid hvt'
        clear hvt'
        have HM1 := Lib.hid hb2
        clear hb2
        refine wp_region_N [(0, 1), (1, 1), (2, 1), (3, 1), (4, 1), (5, 1)] (by kernel_rfl) ?_
        refine wpS_this [0, 1, 2, 3, 4, 5] rfl (by kernel_rfl) (by simp only [pickL, nthL, List.cons_append, List.nil_append]; rfl) ?_
        repeat (go_big_quiet_step (fail))
        refine wpQuiet_nil ?_
        refine wpS_nil ?_
        refine then_normal ?_
        refine wp_cond_true rfl ?_
        refine wp_seq ?_
        refine wp_region_N [(0, 1), (1, 1), (2, 1), (3, 1), (4, 1), (5, 1), (6, 1), (7, 1), (8, 3), (9, 1)] (by kernel_rfl) ?_
        refine wpS_this [0, 1] rfl (by kernel_rfl) (by simp only [pickL, nthL, List.cons_append, List.nil_append]; rfl) ?_
        repeat (go_big_quiet_step (fail))
        refine wpQuiet_nil ?_
        refine wpS_read (i := 2) (d := some 34) rfl (by rfl) (run_headE (E := elemV) (k := i) (by omega) rfl rfl rfl) rfl ?_
        simp only [Act.put, List.setIfInBounds_toArray, List.set_cons_succ, List.set_cons_zero]
        refine wpS_this [3, 4, 5, 6] rfl (by kernel_rfl) (by simp only [pickL, nthL, List.cons_append, List.nil_append]; rfl) ?_
        repeat (go_big_quiet_step (fail))
        refine wpQuiet_nil ?_
        refine wpS_this [7] rfl (by kernel_rfl) (by simp only [pickL, nthL, List.cons_append, List.nil_append]; rfl) ?_
        repeat (go_big_quiet_step (fail))
        refine wpQuiet_nil ?_
        rw [hme.out]
        refine wpS_zeros (E := elemV) (i := 8) (d := some 40) (i0 := i) (m := m) (cs := elemV.cells (xs.take i)) Tryz.underlying3 rfl (by rfl) rfl rfl rfl HM1.out 1 rfl (take_take_cells hct.out hix) (elemV.cells_at_take hix) (by omega) (by omega) (by show (i + m) * 32 ≤ 140737488355328; omega) covS_nil rfl ?_
        rintro d cap Z W3 hcap hcm2 hZ' hm2 -
        have hZ := Lib.hid hZ'
        clear hZ'
        have HM4 := Lib.hid hm2
        clear hm2
        simp only [Act.put, List.setIfInBounds_toArray, List.set_cons_succ, List.set_cons_zero]
        rw [show i + m = xs.length + 1 by omega]
        refine wpS_this [9] rfl (by kernel_rfl) (by simp only [pickL, nthL, List.cons_append, List.nil_append]; rfl) ?_
        repeat (go_big_quiet_step (fail))
        refine wpQuiet_nil ?_
        refine wpS_nil ?_
        refine then_normal ?_
        refine wp_seq ?_
        refine wp_region_N [(0, 1), (1, 1), (2, 1), (3, 1), (4, 3)] (by kernel_rfl) ?_
        refine wpS_this [0, 1] rfl (by kernel_rfl) (by simp only [pickL, nthL, List.cons_append, List.nil_append]; rfl) ?_
        repeat (go_big_quiet_step (fail))
        refine wpQuiet_nil ?_
        refine wpS_read (i := 2) (d := some 43) rfl (by rfl) (run_tailB (E := elemV) (k := i) (by omega) (by omega) rfl rfl rfl) rfl ?_
        simp only [Act.put, List.setIfInBounds_toArray, List.set_cons_succ, List.set_cons_zero]
        refine wpS_this [3] rfl (by kernel_rfl) (by simp only [pickL, nthL, List.cons_append, List.nil_append]; rfl) ?_
        repeat (go_big_quiet_step (fail))
        refine wpQuiet_nil ?_
        refine wpS_copy (E := elemV) (i := 4) (d := some 45) (n := 1) (cs := elemV.cells [y]) (L2 := [_, _]) rfl (by rfl) rfl rfl rfl HM4.out 0 rfl rfl (Nat.min_eq_left (by omega)) ((elemV.cells_len [y])) (HM4.out.boxCells0 1 rfl hvt.out) (fitA hZ.out (by omega) hix) (elemV.cells_one _) covS_nil rfl ?_
        rintro W8 hm7 -
        have HM9 := Lib.hid hm7
        clear hm7
        simp only [Act.put, List.setIfInBounds_toArray, List.set_cons_succ, List.set_cons_zero]
        refine wpS_nil ?_
        refine then_normal ?_
        refine wp_seq ?_
        refine wp_region_M (fun k => k ∈ ([] : List Nat)) [(0, 1), (1, 1), (2, 1), (3, 1), (4, 1), (5, 1), (6, 1), (7, 1), (8, 3)] (by kernel_rfl) (by kernel_rfl) HM9.out ?_
        intro W10 hm11
        have HM12 := Lib.hid hm11
        clear hm11
        refine wpS_this [0, 1, 2, 3] rfl (by kernel_rfl) (by simp only [pickL, nthL, List.cons_append, List.nil_append]; rfl) ?_
        repeat (go_big_quiet_step (fail))
        refine wpQuiet_nil ?_
        refine wpS_read (i := 4) (d := some 50) rfl (by rfl) (run_tailB (E := elemV) (k := i + 1) (by omega) (by omega) rfl rfl rfl) rfl ?_
        simp only [Act.put, List.setIfInBounds_toArray, List.set_cons_succ, List.set_cons_zero]
        refine wpS_this [5, 6] rfl (by kernel_rfl) (by simp only [pickL, nthL, List.cons_append, List.nil_append]; rfl) ?_
        repeat (go_big_quiet_step (fail))
        refine wpQuiet_nil ?_
        refine wpS_read (i := 7) (d := some 53) rfl (by rfl) (run_tailB (E := elemV) (k := i) (by omega) (by omega) rfl rfl rfl) rfl ?_
        simp only [Act.put, List.setIfInBounds_toArray, List.set_cons_succ, List.set_cons_zero]
        refine wpS_copy (E := elemV) (i := 8) (d := some 54) (n := xs.length - i) (cs := elemV.cells (xs.drop i)) (L2 := [_, _]) rfl (by rfl) rfl rfl rfl HM12.out 0 rfl rfl ((Nat.min_eq_left (by omega)).trans (by omega)) ((elemV.cells_len _).trans (by rw [List.length_drop])) (HM12.out.boxCells 2 rfl hct.out hix) (fitB hZ.out (by omega) hix) (elemV.cells_one _) covS_nil rfl ?_
        rintro W16 hm15 -
        have HM17 := Lib.hid hm15
        clear hm15
        simp only [Act.put, List.setIfInBounds_toArray, List.set_cons_succ, List.set_cons_zero]
        refine wpS_nil ?_
        refine then_normal ?_
        refine wp_seq ?_
        refine wp_region_N [(0, 1), (1, 1)] (by kernel_rfl) ?_
        refine wpS_this [0, 1] rfl (by kernel_rfl) (by simp only [pickL, nthL, List.cons_append, List.nil_append]; rfl) ?_
        repeat (go_big_quiet_step (fail))
        refine wpQuiet_nil ?_
        refine wpS_nil ?_
        refine then_normal ?_
        refine wp_ret ?_
        refine then_ret ?_
        refine bodyPost_ret (results_tmp rfl _ _ _) rfl ?_
        exact doesU_ret (post := fun u => [rowT elemV u (xs.take i ++ y :: xs.drop i)]) (Mem.rowClose (ins_len hix) (show xs.length + 1 ≤ cap by omega) hcm2 (len_two (len_zero hZ.out (by omega) hix)) (ins_two hZ.out (by omega) hix) (Mem.only (M := [_]) HM17.out [0] rfl)) rfl
      · have g2 : decide ((c : Int) < (xs.length : Int) + 1) = false := decide_eq_false (by omega)
        have g2' : decide (c < xs.length + 1) = false := decide_eq_false (by omega)
        have hix : i ≤ xs.length := by omega
        obtain ⟨g, cur, rfl, -, hnc, hcm, hcl', hct', hb1⟩ := Mem.rowOpen HM0.out (by omega)
        obtain ⟨vb, cv, rfl, -, hvc, -, -, hvt', hb2⟩ := Mem.rowOpen (Mem.only (M := [_, _]) hb1 [1, 0] rfl) Nat.zero_lt_one
        clear hb1
        have hne := Lib.hid (Mem.ne_box hb2)
        have hc0 : Hid (cur.length ≠ 0) := Lib.hid (by rw [hcl']; exact Nat.mul_ne_zero (by omega) (by decide))
        have hcl := Lib.hid hcl'
        clear hcl'
        have hct := Lib.hid hct'
        clear hct'
        have hvt := Lib.hid hvt'
        clear hvt'
        have HM18 := Lib.hid hb2
        clear hb2
        refine wp_region_N [(0, 1), (1, 1), (2, 1), (3, 1), (4, 1), (5, 1)] (by kernel_rfl) ?_
        refine wpS_this [0, 1, 2, 3, 4, 5] rfl (by kernel_rfl) (by simp only [pickL, nthL, List.cons_append, List.nil_append]; rfl) ?_
        repeat (go_big_quiet_step (fail))
        refine wpQuiet_nil ?_
        refine wpS_nil ?_
        refine then_normal ?_
        refine wp_cond_false rfl ?_
        refine wp_skip ?_
        refine then_normal ?_
        refine wp_seq ?_
        refine wp_region_N [(0, 1), (1, 1), (2, 1), (3, 1), (4, 1), (5, 1)] (by kernel_rfl) ?_
        refine wpS_this [0, 1, 2, 3] rfl (by kernel_rfl) (by simp only [pickL, nthL, List.cons_append, List.nil_append]; rfl) ?_
        repeat (go_big_quiet_step (fail))
        refine wpQuiet_nil ?_
        refine wpS_read (i := 4) (d := some 60) rfl (by rfl) (run_headE (E := elemV) (k := xs.length + 1) (by omega) rfl rfl rfl) rfl ?_
        simp only [Act.put, List.setIfInBounds_toArray, List.set_cons_succ, List.set_cons_zero]
        refine wpS_this [5] rfl (by kernel_rfl) (by simp only [pickL, nthL, List.cons_append, List.nil_append]; rfl) ?_
        repeat (go_big_quiet_step (fail))
        refine wpQuiet_nil ?_
        refine wpS_nil ?_
        refine then_normal ?_
        refine wp_seq ?_
        refine wp_seq ?_
        refine wp_region_N [(0, 1), (1, 1), (2, 1), (3, 1), (4, 1), (5, 1), (6, 3), (7, 1)] (by kernel_rfl) ?_
        refine wpS_this [0, 1, 2, 3, 4] rfl (by kernel_rfl) (by simp only [pickL, nthL, List.cons_append, List.nil_append]; rfl) ?_
        repeat (go_big_quiet_step (fail))
        refine wpQuiet_nil ?_
        refine wpS_read (i := 5) (d := some 66) rfl (by rfl) (run_tailB (E := elemV) (k := i + 1) (by omega) (by omega) rfl rfl rfl) rfl ?_
        simp only [Act.put, List.setIfInBounds_toArray, List.set_cons_succ, List.set_cons_zero]
        refine wpS_still (i := 6) (d := some 67) rfl (by rfl) (run_overlaps2 (E := elemV) (tR := 4) Tryz.func150 (by kernel_rfl) (by kernel_rfl) (by kernel_rfl) (by kernel_rfl) rfl rfl rfl hne.out (HM18.out.box 0 rfl) (HM18.out.box 1 rfl) hc0.out) rfl ?_
        simp only [Act.put, List.setIfInBounds_toArray, List.set_cons_succ, List.set_cons_zero]
        refine wpS_this [7] rfl (by kernel_rfl) (by simp only [pickL, nthL, List.cons_append, List.nil_append]; rfl) ?_
        repeat (go_big_quiet_step (fail))
        refine wpQuiet_nil ?_
        refine wpS_nil ?_
        refine then_normal ?_
        refine wp_cond_true rfl ?_
        refine wp_seq ?_
        refine wp_region_M (fun k => k ∈ ([] : List Nat)) [(0, 1), (1, 1), (2, 1), (3, 1), (4, 1), (5, 1), (6, 1), (7, 1), (8, 3)] (by kernel_rfl) (by kernel_rfl) HM18.out ?_
        intro W19 hm20
        have HM21 := Lib.hid hm20
        clear hm20
        refine wpS_this [0, 1, 2, 3] rfl (by kernel_rfl) (by simp only [pickL, nthL, List.cons_append, List.nil_append]; rfl) ?_
        repeat (go_big_quiet_step (fail))
        refine wpQuiet_nil ?_
        refine wpS_read (i := 4) (d := some 73) rfl (by rfl) (run_tailB (E := elemV) (k := i + 1) (by omega) (by omega) rfl rfl rfl) rfl ?_
        simp only [Act.put, List.setIfInBounds_toArray, List.set_cons_succ, List.set_cons_zero]
        refine wpS_this [5, 6] rfl (by kernel_rfl) (by simp only [pickL, nthL, List.cons_append, List.nil_append]; rfl) ?_
        repeat (go_big_quiet_step (fail))
        refine wpQuiet_nil ?_
        refine wpS_read (i := 7) (d := some 76) rfl (by rfl) (run_tailB (E := elemV) (k := i) (by omega) (by omega) rfl rfl rfl) rfl ?_
        simp only [Act.put, List.setIfInBounds_toArray, List.set_cons_succ, List.set_cons_zero]
        refine wpS_copy (E := elemV) (i := 8) (d := some 77) (n := xs.length - i) (cs := elemV.cells (xs.drop i)) (L2 := [_]) rfl (by rfl) rfl rfl rfl HM21.out 1 rfl rfl ((Nat.min_eq_right (by omega)).trans (by omega)) ((elemV.cells_len _).trans (by rw [List.length_drop])) (HM21.out.boxCells 1 rfl hct.out hix) (fitC hcl.out hro hix) (elemV.cells_one _) covS_nil rfl ?_
        rintro W25 hm24 -
        have HM26 := Lib.hid hm24
        clear hm24
        simp only [Act.put, List.setIfInBounds_toArray, List.set_cons_succ, List.set_cons_zero]
        refine wpS_nil ?_
        refine then_normal ?_
        refine wp_seq ?_
        refine wp_region_N [(0, 1), (1, 1), (2, 1), (3, 1), (4, 3)] (by kernel_rfl) ?_
        refine wpS_this [0, 1] rfl (by kernel_rfl) (by simp only [pickL, nthL, List.cons_append, List.nil_append]; rfl) ?_
        repeat (go_big_quiet_step (fail))
        refine wpQuiet_nil ?_
        refine wpS_read (i := 2) (d := some 80) rfl (by rfl) (run_tailB (E := elemV) (k := i) (by omega) (by omega) rfl rfl rfl) rfl ?_
        simp only [Act.put, List.setIfInBounds_toArray, List.set_cons_succ, List.set_cons_zero]
        refine wpS_this [3] rfl (by kernel_rfl) (by simp only [pickL, nthL, List.cons_append, List.nil_append]; rfl) ?_
        repeat (go_big_quiet_step (fail))
        refine wpQuiet_nil ?_
        refine wpS_copy (E := elemV) (i := 4) (d := some 82) (n := 1) (cs := elemV.cells [y]) (L2 := [_]) rfl (by rfl) rfl rfl rfl HM26.out 0 rfl rfl (Nat.min_eq_left (by omega)) ((elemV.cells_len [y])) (HM26.out.boxCells0 1 rfl hvt.out) (fitD hcl.out hro hix) (elemV.cells_one _) covS_nil rfl ?_
        rintro W30 hm29 -
        have HM31 := Lib.hid hm29
        clear hm29
        simp only [Act.put, List.setIfInBounds_toArray, List.set_cons_succ, List.set_cons_zero]
        refine wpS_nil ?_
        refine then_normal ?_
        refine wp_seq ?_
        refine wp_region_N [(0, 1), (1, 1)] (by kernel_rfl) ?_
        refine wpS_this [0, 1] rfl (by kernel_rfl) (by simp only [pickL, nthL, List.cons_append, List.nil_append]; rfl) ?_
        repeat (go_big_quiet_step (fail))
        refine wpQuiet_nil ?_
        refine wpS_nil ?_
        refine then_normal ?_
        refine wp_ret ?_
        refine then_ret ?_
        refine bodyPost_ret (results_tmp rfl _ _ _) rfl ?_
        exact doesU_ret (post := fun u => [rowT elemV u (xs.take i ++ y :: xs.drop i)]) (Mem.rowClose (ins_len hix) hro hcm (len_two hcl.out) (ins_shift hcl.out hct.out hro hix) (Mem.only (M := [_]) HM31.out [0] rfl)) rfl
    · have g1 : ((i : Int) == (xs.length : Int)) = true := beq_iff_eq.2 (by omega)
      replace heq := Lib.hid heq
      refine wp_region_N [(0, 1), (1, 1), (2, 1)] (by kernel_rfl) ?_
      refine wpS_this [0, 1, 2] rfl (by kernel_rfl) (by simp only [pickL, nthL, List.cons_append, List.nil_append]; rfl) ?_
      repeat (go_big_quiet_step (fail))
      refine wpQuiet_nil ?_
      refine wpS_nil ?_
      refine then_normal ?_
      refine wp_cond_true rfl ?_
      refine wp_seq ?_
      refine wp_region_N [(0, 1), (1, 1), (2, 3), (3, 1)] (by kernel_rfl) ?_
      refine wpS_this [0, 1] rfl (by kernel_rfl) (by simp only [pickL, nthL, List.cons_append, List.nil_append]; rfl) ?_
      repeat (go_big_quiet_step (fail))
      refine wpQuiet_nil ?_
      refine wpS_append (E := elemV) (i := 2) (d := some 25) (L2 := [_]) rfl (by rfl) rfl HM0.out 0 rfl rfl (HM0.out.src 1 rfl rowT_reads) rfl (by show (xs.length + 1) * 32 ≤ 140737488355328; omega) rfl covS_nil rfl ?_
      rintro v34 W35 hm36 -
      have HM37 := Lib.hid hm36
      clear hm36
      simp only [Act.put, List.setIfInBounds_toArray, List.set_cons_succ, List.set_cons_zero]
      refine wpS_this [3] rfl (by kernel_rfl) (by simp only [pickL, nthL, List.cons_append, List.nil_append]; rfl) ?_
      repeat (go_big_quiet_step (fail))
      refine wpQuiet_nil ?_
      refine wpS_nil ?_
      refine then_normal ?_
      refine wp_ret ?_
      refine then_ret ?_
      refine bodyPost_ret (results_tmp rfl _ _ _) rfl ?_
      rw [show xs.take i ++ y :: xs.drop i = xs ++ [y] from by rw [heq.out, List.take_length, List.drop_length]]
      exact doesU_ret (post := fun u => [rowT elemV u (xs ++ [y])]) (Mem.only (M := [_]) HM37.out [0] rfl) rfl
set_option maxHeartbeats 4000000 in
set_option maxRecDepth 100000 in
theorem find1_d (y : Vl) (d1 d2 : Int) : Does Tryz.prog 149 #[vlV y, .agg #[.int .i64 d1, .int .i64 d2]] [] (.int .i64 (cmpE y.1 (d1, d2))) [] := by
  intro w H hp
  have HM0 := Lib.hid (mem_refl hp)
  clear hp
  go_enter Tryz.func149, Tryz.ntmps149
  refine wp_seq ?_
  refine wp_region_N [(0, 3), (1, 3), (2, 1)] (by kernel_rfl) ?_
  refine wpS_boxA (i := 0) (dd := 2) rfl (by rfl) rfl rfl HM0.out covS_nil rfl ?_
  rintro b3 W2 hm1 -
  have HM4 := Lib.hid hm1
  clear hm1
  simp only [Act.put, List.setIfInBounds_toArray, List.set_cons_succ, List.set_cons_zero]
  refine wpS_boxA (i := 1) (dd := 3) rfl (by rfl) rfl rfl HM4.out covS_nil rfl ?_
  rintro b7 W6 hm5 -
  have HM8 := Lib.hid hm5
  clear hm5
  simp only [Act.put, List.setIfInBounds_toArray, List.set_cons_succ, List.set_cons_zero]
  refine wpS_this [2] rfl (by kernel_rfl) (by simp only [pickL, nthL, List.cons_append, List.nil_append]; rfl) ?_
  repeat (go_big_quiet_step (fail))
  refine wpQuiet_nil ?_
  refine wpS_nil ?_
  refine then_normal ?_
  refine wp_seq ?_
  refine wp_region_N [(0, 1), (1, 1), (2, 1), (3, 3), (4, 1)] (by kernel_rfl) ?_
  have Cb2 := Mem.cell HM8.out 1 rfl
  have Cb3 := Mem.cell HM8.out 0 rfl
  refine wpS_this [0, 1, 2] rfl (by kernel_rfl) (by simp only [pickL, nthL, List.cons_append, List.nil_append]; rfl) ?_
  repeat (go_big_quiet_step (fail))
  refine wpQuiet_nil ?_
  clear Cb2 Cb3
  refine wpS_does2 (i := 3) (d := some 8) (rem := [_, _]) (out := [_, _]) rfl (by rfl) rfl Tryz.call118 (ccmp_d y.1.1 y.1.2 d1 d2) rfl rfl HM8.out [] rfl covS_nil rfl rfl ?_
  rintro W10 hm9 -
  have HM11 := Lib.hid hm9
  clear hm9
  simp only [Act.put, List.setIfInBounds_toArray, List.set_cons_succ, List.set_cons_zero]
  refine wpS_this [4] rfl (by kernel_rfl) (by simp only [pickL, nthL, List.cons_append, List.nil_append]; rfl) ?_
  repeat (go_big_quiet_step (fail))
  refine wpQuiet_nil ?_
  refine wpS_nil ?_
  refine then_normal ?_
  refine wp_ret ?_
  refine bodyPost_ret (results_tmp rfl _ _ _) rfl ?_
  exact does_ret (Mem.only (M := []) HM11.out [] rfl) rfl rfl
theorem run_shr1 {W : World} {a : Act} {o : Oper} {x y : Operand} {tt : TypeId} {k : Nat} (ho : o.op = .binOp .shr 183 x y tt) (hx : a.eval x = .int .u64 (k : Int)) (hy : a.eval y = .int .u64 1) : (execOp a.eval o).run Tryz.prog W = .ok (.value (.int .u64 ((k / 2 : Nat) : Int))) W := by
  have h : Go.binOp .shr 183 (.int .u64 (k : Int)) (.int .u64 1) = (pure (.int .u64 ((k / 2 : Nat) : Int)) : Sem Value) := by
    rw [binOp_shr, shift_shr .u64 .u64 (k : Int) 1 (by decide) (by decide)]
    rfl
  unfold execOp
  simp only [ho, hx, hy, eqGuard_shr, h, Sem.run_bind, Sem.run_pure, Result.andThen_ok]
set_option maxHeartbeats 4000000 in
set_option maxRecDepth 100000 in
theorem bsearch_d (R : At) (v : Value) (l : List Vl) (hR : ∀ W H, R.p W H → RowAt elemV W v l) (hs : Srt l) (hl : l.length ≤ 4398046510976) (d1 d2 : Int) : Does Tryz.prog 148 #[v, .agg #[.int .i64 d1, .int .i64 d2], .func (.func 149) #[] #[]] [R] (.tuple #[.int .i64 (posB (d1, d2) l : Int), .bool (heldL l (d1, d2))]) [R] := by
  intro w H hp
  have HM0 := Lib.hid (mem_refl hp)
  clear hp
  obtain ⟨p, cap, rfl, -⟩ := (HM0.out.row 0 rfl hR).form
  have hql0 := posB_le (d1, d2) l
  obtain ⟨q, hq'⟩ : ∃ q, posB (d1, d2) l = q := ⟨_, rfl⟩
  have hql : q ≤ l.length := by rw [← hq']; exact hql0
  clear hql0
  rw [hq']
  have hq := Lib.hid hq'
  clear hq'
  go_enter Tryz.func148, Tryz.ntmps148
  refine wp_seq ?_
  refine wp_region_N [(0, 3), (1, 1), (2, 1)] (by kernel_rfl) ?_
  refine wpS_boxA (i := 0) (dd := 4) rfl (by rfl) rfl rfl HM0.out covS_nil rfl ?_
  rintro b3 W2 hm1 -
  have HM4 := Lib.hid hm1
  clear hm1
  simp only [Act.put, List.setIfInBounds_toArray, List.set_cons_succ, List.set_cons_zero]
  refine wpS_this [1, 2] rfl (by kernel_rfl) (by simp only [pickL, nthL, List.cons_append, List.nil_append]; rfl) ?_
  repeat (go_big_quiet_step (fail))
  refine wpQuiet_nil ?_
  refine wpS_nil ?_
  refine then_normal ?_
  refine wp_seq ?_
  refine wp_region_N [(0, 1), (1, 1), (2, 1)] (by kernel_rfl) ?_
  refine wpS_this [0, 1, 2] rfl (by kernel_rfl) (by simp only [pickL, nthL, List.cons_append, List.nil_append]; rfl) ?_
  repeat (go_big_quiet_step (fail))
  refine wpQuiet_nil ?_
  refine wpS_nil ?_
  refine then_normal ?_
  refine wp_seq ?_
  refine wp_region_N [(0, 1), (1, 1), (2, 1)] (by kernel_rfl) ?_
  refine wpS_this [0, 1, 2] rfl (by kernel_rfl) (by simp only [pickL, nthL, List.cons_append, List.nil_append]; rfl) ?_
  repeat (go_big_quiet_step (fail))
  refine wpQuiet_nil ?_
  refine wpS_nil ?_
  refine then_normal ?_
  refine wp_seq ?_
  refine wp_block ?_
  refine wp_loop_F [9, 10, 11, 15, 16, 17, 18, 19, 20, 21, 22, 23, 24, 25, 26, 27, 28, 29, 30, 31, 32, 33, 34] (fun n vs W' => ∃ i j : Nat, n = j - i ∧ vs 9 = .int .i64 (i : Int) ∧ vs 10 = .int .i64 (j : Int) ∧ i ≤ q ∧ q ≤ j ∧ j ≤ l.length ∧ Mem [boxT b3 (.cells #[.int .i64 d1, .int .i64 d2] 72 (0, 0)), R] H w W') (n0 := l.length - 0) ?_ ?_
  · exact ⟨0, l.length, rfl, rfl, rfl, Nat.zero_le _, hql, Nat.le_refl _, (Mem.only (M := [_, _]) HM4.out [0, 0] rfl)⟩
  rintro n vs W' ⟨i, j, rfl, e9, e10, hiq, hqj, hjl, hm⟩
  simp only [putAll, List.map_cons, List.map_nil, Act.put, List.setIfInBounds_toArray, List.set_cons_succ, List.set_cons_zero]
  rw [e9, e10]
  clear e9 e10
  have HM5 := Lib.hid hm
  clear hm
  refine wp_seq ?_
  refine wp_seq ?_
  refine wp_region_N [(0, 1), (1, 1), (2, 1)] (by kernel_rfl) ?_
  refine wpS_this [0, 1, 2] rfl (by kernel_rfl) (by simp only [pickL, nthL, List.cons_append, List.nil_append]; rfl) ?_
  repeat (go_big_quiet_step (fail))
  refine wpQuiet_nil ?_
  refine wpS_nil ?_
  refine then_normal ?_
  refine wp_cond_split rfl (fun h6 => ?_) (fun h6 => ?_)
  · have hij : i < j := by have : (i : Int) < (j : Int) := (by simpa using h6); omega
    clear h6
    refine wp_skip ?_
    refine then_normal ?_
    refine wp_block ?_
    refine wp_seq ?_
    obtain ⟨m, hm0⟩ : ∃ m, i + j = m := ⟨_, rfl⟩
    have hme : Hid ((i : Int) + (j : Int) = (m : Int)) := Lib.hid (by omega)
    have hcu : Hid (IntKind.u64.wrap (m : Int) = (m : Int)) := Lib.hid (by unfold IntKind.wrap; simp [IntKind.signed, IntKind.bits]; omega)
    obtain ⟨k, hk'⟩ : ∃ k, m / 2 = k := ⟨_, rfl⟩
    have hci : Hid (wrap64 (k : Int) = (k : Int)) := Lib.hid (by unfold wrap64; omega)
    have hkj : k < j := by omega
    have hik : i ≤ k := by omega
    clear hm0
    have hk := Lib.hid hk'
    clear hk'
    obtain ⟨y, hy'⟩ : ∃ y, l[k]? = some y := ⟨_, List.getElem?_eq_getElem (by omega)⟩
    have hy := Lib.hid hy'
    clear hy'
    refine wp_region_N [(0, 1), (1, 1), (2, 1), (3, 1), (4, 1), (5, 1), (6, 1)] (by kernel_rfl) ?_
    refine wpS_this [0, 1] rfl (by kernel_rfl) (by simp only [pickL, nthL, List.cons_append, List.nil_append]; rfl) ?_
    repeat (go_big_quiet_step (fail))
    refine wpQuiet_nil ?_
    refine wpS_this [2] rfl (by kernel_rfl) (by simp only [pickL, nthL, List.cons_append, List.nil_append]; rfl) ?_
    repeat (go_big_quiet_step (fail))
    refine wpQuiet_nil ?_
    rw [hme.out]
    refine wpS_this [3] rfl (by kernel_rfl) (by simp only [pickL, nthL, List.cons_append, List.nil_append]; rfl) ?_
    repeat (go_big_quiet_step (fail))
    refine wpQuiet_nil ?_
    rw [hcu.out]
    refine wpS_read (i := 4) (d := some 22) rfl (by rfl) (run_shr1 (k := m) rfl rfl rfl) rfl ?_
    simp only [Act.put, List.setIfInBounds_toArray, List.set_cons_succ, List.set_cons_zero]
    rw [hk.out]
    refine wpS_this [5, 6] rfl (by kernel_rfl) (by simp only [pickL, nthL, List.cons_append, List.nil_append]; rfl) ?_
    repeat (go_big_quiet_step (fail))
    refine wpQuiet_nil ?_
    refine wpS_nil ?_
    refine then_normal ?_
    refine wp_seq ?_
    by_cases hlt : cmpE y.1 (d1, d2) < 0
    · have g1 : decide (cmpE y.1 (d1, d2) < 0) = true := decide_eq_true hlt
      have hkq : k < q := (Nat.lt_or_ge k q).elim id fun h => absurd hlt (posB_ge hs hy.out (by rw [hq.out]; exact h))
      replace hlt := Lib.hid hlt
      refine wp_region_M (fun k => k ∈ ([] : List Nat)) [(0, 1), (1, 1), (2, 1), (3, 1), (4, 1), (5, 1), (6, 3), (7, 1)] (by kernel_rfl) (by kernel_rfl) HM5.out ?_
      intro W7 hm8
      have HM9 := Lib.hid hm8
      clear hm8
      refine wpS_this [0, 1, 2] rfl (by kernel_rfl) (by simp only [pickL, nthL, List.cons_append, List.nil_append]; rfl) ?_
      repeat (go_big_quiet_step (fail))
      refine wpQuiet_nil ?_
      refine wpS_index (E := elemV) (i := 3) (d := some 27) rfl (by rfl) rfl rfl rfl (HM9.out.row 1 rfl hR) (hy.out) rfl ?_
      intro eb10 eo11 hc12
      simp only [Act.put, List.setIfInBounds_toArray, List.set_cons_succ, List.set_cons_zero]
      refine wpS_loadA (i := 4) (d := some 28) (cells := [.int .i64 y.1.1, .int .i64 y.1.2, .string y.2]) rfl (by rfl) rfl rfl hc12 Tryz.underlying140 rfl (by kernel_rfl) rfl ?_
      simp only [Act.put, List.setIfInBounds_toArray, List.set_cons_succ, List.set_cons_zero]
      have Cb4 := Mem.cell HM9.out 0 rfl
      refine wpS_this [5] rfl (by kernel_rfl) (by simp only [pickL, nthL, List.cons_append, List.nil_append]; rfl) ?_
      repeat (go_big_quiet_step (fail))
      refine wpQuiet_nil ?_
      clear Cb4
      refine wpS_doesV2 (i := 6) (d := some 30) (rem := [_, _]) (out := [_, _]) rfl (by rfl) rfl rfl Tryz.call149 (find1_d y d1 d2) rfl rfl rfl HM9.out [] rfl covS_nil rfl rfl ?_
      rintro W14 hm13 -
      have HM15 := Lib.hid hm13
      clear hm13
      simp only [Act.put, List.setIfInBounds_toArray, List.set_cons_succ, List.set_cons_zero]
      refine wpS_this [7] rfl (by kernel_rfl) (by simp only [pickL, nthL, List.cons_append, List.nil_append]; rfl) ?_
      repeat (go_big_quiet_step (fail))
      refine wpQuiet_nil ?_
      refine wpS_nil ?_
      refine then_normal ?_
      refine wp_cond_true rfl ?_
      refine wp_region_N [(0, 1), (1, 1), (2, 1)] (by kernel_rfl) ?_
      refine wpS_this [0, 1, 2] rfl (by kernel_rfl) (by simp only [pickL, nthL, List.cons_append, List.nil_append]; rfl) ?_
      repeat (go_big_quiet_step (fail))
      refine wpQuiet_nil ?_
      refine wpS_nil ?_
      refine block_normal ?_
      refine then_normal ?_
      refine ⟨by kernel_rfl, ?_⟩
      refine ⟨j - (k + 1), by omega, k + 1, j, rfl, rfl, rfl, by omega, by omega, hjl, (Mem.only (M := [_, _]) HM15.out [0, 0] rfl)⟩
    · have g1 : decide (cmpE y.1 (d1, d2) < 0) = false := decide_eq_false hlt
      have hkq : q ≤ k := (Nat.lt_or_ge k q).elim (fun h => absurd (posB_lt hy.out (by rw [hq.out]; exact h)) hlt) id
      replace hlt := Lib.hid hlt
      refine wp_region_M (fun k => k ∈ ([] : List Nat)) [(0, 1), (1, 1), (2, 1), (3, 1), (4, 1), (5, 1), (6, 3), (7, 1)] (by kernel_rfl) (by kernel_rfl) HM5.out ?_
      intro W16 hm17
      have HM18 := Lib.hid hm17
      clear hm17
      refine wpS_this [0, 1, 2] rfl (by kernel_rfl) (by simp only [pickL, nthL, List.cons_append, List.nil_append]; rfl) ?_
      repeat (go_big_quiet_step (fail))
      refine wpQuiet_nil ?_
      refine wpS_index (E := elemV) (i := 3) (d := some 27) rfl (by rfl) rfl rfl rfl (HM18.out.row 1 rfl hR) (hy.out) rfl ?_
      intro eb19 eo20 hc21
      simp only [Act.put, List.setIfInBounds_toArray, List.set_cons_succ, List.set_cons_zero]
      refine wpS_loadA (i := 4) (d := some 28) (cells := [.int .i64 y.1.1, .int .i64 y.1.2, .string y.2]) rfl (by rfl) rfl rfl hc21 Tryz.underlying140 rfl (by kernel_rfl) rfl ?_
      simp only [Act.put, List.setIfInBounds_toArray, List.set_cons_succ, List.set_cons_zero]
      have Cb4 := Mem.cell HM18.out 0 rfl
      refine wpS_this [5] rfl (by kernel_rfl) (by simp only [pickL, nthL, List.cons_append, List.nil_append]; rfl) ?_
      repeat (go_big_quiet_step (fail))
      refine wpQuiet_nil ?_
      clear Cb4
      refine wpS_doesV2 (i := 6) (d := some 30) (rem := [_, _]) (out := [_, _]) rfl (by rfl) rfl rfl Tryz.call149 (find1_d y d1 d2) rfl rfl rfl HM18.out [] rfl covS_nil rfl rfl ?_
      rintro W23 hm22 -
      have HM24 := Lib.hid hm22
      clear hm22
      simp only [Act.put, List.setIfInBounds_toArray, List.set_cons_succ, List.set_cons_zero]
      refine wpS_this [7] rfl (by kernel_rfl) (by simp only [pickL, nthL, List.cons_append, List.nil_append]; rfl) ?_
      repeat (go_big_quiet_step (fail))
      refine wpQuiet_nil ?_
      refine wpS_nil ?_
      refine then_normal ?_
      refine wp_cond_false rfl ?_
      refine wp_region_N [(0, 1), (1, 1)] (by kernel_rfl) ?_
      refine wpS_this [0, 1] rfl (by kernel_rfl) (by simp only [pickL, nthL, List.cons_append, List.nil_append]; rfl) ?_
      repeat (go_big_quiet_step (fail))
      refine wpQuiet_nil ?_
      refine wpS_nil ?_
      refine block_normal ?_
      refine then_normal ?_
      refine ⟨by kernel_rfl, ?_⟩
      refine ⟨k - i, by omega, i, k, rfl, rfl, rfl, hiq, by omega, by omega, (Mem.only (M := [_, _]) HM24.out [0, 0] rfl)⟩
  · have hge : Hid (j ≤ i) := Lib.hid (by have : ¬ (i : Int) < (j : Int) := (by simpa using h6); omega)
    clear h6
    refine wp_exit ?_
    refine then_exit (then_exit (block_exit ?_))
    refine then_normal ?_
    refine wp_seq ?_
    have hiq2 : i = q := by have := hge.out; omega
    clear hge
    subst hiq2
    have hw := held_ways (d := (d1, d2)) hs
    rw [hq.out] at hw
    rcases hw with ⟨h1, h2⟩ | ⟨y, h1, hy', h3, h2⟩ | ⟨y, h1, hy', h3, h2⟩
    · have g1 : decide ((i : Int) < (l.length : Int)) = false := decide_eq_false (by omega)
      have g1' : decide (i < l.length) = false := decide_eq_false (by omega)
      have hh := Lib.hid h2
      clear h2
      refine wp_region_M (fun k => k ∈ ([] : List Nat)) [(0, 0), (1, 1), (2, 1), (3, 1), (4, 1), (5, 1), (6, 1), (7, 1), (8, 1), (9, 1), (10, 1), (11, 3), (12, 1), (13, 1), (14, 1), (15, 1)] (by kernel_rfl) (by kernel_rfl) HM5.out ?_
      intro W25 hm26
      have HM27 := Lib.hid hm26
      clear hm26
      refine wpS_all [0] rfl (by kernel_rfl) (by simp only [pickL, nthL, List.cons_append, List.nil_append]; rfl) ?_
      repeat (go_big_quiet_step (fail))
      refine wpQuiet_nil ?_
      refine wpS_this [1, 2, 3, 4, 5, 6, 7] rfl (by kernel_rfl) (by simp only [pickL, nthL, List.cons_append, List.nil_append]; rfl) ?_
      repeat (go_big_quiet_step (fail))
      refine wpQuiet_nil ?_
      refine wpS_skip (i := 8) (d := some 43) rfl (by rfl) rfl ?_
      simp only [Act.put, List.setIfInBounds_toArray, List.set_cons_succ, List.set_cons_zero]
      refine wpS_skip (i := 9) (d := some 44) rfl (by rfl) rfl ?_
      simp only [Act.put, List.setIfInBounds_toArray, List.set_cons_succ, List.set_cons_zero]
      have Cb4 := Mem.cell HM27.out 0 rfl
      refine wpS_this [10] rfl (by kernel_rfl) (by simp only [pickL, nthL, List.cons_append, List.nil_append]; rfl) ?_
      repeat (go_big_quiet_step (fail))
      refine wpQuiet_nil ?_
      clear Cb4
      refine wpS_skip (i := 11) (d := some 46) rfl (by rfl) rfl ?_
      simp only [Act.put, List.setIfInBounds_toArray, List.set_cons_succ, List.set_cons_zero]
      refine wpS_this [12, 13, 14, 15] rfl (by kernel_rfl) (by simp only [pickL, nthL, List.cons_append, List.nil_append]; rfl) ?_
      repeat (go_big_quiet_step (fail))
      refine wpQuiet_nil ?_
      refine wpS_nil ?_
      refine then_normal ?_
      refine wp_ret ?_
      refine bodyPost_ret (results_tmp2 rfl _ _ _) rfl ?_
      rw [hh.out]
      exact does_ret (Mem.only (M := [_]) HM27.out [1] rfl) rfl rfl
    · have g1 : decide ((i : Int) < (l.length : Int)) = true := decide_eq_true (by omega)
      have g1' : decide (i < l.length) = true := decide_eq_true h1
      have g2 : (cmpE y.1 (d1, d2) == 0) = true := beq_iff_eq.2 h3
      replace h3 := Lib.hid h3
      have hh := Lib.hid h2
      clear h2
      have hy := Lib.hid hy'
      clear hy'
      refine wp_region_M (fun k => k ∈ ([] : List Nat)) [(0, 0), (1, 1), (2, 1), (3, 1), (4, 1), (5, 1), (6, 1), (7, 1), (8, 1), (9, 1), (10, 1), (11, 3), (12, 1), (13, 1), (14, 1), (15, 1)] (by kernel_rfl) (by kernel_rfl) HM5.out ?_
      intro W28 hm29
      have HM30 := Lib.hid hm29
      clear hm29
      refine wpS_all [0] rfl (by kernel_rfl) (by simp only [pickL, nthL, List.cons_append, List.nil_append]; rfl) ?_
      repeat (go_big_quiet_step (fail))
      refine wpQuiet_nil ?_
      refine wpS_this [1, 2, 3, 4, 5, 6, 7] rfl (by kernel_rfl) (by simp only [pickL, nthL, List.cons_append, List.nil_append]; rfl) ?_
      repeat (go_big_quiet_step (fail))
      refine wpQuiet_nil ?_
      refine wpS_index (E := elemV) (i := 8) (d := some 43) rfl (by rfl) rfl rfl rfl (HM30.out.row 1 rfl hR) (hy.out) rfl ?_
      intro eb31 eo32 hc33
      simp only [Act.put, List.setIfInBounds_toArray, List.set_cons_succ, List.set_cons_zero]
      refine wpS_loadA (i := 9) (d := some 44) (cells := [.int .i64 y.1.1, .int .i64 y.1.2, .string y.2]) rfl (by rfl) rfl rfl hc33 Tryz.underlying140 rfl (by kernel_rfl) rfl ?_
      simp only [Act.put, List.setIfInBounds_toArray, List.set_cons_succ, List.set_cons_zero]
      have Cb4 := Mem.cell HM30.out 0 rfl
      refine wpS_this [10] rfl (by kernel_rfl) (by simp only [pickL, nthL, List.cons_append, List.nil_append]; rfl) ?_
      repeat (go_big_quiet_step (fail))
      refine wpQuiet_nil ?_
      clear Cb4
      refine wpS_doesV2 (i := 11) (d := some 46) (rem := [_, _]) (out := [_, _]) rfl (by rfl) rfl rfl Tryz.call149 (find1_d y d1 d2) rfl rfl rfl HM30.out [] rfl covS_nil rfl rfl ?_
      rintro W35 hm34 -
      have HM36 := Lib.hid hm34
      clear hm34
      simp only [Act.put, List.setIfInBounds_toArray, List.set_cons_succ, List.set_cons_zero]
      refine wpS_this [12, 13, 14, 15] rfl (by kernel_rfl) (by simp only [pickL, nthL, List.cons_append, List.nil_append]; rfl) ?_
      repeat (go_big_quiet_step (fail))
      refine wpQuiet_nil ?_
      refine wpS_nil ?_
      refine then_normal ?_
      refine wp_ret ?_
      refine bodyPost_ret (results_tmp2 rfl _ _ _) rfl ?_
      rw [hh.out]
      exact does_ret (Mem.only (M := [_]) HM36.out [1] rfl) rfl rfl
    · have g1 : decide ((i : Int) < (l.length : Int)) = true := decide_eq_true (by omega)
      have g1' : decide (i < l.length) = true := decide_eq_true h1
      have g2 : (cmpE y.1 (d1, d2) == 0) = false := beq_eq_false_iff_ne.2 h3
      replace h3 := Lib.hid h3
      have hh := Lib.hid h2
      clear h2
      have hy := Lib.hid hy'
      clear hy'
      refine wp_region_M (fun k => k ∈ ([] : List Nat)) [(0, 0), (1, 1), (2, 1), (3, 1), (4, 1), (5, 1), (6, 1), (7, 1), (8, 1), (9, 1), (10, 1), (11, 3), (12, 1), (13, 1), (14, 1), (15, 1)] (by kernel_rfl) (by kernel_rfl) HM5.out ?_
      intro W37 hm38
      have HM39 := Lib.hid hm38
      clear hm38
      refine wpS_all [0] rfl (by kernel_rfl) (by simp only [pickL, nthL, List.cons_append, List.nil_append]; rfl) ?_
      repeat (go_big_quiet_step (fail))
      refine wpQuiet_nil ?_
      refine wpS_this [1, 2, 3, 4, 5, 6, 7] rfl (by kernel_rfl) (by simp only [pickL, nthL, List.cons_append, List.nil_append]; rfl) ?_
      repeat (go_big_quiet_step (fail))
      refine wpQuiet_nil ?_
      refine wpS_index (E := elemV) (i := 8) (d := some 43) rfl (by rfl) rfl rfl rfl (HM39.out.row 1 rfl hR) (hy.out) rfl ?_
      intro eb40 eo41 hc42
      simp only [Act.put, List.setIfInBounds_toArray, List.set_cons_succ, List.set_cons_zero]
      refine wpS_loadA (i := 9) (d := some 44) (cells := [.int .i64 y.1.1, .int .i64 y.1.2, .string y.2]) rfl (by rfl) rfl rfl hc42 Tryz.underlying140 rfl (by kernel_rfl) rfl ?_
      simp only [Act.put, List.setIfInBounds_toArray, List.set_cons_succ, List.set_cons_zero]
      have Cb4 := Mem.cell HM39.out 0 rfl
      refine wpS_this [10] rfl (by kernel_rfl) (by simp only [pickL, nthL, List.cons_append, List.nil_append]; rfl) ?_
      repeat (go_big_quiet_step (fail))
      refine wpQuiet_nil ?_
      clear Cb4
      refine wpS_doesV2 (i := 11) (d := some 46) (rem := [_, _]) (out := [_, _]) rfl (by rfl) rfl rfl Tryz.call149 (find1_d y d1 d2) rfl rfl rfl HM39.out [] rfl covS_nil rfl rfl ?_
      rintro W44 hm43 -
      have HM45 := Lib.hid hm43
      clear hm43
      simp only [Act.put, List.setIfInBounds_toArray, List.set_cons_succ, List.set_cons_zero]
      refine wpS_this [12, 13, 14, 15] rfl (by kernel_rfl) (by simp only [pickL, nthL, List.cons_append, List.nil_append]; rfl) ?_
      repeat (go_big_quiet_step (fail))
      refine wpQuiet_nil ?_
      refine wpS_nil ?_
      refine then_normal ?_
      refine wp_ret ?_
      refine bodyPost_ret (results_tmp2 rfl _ _ _) rfl ?_
      rw [hh.out]
      exact does_ret (Mem.only (M := [_]) HM45.out [1] rfl) rfl rfl
end
section
open Go Go.RowKit Go.BigFrame
set_option maxHeartbeats 4000000 in
set_option maxRecDepth 100000 in
theorem bfind_d (R : At) (v : Value) (l : List Vl) (hR : ∀ W H, R.p W H → RowAt elemV W v l) (hs : Srt l) (hl : l.length ≤ 4398046510976) (d1 d2 : Int) : Does Tryz.prog 135 #[v, .agg #[.int .i64 d1, .int .i64 d2]] [R] (.tuple #[.int .i64 (posB (d1, d2) l : Int), .bool (heldL l (d1, d2))]) [R] := by
  intro w H hp
  have HM0 := Lib.hid (mem_refl hp)
  clear hp
  obtain ⟨p, cap, rfl, -⟩ := (HM0.out.row 0 rfl hR).form
  go_enter Tryz.func135, Tryz.ntmps135
  refine wp_seq ?_
  refine wp_region_N [(0, 3), (1, 1), (2, 1)] (by kernel_rfl) ?_
  refine wpS_boxA (i := 0) (dd := 3) rfl (by rfl) rfl rfl HM0.out covS_nil rfl ?_
  rintro b3 W2 hm1 -
  have HM4 := Lib.hid hm1
  clear hm1
  simp only [Act.put, List.setIfInBounds_toArray, List.set_cons_succ, List.set_cons_zero]
  refine wpS_this [1, 2] rfl (by kernel_rfl) (by simp only [pickL, nthL, List.cons_append, List.nil_append]; rfl) ?_
  repeat (go_big_quiet_step (fail))
  refine wpQuiet_nil ?_
  refine wpS_nil ?_
  refine then_normal ?_
  refine wp_seq ?_
  refine wp_region_N [(0, 1), (1, 1), (2, 3), (3, 1), (4, 1), (5, 1), (6, 1)] (by kernel_rfl) ?_
  have Cb3 := Mem.cell HM4.out 0 rfl
  refine wpS_this [0, 1] rfl (by kernel_rfl) (by simp only [pickL, nthL, List.cons_append, List.nil_append]; rfl) ?_
  repeat (go_big_quiet_step (fail))
  refine wpQuiet_nil ?_
  clear Cb3
  refine wpS_does3 (i := 2) (d := some 8) (rem := [_]) (out := [_, _]) rfl (by rfl) rfl Tryz.call148 (bsearch_d R _ l hR hs hl d1 d2) rfl rfl rfl HM4.out [1] rfl covS_nil rfl rfl ?_
  rintro W6 hm5 -
  have HM7 := Lib.hid hm5
  clear hm5
  simp only [Act.put, List.setIfInBounds_toArray, List.set_cons_succ, List.set_cons_zero]
  refine wpS_this [3, 4, 5, 6] rfl (by kernel_rfl) (by simp only [pickL, nthL, List.cons_append, List.nil_append]; rfl) ?_
  repeat (go_big_quiet_step (fail))
  refine wpQuiet_nil ?_
  refine wpS_nil ?_
  refine then_normal ?_
  refine wp_ret ?_
  refine bodyPost_ret (results_tmp2 rfl _ _ _) rfl ?_
  exact does_ret (Mem.only (M := [_]) HM7.out [0] rfl) rfl rfl
set_option maxHeartbeats 4000000 in
set_option maxRecDepth 100000 in
theorem bheld_d (R : At) (v : Value) (l : List Vl) (hR : ∀ W H, R.p W H → RowAt elemV W v l) (hs : Srt l) (hl : l.length ≤ 4398046510976) (d1 d2 : Int) : Does Tryz.prog 120 #[v, .agg #[.int .i64 d1, .int .i64 d2]] [R] (.bool (heldL l (d1, d2))) [R] := by
  intro w H hp
  have HM0 := Lib.hid (mem_refl hp)
  clear hp
  obtain ⟨p, cap, rfl, -⟩ := (HM0.out.row 0 rfl hR).form
  go_enter Tryz.func120, Tryz.ntmps120
  refine wp_seq ?_
  refine wp_region_N [(0, 3), (1, 1)] (by kernel_rfl) ?_
  refine wpS_boxA (i := 0) (dd := 3) rfl (by rfl) rfl rfl HM0.out covS_nil rfl ?_
  rintro b3 W2 hm1 -
  have HM4 := Lib.hid hm1
  clear hm1
  simp only [Act.put, List.setIfInBounds_toArray, List.set_cons_succ, List.set_cons_zero]
  refine wpS_this [1] rfl (by kernel_rfl) (by simp only [pickL, nthL, List.cons_append, List.nil_append]; rfl) ?_
  repeat (go_big_quiet_step (fail))
  refine wpQuiet_nil ?_
  refine wpS_nil ?_
  refine then_normal ?_
  refine wp_seq ?_
  refine wp_region_N [(0, 1), (1, 1), (2, 3), (3, 1), (4, 1), (5, 1), (6, 1), (7, 1)] (by kernel_rfl) ?_
  have Cb3 := Mem.cell HM4.out 0 rfl
  refine wpS_this [0, 1] rfl (by kernel_rfl) (by simp only [pickL, nthL, List.cons_append, List.nil_append]; rfl) ?_
  repeat (go_big_quiet_step (fail))
  refine wpQuiet_nil ?_
  clear Cb3
  refine wpS_does2 (i := 2) (d := some 10) (rem := [_]) (out := [_, _]) rfl (by rfl) rfl Tryz.call135 (bfind_d R _ l hR hs hl d1 d2) rfl rfl HM4.out [1] rfl covS_nil rfl rfl ?_
  rintro W6 hm5 -
  have HM7 := Lib.hid hm5
  clear hm5
  simp only [Act.put, List.setIfInBounds_toArray, List.set_cons_succ, List.set_cons_zero]
  refine wpS_this [3, 4, 5, 6, 7] rfl (by kernel_rfl) (by simp only [pickL, nthL, List.cons_append, List.nil_append]; rfl) ?_
  repeat (go_big_quiet_step (fail))
  refine wpQuiet_nil ?_
  refine wpS_nil ?_
  refine then_normal ?_
  refine wp_seq ?_
  refine wp_region_N [(0, 1), (1, 1)] (by kernel_rfl) ?_
  refine wpS_this [0, 1] rfl (by kernel_rfl) (by simp only [pickL, nthL, List.cons_append, List.nil_append]; rfl) ?_
  repeat (go_big_quiet_step (fail))
  refine wpQuiet_nil ?_
  refine wpS_nil ?_
  refine then_normal ?_
  refine wp_ret ?_
  refine bodyPost_ret (results_tmp rfl _ _ _) rfl ?_
  exact does_ret (Mem.only (M := [_]) HM7.out [0] rfl) rfl rfl
set_option maxHeartbeats 4000000 in
set_option maxRecDepth 100000 in
theorem bwith_d (p : Option Addr) (c : Nat) (xs : List Vl) (y : Vl) (hs : Srt xs) (hl : xs.length ≤ 4398046510976) (hc : xs.length ≤ c) : DoesU Tryz.prog 104 #[.slice p xs.length c, vlV y] [rowT elemV (.slice p xs.length c) xs] (fun u => [rowT elemV u (insB y xs)]) := by
  intro w H hp
  have HM0 := Lib.hid (mem_refl hp)
  clear hp
  go_enter Tryz.func104, Tryz.ntmps104
  refine wp_seq ?_
  refine wp_region_N [(0, 3), (1, 1)] (by kernel_rfl) ?_
  refine wpS_boxA (i := 0) (dd := 3) rfl (by rfl) rfl rfl HM0.out covS_nil rfl ?_
  rintro b3 W2 hm1 -
  have HM4 := Lib.hid hm1
  clear hm1
  simp only [Act.put, List.setIfInBounds_toArray, List.set_cons_succ, List.set_cons_zero]
  refine wpS_this [1] rfl (by kernel_rfl) (by simp only [pickL, nthL, List.cons_append, List.nil_append]; rfl) ?_
  repeat (go_big_quiet_step (fail))
  refine wpQuiet_nil ?_
  refine wpS_nil ?_
  refine then_normal ?_
  refine wp_seq ?_
  have hqx0 := posB_le y.1 xs
  obtain ⟨q, hq'⟩ : ∃ q, posB y.1 xs = q := ⟨_, rfl⟩
  have hqx : q ≤ xs.length := by rw [← hq']; exact hqx0
  clear hqx0
  have hq := Lib.hid hq'
  clear hq'
  refine wp_region_N [(0, 1), (1, 1), (2, 1), (3, 3), (4, 1), (5, 1), (6, 1), (7, 1), (8, 1)] (by kernel_rfl) ?_
  have Cb3 := Mem.cell HM4.out 0 rfl
  refine wpS_this [0, 1, 2] rfl (by kernel_rfl) (by simp only [pickL, nthL, List.cons_append, List.nil_append]; rfl) ?_
  repeat (go_big_quiet_step (fail))
  refine wpQuiet_nil ?_
  clear Cb3
  refine wpS_does2 (i := 3) (d := some 11) (rem := [_]) (out := [_, _]) rfl (by rfl) rfl Tryz.call135 (bfind_d (rowT elemV _ _) _ xs vRow hs hl y.1.1 y.1.2) rfl rfl HM4.out [1] rfl covS_nil rfl rfl ?_
  rintro W6 hm5 -
  rw [show posB (y.1.1, y.1.2) xs = q from hq.out]
  have HM7 := Lib.hid hm5
  clear hm5
  simp only [Act.put, List.setIfInBounds_toArray, List.set_cons_succ, List.set_cons_zero]
  refine wpS_this [4, 5, 6, 7, 8] rfl (by kernel_rfl) (by simp only [pickL, nthL, List.cons_append, List.nil_append]; rfl) ?_
  repeat (go_big_quiet_step (fail))
  refine wpQuiet_nil ?_
  refine wpS_nil ?_
  refine then_normal ?_
  refine wp_seq ?_
  refine wp_region_N [(0, 1), (1, 1), (2, 1), (3, 3), (4, 3), (5, 1)] (by kernel_rfl) ?_
  have Cb3 := Mem.cell HM7.out 1 rfl
  refine wpS_this [0, 1, 2] rfl (by kernel_rfl) (by simp only [pickL, nthL, List.cons_append, List.nil_append]; rfl) ?_
  repeat (go_big_quiet_step (fail))
  refine wpQuiet_nil ?_
  clear Cb3
  refine wpS_build1 elemV (i := 3) (dd := 17) (y := y) rfl (by rfl) rfl rfl rfl (by decide) HM7.out covS_nil rfl ?_
  rintro b10 W11 hm12 -
  have HM13 := Lib.hid hm12
  clear hm12
  simp only [Act.put, List.setIfInBounds_toArray, List.set_cons_succ, List.set_cons_zero]
  refine wpS_doesU3 (i := 4) (d := some 18) (rem := [_]) rfl (by rfl) rfl Tryz.call136 (insV_d p _ c 1 q xs y hqx hl hc) rfl rfl rfl HM13.out [1, 0] rfl covS_nil (fun _ => rfl) rfl ?_
  rintro u16 W15 hm14 -
  have hm14q := hm14
  have HM17 := Lib.hid hm14q
  clear hm14q
  simp only [Act.put, List.setIfInBounds_toArray, List.set_cons_succ, List.set_cons_zero]
  refine wpS_this [5] rfl (by kernel_rfl) (by simp only [pickL, nthL, List.cons_append, List.nil_append]; rfl) ?_
  repeat (go_big_quiet_step (fail))
  refine wpQuiet_nil ?_
  refine wpS_nil ?_
  refine then_normal ?_
  refine wp_ret ?_
  refine bodyPost_ret (results_tmp rfl _ _ _) rfl ?_
  rw [insB_at, hq.out]
  exact doesU_ret (post := fun u => [rowT elemV u (xs.take q ++ y :: xs.drop q)]) (Mem.only (M := [_]) HM17.out [0] rfl) rfl
set_option maxHeartbeats 4000000 in
set_option maxRecDepth 100000 in
theorem bthose_d (R K : At) (v : Value) (l : List Vl) (hR : ∀ W H, R.p W H → RowAt elemV W v l) (hl : l.length ≤ 4398046510976 - 1) (g : Nat) (q : Value) (P : Vl → Bool) (eg : ∀ args w, (callFunc g args).run Tryz.prog w = .ok (.enter g args) w) (hc : ∀ x ∈ l, Does Tryz.prog g #[vlV x, q] [K, R] (.bool (P x)) [K, R]) : DoesU Tryz.prog 102 #[v, .func (.func g) #[] #[q]] [K, R] (fun u => [rowT elemV u (l.filter P), K, R]) := by
  intro w H hp
  have HM0 := Lib.hid (mem_refl hp)
  clear hp
  obtain ⟨p, cap, rfl, -⟩ := (HM0.out.row 1 rfl hR).form
  go_enter Tryz.func102, Tryz.ntmps102
  refine wp_seq ?_
  refine wp_region_N [(0, 1)] (by kernel_rfl) ?_
  refine wpS_this [0] rfl (by kernel_rfl) (by simp only [pickL, nthL, List.cons_append, List.nil_append]; rfl) ?_
  repeat (go_big_quiet_step (fail))
  refine wpQuiet_nil ?_
  refine wpS_nil ?_
  refine then_normal ?_
  refine wp_seq ?_
  refine wp_region_N [(0, 1)] (by kernel_rfl) ?_
  refine wpS_this [0] rfl (by kernel_rfl) (by simp only [pickL, nthL, List.cons_append, List.nil_append]; rfl) ?_
  repeat (go_big_quiet_step (fail))
  refine wpQuiet_nil ?_
  refine wpS_nil ?_
  refine then_normal ?_
  refine wp_seq ?_
  refine wp_seq ?_
  refine wp_region_N [(0, 1), (1, 1), (2, 1)] (by kernel_rfl) ?_
  refine wpS_this [0, 1, 2] rfl (by kernel_rfl) (by simp only [pickL, nthL, List.cons_append, List.nil_append]; rfl) ?_
  repeat (go_big_quiet_step (fail))
  refine wpQuiet_nil ?_
  refine wpS_nil ?_
  refine then_normal ?_
  refine wp_block ?_
  refine wp_loop_F [5, 7, 10, 11, 12, 13, 14, 15, 16, 17, 18, 19, 20, 21] (fun n vs W' => ∃ (k : Nat) (pu : Option Addr) (cu : Nat), n = l.length - k ∧ vs 10 = .int .i64 (k : Int) ∧ vs 5 = .slice pu ((l.take k).filter P).length cu ∧ k ≤ l.length ∧ Mem [rowT elemV (.slice pu ((l.take k).filter P).length cu) ((l.take k).filter P), K, R] H w W') (n0 := l.length) ?_ ?_
  · exact ⟨0, none, 0, rfl, rfl, rfl, Nat.zero_le _, Mem.nilRow elemV (Mem.only (M := [_, _]) HM0.out [0, 0] rfl)⟩
  rintro n vs W' ⟨k, pu, cu, rfl, e10, e5, hk, hm⟩
  simp only [putAll, List.map_cons, List.map_nil, Act.put, List.setIfInBounds_toArray, List.set_cons_succ, List.set_cons_zero]
  rw [e10, e5]
  clear e10 e5
  have HM1 := Lib.hid hm
  clear hm
  refine wp_seq ?_
  refine wp_region_N [(0, 1)] (by kernel_rfl) ?_
  refine wpS_this [0] rfl (by kernel_rfl) (by simp only [pickL, nthL, List.cons_append, List.nil_append]; rfl) ?_
  repeat (go_big_quiet_step (fail))
  refine wpQuiet_nil ?_
  refine wpS_nil ?_
  refine then_normal ?_
  refine wp_seq ?_
  refine wp_cond_split rfl (fun h2 => ?_) (fun h2 => ?_)
  · have hk1 : k + 1 ≤ l.length := by have : (k : Int) < ((l.length : Nat) : Int) := (by simpa using h2); omega
    clear h2
    obtain ⟨y, hy'⟩ : ∃ y, l[k]? = some y := ⟨_, List.getElem?_eq_getElem (hk1)⟩
    have hy := Lib.hid hy'
    clear hy'
    refine wp_skip ?_
    refine then_normal ?_
    refine wp_seq ?_
    refine wp_block ?_
    refine wp_seq ?_
    refine wp_region_N [(0, 1), (1, 1), (2, 3), (3, 3)] (by kernel_rfl) ?_
    refine wpS_index (E := elemV) (i := 0) (d := some 12) rfl (by rfl) rfl rfl rfl (HM1.out.row 2 rfl hR) (hy.out) rfl ?_
    intro eb3 eo4 hc5
    simp only [Act.put, List.setIfInBounds_toArray, List.set_cons_succ, List.set_cons_zero]
    refine wpS_loadA (i := 1) (d := some 13) (cells := [.int .i64 y.1.1, .int .i64 y.1.2, .string y.2]) rfl (by rfl) rfl rfl hc5 Tryz.underlying140 rfl (by kernel_rfl) rfl ?_
    simp only [Act.put, List.setIfInBounds_toArray, List.set_cons_succ, List.set_cons_zero]
    refine wpS_alloc (i := 2) (dd := 7) (z := .agg #[.int .i64 0, .int .i64 0, .string ByteArray.empty]) (cs := #[.int .i64 0, .int .i64 0, .string ByteArray.empty]) rfl (by rfl) rfl (by kernel_rfl) rfl HM1.out covS_nil rfl ?_
    rintro b8 W7 hm6 -
    have HM9 := Lib.hid hm6
    clear hm6
    simp only [Act.put, List.setIfInBounds_toArray, List.set_cons_succ, List.set_cons_zero]
    refine wpS_storeA (i := 3) (L2 := [_, _, _]) (cs' := [.int .i64 y.1.1, .int .i64 y.1.2, .string y.2]) rfl (by rfl) rfl rfl rfl (by kernel_rfl) (by rfl) HM9.out 0 rfl rfl rfl rfl covS_nil rfl ?_
    rintro W11 hm10 -
    have HM12 := Lib.hid hm10
    clear hm10
    refine wpS_nil ?_
    refine then_normal ?_
    refine wp_seq ?_
    obtain ⟨b, hb'⟩ := bool_letter (P y)
    have hb := Lib.hid hb'
    clear hb'
    cases b
    · have hfl : Hid ((l.take (k + 1)).filter P = (l.take k).filter P) := Lib.hid (by rw [filter_step hy.out, hb.out]; simp)
      refine wp_region_N [(0, 1), (1, 1), (2, 3)] (by kernel_rfl) ?_
      have Cb7 := Mem.cell HM12.out 0 rfl
      refine wpS_this [0, 1] rfl (by kernel_rfl) (by simp only [pickL, nthL, List.cons_append, List.nil_append]; rfl) ?_
      repeat (go_big_quiet_step (fail))
      refine wpQuiet_nil ?_
      clear Cb7
      refine wpS_doesV1 (i := 2) (d := some 16) (rem := [_, _]) (out := [_, _, _, _]) rfl (by rfl) rfl rfl eg (hc y (List.mem_of_getElem? hy.out)) rfl (rfl) HM12.out [2, 2] rfl covS_nil rfl rfl ?_
      rintro W14 hm13 -
      have HM15 := Lib.hid hm13
      clear hm13
      simp only [Act.put, List.setIfInBounds_toArray, List.set_cons_succ, List.set_cons_zero]
      rw [hb.out]
      refine wpS_nil ?_
      refine then_normal ?_
      refine wp_cond_false rfl ?_
      refine wp_skip ?_
      refine block_normal ?_
      refine then_normal ?_
      refine wp_region_N [(0, 1), (1, 1)] (by kernel_rfl) ?_
      refine wpS_this [0, 1] rfl (by kernel_rfl) (by simp only [pickL, nthL, List.cons_append, List.nil_append]; rfl) ?_
      repeat (go_big_quiet_step (fail))
      refine wpQuiet_nil ?_
      refine wpS_nil ?_
      refine then_normal ?_
      refine ⟨by kernel_rfl, ?_⟩
      refine ⟨l.length - (k + 1), by omega, k + 1, pu, cu, rfl, rfl, by rw [hfl.out]; rfl, hk1, ?_⟩
      rw [hfl.out]
      exact (Mem.only (M := [_, _, _]) HM15.out [3, 0, 0] rfl)
    · have hfl : Hid ((l.take (k + 1)).filter P = (l.take k).filter P ++ [y]) := Lib.hid (by rw [filter_step hy.out, hb.out]; simp)
      refine wp_region_N [(0, 1), (1, 1), (2, 3)] (by kernel_rfl) ?_
      have Cb7 := Mem.cell HM12.out 0 rfl
      refine wpS_this [0, 1] rfl (by kernel_rfl) (by simp only [pickL, nthL, List.cons_append, List.nil_append]; rfl) ?_
      repeat (go_big_quiet_step (fail))
      refine wpQuiet_nil ?_
      clear Cb7
      refine wpS_doesV1 (i := 2) (d := some 16) (rem := [_, _]) (out := [_, _, _, _]) rfl (by rfl) rfl rfl eg (hc y (List.mem_of_getElem? hy.out)) rfl (rfl) HM12.out [2, 2] rfl covS_nil rfl rfl ?_
      rintro W17 hm16 -
      have HM18 := Lib.hid hm16
      clear hm16
      simp only [Act.put, List.setIfInBounds_toArray, List.set_cons_succ, List.set_cons_zero]
      rw [hb.out]
      refine wpS_nil ?_
      refine then_normal ?_
      refine wp_cond_true rfl ?_
      have hff : Hid (((l.take k).filter P).length ≤ l.length) := Lib.hid (filter_le P l k)
      refine wp_region_N [(0, 1), (1, 1), (2, 3), (3, 3), (4, 1)] (by kernel_rfl) ?_
      have Cb7 := Mem.cell HM18.out 2 rfl
      refine wpS_this [0, 1] rfl (by kernel_rfl) (by simp only [pickL, nthL, List.cons_append, List.nil_append]; rfl) ?_
      repeat (go_big_quiet_step (fail))
      refine wpQuiet_nil ?_
      clear Cb7
      refine wpS_build1 elemV (i := 2) (dd := 19) (y := y) rfl (by rfl) rfl rfl rfl (by decide) HM18.out covS_nil rfl ?_
      rintro b21 W22 hm23 -
      have HM24 := Lib.hid hm23
      clear hm23
      simp only [Act.put, List.setIfInBounds_toArray, List.set_cons_succ, List.set_cons_zero]
      refine wpS_append (E := elemV) (i := 3) (d := some 20) (L2 := [_, _, _, _]) rfl (by rfl) rfl HM24.out 4 rfl rfl (HM24.out.src 0 rfl rowT_reads) rfl (by show (_ + 1) * 32 ≤ 140737488355328; have := hff.out; omega) rfl covS_nil rfl ?_
      rintro u27 W28 hm29 -
      have HM30 := Lib.hid hm29
      clear hm29
      simp only [Act.put, List.setIfInBounds_toArray, List.set_cons_succ, List.set_cons_zero]
      obtain ⟨up, uc, hup⟩ := row_form (Mem.src HM30.out 0 rfl rowT_reads)
      subst hup
      refine wpS_this [4] rfl (by kernel_rfl) (by simp only [pickL, nthL, List.cons_append, List.nil_append]; rfl) ?_
      repeat (go_big_quiet_step (fail))
      refine wpQuiet_nil ?_
      refine wpS_nil ?_
      refine block_normal ?_
      refine then_normal ?_
      refine wp_region_N [(0, 1), (1, 1)] (by kernel_rfl) ?_
      refine wpS_this [0, 1] rfl (by kernel_rfl) (by simp only [pickL, nthL, List.cons_append, List.nil_append]; rfl) ?_
      repeat (go_big_quiet_step (fail))
      refine wpQuiet_nil ?_
      refine wpS_nil ?_
      refine then_normal ?_
      refine ⟨by kernel_rfl, ?_⟩
      refine ⟨l.length - (k + 1), by omega, k + 1, up, uc, rfl, rfl, by rw [hfl.out]; rfl, hk1, ?_⟩
      rw [hfl.out]
      exact (Mem.only (M := [_, _, _]) HM30.out [0, 1, 1] rfl)
  · have hge : Hid (l.length ≤ k) := Lib.hid (by have : ¬ (k : Int) < ((l.length : Nat) : Int) := (by simpa using h2); omega)
    clear h2
    refine wp_exit ?_
    refine then_exit (then_exit (block_exit ?_))
    refine then_normal ?_
    refine wp_seq ?_
    refine wp_region_N [(0, 1), (1, 1)] (by kernel_rfl) ?_
    refine wpS_this [0, 1] rfl (by kernel_rfl) (by simp only [pickL, nthL, List.cons_append, List.nil_append]; rfl) ?_
    repeat (go_big_quiet_step (fail))
    refine wpQuiet_nil ?_
    refine wpS_nil ?_
    refine then_normal ?_
    refine wp_ret ?_
    refine bodyPost_ret (results_tmp rfl _ _ _) rfl ?_
    rw [show l.filter P = (l.take k).filter P from by rw [List.take_of_length_le hge.out]]
    exact doesU_ret (post := fun u => [rowT elemV u ((l.take k).filter P), K, R]) (Mem.only (M := [_, _, _]) HM1.out [0, 0, 0] rfl) rfl
end
section
open Go Go.RowKit Go.BigFrame
theorem foldI_step (l : List Vl) {m : List Vl} {k : Nat} {y : Vl} (q : Vl → Bool) (h : m[k]? = some y) : foldI l ((m.take (k + 1)).filter q) = if q y = true then insB y (foldI l ((m.take k).filter q)) else foldI l ((m.take k).filter q) := by
  rw [filter_step h]
  unfold foldI
  rw [List.foldl_append]
  split <;> rfl
theorem srt_part {a b : Bg} (ha : MayB a) (hb : MayB b) (k : Nat) : Srt (foldI (keptA a b) ((b.v.take k).filter fun x => !hasV a.k x.1)) :=
  srt_foldI (ha.srt.sublist List.filter_sublist) ((srt_take hb.srt k).sublist List.filter_sublist) fun x hx y hy e => by
    have h1 := ha.has x (mem_keptA.1 hx).1
    have h2 := (List.mem_filter.1 hy).2
    rw [← e, h1] at h2
    cases h2
theorem part_len {a b : Bg} (ha : MayB a) (hb : MayB b) (k : Nat) : (foldI (keptA a b) ((b.v.take k).filter fun x => !hasV a.k x.1)).length ≤ 64 := by
  rw [foldI_len]
  have h1 : (keptA a b).length ≤ a.v.length := List.length_filter_le _ _
  have h2 := filter_le (fun x : Vl => !hasV a.k x.1) b.v k
  have h3 := ha.len
  have h4 := hb.len
  omega
theorem join_ways4 {a b x : Bg} {e : Int} (h : joinBR a b = (x, e)) : (mayB a = false ∧ x = noB ∧ e = 1) ∨ (mayB a = true ∧ mayB b = false ∧ x = noB ∧ e = 1) ∨ (mayB a = true ∧ mayB b = true ∧ ¬ (joinB a b).v.length ≤ 32 ∧ x = noB ∧ e = 5) ∨ (mayB a = true ∧ mayB b = true ∧ (joinB a b).v.length ≤ 32 ∧ x = joinB a b ∧ e = 0) := by
  unfold joinBR at h
  cases h1 : mayB a
  · rw [if_neg (by rw [h1]; simp)] at h
    obtain ⟨k1, k2⟩ := Prod.mk.inj h
    exact .inl ⟨rfl, k1.symm, k2.symm⟩
  · cases h2 : mayB b
    · rw [if_neg (by rw [h2]; simp)] at h
      obtain ⟨k1, k2⟩ := Prod.mk.inj h
      exact .inr (.inl ⟨rfl, rfl, k1.symm, k2.symm⟩)
    · rw [if_pos ⟨h1, h2⟩] at h
      split at h
      · obtain ⟨k1, k2⟩ := Prod.mk.inj h
        exact .inr (.inr (.inr ⟨rfl, rfl, by assumption, k1.symm, k2.symm⟩))
      · obtain ⟨k1, k2⟩ := Prod.mk.inj h
        exact .inr (.inr (.inl ⟨rfl, rfl, by assumption, k1.symm, k2.symm⟩))
theorem dotB_ways (d1 d2 : Int) : (¬ 0 ≤ d1 ∧ dotB (d1, d2) = false) ∨ (0 ≤ d1 ∧ ¬ d1 < 8 ∧ dotB (d1, d2) = false) ∨ (0 ≤ d1 ∧ d1 < 8 ∧ ¬ 1 ≤ d2 ∧ dotB (d1, d2) = false) ∨ (0 ≤ d1 ∧ d1 < 8 ∧ 1 ≤ d2 ∧ ¬ d2 ≤ 1000000 ∧ dotB (d1, d2) = false) ∨ (0 ≤ d1 ∧ d1 < 8 ∧ 1 ≤ d2 ∧ d2 ≤ 1000000 ∧ dotB (d1, d2) = true) := by
  have hn : ¬ ((0 ≤ d1 ∧ d1 < 8) ∧ 1 ≤ d2 ∧ d2 ≤ 1000000) → dotB (d1, d2) = false := fun h => by
    rw [← Bool.not_eq_true, dotB_iff]
    exact h
  by_cases h1 : 0 ≤ d1
  · by_cases h2 : d1 < 8
    · by_cases h3 : 1 ≤ d2
      · by_cases h4 : d2 ≤ 1000000
        · exact .inr (.inr (.inr (.inr ⟨h1, h2, h3, h4, dotB_iff.2 ⟨⟨h1, h2⟩, h3, h4⟩⟩)))
        · exact .inr (.inr (.inr (.inl ⟨h1, h2, h3, h4, hn (by omega)⟩)))
      · exact .inr (.inr (.inl ⟨h1, h2, h3, hn (by omega)⟩))
    · exact .inr (.inl ⟨h1, h2, hn (by omega)⟩)
  · exact .inl ⟨h1, hn (by omega)⟩
theorem put_ways5 {b x : Bg} {k : Nat → Int} {d : En} {t : ByteArray} {e : Int} (h : putBR b k d t = (x, e)) : (mayB b = false ∧ x = noB ∧ e = 1) ∨ (mayB b = true ∧ mayV k = false ∧ x = noB ∧ e = 1) ∨ (mayB b = true ∧ mayV k = true ∧ dotB d = false ∧ x = noB ∧ e = 1) ∨ (mayB b = true ∧ mayV k = true ∧ dotB d = true ∧ hasV b.k d = true ∧ x = noB ∧ e = 1) ∨ (mayB b = true ∧ mayV k = true ∧ dotB d = true ∧ hasV b.k d = false ∧ ¬ t.size ≤ 64 ∧ x = noB ∧ e = 1) ∨ (mayB b = true ∧ mayV k = true ∧ dotB d = true ∧ hasV b.k d = false ∧ t.size ≤ 64 ∧ ¬ (putB b k d t).v.length ≤ 32 ∧ x = noB ∧ e = 5) ∨ (mayB b = true ∧ mayV k = true ∧ dotB d = true ∧ hasV b.k d = false ∧ t.size ≤ 64 ∧ (putB b k d t).v.length ≤ 32 ∧ x = putB b k d t ∧ e = 0) := by
  unfold putBR at h
  by_cases hc : mayB b = true ∧ mayV k = true ∧ dotB d = true ∧ hasV b.k d = false ∧ t.size ≤ 64
  · rw [if_pos hc] at h
    obtain ⟨c1, c2, c3, c4, c5⟩ := hc
    split at h
    · obtain ⟨k1, k2⟩ := Prod.mk.inj h
      exact .inr (.inr (.inr (.inr (.inr (.inr ⟨c1, c2, c3, c4, c5, by assumption, k1.symm, k2.symm⟩)))))
    · obtain ⟨k1, k2⟩ := Prod.mk.inj h
      exact .inr (.inr (.inr (.inr (.inr (.inl ⟨c1, c2, c3, c4, c5, by assumption, k1.symm, k2.symm⟩)))))
  · rw [if_neg hc] at h
    obtain ⟨k1, k2⟩ := Prod.mk.inj h
    cases c1 : mayB b with
    | false => exact .inl ⟨rfl, k1.symm, k2.symm⟩
    | true =>
      cases c2 : mayV k with
      | false => exact .inr (.inl ⟨rfl, rfl, k1.symm, k2.symm⟩)
      | true =>
        cases c3 : dotB d with
        | false => exact .inr (.inr (.inl ⟨rfl, rfl, rfl, k1.symm, k2.symm⟩))
        | true =>
          cases c4 : hasV b.k d with
          | true => exact .inr (.inr (.inr (.inl ⟨rfl, rfl, rfl, rfl, k1.symm, k2.symm⟩)))
          | false => exact .inr (.inr (.inr (.inr (.inl ⟨rfl, rfl, rfl, rfl, fun q => hc ⟨c1, c2, c3, c4, q⟩, k1.symm, k2.symm⟩))))
theorem vl_dot {y : Vl} {p : Nat → Value → Prop} (h : ∀ k u, (elemV.enc y)[k]? = some u → p k u) : ∀ k u, ([.int .i64 y.1.1, .int .i64 y.1.2] : List Value)[k]? = some u → p k u := fun k u hk => by
  refine h k u ?_
  match k, hk with
  | 0, hk => exact hk
  | 1, hk => exact hk
  | k + 2, hk => simp at hk
set_option maxHeartbeats 4000000 in
set_option maxRecDepth 100000 in
theorem bdot_d (d1 d2 : Int) : Does Tryz.prog 100 #[.agg #[.int .i64 d1, .int .i64 d2]] [] (.bool (dotB (d1, d2))) [] := by
  intro w H hp
  have HM0 := Lib.hid (mem_refl hp)
  clear hp
  go_enter Tryz.func100, Tryz.ntmps100
  refine wp_seq ?_
  refine wp_region_N [(0, 3), (1, 1)] (by kernel_rfl) ?_
  refine wpS_boxA (i := 0) (dd := 1) rfl (by rfl) rfl rfl HM0.out covS_nil rfl ?_
  rintro b3 W2 hm1 -
  have HM4 := Lib.hid hm1
  clear hm1
  simp only [Act.put, List.setIfInBounds_toArray, List.set_cons_succ, List.set_cons_zero]
  refine wpS_this [1] rfl (by kernel_rfl) (by simp only [pickL, nthL, List.cons_append, List.nil_append]; rfl) ?_
  repeat (go_big_quiet_step (fail))
  refine wpQuiet_nil ?_
  refine wpS_nil ?_
  refine then_normal ?_
  refine wp_seq ?_
  rcases dotB_ways d1 d2 with ⟨h1, hc⟩ | ⟨h1, h2, hc⟩ | ⟨h1, h2, h3, hc⟩ | ⟨h1, h2, h3, h4, hc⟩ | ⟨h1, h2, h3, h4, hc⟩
  · have g1 : decide (0 ≤ d1) = false := decide_eq_false h1
    replace hc := Lib.hid hc
    clear h1
    refine wp_region_N [(0, 1), (1, 1), (2, 1), (3, 1), (4, 1), (5, 1), (6, 1), (7, 1), (8, 1), (9, 1), (10, 1), (11, 1), (12, 1), (13, 1), (14, 1), (15, 1), (16, 1), (17, 1), (18, 1)] (by kernel_rfl) ?_
    have Cb1 := Mem.cell HM4.out 0 rfl
    refine wpS_this [0, 1, 2, 3, 4, 5, 6, 7, 8, 9, 10, 11, 12, 13, 14, 15, 16, 17, 18] rfl (by kernel_rfl) (by simp only [pickL, nthL, List.cons_append, List.nil_append]; rfl) ?_
    repeat (go_big_quiet_step (fail))
    refine wpQuiet_nil ?_
    clear Cb1
    refine wpS_nil ?_
    refine then_normal ?_
    refine wp_ret ?_
    refine bodyPost_ret (results_tmp rfl _ _ _) rfl ?_
    rw [hc.out]
    exact does_ret (Mem.only (M := []) HM4.out [] rfl) rfl rfl
  · have g1 : decide (0 ≤ d1) = true := decide_eq_true h1
    have g2 : decide (d1 < 8) = false := decide_eq_false h2
    replace hc := Lib.hid hc
    clear h1 h2
    refine wp_region_N [(0, 1), (1, 1), (2, 1), (3, 1), (4, 1), (5, 1), (6, 1), (7, 1), (8, 1), (9, 1), (10, 1), (11, 1), (12, 1), (13, 1), (14, 1), (15, 1), (16, 1), (17, 1), (18, 1)] (by kernel_rfl) ?_
    have Cb1 := Mem.cell HM4.out 0 rfl
    refine wpS_this [0, 1, 2, 3, 4, 5, 6, 7, 8, 9, 10, 11, 12, 13, 14, 15, 16, 17, 18] rfl (by kernel_rfl) (by simp only [pickL, nthL, List.cons_append, List.nil_append]; rfl) ?_
    repeat (go_big_quiet_step (fail))
    refine wpQuiet_nil ?_
    clear Cb1
    refine wpS_nil ?_
    refine then_normal ?_
    refine wp_ret ?_
    refine bodyPost_ret (results_tmp rfl _ _ _) rfl ?_
    rw [hc.out]
    exact does_ret (Mem.only (M := []) HM4.out [] rfl) rfl rfl
  · have g1 : decide (0 ≤ d1) = true := decide_eq_true h1
    have g2 : decide (d1 < 8) = true := decide_eq_true h2
    have g3 : decide (1 ≤ d2) = false := decide_eq_false h3
    replace hc := Lib.hid hc
    clear h1 h2 h3
    refine wp_region_N [(0, 1), (1, 1), (2, 1), (3, 1), (4, 1), (5, 1), (6, 1), (7, 1), (8, 1), (9, 1), (10, 1), (11, 1), (12, 1), (13, 1), (14, 1), (15, 1), (16, 1), (17, 1), (18, 1)] (by kernel_rfl) ?_
    have Cb1 := Mem.cell HM4.out 0 rfl
    refine wpS_this [0, 1, 2, 3, 4, 5, 6, 7, 8, 9, 10, 11, 12, 13, 14, 15, 16, 17, 18] rfl (by kernel_rfl) (by simp only [pickL, nthL, List.cons_append, List.nil_append]; rfl) ?_
    repeat (go_big_quiet_step (fail))
    refine wpQuiet_nil ?_
    clear Cb1
    refine wpS_nil ?_
    refine then_normal ?_
    refine wp_ret ?_
    refine bodyPost_ret (results_tmp rfl _ _ _) rfl ?_
    rw [hc.out]
    exact does_ret (Mem.only (M := []) HM4.out [] rfl) rfl rfl
  · have g1 : decide (0 ≤ d1) = true := decide_eq_true h1
    have g2 : decide (d1 < 8) = true := decide_eq_true h2
    have g3 : decide (1 ≤ d2) = true := decide_eq_true h3
    have g4 : decide (d2 ≤ 1000000) = false := decide_eq_false h4
    replace hc := Lib.hid hc
    clear h1 h2 h3 h4
    refine wp_region_N [(0, 1), (1, 1), (2, 1), (3, 1), (4, 1), (5, 1), (6, 1), (7, 1), (8, 1), (9, 1), (10, 1), (11, 1), (12, 1), (13, 1), (14, 1), (15, 1), (16, 1), (17, 1), (18, 1)] (by kernel_rfl) ?_
    have Cb1 := Mem.cell HM4.out 0 rfl
    refine wpS_this [0, 1, 2, 3, 4, 5, 6, 7, 8, 9, 10, 11, 12, 13, 14, 15, 16, 17, 18] rfl (by kernel_rfl) (by simp only [pickL, nthL, List.cons_append, List.nil_append]; rfl) ?_
    repeat (go_big_quiet_step (fail))
    refine wpQuiet_nil ?_
    clear Cb1
    refine wpS_nil ?_
    refine then_normal ?_
    refine wp_ret ?_
    refine bodyPost_ret (results_tmp rfl _ _ _) rfl ?_
    rw [hc.out]
    exact does_ret (Mem.only (M := []) HM4.out [] rfl) rfl rfl
  · have g1 : decide (0 ≤ d1) = true := decide_eq_true h1
    have g2 : decide (d1 < 8) = true := decide_eq_true h2
    have g3 : decide (1 ≤ d2) = true := decide_eq_true h3
    have g4 : decide (d2 ≤ 1000000) = true := decide_eq_true h4
    replace hc := Lib.hid hc
    clear h1 h2 h3 h4
    refine wp_region_N [(0, 1), (1, 1), (2, 1), (3, 1), (4, 1), (5, 1), (6, 1), (7, 1), (8, 1), (9, 1), (10, 1), (11, 1), (12, 1), (13, 1), (14, 1), (15, 1), (16, 1), (17, 1), (18, 1)] (by kernel_rfl) ?_
    have Cb1 := Mem.cell HM4.out 0 rfl
    refine wpS_this [0, 1, 2, 3, 4, 5, 6, 7, 8, 9, 10, 11, 12, 13, 14, 15, 16, 17, 18] rfl (by kernel_rfl) (by simp only [pickL, nthL, List.cons_append, List.nil_append]; rfl) ?_
    repeat (go_big_quiet_step (fail))
    refine wpQuiet_nil ?_
    clear Cb1
    refine wpS_nil ?_
    refine then_normal ?_
    refine wp_ret ?_
    refine bodyPost_ret (results_tmp rfl _ _ _) rfl ?_
    rw [hc.out]
    exact does_ret (Mem.only (M := []) HM4.out [] rfl) rfl rfl
set_option maxHeartbeats 4000000 in
set_option maxRecDepth 100000 in
theorem bjoin1_d (R : At) (c : Nat) (sb : Value) (b : Bg) (hb : Reads elemV R sb b.v) (lb : b.v.length ≤ 4398046510976) (hs : Srt b.v) (y : Vl) : Does Tryz.prog 119 #[vlV y, .pointer (some ⟨c, 0, none⟩)] [boxT c (.cells (bgC b.k (sb)).toArray 41 (0, 0)), R] (.bool (heldL b.v y.1 || !hasV b.k y.1)) [boxT c (.cells (bgC b.k (sb)).toArray 41 (0, 0)), R] := by
  intro w H hp
  have HM0 := Lib.hid (mem_refl hp)
  clear hp
  go_enter Tryz.func119, Tryz.ntmps119
  refine wp_seq ?_
  refine wp_region_N [(0, 3), (1, 1)] (by kernel_rfl) ?_
  refine wpS_boxA (i := 0) (dd := 2) rfl (by rfl) rfl rfl HM0.out covS_nil rfl ?_
  rintro b3 W2 hm1 -
  have HM4 := Lib.hid hm1
  clear hm1
  simp only [Act.put, List.setIfInBounds_toArray, List.set_cons_succ, List.set_cons_zero]
  refine wpS_this [1] rfl (by kernel_rfl) (by simp only [pickL, nthL, List.cons_append, List.nil_append]; rfl) ?_
  repeat (go_big_quiet_step (fail))
  refine wpQuiet_nil ?_
  refine wpS_nil ?_
  refine then_normal ?_
  refine wp_seq ?_
  obtain ⟨z, hz'⟩ := bool_letter (heldL b.v y.1 || !hasV b.k y.1)
  rw [hz']
  obtain ⟨q, hq'⟩ := bool_letter (hasV b.k y.1)
  have hq := Lib.hid hq'
  clear hq'
  cases q
  · have hc : Hid (z = true) := Lib.hid (by rw [← hz', hq.out]; simp)
    clear hz'
    refine wp_region_N [(0, 1), (1, 1), (2, 1), (3, 1), (4, 3), (5, 1), (6, 1), (7, 1), (8, 1), (9, 1), (10, 1), (11, 3), (12, 1), (13, 1)] (by kernel_rfl) ?_
    refine wpS_this [0] rfl (by kernel_rfl) (by simp only [pickL, nthL, List.cons_append, List.nil_append]; rfl) ?_
    repeat (go_big_quiet_step (fail))
    refine wpQuiet_nil ?_
    refine wpS_loadA (i := 1) (d := some 5) (cells := vcC (b.k)) rfl (by rfl) rfl rfl (HM4.out.part 1 rfl (bgC_vc)) Tryz.underlying38 rfl (by kernel_rfl) rfl ?_
    simp only [Act.put, List.setIfInBounds_toArray, List.set_cons_succ, List.set_cons_zero]
    have Cb2 := Mem.cell HM4.out 0 rfl
    refine wpS_this [2, 3] rfl (by kernel_rfl) (by simp only [pickL, nthL, List.cons_append, List.nil_append]; rfl) ?_
    repeat (go_big_quiet_step (fail))
    refine wpQuiet_nil ?_
    clear Cb2
    refine wpS_does2 (i := 4) (d := some 8) (rem := [_, _, _]) (out := [_, _, _]) rfl (by rfl) rfl Tryz.call101 (chas_d b.k y.1.1 y.1.2) rfl rfl HM4.out [] rfl covS_nil rfl rfl ?_
    rintro W6 hm5 -
    rw [show hasV b.k (y.1.1, y.1.2) = _ from hq.out]
    have HM7 := Lib.hid hm5
    clear hm5
    simp only [Act.put, List.setIfInBounds_toArray, List.set_cons_succ, List.set_cons_zero]
    refine wpS_this [5, 6, 7] rfl (by kernel_rfl) (by simp only [pickL, nthL, List.cons_append, List.nil_append]; rfl) ?_
    repeat (go_big_quiet_step (fail))
    refine wpQuiet_nil ?_
    refine wpS_skip (i := 8) (d := some 12) rfl (by rfl) rfl ?_
    simp only [Act.put, List.setIfInBounds_toArray, List.set_cons_succ, List.set_cons_zero]
    have Cb2 := Mem.cell HM7.out 0 rfl
    refine wpS_this [9, 10] rfl (by kernel_rfl) (by simp only [pickL, nthL, List.cons_append, List.nil_append]; rfl) ?_
    repeat (go_big_quiet_step (fail))
    refine wpQuiet_nil ?_
    clear Cb2
    refine wpS_skip (i := 11) (d := some 15) rfl (by rfl) rfl ?_
    simp only [Act.put, List.setIfInBounds_toArray, List.set_cons_succ, List.set_cons_zero]
    refine wpS_this [12, 13] rfl (by kernel_rfl) (by simp only [pickL, nthL, List.cons_append, List.nil_append]; rfl) ?_
    repeat (go_big_quiet_step (fail))
    refine wpQuiet_nil ?_
    refine wpS_nil ?_
    refine then_normal ?_
    refine wp_ret ?_
    refine bodyPost_ret (results_tmp rfl _ _ _) rfl ?_
    rw [hc.out]
    exact does_ret (Mem.only (M := [_, _]) HM7.out [1, 1] rfl) rfl rfl
  · have hc : Hid (z = heldL b.v y.1) := Lib.hid (by rw [← hz', hq.out]; simp)
    clear hz'
    refine wp_region_N [(0, 1), (1, 1), (2, 1), (3, 1), (4, 3), (5, 1), (6, 1), (7, 1), (8, 1), (9, 1), (10, 1), (11, 3), (12, 1), (13, 1)] (by kernel_rfl) ?_
    refine wpS_this [0] rfl (by kernel_rfl) (by simp only [pickL, nthL, List.cons_append, List.nil_append]; rfl) ?_
    repeat (go_big_quiet_step (fail))
    refine wpQuiet_nil ?_
    refine wpS_loadA (i := 1) (d := some 5) (cells := vcC (b.k)) rfl (by rfl) rfl rfl (HM4.out.part 1 rfl (bgC_vc)) Tryz.underlying38 rfl (by kernel_rfl) rfl ?_
    simp only [Act.put, List.setIfInBounds_toArray, List.set_cons_succ, List.set_cons_zero]
    have Cb2 := Mem.cell HM4.out 0 rfl
    refine wpS_this [2, 3] rfl (by kernel_rfl) (by simp only [pickL, nthL, List.cons_append, List.nil_append]; rfl) ?_
    repeat (go_big_quiet_step (fail))
    refine wpQuiet_nil ?_
    clear Cb2
    refine wpS_does2 (i := 4) (d := some 8) (rem := [_, _, _]) (out := [_, _, _]) rfl (by rfl) rfl Tryz.call101 (chas_d b.k y.1.1 y.1.2) rfl rfl HM4.out [] rfl covS_nil rfl rfl ?_
    rintro W9 hm8 -
    rw [show hasV b.k (y.1.1, y.1.2) = _ from hq.out]
    have HM10 := Lib.hid hm8
    clear hm8
    simp only [Act.put, List.setIfInBounds_toArray, List.set_cons_succ, List.set_cons_zero]
    refine wpS_this [5, 6, 7] rfl (by kernel_rfl) (by simp only [pickL, nthL, List.cons_append, List.nil_append]; rfl) ?_
    repeat (go_big_quiet_step (fail))
    refine wpQuiet_nil ?_
    refine wpS_load1 (i := 8) (d := some 12) (u := sb) rfl (by rfl) rfl rfl (HM10.out.part1 1 rfl bgC_sl) Tryz.underlying39 rfl rfl ?_
    simp only [Act.put, List.setIfInBounds_toArray, List.set_cons_succ, List.set_cons_zero]
    have Cb2 := Mem.cell HM10.out 0 rfl
    refine wpS_this [9, 10] rfl (by kernel_rfl) (by simp only [pickL, nthL, List.cons_append, List.nil_append]; rfl) ?_
    repeat (go_big_quiet_step (fail))
    refine wpQuiet_nil ?_
    clear Cb2
    refine wpS_does2 (i := 11) (d := some 15) (rem := [_, _]) (out := [_, _, _]) rfl (by rfl) rfl Tryz.call120 (bheld_d R _ b.v (fun W H h => rowAt_src (hb W H h)) hs lb y.1.1 y.1.2) rfl rfl HM10.out [2] rfl covS_nil rfl rfl ?_
    rintro W12 hm11 -
    have HM13 := Lib.hid hm11
    clear hm11
    simp only [Act.put, List.setIfInBounds_toArray, List.set_cons_succ, List.set_cons_zero]
    refine wpS_this [12, 13] rfl (by kernel_rfl) (by simp only [pickL, nthL, List.cons_append, List.nil_append]; rfl) ?_
    repeat (go_big_quiet_step (fail))
    refine wpQuiet_nil ?_
    refine wpS_nil ?_
    refine then_normal ?_
    refine wp_ret ?_
    refine bodyPost_ret (results_tmp rfl _ _ _) rfl ?_
    rw [hc.out]
    exact does_ret (Mem.only (M := [_, _]) HM13.out [2, 0] rfl) rfl rfl
set_option maxHeartbeats 4000000 in
set_option maxRecDepth 100000 in
theorem bput1_d (R : At) (c : Nat) (k : Nat → Int) (y : Vl) : Does Tryz.prog 103 #[vlV y, .pointer (some ⟨c, 0, none⟩)] [boxT c (.cells (vcC k).toArray 38 (0, 0)), R] (.bool (!hasV k y.1)) [boxT c (.cells (vcC k).toArray 38 (0, 0)), R] := by
  intro w H hp
  have HM0 := Lib.hid (mem_refl hp)
  clear hp
  go_enter Tryz.func103, Tryz.ntmps103
  refine wp_seq ?_
  refine wp_region_N [(0, 3), (1, 1)] (by kernel_rfl) ?_
  refine wpS_boxA (i := 0) (dd := 2) rfl (by rfl) rfl rfl HM0.out covS_nil rfl ?_
  rintro b3 W2 hm1 -
  have HM4 := Lib.hid hm1
  clear hm1
  simp only [Act.put, List.setIfInBounds_toArray, List.set_cons_succ, List.set_cons_zero]
  refine wpS_this [1] rfl (by kernel_rfl) (by simp only [pickL, nthL, List.cons_append, List.nil_append]; rfl) ?_
  repeat (go_big_quiet_step (fail))
  refine wpQuiet_nil ?_
  refine wpS_nil ?_
  refine then_normal ?_
  refine wp_seq ?_
  refine wp_region_N [(0, 1), (1, 1), (2, 1), (3, 3), (4, 1), (5, 1)] (by kernel_rfl) ?_
  refine wpS_loadA (i := 0) (d := some 4) (cells := vcC (k)) rfl (by rfl) rfl rfl (HM4.out.cells0 1 rfl) Tryz.underlying38 rfl (by kernel_rfl) rfl ?_
  simp only [Act.put, List.setIfInBounds_toArray, List.set_cons_succ, List.set_cons_zero]
  have Cb2 := Mem.cell HM4.out 0 rfl
  refine wpS_this [1, 2] rfl (by kernel_rfl) (by simp only [pickL, nthL, List.cons_append, List.nil_append]; rfl) ?_
  repeat (go_big_quiet_step (fail))
  refine wpQuiet_nil ?_
  clear Cb2
  refine wpS_does2 (i := 3) (d := some 7) (rem := [_, _, _]) (out := [_, _, _]) rfl (by rfl) rfl Tryz.call101 (chas_d k y.1.1 y.1.2) rfl rfl HM4.out [] rfl covS_nil rfl rfl ?_
  rintro W6 hm5 -
  have HM7 := Lib.hid hm5
  clear hm5
  simp only [Act.put, List.setIfInBounds_toArray, List.set_cons_succ, List.set_cons_zero]
  refine wpS_this [4, 5] rfl (by kernel_rfl) (by simp only [pickL, nthL, List.cons_append, List.nil_append]; rfl) ?_
  repeat (go_big_quiet_step (fail))
  refine wpQuiet_nil ?_
  refine wpS_nil ?_
  refine then_normal ?_
  refine wp_ret ?_
  refine bodyPost_ret (results_tmp rfl _ _ _) rfl ?_
  exact does_ret (Mem.only (M := [_, _]) HM7.out [1, 1] rfl) rfl rfl
set_option maxHeartbeats 4000000 in
set_option maxRecDepth 100000 in
theorem bmade_d (k : Nat → Int) (p : Option Addr) (n c : Nat) : Does Tryz.prog 105 #[vV k, .slice p n c] [] (if n ≤ 32 then .tuple #[bgV k (.slice p n c), .int .i64 0] else .tuple #[bgV noB.k (.slice none 0 0), .int .i64 5]) [] := by
  intro w H hp
  have HM0 := Lib.hid (mem_refl hp)
  clear hp
  go_enter Tryz.func105, Tryz.ntmps105
  refine wp_seq ?_
  refine wp_region_N [(0, 3), (1, 3), (2, 1)] (by kernel_rfl) ?_
  refine wpS_boxA (i := 0) (dd := 2) rfl (by rfl) rfl rfl HM0.out covS_nil rfl ?_
  rintro b3 W2 hm1 -
  have HM4 := Lib.hid hm1
  clear hm1
  simp only [Act.put, List.setIfInBounds_toArray, List.set_cons_succ, List.set_cons_zero]
  refine wpS_alloc (i := 1) (dd := 4) (z := bgV noB.k (.slice none 0 0)) (cs := (bgC noB.k (.slice none 0 0)).toArray) rfl (by rfl) rfl (by kernel_rfl) rfl HM4.out covS_nil rfl ?_
  rintro b7 W6 hm5 -
  have HM8 := Lib.hid hm5
  clear hm5
  simp only [Act.put, List.setIfInBounds_toArray, List.set_cons_succ, List.set_cons_zero]
  refine wpS_this [2] rfl (by kernel_rfl) (by simp only [pickL, nthL, List.cons_append, List.nil_append]; rfl) ?_
  repeat (go_big_quiet_step (fail))
  refine wpQuiet_nil ?_
  refine wpS_nil ?_
  refine then_normal ?_
  refine wp_seq ?_
  refine wp_seq ?_
  by_cases h1 : n ≤ 32
  · have g1 : decide ((32 : Int) < (n : Int)) = false := decide_eq_false (by omega)
    have g1' : decide (32 < n) = false := decide_eq_false (by omega)
    rw [if_pos h1]
    refine wp_region_N [(0, 1), (1, 1), (2, 1)] (by kernel_rfl) ?_
    refine wpS_this [0, 1, 2] rfl (by kernel_rfl) (by simp only [pickL, nthL, List.cons_append, List.nil_append]; rfl) ?_
    repeat (go_big_quiet_step (fail))
    refine wpQuiet_nil ?_
    refine wpS_nil ?_
    refine then_normal ?_
    refine wp_cond_false rfl ?_
    refine wp_skip ?_
    refine then_normal ?_
    refine wp_seq ?_
    refine wp_region_N [(0, 1), (1, 1), (2, 1), (3, 3), (4, 1)] (by kernel_rfl) ?_
    refine wpS_loadA (i := 0) (d := some 10) (cells := vcC (k)) rfl (by rfl) rfl rfl (HM8.out.cells0 1 rfl) Tryz.underlying38 rfl (by kernel_rfl) rfl ?_
    simp only [Act.put, List.setIfInBounds_toArray, List.set_cons_succ, List.set_cons_zero]
    refine wpS_this [1] rfl (by kernel_rfl) (by simp only [pickL, nthL, List.cons_append, List.nil_append]; rfl) ?_
    repeat (go_big_quiet_step (fail))
    refine wpQuiet_nil ?_
    refine wpS_read (i := 2) (d := some 12) (v := bgV k (.slice p n c)) rfl (by rfl) (by kernel_rfl) rfl ?_
    simp only [Act.put, List.setIfInBounds_toArray, List.set_cons_succ, List.set_cons_zero]
    refine wpS_storeA (i := 3) (L2 := [_]) (cs' := bgC (k) (.slice p n c)) rfl (by rfl) rfl rfl rfl (by kernel_rfl) (bgC_one _ _ _) HM8.out 0 rfl rfl (by kernel_rfl) (by kernel_rfl) covS_nil rfl ?_
    rintro W10 hm9 -
    have HM11 := Lib.hid hm9
    clear hm9
    refine wpS_this [4] rfl (by kernel_rfl) (by simp only [pickL, nthL, List.cons_append, List.nil_append]; rfl) ?_
    repeat (go_big_quiet_step (fail))
    refine wpQuiet_nil ?_
    refine wpS_nil ?_
    refine then_normal ?_
    refine wp_ret ?_
    refine ret_cell_tmp rfl HM11.out 0 rfl rfl Tryz.underlying41 rfl (by kernel_rfl) rfl rfl ?_
    exact does_ret (Mem.only (M := []) HM11.out [] rfl) rfl rfl
  · have g1 : decide ((32 : Int) < (n : Int)) = true := decide_eq_true (by omega)
    have g1' : decide (32 < n) = true := decide_eq_true (by omega)
    rw [if_neg h1]
    refine wp_region_N [(0, 1), (1, 1), (2, 1)] (by kernel_rfl) ?_
    refine wpS_this [0, 1, 2] rfl (by kernel_rfl) (by simp only [pickL, nthL, List.cons_append, List.nil_append]; rfl) ?_
    repeat (go_big_quiet_step (fail))
    refine wpQuiet_nil ?_
    refine wpS_nil ?_
    refine then_normal ?_
    refine wp_cond_true rfl ?_
    refine wp_seq ?_
    refine wp_region_N [(0, 1), (1, 3), (2, 1)] (by kernel_rfl) ?_
    refine wpS_this [0] rfl (by kernel_rfl) (by simp only [pickL, nthL, List.cons_append, List.nil_append]; rfl) ?_
    repeat (go_big_quiet_step (fail))
    refine wpQuiet_nil ?_
    refine wpS_storeA (i := 1) (L2 := [_]) (cs' := bgC (noB.k) (.slice none 0 0)) rfl (by rfl) rfl rfl rfl (by kernel_rfl) (bgC_one _ _ _) HM8.out 0 rfl rfl (by kernel_rfl) (by kernel_rfl) covS_nil rfl ?_
    rintro W13 hm12 -
    have HM14 := Lib.hid hm12
    clear hm12
    refine wpS_this [2] rfl (by kernel_rfl) (by simp only [pickL, nthL, List.cons_append, List.nil_append]; rfl) ?_
    repeat (go_big_quiet_step (fail))
    refine wpQuiet_nil ?_
    refine wpS_nil ?_
    refine then_normal ?_
    refine wp_ret ?_
    refine then_ret ?_
    refine ret_cell_tmp rfl HM14.out 0 rfl rfl Tryz.underlying41 rfl (by kernel_rfl) rfl rfl ?_
    exact does_ret (Mem.only (M := []) HM14.out [] rfl) rfl rfl
end
end Go.Proofs.YtcchkkdbagpgjaaGreat
