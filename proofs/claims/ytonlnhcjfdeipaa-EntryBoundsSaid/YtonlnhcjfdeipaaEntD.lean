/- Entries: EntryBounds. -/
import Derived.Test.YtonlnhcjfdeipaaEntC
namespace Go.Proofs.Ytonlnhcjfdeipaa
open Go Go.RowKit Go.BigFrame

set_option maxHeartbeats 4000000 in
set_option maxRecDepth 100000 in
theorem bounds_d (e o to : Int) : Does Try.prog 6 #[.int .i64 e, .int .i64 o, .int .i64 to] [] (.bool true) [] := by
  intro w H hp
  have HM0 := Lib.hid (mem_refl hp)
  clear hp
  go_enter Try.func6, Try.ntmps6
  refine wp_seq ?_
  obtain ⟨f1, f2, fe, hf'⟩ := flip_letters (flipE (e, o) to)
  have hf := Lib.hid hf'
  clear hf'
  refine wp_region_N [(0, 1)] (by kernel_rfl) ?_
  refine wpS_this [0] rfl (by kernel_rfl) (by simp only [pickL, nthL, List.cons_append, List.nil_append]; rfl) ?_
  repeat (go_big_quiet_step (fail))
  refine wpQuiet_nil ?_
  refine wpS_nil ?_
  refine then_normal ?_
  refine wp_seq ?_
  refine wp_region_N [(0, 1), (1, 1), (2, 1), (3, 3), (4, 3)] (by kernel_rfl) ?_
  refine wpS_this [0, 1, 2] rfl (by kernel_rfl) (by simp only [pickL, nthL, List.cons_append, List.nil_append]; rfl) ?_
  repeat (go_big_quiet_step (fail))
  refine wpQuiet_nil ?_
  refine wpS_alloc (i := 3) (dd := 7) (z := .agg #[.int .i64 0, .int .i64 0]) (cs := #[.int .i64 0, .int .i64 0]) rfl (by rfl) rfl (by kernel_rfl) rfl HM0.out covS_nil rfl ?_
  rintro b3 W2 hm1 -
  have HM4 := Lib.hid hm1
  clear hm1
  simp only [Act.put, List.setIfInBounds_toArray, List.set_cons_succ, List.set_cons_zero]
  refine wpS_storeA (i := 4) (L2 := []) (cs' := [_, _]) rfl (by rfl) rfl rfl rfl (by kernel_rfl) (by rfl) HM4.out 0 rfl rfl rfl rfl covS_nil rfl ?_
  rintro W6 hm5 -
  have HM7 := Lib.hid hm5
  clear hm5
  refine wpS_nil ?_
  refine then_normal ?_
  refine wp_seq ?_
  refine wp_region_N [(0, 1), (1, 1), (2, 3), (3, 1), (4, 1), (5, 1), (6, 3), (7, 3), (8, 1)] (by kernel_rfl) ?_
  have Cb7 := Mem.cell HM7.out 0 rfl
  refine wpS_this [0, 1] rfl (by kernel_rfl) (by simp only [pickL, nthL, List.cons_append, List.nil_append]; rfl) ?_
  repeat (go_big_quiet_step (fail))
  refine wpQuiet_nil ?_
  clear Cb7
  refine wpS_does2 (i := 2) (d := some 18) (rem := [_]) (out := [_]) rfl (by rfl) rfl Try.call7 (flip_d e o to f1 f2 fe hf.out) rfl rfl HM7.out [] rfl covS_nil rfl rfl ?_
  rintro W9 hm8 -
  have HM10 := Lib.hid hm8
  clear hm8
  simp only [Act.put, List.setIfInBounds_toArray, List.set_cons_succ, List.set_cons_zero]
  refine wpS_this [3, 4, 5] rfl (by kernel_rfl) (by simp only [pickL, nthL, List.cons_append, List.nil_append]; rfl) ?_
  repeat (go_big_quiet_step (fail))
  refine wpQuiet_nil ?_
  refine wpS_alloc (i := 6) (dd := 8) (z := .agg #[.int .i64 0, .int .i64 0]) (cs := #[.int .i64 0, .int .i64 0]) rfl (by rfl) rfl (by kernel_rfl) rfl HM10.out covS_nil rfl ?_
  rintro b13 W12 hm11 -
  have HM14 := Lib.hid hm11
  clear hm11
  simp only [Act.put, List.setIfInBounds_toArray, List.set_cons_succ, List.set_cons_zero]
  refine wpS_storeA (i := 7) (L2 := [_]) (cs' := [_, _]) rfl (by rfl) rfl rfl rfl (by kernel_rfl) (by rfl) HM14.out 0 rfl rfl rfl rfl covS_nil rfl ?_
  rintro W16 hm15 -
  have HM17 := Lib.hid hm15
  clear hm15
  refine wpS_this [8] rfl (by kernel_rfl) (by simp only [pickL, nthL, List.cons_append, List.nil_append]; rfl) ?_
  repeat (go_big_quiet_step (fail))
  refine wpQuiet_nil ?_
  refine wpS_nil ?_
  refine then_normal ?_
  refine wp_seq ?_
  rcases may_cases e o with ⟨he, ho, hm⟩ | ⟨he, ho, hm⟩ | ⟨he, hm⟩ | ⟨he, he2, hm⟩ | ⟨he, he2, ho, hm⟩ | ⟨he, he2, ho, ho2, hm⟩ | ⟨he, he2, ho, ho2, hm⟩
  · have ge : (e == 0) = true := beq_iff_eq.2 he
    have go : (o == 0) = true := beq_iff_eq.2 ho
    replace hm := Lib.hid hm
    subst e
    subst o
    refine wp_region_N [(0, 1), (1, 1), (2, 1), (3, 1), (4, 1), (5, 1), (6, 1), (7, 1), (8, 1), (9, 1), (10, 1), (11, 1), (12, 1), (13, 1), (14, 1), (15, 1), (16, 1), (17, 1), (18, 1), (19, 1), (20, 1), (21, 1), (22, 1)] (by kernel_rfl) ?_
    refine wpS_this [0, 1, 2, 3, 4, 5, 6, 7, 8, 9, 10, 11, 12, 13, 14, 15, 16, 17, 18, 19, 20, 21, 22] rfl (by kernel_rfl) (by simp only [pickL, nthL, List.cons_append, List.nil_append]; rfl) ?_
    repeat (go_big_quiet_step (fail))
    refine wpQuiet_nil ?_
    refine wpS_nil ?_
    refine then_normal ?_
    refine wp_seq ?_
    refine wp_seq ?_
    refine wp_region_N [(0, 1), (1, 3), (2, 1), (3, 1)] (by kernel_rfl) ?_
    have Cb7 := Mem.cell HM17.out 1 rfl
    refine wpS_this [0] rfl (by kernel_rfl) (by simp only [pickL, nthL, List.cons_append, List.nil_append]; rfl) ?_
    repeat (go_big_quiet_step (fail))
    refine wpQuiet_nil ?_
    clear Cb7
    refine wpS_does1 (i := 1) (d := some 44) (rem := [_, _]) (out := [_, _]) rfl (by rfl) rfl Try.call9 (may_d 0 0) rfl HM17.out [] rfl covS_nil rfl rfl ?_
    rintro W19 hm18 -
    rw [hm.out]
    have HM20 := Lib.hid hm18
    clear hm18
    simp only [Act.put, List.setIfInBounds_toArray, List.set_cons_succ, List.set_cons_zero]
    refine wpS_this [2, 3] rfl (by kernel_rfl) (by simp only [pickL, nthL, List.cons_append, List.nil_append]; rfl) ?_
    repeat (go_big_quiet_step (fail))
    refine wpQuiet_nil ?_
    refine wpS_nil ?_
    refine then_normal ?_
    refine wp_cond_false rfl ?_
    refine wp_skip ?_
    refine then_normal ?_
    refine wp_seq ?_
    rcases (show to < 0 ∨ (0 ≤ to ∧ 8 ≤ to) ∨ (0 ≤ to ∧ to < 8) from by omega) with ht | ⟨ht, ht2⟩ | ⟨ht, ht2⟩
    · have hn : nodeE to = false := decide_eq_false (by omega)
      have g5 : decide (0 ≤ to) = false := decide_eq_false (by omega)
      obtain ⟨rf1, rf2, rf3⟩ := flip_no hf.out (.inr hn)
      subst f1
      subst f2
      subst fe
      clear hn
      refine wp_region_N [(0, 1), (1, 1), (2, 1), (3, 1), (4, 1), (5, 1), (6, 1)] (by kernel_rfl) ?_
      refine wpS_this [0, 1, 2, 3, 4, 5, 6] rfl (by kernel_rfl) (by simp only [pickL, nthL, List.cons_append, List.nil_append]; rfl) ?_
      repeat (go_big_quiet_step (fail))
      refine wpQuiet_nil ?_
      refine wpS_nil ?_
      refine then_normal ?_
      refine wp_seq ?_
      refine wp_block ?_
      refine wp_seq ?_
      refine wp_region_N [(0, 1), (1, 1), (2, 1), (3, 1), (4, 1), (5, 1), (6, 1)] (by kernel_rfl) ?_
      refine wpS_this [0, 1, 2, 3, 4, 5, 6] rfl (by kernel_rfl) (by simp only [pickL, nthL, List.cons_append, List.nil_append]; rfl) ?_
      repeat (go_big_quiet_step (fail))
      refine wpQuiet_nil ?_
      refine wpS_nil ?_
      refine then_normal ?_
      refine wp_cond_true rfl ?_
      refine wp_seq ?_
      refine wp_region_N [(0, 1), (1, 1), (2, 1), (3, 1), (4, 1), (5, 1), (6, 1), (7, 1), (8, 3), (9, 1), (10, 1)] (by kernel_rfl) ?_
      have Cb8 := Mem.cell HM20.out 0 rfl
      refine wpS_this [0, 1, 2, 3, 4] rfl (by kernel_rfl) (by simp only [pickL, nthL, List.cons_append, List.nil_append]; rfl) ?_
      repeat (go_big_quiet_step (fail))
      refine wpQuiet_nil ?_
      clear Cb8
      refine wpS_read (i := 5) (d := some 65) rfl (by rfl) (run_eqEb (p := (0, 0)) (q := (0, 0)) (decide_eq_true rfl) rfl rfl rfl) rfl ?_
      simp only [Act.put, List.setIfInBounds_toArray, List.set_cons_succ, List.set_cons_zero]
      refine wpS_this [6, 7] rfl (by kernel_rfl) (by simp only [pickL, nthL, List.cons_append, List.nil_append]; rfl) ?_
      repeat (go_big_quiet_step (fail))
      refine wpQuiet_nil ?_
      refine wpS_does0 (i := 8) (d := some 68) (rem := [_, _]) (out := [_, _]) rfl (by rfl) rfl Try.call15 (awake_d)  HM20.out [] rfl covS_nil rfl rfl ?_
      rintro W22 hm21 -
      have HM23 := Lib.hid hm21
      clear hm21
      simp only [Act.put, List.setIfInBounds_toArray, List.set_cons_succ, List.set_cons_zero]
      refine wpS_this [9, 10] rfl (by kernel_rfl) (by simp only [pickL, nthL, List.cons_append, List.nil_append]; rfl) ?_
      repeat (go_big_quiet_step (fail))
      refine wpQuiet_nil ?_
      refine wpS_nil ?_
      refine then_normal ?_
      refine wp_ret ?_
      refine block_ret (then_ret ?_)
      refine bodyPost_ret (results_tmp rfl _ _ _) rfl ?_
      exact does_ret (Mem.only (M := []) HM23.out [] rfl) rfl rfl
    · have hn : nodeE to = false := decide_eq_false (by omega)
      have g5 : decide (0 ≤ to) = true := decide_eq_true (by omega)
      have g6 : decide (to < 8) = false := decide_eq_false (by omega)
      obtain ⟨rf1, rf2, rf3⟩ := flip_no hf.out (.inr hn)
      subst f1
      subst f2
      subst fe
      clear hn
      refine wp_region_N [(0, 1), (1, 1), (2, 1), (3, 1), (4, 1), (5, 1), (6, 1)] (by kernel_rfl) ?_
      refine wpS_this [0, 1, 2, 3, 4, 5, 6] rfl (by kernel_rfl) (by simp only [pickL, nthL, List.cons_append, List.nil_append]; rfl) ?_
      repeat (go_big_quiet_step (fail))
      refine wpQuiet_nil ?_
      refine wpS_nil ?_
      refine then_normal ?_
      refine wp_seq ?_
      refine wp_block ?_
      refine wp_seq ?_
      refine wp_region_N [(0, 1), (1, 1), (2, 1), (3, 1), (4, 1), (5, 1), (6, 1)] (by kernel_rfl) ?_
      refine wpS_this [0, 1, 2, 3, 4, 5, 6] rfl (by kernel_rfl) (by simp only [pickL, nthL, List.cons_append, List.nil_append]; rfl) ?_
      repeat (go_big_quiet_step (fail))
      refine wpQuiet_nil ?_
      refine wpS_nil ?_
      refine then_normal ?_
      refine wp_cond_true rfl ?_
      refine wp_seq ?_
      refine wp_region_N [(0, 1), (1, 1), (2, 1), (3, 1), (4, 1), (5, 1), (6, 1), (7, 1), (8, 3), (9, 1), (10, 1)] (by kernel_rfl) ?_
      have Cb8 := Mem.cell HM20.out 0 rfl
      refine wpS_this [0, 1, 2, 3, 4] rfl (by kernel_rfl) (by simp only [pickL, nthL, List.cons_append, List.nil_append]; rfl) ?_
      repeat (go_big_quiet_step (fail))
      refine wpQuiet_nil ?_
      clear Cb8
      refine wpS_read (i := 5) (d := some 65) rfl (by rfl) (run_eqEb (p := (0, 0)) (q := (0, 0)) (decide_eq_true rfl) rfl rfl rfl) rfl ?_
      simp only [Act.put, List.setIfInBounds_toArray, List.set_cons_succ, List.set_cons_zero]
      refine wpS_this [6, 7] rfl (by kernel_rfl) (by simp only [pickL, nthL, List.cons_append, List.nil_append]; rfl) ?_
      repeat (go_big_quiet_step (fail))
      refine wpQuiet_nil ?_
      refine wpS_does0 (i := 8) (d := some 68) (rem := [_, _]) (out := [_, _]) rfl (by rfl) rfl Try.call15 (awake_d)  HM20.out [] rfl covS_nil rfl rfl ?_
      rintro W25 hm24 -
      have HM26 := Lib.hid hm24
      clear hm24
      simp only [Act.put, List.setIfInBounds_toArray, List.set_cons_succ, List.set_cons_zero]
      refine wpS_this [9, 10] rfl (by kernel_rfl) (by simp only [pickL, nthL, List.cons_append, List.nil_append]; rfl) ?_
      repeat (go_big_quiet_step (fail))
      refine wpQuiet_nil ?_
      refine wpS_nil ?_
      refine then_normal ?_
      refine wp_ret ?_
      refine block_ret (then_ret ?_)
      refine bodyPost_ret (results_tmp rfl _ _ _) rfl ?_
      exact does_ret (Mem.only (M := []) HM26.out [] rfl) rfl rfl
    · have hn : nodeE to = true := decide_eq_true (by omega)
      have g5 : decide (0 ≤ to) = true := decide_eq_true (by omega)
      have g6 : decide (to < 8) = true := decide_eq_true (by omega)
      obtain ⟨rf1, rf2, rf3⟩ := flip_yes hf.out hm.out hn (by decide)
      replace rf1 : f1 = 1 := rf1
      subst f1
      subst f2
      subst fe
      clear hn
      refine wp_region_N [(0, 1), (1, 1), (2, 1), (3, 1), (4, 1), (5, 1), (6, 1)] (by kernel_rfl) ?_
      refine wpS_this [0, 1, 2, 3, 4, 5, 6] rfl (by kernel_rfl) (by simp only [pickL, nthL, List.cons_append, List.nil_append]; rfl) ?_
      repeat (go_big_quiet_step (fail))
      refine wpQuiet_nil ?_
      refine wpS_nil ?_
      refine then_normal ?_
      refine wp_seq ?_
      refine wp_block ?_
      refine wp_seq ?_
      refine wp_region_N [(0, 1), (1, 1), (2, 1), (3, 1), (4, 1), (5, 1), (6, 1)] (by kernel_rfl) ?_
      refine wpS_this [0, 1, 2, 3, 4, 5, 6] rfl (by kernel_rfl) (by simp only [pickL, nthL, List.cons_append, List.nil_append]; rfl) ?_
      repeat (go_big_quiet_step (fail))
      refine wpQuiet_nil ?_
      refine wpS_nil ?_
      refine then_normal ?_
      refine wp_cond_false rfl ?_
      refine wp_seq ?_
      refine wp_region_N [(0, 1), (1, 1), (2, 1)] (by kernel_rfl) ?_
      refine wpS_this [0, 1, 2] rfl (by kernel_rfl) (by simp only [pickL, nthL, List.cons_append, List.nil_append]; rfl) ?_
      repeat (go_big_quiet_step (fail))
      refine wpQuiet_nil ?_
      refine wpS_nil ?_
      refine then_normal ?_
      refine wp_cond_false rfl ?_
      refine wp_skip ?_
      refine block_normal ?_
      refine then_normal ?_
      refine wp_seq ?_
      refine wp_region_N [(0, 1), (1, 1), (2, 1), (3, 1), (4, 1), (5, 1), (6, 1), (7, 1), (8, 1), (9, 1), (10, 1), (11, 3), (12, 1), (13, 1)] (by kernel_rfl) ?_
      have Cb8 := Mem.cell HM20.out 0 rfl
      refine wpS_this [0, 1, 2, 3, 4, 5, 6, 7] rfl (by kernel_rfl) (by simp only [pickL, nthL, List.cons_append, List.nil_append]; rfl) ?_
      repeat (go_big_quiet_step (fail))
      refine wpQuiet_nil ?_
      clear Cb8
      refine wpS_read (i := 8) (d := some 91) rfl (by rfl) (run_eqEb (p := (1, to)) (q := (1, to)) (decide_eq_true rfl) rfl rfl rfl) rfl ?_
      simp only [Act.put, List.setIfInBounds_toArray, List.set_cons_succ, List.set_cons_zero]
      refine wpS_this [9, 10] rfl (by kernel_rfl) (by simp only [pickL, nthL, List.cons_append, List.nil_append]; rfl) ?_
      repeat (go_big_quiet_step (fail))
      refine wpQuiet_nil ?_
      refine wpS_does0 (i := 11) (d := some 94) (rem := [_, _]) (out := [_, _]) rfl (by rfl) rfl Try.call15 (awake_d)  HM20.out [] rfl covS_nil rfl rfl ?_
      rintro W28 hm27 -
      have HM29 := Lib.hid hm27
      clear hm27
      simp only [Act.put, List.setIfInBounds_toArray, List.set_cons_succ, List.set_cons_zero]
      refine wpS_this [12, 13] rfl (by kernel_rfl) (by simp only [pickL, nthL, List.cons_append, List.nil_append]; rfl) ?_
      repeat (go_big_quiet_step (fail))
      refine wpQuiet_nil ?_
      refine wpS_nil ?_
      refine then_normal ?_
      refine wp_ret ?_
      refine bodyPost_ret (results_tmp rfl _ _ _) rfl ?_
      exact does_ret (Mem.only (M := []) HM29.out [] rfl) rfl rfl
  · have ge : (e == 0) = true := beq_iff_eq.2 he
    have go : (o == 0) = false := beq_eq_false_iff_ne.2 ho
    replace hm := Lib.hid hm
    have g1 : decide (1 ≤ e) = false := decide_eq_false (by omega)
    clear he ho
    refine wp_region_N [(0, 1), (1, 1), (2, 1), (3, 1), (4, 1), (5, 1), (6, 1), (7, 1), (8, 1), (9, 1), (10, 1), (11, 1), (12, 1), (13, 1), (14, 1), (15, 1), (16, 1), (17, 1), (18, 1), (19, 1), (20, 1), (21, 1), (22, 1)] (by kernel_rfl) ?_
    refine wpS_this [0, 1, 2, 3, 4, 5, 6, 7, 8, 9, 10, 11, 12, 13, 14, 15, 16, 17, 18, 19, 20, 21, 22] rfl (by kernel_rfl) (by simp only [pickL, nthL, List.cons_append, List.nil_append]; rfl) ?_
    repeat (go_big_quiet_step (fail))
    refine wpQuiet_nil ?_
    refine wpS_nil ?_
    refine then_normal ?_
    refine wp_seq ?_
    refine wp_seq ?_
    refine wp_region_N [(0, 1), (1, 3), (2, 1), (3, 1)] (by kernel_rfl) ?_
    have Cb7 := Mem.cell HM17.out 1 rfl
    refine wpS_this [0] rfl (by kernel_rfl) (by simp only [pickL, nthL, List.cons_append, List.nil_append]; rfl) ?_
    repeat (go_big_quiet_step (fail))
    refine wpQuiet_nil ?_
    clear Cb7
    refine wpS_does1 (i := 1) (d := some 44) (rem := [_, _]) (out := [_, _]) rfl (by rfl) rfl Try.call9 (may_d e o) rfl HM17.out [] rfl covS_nil rfl rfl ?_
    rintro W31 hm30 -
    rw [hm.out]
    have HM32 := Lib.hid hm30
    clear hm30
    simp only [Act.put, List.setIfInBounds_toArray, List.set_cons_succ, List.set_cons_zero]
    refine wpS_this [2, 3] rfl (by kernel_rfl) (by simp only [pickL, nthL, List.cons_append, List.nil_append]; rfl) ?_
    repeat (go_big_quiet_step (fail))
    refine wpQuiet_nil ?_
    refine wpS_nil ?_
    refine then_normal ?_
    refine wp_cond_false rfl ?_
    refine wp_skip ?_
    refine then_normal ?_
    refine wp_seq ?_
    rcases (show to < 0 ∨ (0 ≤ to ∧ 8 ≤ to) ∨ (0 ≤ to ∧ to < 8) from by omega) with ht | ⟨ht, ht2⟩ | ⟨ht, ht2⟩
    · have hn : nodeE to = false := decide_eq_false (by omega)
      have g5 : decide (0 ≤ to) = false := decide_eq_false (by omega)
      obtain ⟨rf1, rf2, rf3⟩ := flip_no hf.out (.inl hm.out)
      subst f1
      subst f2
      subst fe
      clear hn
      refine wp_region_N [(0, 1), (1, 1), (2, 1), (3, 1), (4, 1), (5, 1), (6, 1)] (by kernel_rfl) ?_
      refine wpS_this [0, 1, 2, 3, 4, 5, 6] rfl (by kernel_rfl) (by simp only [pickL, nthL, List.cons_append, List.nil_append]; rfl) ?_
      repeat (go_big_quiet_step (fail))
      refine wpQuiet_nil ?_
      refine wpS_nil ?_
      refine then_normal ?_
      refine wp_seq ?_
      refine wp_block ?_
      refine wp_seq ?_
      refine wp_region_N [(0, 1), (1, 1), (2, 1), (3, 1), (4, 1), (5, 1), (6, 1)] (by kernel_rfl) ?_
      refine wpS_this [0, 1, 2, 3, 4, 5, 6] rfl (by kernel_rfl) (by simp only [pickL, nthL, List.cons_append, List.nil_append]; rfl) ?_
      repeat (go_big_quiet_step (fail))
      refine wpQuiet_nil ?_
      refine wpS_nil ?_
      refine then_normal ?_
      refine wp_cond_true rfl ?_
      refine wp_seq ?_
      refine wp_region_N [(0, 1), (1, 1), (2, 1), (3, 1), (4, 1), (5, 1), (6, 1), (7, 1), (8, 3), (9, 1), (10, 1)] (by kernel_rfl) ?_
      have Cb8 := Mem.cell HM32.out 0 rfl
      refine wpS_this [0, 1, 2, 3, 4] rfl (by kernel_rfl) (by simp only [pickL, nthL, List.cons_append, List.nil_append]; rfl) ?_
      repeat (go_big_quiet_step (fail))
      refine wpQuiet_nil ?_
      clear Cb8
      refine wpS_read (i := 5) (d := some 65) rfl (by rfl) (run_eqEb (p := (0, 0)) (q := (0, 0)) (decide_eq_true rfl) rfl rfl rfl) rfl ?_
      simp only [Act.put, List.setIfInBounds_toArray, List.set_cons_succ, List.set_cons_zero]
      refine wpS_this [6, 7] rfl (by kernel_rfl) (by simp only [pickL, nthL, List.cons_append, List.nil_append]; rfl) ?_
      repeat (go_big_quiet_step (fail))
      refine wpQuiet_nil ?_
      refine wpS_does0 (i := 8) (d := some 68) (rem := [_, _]) (out := [_, _]) rfl (by rfl) rfl Try.call15 (awake_d)  HM32.out [] rfl covS_nil rfl rfl ?_
      rintro W34 hm33 -
      have HM35 := Lib.hid hm33
      clear hm33
      simp only [Act.put, List.setIfInBounds_toArray, List.set_cons_succ, List.set_cons_zero]
      refine wpS_this [9, 10] rfl (by kernel_rfl) (by simp only [pickL, nthL, List.cons_append, List.nil_append]; rfl) ?_
      repeat (go_big_quiet_step (fail))
      refine wpQuiet_nil ?_
      refine wpS_nil ?_
      refine then_normal ?_
      refine wp_ret ?_
      refine block_ret (then_ret ?_)
      refine bodyPost_ret (results_tmp rfl _ _ _) rfl ?_
      exact does_ret (Mem.only (M := []) HM35.out [] rfl) rfl rfl
    · have hn : nodeE to = false := decide_eq_false (by omega)
      have g5 : decide (0 ≤ to) = true := decide_eq_true (by omega)
      have g6 : decide (to < 8) = false := decide_eq_false (by omega)
      obtain ⟨rf1, rf2, rf3⟩ := flip_no hf.out (.inl hm.out)
      subst f1
      subst f2
      subst fe
      clear hn
      refine wp_region_N [(0, 1), (1, 1), (2, 1), (3, 1), (4, 1), (5, 1), (6, 1)] (by kernel_rfl) ?_
      refine wpS_this [0, 1, 2, 3, 4, 5, 6] rfl (by kernel_rfl) (by simp only [pickL, nthL, List.cons_append, List.nil_append]; rfl) ?_
      repeat (go_big_quiet_step (fail))
      refine wpQuiet_nil ?_
      refine wpS_nil ?_
      refine then_normal ?_
      refine wp_seq ?_
      refine wp_block ?_
      refine wp_seq ?_
      refine wp_region_N [(0, 1), (1, 1), (2, 1), (3, 1), (4, 1), (5, 1), (6, 1)] (by kernel_rfl) ?_
      refine wpS_this [0, 1, 2, 3, 4, 5, 6] rfl (by kernel_rfl) (by simp only [pickL, nthL, List.cons_append, List.nil_append]; rfl) ?_
      repeat (go_big_quiet_step (fail))
      refine wpQuiet_nil ?_
      refine wpS_nil ?_
      refine then_normal ?_
      refine wp_cond_true rfl ?_
      refine wp_seq ?_
      refine wp_region_N [(0, 1), (1, 1), (2, 1), (3, 1), (4, 1), (5, 1), (6, 1), (7, 1), (8, 3), (9, 1), (10, 1)] (by kernel_rfl) ?_
      have Cb8 := Mem.cell HM32.out 0 rfl
      refine wpS_this [0, 1, 2, 3, 4] rfl (by kernel_rfl) (by simp only [pickL, nthL, List.cons_append, List.nil_append]; rfl) ?_
      repeat (go_big_quiet_step (fail))
      refine wpQuiet_nil ?_
      clear Cb8
      refine wpS_read (i := 5) (d := some 65) rfl (by rfl) (run_eqEb (p := (0, 0)) (q := (0, 0)) (decide_eq_true rfl) rfl rfl rfl) rfl ?_
      simp only [Act.put, List.setIfInBounds_toArray, List.set_cons_succ, List.set_cons_zero]
      refine wpS_this [6, 7] rfl (by kernel_rfl) (by simp only [pickL, nthL, List.cons_append, List.nil_append]; rfl) ?_
      repeat (go_big_quiet_step (fail))
      refine wpQuiet_nil ?_
      refine wpS_does0 (i := 8) (d := some 68) (rem := [_, _]) (out := [_, _]) rfl (by rfl) rfl Try.call15 (awake_d)  HM32.out [] rfl covS_nil rfl rfl ?_
      rintro W37 hm36 -
      have HM38 := Lib.hid hm36
      clear hm36
      simp only [Act.put, List.setIfInBounds_toArray, List.set_cons_succ, List.set_cons_zero]
      refine wpS_this [9, 10] rfl (by kernel_rfl) (by simp only [pickL, nthL, List.cons_append, List.nil_append]; rfl) ?_
      repeat (go_big_quiet_step (fail))
      refine wpQuiet_nil ?_
      refine wpS_nil ?_
      refine then_normal ?_
      refine wp_ret ?_
      refine block_ret (then_ret ?_)
      refine bodyPost_ret (results_tmp rfl _ _ _) rfl ?_
      exact does_ret (Mem.only (M := []) HM38.out [] rfl) rfl rfl
    · have hn : nodeE to = true := decide_eq_true (by omega)
      have g5 : decide (0 ≤ to) = true := decide_eq_true (by omega)
      have g6 : decide (to < 8) = true := decide_eq_true (by omega)
      obtain ⟨rf1, rf2, rf3⟩ := flip_no hf.out (.inl hm.out)
      subst f1
      subst f2
      subst fe
      clear hn
      refine wp_region_N [(0, 1), (1, 1), (2, 1), (3, 1), (4, 1), (5, 1), (6, 1)] (by kernel_rfl) ?_
      refine wpS_this [0, 1, 2, 3, 4, 5, 6] rfl (by kernel_rfl) (by simp only [pickL, nthL, List.cons_append, List.nil_append]; rfl) ?_
      repeat (go_big_quiet_step (fail))
      refine wpQuiet_nil ?_
      refine wpS_nil ?_
      refine then_normal ?_
      refine wp_seq ?_
      refine wp_block ?_
      refine wp_seq ?_
      refine wp_region_N [(0, 1), (1, 1), (2, 1), (3, 1), (4, 1), (5, 1), (6, 1)] (by kernel_rfl) ?_
      refine wpS_this [0, 1, 2, 3, 4, 5, 6] rfl (by kernel_rfl) (by simp only [pickL, nthL, List.cons_append, List.nil_append]; rfl) ?_
      repeat (go_big_quiet_step (fail))
      refine wpQuiet_nil ?_
      refine wpS_nil ?_
      refine then_normal ?_
      refine wp_cond_true rfl ?_
      refine wp_seq ?_
      refine wp_region_N [(0, 1), (1, 1), (2, 1), (3, 1), (4, 1), (5, 1), (6, 1), (7, 1), (8, 3), (9, 1), (10, 1)] (by kernel_rfl) ?_
      have Cb8 := Mem.cell HM32.out 0 rfl
      refine wpS_this [0, 1, 2, 3, 4] rfl (by kernel_rfl) (by simp only [pickL, nthL, List.cons_append, List.nil_append]; rfl) ?_
      repeat (go_big_quiet_step (fail))
      refine wpQuiet_nil ?_
      clear Cb8
      refine wpS_read (i := 5) (d := some 65) rfl (by rfl) (run_eqEb (p := (0, 0)) (q := (0, 0)) (decide_eq_true rfl) rfl rfl rfl) rfl ?_
      simp only [Act.put, List.setIfInBounds_toArray, List.set_cons_succ, List.set_cons_zero]
      refine wpS_this [6, 7] rfl (by kernel_rfl) (by simp only [pickL, nthL, List.cons_append, List.nil_append]; rfl) ?_
      repeat (go_big_quiet_step (fail))
      refine wpQuiet_nil ?_
      refine wpS_does0 (i := 8) (d := some 68) (rem := [_, _]) (out := [_, _]) rfl (by rfl) rfl Try.call15 (awake_d)  HM32.out [] rfl covS_nil rfl rfl ?_
      rintro W40 hm39 -
      have HM41 := Lib.hid hm39
      clear hm39
      simp only [Act.put, List.setIfInBounds_toArray, List.set_cons_succ, List.set_cons_zero]
      refine wpS_this [9, 10] rfl (by kernel_rfl) (by simp only [pickL, nthL, List.cons_append, List.nil_append]; rfl) ?_
      repeat (go_big_quiet_step (fail))
      refine wpQuiet_nil ?_
      refine wpS_nil ?_
      refine then_normal ?_
      refine wp_ret ?_
      refine block_ret (then_ret ?_)
      refine bodyPost_ret (results_tmp rfl _ _ _) rfl ?_
      exact does_ret (Mem.only (M := []) HM41.out [] rfl) rfl rfl
  · have ge : (e == 0) = false := beq_eq_false_iff_ne.2 (by omega)
    have g1 : decide (1 ≤ e) = false := decide_eq_false (by omega)
    replace hm := Lib.hid hm
    refine wp_region_N [(0, 1), (1, 1), (2, 1), (3, 1), (4, 1), (5, 1), (6, 1), (7, 1), (8, 1), (9, 1), (10, 1), (11, 1), (12, 1), (13, 1), (14, 1), (15, 1), (16, 1), (17, 1), (18, 1), (19, 1), (20, 1), (21, 1), (22, 1)] (by kernel_rfl) ?_
    refine wpS_this [0, 1, 2, 3, 4, 5, 6, 7, 8, 9, 10, 11, 12, 13, 14, 15, 16, 17, 18, 19, 20, 21, 22] rfl (by kernel_rfl) (by simp only [pickL, nthL, List.cons_append, List.nil_append]; rfl) ?_
    repeat (go_big_quiet_step (fail))
    refine wpQuiet_nil ?_
    refine wpS_nil ?_
    refine then_normal ?_
    refine wp_seq ?_
    refine wp_seq ?_
    refine wp_region_N [(0, 1), (1, 3), (2, 1), (3, 1)] (by kernel_rfl) ?_
    have Cb7 := Mem.cell HM17.out 1 rfl
    refine wpS_this [0] rfl (by kernel_rfl) (by simp only [pickL, nthL, List.cons_append, List.nil_append]; rfl) ?_
    repeat (go_big_quiet_step (fail))
    refine wpQuiet_nil ?_
    clear Cb7
    refine wpS_does1 (i := 1) (d := some 44) (rem := [_, _]) (out := [_, _]) rfl (by rfl) rfl Try.call9 (may_d e o) rfl HM17.out [] rfl covS_nil rfl rfl ?_
    rintro W43 hm42 -
    rw [hm.out]
    have HM44 := Lib.hid hm42
    clear hm42
    simp only [Act.put, List.setIfInBounds_toArray, List.set_cons_succ, List.set_cons_zero]
    refine wpS_this [2, 3] rfl (by kernel_rfl) (by simp only [pickL, nthL, List.cons_append, List.nil_append]; rfl) ?_
    repeat (go_big_quiet_step (fail))
    refine wpQuiet_nil ?_
    refine wpS_nil ?_
    refine then_normal ?_
    refine wp_cond_false rfl ?_
    refine wp_skip ?_
    refine then_normal ?_
    refine wp_seq ?_
    rcases (show to < 0 ∨ (0 ≤ to ∧ 8 ≤ to) ∨ (0 ≤ to ∧ to < 8) from by omega) with ht | ⟨ht, ht2⟩ | ⟨ht, ht2⟩
    · have hn : nodeE to = false := decide_eq_false (by omega)
      have g5 : decide (0 ≤ to) = false := decide_eq_false (by omega)
      obtain ⟨rf1, rf2, rf3⟩ := flip_no hf.out (.inl hm.out)
      subst f1
      subst f2
      subst fe
      clear hn
      refine wp_region_N [(0, 1), (1, 1), (2, 1), (3, 1), (4, 1), (5, 1), (6, 1)] (by kernel_rfl) ?_
      refine wpS_this [0, 1, 2, 3, 4, 5, 6] rfl (by kernel_rfl) (by simp only [pickL, nthL, List.cons_append, List.nil_append]; rfl) ?_
      repeat (go_big_quiet_step (fail))
      refine wpQuiet_nil ?_
      refine wpS_nil ?_
      refine then_normal ?_
      refine wp_seq ?_
      refine wp_block ?_
      refine wp_seq ?_
      refine wp_region_N [(0, 1), (1, 1), (2, 1), (3, 1), (4, 1), (5, 1), (6, 1)] (by kernel_rfl) ?_
      refine wpS_this [0, 1, 2, 3, 4, 5, 6] rfl (by kernel_rfl) (by simp only [pickL, nthL, List.cons_append, List.nil_append]; rfl) ?_
      repeat (go_big_quiet_step (fail))
      refine wpQuiet_nil ?_
      refine wpS_nil ?_
      refine then_normal ?_
      refine wp_cond_true rfl ?_
      refine wp_seq ?_
      refine wp_region_N [(0, 1), (1, 1), (2, 1), (3, 1), (4, 1), (5, 1), (6, 1), (7, 1), (8, 3), (9, 1), (10, 1)] (by kernel_rfl) ?_
      have Cb8 := Mem.cell HM44.out 0 rfl
      refine wpS_this [0, 1, 2, 3, 4] rfl (by kernel_rfl) (by simp only [pickL, nthL, List.cons_append, List.nil_append]; rfl) ?_
      repeat (go_big_quiet_step (fail))
      refine wpQuiet_nil ?_
      clear Cb8
      refine wpS_read (i := 5) (d := some 65) rfl (by rfl) (run_eqEb (p := (0, 0)) (q := (0, 0)) (decide_eq_true rfl) rfl rfl rfl) rfl ?_
      simp only [Act.put, List.setIfInBounds_toArray, List.set_cons_succ, List.set_cons_zero]
      refine wpS_this [6, 7] rfl (by kernel_rfl) (by simp only [pickL, nthL, List.cons_append, List.nil_append]; rfl) ?_
      repeat (go_big_quiet_step (fail))
      refine wpQuiet_nil ?_
      refine wpS_does0 (i := 8) (d := some 68) (rem := [_, _]) (out := [_, _]) rfl (by rfl) rfl Try.call15 (awake_d)  HM44.out [] rfl covS_nil rfl rfl ?_
      rintro W46 hm45 -
      have HM47 := Lib.hid hm45
      clear hm45
      simp only [Act.put, List.setIfInBounds_toArray, List.set_cons_succ, List.set_cons_zero]
      refine wpS_this [9, 10] rfl (by kernel_rfl) (by simp only [pickL, nthL, List.cons_append, List.nil_append]; rfl) ?_
      repeat (go_big_quiet_step (fail))
      refine wpQuiet_nil ?_
      refine wpS_nil ?_
      refine then_normal ?_
      refine wp_ret ?_
      refine block_ret (then_ret ?_)
      refine bodyPost_ret (results_tmp rfl _ _ _) rfl ?_
      exact does_ret (Mem.only (M := []) HM47.out [] rfl) rfl rfl
    · have hn : nodeE to = false := decide_eq_false (by omega)
      have g5 : decide (0 ≤ to) = true := decide_eq_true (by omega)
      have g6 : decide (to < 8) = false := decide_eq_false (by omega)
      obtain ⟨rf1, rf2, rf3⟩ := flip_no hf.out (.inl hm.out)
      subst f1
      subst f2
      subst fe
      clear hn
      refine wp_region_N [(0, 1), (1, 1), (2, 1), (3, 1), (4, 1), (5, 1), (6, 1)] (by kernel_rfl) ?_
      refine wpS_this [0, 1, 2, 3, 4, 5, 6] rfl (by kernel_rfl) (by simp only [pickL, nthL, List.cons_append, List.nil_append]; rfl) ?_
      repeat (go_big_quiet_step (fail))
      refine wpQuiet_nil ?_
      refine wpS_nil ?_
      refine then_normal ?_
      refine wp_seq ?_
      refine wp_block ?_
      refine wp_seq ?_
      refine wp_region_N [(0, 1), (1, 1), (2, 1), (3, 1), (4, 1), (5, 1), (6, 1)] (by kernel_rfl) ?_
      refine wpS_this [0, 1, 2, 3, 4, 5, 6] rfl (by kernel_rfl) (by simp only [pickL, nthL, List.cons_append, List.nil_append]; rfl) ?_
      repeat (go_big_quiet_step (fail))
      refine wpQuiet_nil ?_
      refine wpS_nil ?_
      refine then_normal ?_
      refine wp_cond_true rfl ?_
      refine wp_seq ?_
      refine wp_region_N [(0, 1), (1, 1), (2, 1), (3, 1), (4, 1), (5, 1), (6, 1), (7, 1), (8, 3), (9, 1), (10, 1)] (by kernel_rfl) ?_
      have Cb8 := Mem.cell HM44.out 0 rfl
      refine wpS_this [0, 1, 2, 3, 4] rfl (by kernel_rfl) (by simp only [pickL, nthL, List.cons_append, List.nil_append]; rfl) ?_
      repeat (go_big_quiet_step (fail))
      refine wpQuiet_nil ?_
      clear Cb8
      refine wpS_read (i := 5) (d := some 65) rfl (by rfl) (run_eqEb (p := (0, 0)) (q := (0, 0)) (decide_eq_true rfl) rfl rfl rfl) rfl ?_
      simp only [Act.put, List.setIfInBounds_toArray, List.set_cons_succ, List.set_cons_zero]
      refine wpS_this [6, 7] rfl (by kernel_rfl) (by simp only [pickL, nthL, List.cons_append, List.nil_append]; rfl) ?_
      repeat (go_big_quiet_step (fail))
      refine wpQuiet_nil ?_
      refine wpS_does0 (i := 8) (d := some 68) (rem := [_, _]) (out := [_, _]) rfl (by rfl) rfl Try.call15 (awake_d)  HM44.out [] rfl covS_nil rfl rfl ?_
      rintro W49 hm48 -
      have HM50 := Lib.hid hm48
      clear hm48
      simp only [Act.put, List.setIfInBounds_toArray, List.set_cons_succ, List.set_cons_zero]
      refine wpS_this [9, 10] rfl (by kernel_rfl) (by simp only [pickL, nthL, List.cons_append, List.nil_append]; rfl) ?_
      repeat (go_big_quiet_step (fail))
      refine wpQuiet_nil ?_
      refine wpS_nil ?_
      refine then_normal ?_
      refine wp_ret ?_
      refine block_ret (then_ret ?_)
      refine bodyPost_ret (results_tmp rfl _ _ _) rfl ?_
      exact does_ret (Mem.only (M := []) HM50.out [] rfl) rfl rfl
    · have hn : nodeE to = true := decide_eq_true (by omega)
      have g5 : decide (0 ≤ to) = true := decide_eq_true (by omega)
      have g6 : decide (to < 8) = true := decide_eq_true (by omega)
      obtain ⟨rf1, rf2, rf3⟩ := flip_no hf.out (.inl hm.out)
      subst f1
      subst f2
      subst fe
      clear hn
      refine wp_region_N [(0, 1), (1, 1), (2, 1), (3, 1), (4, 1), (5, 1), (6, 1)] (by kernel_rfl) ?_
      refine wpS_this [0, 1, 2, 3, 4, 5, 6] rfl (by kernel_rfl) (by simp only [pickL, nthL, List.cons_append, List.nil_append]; rfl) ?_
      repeat (go_big_quiet_step (fail))
      refine wpQuiet_nil ?_
      refine wpS_nil ?_
      refine then_normal ?_
      refine wp_seq ?_
      refine wp_block ?_
      refine wp_seq ?_
      refine wp_region_N [(0, 1), (1, 1), (2, 1), (3, 1), (4, 1), (5, 1), (6, 1)] (by kernel_rfl) ?_
      refine wpS_this [0, 1, 2, 3, 4, 5, 6] rfl (by kernel_rfl) (by simp only [pickL, nthL, List.cons_append, List.nil_append]; rfl) ?_
      repeat (go_big_quiet_step (fail))
      refine wpQuiet_nil ?_
      refine wpS_nil ?_
      refine then_normal ?_
      refine wp_cond_true rfl ?_
      refine wp_seq ?_
      refine wp_region_N [(0, 1), (1, 1), (2, 1), (3, 1), (4, 1), (5, 1), (6, 1), (7, 1), (8, 3), (9, 1), (10, 1)] (by kernel_rfl) ?_
      have Cb8 := Mem.cell HM44.out 0 rfl
      refine wpS_this [0, 1, 2, 3, 4] rfl (by kernel_rfl) (by simp only [pickL, nthL, List.cons_append, List.nil_append]; rfl) ?_
      repeat (go_big_quiet_step (fail))
      refine wpQuiet_nil ?_
      clear Cb8
      refine wpS_read (i := 5) (d := some 65) rfl (by rfl) (run_eqEb (p := (0, 0)) (q := (0, 0)) (decide_eq_true rfl) rfl rfl rfl) rfl ?_
      simp only [Act.put, List.setIfInBounds_toArray, List.set_cons_succ, List.set_cons_zero]
      refine wpS_this [6, 7] rfl (by kernel_rfl) (by simp only [pickL, nthL, List.cons_append, List.nil_append]; rfl) ?_
      repeat (go_big_quiet_step (fail))
      refine wpQuiet_nil ?_
      refine wpS_does0 (i := 8) (d := some 68) (rem := [_, _]) (out := [_, _]) rfl (by rfl) rfl Try.call15 (awake_d)  HM44.out [] rfl covS_nil rfl rfl ?_
      rintro W52 hm51 -
      have HM53 := Lib.hid hm51
      clear hm51
      simp only [Act.put, List.setIfInBounds_toArray, List.set_cons_succ, List.set_cons_zero]
      refine wpS_this [9, 10] rfl (by kernel_rfl) (by simp only [pickL, nthL, List.cons_append, List.nil_append]; rfl) ?_
      repeat (go_big_quiet_step (fail))
      refine wpQuiet_nil ?_
      refine wpS_nil ?_
      refine then_normal ?_
      refine wp_ret ?_
      refine block_ret (then_ret ?_)
      refine bodyPost_ret (results_tmp rfl _ _ _) rfl ?_
      exact does_ret (Mem.only (M := []) HM53.out [] rfl) rfl rfl
  · have ge : (e == 0) = false := beq_eq_false_iff_ne.2 (by omega)
    have g1 : decide (1 ≤ e) = true := decide_eq_true (by omega)
    replace hm := Lib.hid hm
    have g2 : decide (e ≤ 1000000) = false := decide_eq_false (by omega)
    refine wp_region_N [(0, 1), (1, 1), (2, 1), (3, 1), (4, 1), (5, 1), (6, 1), (7, 1), (8, 1), (9, 1), (10, 1), (11, 1), (12, 1), (13, 1), (14, 1), (15, 1), (16, 1), (17, 1), (18, 1), (19, 1), (20, 1), (21, 1), (22, 1)] (by kernel_rfl) ?_
    refine wpS_this [0, 1, 2, 3, 4, 5, 6, 7, 8, 9, 10, 11, 12, 13, 14, 15, 16, 17, 18, 19, 20, 21, 22] rfl (by kernel_rfl) (by simp only [pickL, nthL, List.cons_append, List.nil_append]; rfl) ?_
    repeat (go_big_quiet_step (fail))
    refine wpQuiet_nil ?_
    refine wpS_nil ?_
    refine then_normal ?_
    refine wp_seq ?_
    refine wp_seq ?_
    refine wp_region_N [(0, 1), (1, 3), (2, 1), (3, 1)] (by kernel_rfl) ?_
    have Cb7 := Mem.cell HM17.out 1 rfl
    refine wpS_this [0] rfl (by kernel_rfl) (by simp only [pickL, nthL, List.cons_append, List.nil_append]; rfl) ?_
    repeat (go_big_quiet_step (fail))
    refine wpQuiet_nil ?_
    clear Cb7
    refine wpS_does1 (i := 1) (d := some 44) (rem := [_, _]) (out := [_, _]) rfl (by rfl) rfl Try.call9 (may_d e o) rfl HM17.out [] rfl covS_nil rfl rfl ?_
    rintro W55 hm54 -
    rw [hm.out]
    have HM56 := Lib.hid hm54
    clear hm54
    simp only [Act.put, List.setIfInBounds_toArray, List.set_cons_succ, List.set_cons_zero]
    refine wpS_this [2, 3] rfl (by kernel_rfl) (by simp only [pickL, nthL, List.cons_append, List.nil_append]; rfl) ?_
    repeat (go_big_quiet_step (fail))
    refine wpQuiet_nil ?_
    refine wpS_nil ?_
    refine then_normal ?_
    refine wp_cond_false rfl ?_
    refine wp_skip ?_
    refine then_normal ?_
    refine wp_seq ?_
    rcases (show to < 0 ∨ (0 ≤ to ∧ 8 ≤ to) ∨ (0 ≤ to ∧ to < 8) from by omega) with ht | ⟨ht, ht2⟩ | ⟨ht, ht2⟩
    · have hn : nodeE to = false := decide_eq_false (by omega)
      have g5 : decide (0 ≤ to) = false := decide_eq_false (by omega)
      obtain ⟨rf1, rf2, rf3⟩ := flip_no hf.out (.inl hm.out)
      subst f1
      subst f2
      subst fe
      clear hn
      refine wp_region_N [(0, 1), (1, 1), (2, 1), (3, 1), (4, 1), (5, 1), (6, 1)] (by kernel_rfl) ?_
      refine wpS_this [0, 1, 2, 3, 4, 5, 6] rfl (by kernel_rfl) (by simp only [pickL, nthL, List.cons_append, List.nil_append]; rfl) ?_
      repeat (go_big_quiet_step (fail))
      refine wpQuiet_nil ?_
      refine wpS_nil ?_
      refine then_normal ?_
      refine wp_seq ?_
      refine wp_block ?_
      refine wp_seq ?_
      refine wp_region_N [(0, 1), (1, 1), (2, 1), (3, 1), (4, 1), (5, 1), (6, 1)] (by kernel_rfl) ?_
      refine wpS_this [0, 1, 2, 3, 4, 5, 6] rfl (by kernel_rfl) (by simp only [pickL, nthL, List.cons_append, List.nil_append]; rfl) ?_
      repeat (go_big_quiet_step (fail))
      refine wpQuiet_nil ?_
      refine wpS_nil ?_
      refine then_normal ?_
      refine wp_cond_true rfl ?_
      refine wp_seq ?_
      refine wp_region_N [(0, 1), (1, 1), (2, 1), (3, 1), (4, 1), (5, 1), (6, 1), (7, 1), (8, 3), (9, 1), (10, 1)] (by kernel_rfl) ?_
      have Cb8 := Mem.cell HM56.out 0 rfl
      refine wpS_this [0, 1, 2, 3, 4] rfl (by kernel_rfl) (by simp only [pickL, nthL, List.cons_append, List.nil_append]; rfl) ?_
      repeat (go_big_quiet_step (fail))
      refine wpQuiet_nil ?_
      clear Cb8
      refine wpS_read (i := 5) (d := some 65) rfl (by rfl) (run_eqEb (p := (0, 0)) (q := (0, 0)) (decide_eq_true rfl) rfl rfl rfl) rfl ?_
      simp only [Act.put, List.setIfInBounds_toArray, List.set_cons_succ, List.set_cons_zero]
      refine wpS_this [6, 7] rfl (by kernel_rfl) (by simp only [pickL, nthL, List.cons_append, List.nil_append]; rfl) ?_
      repeat (go_big_quiet_step (fail))
      refine wpQuiet_nil ?_
      refine wpS_does0 (i := 8) (d := some 68) (rem := [_, _]) (out := [_, _]) rfl (by rfl) rfl Try.call15 (awake_d)  HM56.out [] rfl covS_nil rfl rfl ?_
      rintro W58 hm57 -
      have HM59 := Lib.hid hm57
      clear hm57
      simp only [Act.put, List.setIfInBounds_toArray, List.set_cons_succ, List.set_cons_zero]
      refine wpS_this [9, 10] rfl (by kernel_rfl) (by simp only [pickL, nthL, List.cons_append, List.nil_append]; rfl) ?_
      repeat (go_big_quiet_step (fail))
      refine wpQuiet_nil ?_
      refine wpS_nil ?_
      refine then_normal ?_
      refine wp_ret ?_
      refine block_ret (then_ret ?_)
      refine bodyPost_ret (results_tmp rfl _ _ _) rfl ?_
      exact does_ret (Mem.only (M := []) HM59.out [] rfl) rfl rfl
    · have hn : nodeE to = false := decide_eq_false (by omega)
      have g5 : decide (0 ≤ to) = true := decide_eq_true (by omega)
      have g6 : decide (to < 8) = false := decide_eq_false (by omega)
      obtain ⟨rf1, rf2, rf3⟩ := flip_no hf.out (.inl hm.out)
      subst f1
      subst f2
      subst fe
      clear hn
      refine wp_region_N [(0, 1), (1, 1), (2, 1), (3, 1), (4, 1), (5, 1), (6, 1)] (by kernel_rfl) ?_
      refine wpS_this [0, 1, 2, 3, 4, 5, 6] rfl (by kernel_rfl) (by simp only [pickL, nthL, List.cons_append, List.nil_append]; rfl) ?_
      repeat (go_big_quiet_step (fail))
      refine wpQuiet_nil ?_
      refine wpS_nil ?_
      refine then_normal ?_
      refine wp_seq ?_
      refine wp_block ?_
      refine wp_seq ?_
      refine wp_region_N [(0, 1), (1, 1), (2, 1), (3, 1), (4, 1), (5, 1), (6, 1)] (by kernel_rfl) ?_
      refine wpS_this [0, 1, 2, 3, 4, 5, 6] rfl (by kernel_rfl) (by simp only [pickL, nthL, List.cons_append, List.nil_append]; rfl) ?_
      repeat (go_big_quiet_step (fail))
      refine wpQuiet_nil ?_
      refine wpS_nil ?_
      refine then_normal ?_
      refine wp_cond_true rfl ?_
      refine wp_seq ?_
      refine wp_region_N [(0, 1), (1, 1), (2, 1), (3, 1), (4, 1), (5, 1), (6, 1), (7, 1), (8, 3), (9, 1), (10, 1)] (by kernel_rfl) ?_
      have Cb8 := Mem.cell HM56.out 0 rfl
      refine wpS_this [0, 1, 2, 3, 4] rfl (by kernel_rfl) (by simp only [pickL, nthL, List.cons_append, List.nil_append]; rfl) ?_
      repeat (go_big_quiet_step (fail))
      refine wpQuiet_nil ?_
      clear Cb8
      refine wpS_read (i := 5) (d := some 65) rfl (by rfl) (run_eqEb (p := (0, 0)) (q := (0, 0)) (decide_eq_true rfl) rfl rfl rfl) rfl ?_
      simp only [Act.put, List.setIfInBounds_toArray, List.set_cons_succ, List.set_cons_zero]
      refine wpS_this [6, 7] rfl (by kernel_rfl) (by simp only [pickL, nthL, List.cons_append, List.nil_append]; rfl) ?_
      repeat (go_big_quiet_step (fail))
      refine wpQuiet_nil ?_
      refine wpS_does0 (i := 8) (d := some 68) (rem := [_, _]) (out := [_, _]) rfl (by rfl) rfl Try.call15 (awake_d)  HM56.out [] rfl covS_nil rfl rfl ?_
      rintro W61 hm60 -
      have HM62 := Lib.hid hm60
      clear hm60
      simp only [Act.put, List.setIfInBounds_toArray, List.set_cons_succ, List.set_cons_zero]
      refine wpS_this [9, 10] rfl (by kernel_rfl) (by simp only [pickL, nthL, List.cons_append, List.nil_append]; rfl) ?_
      repeat (go_big_quiet_step (fail))
      refine wpQuiet_nil ?_
      refine wpS_nil ?_
      refine then_normal ?_
      refine wp_ret ?_
      refine block_ret (then_ret ?_)
      refine bodyPost_ret (results_tmp rfl _ _ _) rfl ?_
      exact does_ret (Mem.only (M := []) HM62.out [] rfl) rfl rfl
    · have hn : nodeE to = true := decide_eq_true (by omega)
      have g5 : decide (0 ≤ to) = true := decide_eq_true (by omega)
      have g6 : decide (to < 8) = true := decide_eq_true (by omega)
      obtain ⟨rf1, rf2, rf3⟩ := flip_no hf.out (.inl hm.out)
      subst f1
      subst f2
      subst fe
      clear hn
      refine wp_region_N [(0, 1), (1, 1), (2, 1), (3, 1), (4, 1), (5, 1), (6, 1)] (by kernel_rfl) ?_
      refine wpS_this [0, 1, 2, 3, 4, 5, 6] rfl (by kernel_rfl) (by simp only [pickL, nthL, List.cons_append, List.nil_append]; rfl) ?_
      repeat (go_big_quiet_step (fail))
      refine wpQuiet_nil ?_
      refine wpS_nil ?_
      refine then_normal ?_
      refine wp_seq ?_
      refine wp_block ?_
      refine wp_seq ?_
      refine wp_region_N [(0, 1), (1, 1), (2, 1), (3, 1), (4, 1), (5, 1), (6, 1)] (by kernel_rfl) ?_
      refine wpS_this [0, 1, 2, 3, 4, 5, 6] rfl (by kernel_rfl) (by simp only [pickL, nthL, List.cons_append, List.nil_append]; rfl) ?_
      repeat (go_big_quiet_step (fail))
      refine wpQuiet_nil ?_
      refine wpS_nil ?_
      refine then_normal ?_
      refine wp_cond_true rfl ?_
      refine wp_seq ?_
      refine wp_region_N [(0, 1), (1, 1), (2, 1), (3, 1), (4, 1), (5, 1), (6, 1), (7, 1), (8, 3), (9, 1), (10, 1)] (by kernel_rfl) ?_
      have Cb8 := Mem.cell HM56.out 0 rfl
      refine wpS_this [0, 1, 2, 3, 4] rfl (by kernel_rfl) (by simp only [pickL, nthL, List.cons_append, List.nil_append]; rfl) ?_
      repeat (go_big_quiet_step (fail))
      refine wpQuiet_nil ?_
      clear Cb8
      refine wpS_read (i := 5) (d := some 65) rfl (by rfl) (run_eqEb (p := (0, 0)) (q := (0, 0)) (decide_eq_true rfl) rfl rfl rfl) rfl ?_
      simp only [Act.put, List.setIfInBounds_toArray, List.set_cons_succ, List.set_cons_zero]
      refine wpS_this [6, 7] rfl (by kernel_rfl) (by simp only [pickL, nthL, List.cons_append, List.nil_append]; rfl) ?_
      repeat (go_big_quiet_step (fail))
      refine wpQuiet_nil ?_
      refine wpS_does0 (i := 8) (d := some 68) (rem := [_, _]) (out := [_, _]) rfl (by rfl) rfl Try.call15 (awake_d)  HM56.out [] rfl covS_nil rfl rfl ?_
      rintro W64 hm63 -
      have HM65 := Lib.hid hm63
      clear hm63
      simp only [Act.put, List.setIfInBounds_toArray, List.set_cons_succ, List.set_cons_zero]
      refine wpS_this [9, 10] rfl (by kernel_rfl) (by simp only [pickL, nthL, List.cons_append, List.nil_append]; rfl) ?_
      repeat (go_big_quiet_step (fail))
      refine wpQuiet_nil ?_
      refine wpS_nil ?_
      refine then_normal ?_
      refine wp_ret ?_
      refine block_ret (then_ret ?_)
      refine bodyPost_ret (results_tmp rfl _ _ _) rfl ?_
      exact does_ret (Mem.only (M := []) HM65.out [] rfl) rfl rfl
  · have ge : (e == 0) = false := beq_eq_false_iff_ne.2 (by omega)
    have g1 : decide (1 ≤ e) = true := decide_eq_true (by omega)
    replace hm := Lib.hid hm
    have g2 : decide (e ≤ 1000000) = true := decide_eq_true (by omega)
    have g3 : decide (0 ≤ o) = false := decide_eq_false (by omega)
    refine wp_region_N [(0, 1), (1, 1), (2, 1), (3, 1), (4, 1), (5, 1), (6, 1), (7, 1), (8, 1), (9, 1), (10, 1), (11, 1), (12, 1), (13, 1), (14, 1), (15, 1), (16, 1), (17, 1), (18, 1), (19, 1), (20, 1), (21, 1), (22, 1)] (by kernel_rfl) ?_
    refine wpS_this [0, 1, 2, 3, 4, 5, 6, 7, 8, 9, 10, 11, 12, 13, 14, 15, 16, 17, 18, 19, 20, 21, 22] rfl (by kernel_rfl) (by simp only [pickL, nthL, List.cons_append, List.nil_append]; rfl) ?_
    repeat (go_big_quiet_step (fail))
    refine wpQuiet_nil ?_
    refine wpS_nil ?_
    refine then_normal ?_
    refine wp_seq ?_
    refine wp_seq ?_
    refine wp_region_N [(0, 1), (1, 3), (2, 1), (3, 1)] (by kernel_rfl) ?_
    have Cb7 := Mem.cell HM17.out 1 rfl
    refine wpS_this [0] rfl (by kernel_rfl) (by simp only [pickL, nthL, List.cons_append, List.nil_append]; rfl) ?_
    repeat (go_big_quiet_step (fail))
    refine wpQuiet_nil ?_
    clear Cb7
    refine wpS_does1 (i := 1) (d := some 44) (rem := [_, _]) (out := [_, _]) rfl (by rfl) rfl Try.call9 (may_d e o) rfl HM17.out [] rfl covS_nil rfl rfl ?_
    rintro W67 hm66 -
    rw [hm.out]
    have HM68 := Lib.hid hm66
    clear hm66
    simp only [Act.put, List.setIfInBounds_toArray, List.set_cons_succ, List.set_cons_zero]
    refine wpS_this [2, 3] rfl (by kernel_rfl) (by simp only [pickL, nthL, List.cons_append, List.nil_append]; rfl) ?_
    repeat (go_big_quiet_step (fail))
    refine wpQuiet_nil ?_
    refine wpS_nil ?_
    refine then_normal ?_
    refine wp_cond_false rfl ?_
    refine wp_skip ?_
    refine then_normal ?_
    refine wp_seq ?_
    rcases (show to < 0 ∨ (0 ≤ to ∧ 8 ≤ to) ∨ (0 ≤ to ∧ to < 8) from by omega) with ht | ⟨ht, ht2⟩ | ⟨ht, ht2⟩
    · have hn : nodeE to = false := decide_eq_false (by omega)
      have g5 : decide (0 ≤ to) = false := decide_eq_false (by omega)
      obtain ⟨rf1, rf2, rf3⟩ := flip_no hf.out (.inl hm.out)
      subst f1
      subst f2
      subst fe
      clear hn
      refine wp_region_N [(0, 1), (1, 1), (2, 1), (3, 1), (4, 1), (5, 1), (6, 1)] (by kernel_rfl) ?_
      refine wpS_this [0, 1, 2, 3, 4, 5, 6] rfl (by kernel_rfl) (by simp only [pickL, nthL, List.cons_append, List.nil_append]; rfl) ?_
      repeat (go_big_quiet_step (fail))
      refine wpQuiet_nil ?_
      refine wpS_nil ?_
      refine then_normal ?_
      refine wp_seq ?_
      refine wp_block ?_
      refine wp_seq ?_
      refine wp_region_N [(0, 1), (1, 1), (2, 1), (3, 1), (4, 1), (5, 1), (6, 1)] (by kernel_rfl) ?_
      refine wpS_this [0, 1, 2, 3, 4, 5, 6] rfl (by kernel_rfl) (by simp only [pickL, nthL, List.cons_append, List.nil_append]; rfl) ?_
      repeat (go_big_quiet_step (fail))
      refine wpQuiet_nil ?_
      refine wpS_nil ?_
      refine then_normal ?_
      refine wp_cond_true rfl ?_
      refine wp_seq ?_
      refine wp_region_N [(0, 1), (1, 1), (2, 1), (3, 1), (4, 1), (5, 1), (6, 1), (7, 1), (8, 3), (9, 1), (10, 1)] (by kernel_rfl) ?_
      have Cb8 := Mem.cell HM68.out 0 rfl
      refine wpS_this [0, 1, 2, 3, 4] rfl (by kernel_rfl) (by simp only [pickL, nthL, List.cons_append, List.nil_append]; rfl) ?_
      repeat (go_big_quiet_step (fail))
      refine wpQuiet_nil ?_
      clear Cb8
      refine wpS_read (i := 5) (d := some 65) rfl (by rfl) (run_eqEb (p := (0, 0)) (q := (0, 0)) (decide_eq_true rfl) rfl rfl rfl) rfl ?_
      simp only [Act.put, List.setIfInBounds_toArray, List.set_cons_succ, List.set_cons_zero]
      refine wpS_this [6, 7] rfl (by kernel_rfl) (by simp only [pickL, nthL, List.cons_append, List.nil_append]; rfl) ?_
      repeat (go_big_quiet_step (fail))
      refine wpQuiet_nil ?_
      refine wpS_does0 (i := 8) (d := some 68) (rem := [_, _]) (out := [_, _]) rfl (by rfl) rfl Try.call15 (awake_d)  HM68.out [] rfl covS_nil rfl rfl ?_
      rintro W70 hm69 -
      have HM71 := Lib.hid hm69
      clear hm69
      simp only [Act.put, List.setIfInBounds_toArray, List.set_cons_succ, List.set_cons_zero]
      refine wpS_this [9, 10] rfl (by kernel_rfl) (by simp only [pickL, nthL, List.cons_append, List.nil_append]; rfl) ?_
      repeat (go_big_quiet_step (fail))
      refine wpQuiet_nil ?_
      refine wpS_nil ?_
      refine then_normal ?_
      refine wp_ret ?_
      refine block_ret (then_ret ?_)
      refine bodyPost_ret (results_tmp rfl _ _ _) rfl ?_
      exact does_ret (Mem.only (M := []) HM71.out [] rfl) rfl rfl
    · have hn : nodeE to = false := decide_eq_false (by omega)
      have g5 : decide (0 ≤ to) = true := decide_eq_true (by omega)
      have g6 : decide (to < 8) = false := decide_eq_false (by omega)
      obtain ⟨rf1, rf2, rf3⟩ := flip_no hf.out (.inl hm.out)
      subst f1
      subst f2
      subst fe
      clear hn
      refine wp_region_N [(0, 1), (1, 1), (2, 1), (3, 1), (4, 1), (5, 1), (6, 1)] (by kernel_rfl) ?_
      refine wpS_this [0, 1, 2, 3, 4, 5, 6] rfl (by kernel_rfl) (by simp only [pickL, nthL, List.cons_append, List.nil_append]; rfl) ?_
      repeat (go_big_quiet_step (fail))
      refine wpQuiet_nil ?_
      refine wpS_nil ?_
      refine then_normal ?_
      refine wp_seq ?_
      refine wp_block ?_
      refine wp_seq ?_
      refine wp_region_N [(0, 1), (1, 1), (2, 1), (3, 1), (4, 1), (5, 1), (6, 1)] (by kernel_rfl) ?_
      refine wpS_this [0, 1, 2, 3, 4, 5, 6] rfl (by kernel_rfl) (by simp only [pickL, nthL, List.cons_append, List.nil_append]; rfl) ?_
      repeat (go_big_quiet_step (fail))
      refine wpQuiet_nil ?_
      refine wpS_nil ?_
      refine then_normal ?_
      refine wp_cond_true rfl ?_
      refine wp_seq ?_
      refine wp_region_N [(0, 1), (1, 1), (2, 1), (3, 1), (4, 1), (5, 1), (6, 1), (7, 1), (8, 3), (9, 1), (10, 1)] (by kernel_rfl) ?_
      have Cb8 := Mem.cell HM68.out 0 rfl
      refine wpS_this [0, 1, 2, 3, 4] rfl (by kernel_rfl) (by simp only [pickL, nthL, List.cons_append, List.nil_append]; rfl) ?_
      repeat (go_big_quiet_step (fail))
      refine wpQuiet_nil ?_
      clear Cb8
      refine wpS_read (i := 5) (d := some 65) rfl (by rfl) (run_eqEb (p := (0, 0)) (q := (0, 0)) (decide_eq_true rfl) rfl rfl rfl) rfl ?_
      simp only [Act.put, List.setIfInBounds_toArray, List.set_cons_succ, List.set_cons_zero]
      refine wpS_this [6, 7] rfl (by kernel_rfl) (by simp only [pickL, nthL, List.cons_append, List.nil_append]; rfl) ?_
      repeat (go_big_quiet_step (fail))
      refine wpQuiet_nil ?_
      refine wpS_does0 (i := 8) (d := some 68) (rem := [_, _]) (out := [_, _]) rfl (by rfl) rfl Try.call15 (awake_d)  HM68.out [] rfl covS_nil rfl rfl ?_
      rintro W73 hm72 -
      have HM74 := Lib.hid hm72
      clear hm72
      simp only [Act.put, List.setIfInBounds_toArray, List.set_cons_succ, List.set_cons_zero]
      refine wpS_this [9, 10] rfl (by kernel_rfl) (by simp only [pickL, nthL, List.cons_append, List.nil_append]; rfl) ?_
      repeat (go_big_quiet_step (fail))
      refine wpQuiet_nil ?_
      refine wpS_nil ?_
      refine then_normal ?_
      refine wp_ret ?_
      refine block_ret (then_ret ?_)
      refine bodyPost_ret (results_tmp rfl _ _ _) rfl ?_
      exact does_ret (Mem.only (M := []) HM74.out [] rfl) rfl rfl
    · have hn : nodeE to = true := decide_eq_true (by omega)
      have g5 : decide (0 ≤ to) = true := decide_eq_true (by omega)
      have g6 : decide (to < 8) = true := decide_eq_true (by omega)
      obtain ⟨rf1, rf2, rf3⟩ := flip_no hf.out (.inl hm.out)
      subst f1
      subst f2
      subst fe
      clear hn
      refine wp_region_N [(0, 1), (1, 1), (2, 1), (3, 1), (4, 1), (5, 1), (6, 1)] (by kernel_rfl) ?_
      refine wpS_this [0, 1, 2, 3, 4, 5, 6] rfl (by kernel_rfl) (by simp only [pickL, nthL, List.cons_append, List.nil_append]; rfl) ?_
      repeat (go_big_quiet_step (fail))
      refine wpQuiet_nil ?_
      refine wpS_nil ?_
      refine then_normal ?_
      refine wp_seq ?_
      refine wp_block ?_
      refine wp_seq ?_
      refine wp_region_N [(0, 1), (1, 1), (2, 1), (3, 1), (4, 1), (5, 1), (6, 1)] (by kernel_rfl) ?_
      refine wpS_this [0, 1, 2, 3, 4, 5, 6] rfl (by kernel_rfl) (by simp only [pickL, nthL, List.cons_append, List.nil_append]; rfl) ?_
      repeat (go_big_quiet_step (fail))
      refine wpQuiet_nil ?_
      refine wpS_nil ?_
      refine then_normal ?_
      refine wp_cond_true rfl ?_
      refine wp_seq ?_
      refine wp_region_N [(0, 1), (1, 1), (2, 1), (3, 1), (4, 1), (5, 1), (6, 1), (7, 1), (8, 3), (9, 1), (10, 1)] (by kernel_rfl) ?_
      have Cb8 := Mem.cell HM68.out 0 rfl
      refine wpS_this [0, 1, 2, 3, 4] rfl (by kernel_rfl) (by simp only [pickL, nthL, List.cons_append, List.nil_append]; rfl) ?_
      repeat (go_big_quiet_step (fail))
      refine wpQuiet_nil ?_
      clear Cb8
      refine wpS_read (i := 5) (d := some 65) rfl (by rfl) (run_eqEb (p := (0, 0)) (q := (0, 0)) (decide_eq_true rfl) rfl rfl rfl) rfl ?_
      simp only [Act.put, List.setIfInBounds_toArray, List.set_cons_succ, List.set_cons_zero]
      refine wpS_this [6, 7] rfl (by kernel_rfl) (by simp only [pickL, nthL, List.cons_append, List.nil_append]; rfl) ?_
      repeat (go_big_quiet_step (fail))
      refine wpQuiet_nil ?_
      refine wpS_does0 (i := 8) (d := some 68) (rem := [_, _]) (out := [_, _]) rfl (by rfl) rfl Try.call15 (awake_d)  HM68.out [] rfl covS_nil rfl rfl ?_
      rintro W76 hm75 -
      have HM77 := Lib.hid hm75
      clear hm75
      simp only [Act.put, List.setIfInBounds_toArray, List.set_cons_succ, List.set_cons_zero]
      refine wpS_this [9, 10] rfl (by kernel_rfl) (by simp only [pickL, nthL, List.cons_append, List.nil_append]; rfl) ?_
      repeat (go_big_quiet_step (fail))
      refine wpQuiet_nil ?_
      refine wpS_nil ?_
      refine then_normal ?_
      refine wp_ret ?_
      refine block_ret (then_ret ?_)
      refine bodyPost_ret (results_tmp rfl _ _ _) rfl ?_
      exact does_ret (Mem.only (M := []) HM77.out [] rfl) rfl rfl
  · have ge : (e == 0) = false := beq_eq_false_iff_ne.2 (by omega)
    have g1 : decide (1 ≤ e) = true := decide_eq_true (by omega)
    replace hm := Lib.hid hm
    have g2 : decide (e ≤ 1000000) = true := decide_eq_true (by omega)
    have g3 : decide (0 ≤ o) = true := decide_eq_true (by omega)
    have g4 : decide (o < 8) = false := decide_eq_false (by omega)
    refine wp_region_N [(0, 1), (1, 1), (2, 1), (3, 1), (4, 1), (5, 1), (6, 1), (7, 1), (8, 1), (9, 1), (10, 1), (11, 1), (12, 1), (13, 1), (14, 1), (15, 1), (16, 1), (17, 1), (18, 1), (19, 1), (20, 1), (21, 1), (22, 1)] (by kernel_rfl) ?_
    refine wpS_this [0, 1, 2, 3, 4, 5, 6, 7, 8, 9, 10, 11, 12, 13, 14, 15, 16, 17, 18, 19, 20, 21, 22] rfl (by kernel_rfl) (by simp only [pickL, nthL, List.cons_append, List.nil_append]; rfl) ?_
    repeat (go_big_quiet_step (fail))
    refine wpQuiet_nil ?_
    refine wpS_nil ?_
    refine then_normal ?_
    refine wp_seq ?_
    refine wp_seq ?_
    refine wp_region_N [(0, 1), (1, 3), (2, 1), (3, 1)] (by kernel_rfl) ?_
    have Cb7 := Mem.cell HM17.out 1 rfl
    refine wpS_this [0] rfl (by kernel_rfl) (by simp only [pickL, nthL, List.cons_append, List.nil_append]; rfl) ?_
    repeat (go_big_quiet_step (fail))
    refine wpQuiet_nil ?_
    clear Cb7
    refine wpS_does1 (i := 1) (d := some 44) (rem := [_, _]) (out := [_, _]) rfl (by rfl) rfl Try.call9 (may_d e o) rfl HM17.out [] rfl covS_nil rfl rfl ?_
    rintro W79 hm78 -
    rw [hm.out]
    have HM80 := Lib.hid hm78
    clear hm78
    simp only [Act.put, List.setIfInBounds_toArray, List.set_cons_succ, List.set_cons_zero]
    refine wpS_this [2, 3] rfl (by kernel_rfl) (by simp only [pickL, nthL, List.cons_append, List.nil_append]; rfl) ?_
    repeat (go_big_quiet_step (fail))
    refine wpQuiet_nil ?_
    refine wpS_nil ?_
    refine then_normal ?_
    refine wp_cond_false rfl ?_
    refine wp_skip ?_
    refine then_normal ?_
    refine wp_seq ?_
    rcases (show to < 0 ∨ (0 ≤ to ∧ 8 ≤ to) ∨ (0 ≤ to ∧ to < 8) from by omega) with ht | ⟨ht, ht2⟩ | ⟨ht, ht2⟩
    · have hn : nodeE to = false := decide_eq_false (by omega)
      have g5 : decide (0 ≤ to) = false := decide_eq_false (by omega)
      obtain ⟨rf1, rf2, rf3⟩ := flip_no hf.out (.inl hm.out)
      subst f1
      subst f2
      subst fe
      clear hn
      refine wp_region_N [(0, 1), (1, 1), (2, 1), (3, 1), (4, 1), (5, 1), (6, 1)] (by kernel_rfl) ?_
      refine wpS_this [0, 1, 2, 3, 4, 5, 6] rfl (by kernel_rfl) (by simp only [pickL, nthL, List.cons_append, List.nil_append]; rfl) ?_
      repeat (go_big_quiet_step (fail))
      refine wpQuiet_nil ?_
      refine wpS_nil ?_
      refine then_normal ?_
      refine wp_seq ?_
      refine wp_block ?_
      refine wp_seq ?_
      refine wp_region_N [(0, 1), (1, 1), (2, 1), (3, 1), (4, 1), (5, 1), (6, 1)] (by kernel_rfl) ?_
      refine wpS_this [0, 1, 2, 3, 4, 5, 6] rfl (by kernel_rfl) (by simp only [pickL, nthL, List.cons_append, List.nil_append]; rfl) ?_
      repeat (go_big_quiet_step (fail))
      refine wpQuiet_nil ?_
      refine wpS_nil ?_
      refine then_normal ?_
      refine wp_cond_true rfl ?_
      refine wp_seq ?_
      refine wp_region_N [(0, 1), (1, 1), (2, 1), (3, 1), (4, 1), (5, 1), (6, 1), (7, 1), (8, 3), (9, 1), (10, 1)] (by kernel_rfl) ?_
      have Cb8 := Mem.cell HM80.out 0 rfl
      refine wpS_this [0, 1, 2, 3, 4] rfl (by kernel_rfl) (by simp only [pickL, nthL, List.cons_append, List.nil_append]; rfl) ?_
      repeat (go_big_quiet_step (fail))
      refine wpQuiet_nil ?_
      clear Cb8
      refine wpS_read (i := 5) (d := some 65) rfl (by rfl) (run_eqEb (p := (0, 0)) (q := (0, 0)) (decide_eq_true rfl) rfl rfl rfl) rfl ?_
      simp only [Act.put, List.setIfInBounds_toArray, List.set_cons_succ, List.set_cons_zero]
      refine wpS_this [6, 7] rfl (by kernel_rfl) (by simp only [pickL, nthL, List.cons_append, List.nil_append]; rfl) ?_
      repeat (go_big_quiet_step (fail))
      refine wpQuiet_nil ?_
      refine wpS_does0 (i := 8) (d := some 68) (rem := [_, _]) (out := [_, _]) rfl (by rfl) rfl Try.call15 (awake_d)  HM80.out [] rfl covS_nil rfl rfl ?_
      rintro W82 hm81 -
      have HM83 := Lib.hid hm81
      clear hm81
      simp only [Act.put, List.setIfInBounds_toArray, List.set_cons_succ, List.set_cons_zero]
      refine wpS_this [9, 10] rfl (by kernel_rfl) (by simp only [pickL, nthL, List.cons_append, List.nil_append]; rfl) ?_
      repeat (go_big_quiet_step (fail))
      refine wpQuiet_nil ?_
      refine wpS_nil ?_
      refine then_normal ?_
      refine wp_ret ?_
      refine block_ret (then_ret ?_)
      refine bodyPost_ret (results_tmp rfl _ _ _) rfl ?_
      exact does_ret (Mem.only (M := []) HM83.out [] rfl) rfl rfl
    · have hn : nodeE to = false := decide_eq_false (by omega)
      have g5 : decide (0 ≤ to) = true := decide_eq_true (by omega)
      have g6 : decide (to < 8) = false := decide_eq_false (by omega)
      obtain ⟨rf1, rf2, rf3⟩ := flip_no hf.out (.inl hm.out)
      subst f1
      subst f2
      subst fe
      clear hn
      refine wp_region_N [(0, 1), (1, 1), (2, 1), (3, 1), (4, 1), (5, 1), (6, 1)] (by kernel_rfl) ?_
      refine wpS_this [0, 1, 2, 3, 4, 5, 6] rfl (by kernel_rfl) (by simp only [pickL, nthL, List.cons_append, List.nil_append]; rfl) ?_
      repeat (go_big_quiet_step (fail))
      refine wpQuiet_nil ?_
      refine wpS_nil ?_
      refine then_normal ?_
      refine wp_seq ?_
      refine wp_block ?_
      refine wp_seq ?_
      refine wp_region_N [(0, 1), (1, 1), (2, 1), (3, 1), (4, 1), (5, 1), (6, 1)] (by kernel_rfl) ?_
      refine wpS_this [0, 1, 2, 3, 4, 5, 6] rfl (by kernel_rfl) (by simp only [pickL, nthL, List.cons_append, List.nil_append]; rfl) ?_
      repeat (go_big_quiet_step (fail))
      refine wpQuiet_nil ?_
      refine wpS_nil ?_
      refine then_normal ?_
      refine wp_cond_true rfl ?_
      refine wp_seq ?_
      refine wp_region_N [(0, 1), (1, 1), (2, 1), (3, 1), (4, 1), (5, 1), (6, 1), (7, 1), (8, 3), (9, 1), (10, 1)] (by kernel_rfl) ?_
      have Cb8 := Mem.cell HM80.out 0 rfl
      refine wpS_this [0, 1, 2, 3, 4] rfl (by kernel_rfl) (by simp only [pickL, nthL, List.cons_append, List.nil_append]; rfl) ?_
      repeat (go_big_quiet_step (fail))
      refine wpQuiet_nil ?_
      clear Cb8
      refine wpS_read (i := 5) (d := some 65) rfl (by rfl) (run_eqEb (p := (0, 0)) (q := (0, 0)) (decide_eq_true rfl) rfl rfl rfl) rfl ?_
      simp only [Act.put, List.setIfInBounds_toArray, List.set_cons_succ, List.set_cons_zero]
      refine wpS_this [6, 7] rfl (by kernel_rfl) (by simp only [pickL, nthL, List.cons_append, List.nil_append]; rfl) ?_
      repeat (go_big_quiet_step (fail))
      refine wpQuiet_nil ?_
      refine wpS_does0 (i := 8) (d := some 68) (rem := [_, _]) (out := [_, _]) rfl (by rfl) rfl Try.call15 (awake_d)  HM80.out [] rfl covS_nil rfl rfl ?_
      rintro W85 hm84 -
      have HM86 := Lib.hid hm84
      clear hm84
      simp only [Act.put, List.setIfInBounds_toArray, List.set_cons_succ, List.set_cons_zero]
      refine wpS_this [9, 10] rfl (by kernel_rfl) (by simp only [pickL, nthL, List.cons_append, List.nil_append]; rfl) ?_
      repeat (go_big_quiet_step (fail))
      refine wpQuiet_nil ?_
      refine wpS_nil ?_
      refine then_normal ?_
      refine wp_ret ?_
      refine block_ret (then_ret ?_)
      refine bodyPost_ret (results_tmp rfl _ _ _) rfl ?_
      exact does_ret (Mem.only (M := []) HM86.out [] rfl) rfl rfl
    · have hn : nodeE to = true := decide_eq_true (by omega)
      have g5 : decide (0 ≤ to) = true := decide_eq_true (by omega)
      have g6 : decide (to < 8) = true := decide_eq_true (by omega)
      obtain ⟨rf1, rf2, rf3⟩ := flip_no hf.out (.inl hm.out)
      subst f1
      subst f2
      subst fe
      clear hn
      refine wp_region_N [(0, 1), (1, 1), (2, 1), (3, 1), (4, 1), (5, 1), (6, 1)] (by kernel_rfl) ?_
      refine wpS_this [0, 1, 2, 3, 4, 5, 6] rfl (by kernel_rfl) (by simp only [pickL, nthL, List.cons_append, List.nil_append]; rfl) ?_
      repeat (go_big_quiet_step (fail))
      refine wpQuiet_nil ?_
      refine wpS_nil ?_
      refine then_normal ?_
      refine wp_seq ?_
      refine wp_block ?_
      refine wp_seq ?_
      refine wp_region_N [(0, 1), (1, 1), (2, 1), (3, 1), (4, 1), (5, 1), (6, 1)] (by kernel_rfl) ?_
      refine wpS_this [0, 1, 2, 3, 4, 5, 6] rfl (by kernel_rfl) (by simp only [pickL, nthL, List.cons_append, List.nil_append]; rfl) ?_
      repeat (go_big_quiet_step (fail))
      refine wpQuiet_nil ?_
      refine wpS_nil ?_
      refine then_normal ?_
      refine wp_cond_true rfl ?_
      refine wp_seq ?_
      refine wp_region_N [(0, 1), (1, 1), (2, 1), (3, 1), (4, 1), (5, 1), (6, 1), (7, 1), (8, 3), (9, 1), (10, 1)] (by kernel_rfl) ?_
      have Cb8 := Mem.cell HM80.out 0 rfl
      refine wpS_this [0, 1, 2, 3, 4] rfl (by kernel_rfl) (by simp only [pickL, nthL, List.cons_append, List.nil_append]; rfl) ?_
      repeat (go_big_quiet_step (fail))
      refine wpQuiet_nil ?_
      clear Cb8
      refine wpS_read (i := 5) (d := some 65) rfl (by rfl) (run_eqEb (p := (0, 0)) (q := (0, 0)) (decide_eq_true rfl) rfl rfl rfl) rfl ?_
      simp only [Act.put, List.setIfInBounds_toArray, List.set_cons_succ, List.set_cons_zero]
      refine wpS_this [6, 7] rfl (by kernel_rfl) (by simp only [pickL, nthL, List.cons_append, List.nil_append]; rfl) ?_
      repeat (go_big_quiet_step (fail))
      refine wpQuiet_nil ?_
      refine wpS_does0 (i := 8) (d := some 68) (rem := [_, _]) (out := [_, _]) rfl (by rfl) rfl Try.call15 (awake_d)  HM80.out [] rfl covS_nil rfl rfl ?_
      rintro W88 hm87 -
      have HM89 := Lib.hid hm87
      clear hm87
      simp only [Act.put, List.setIfInBounds_toArray, List.set_cons_succ, List.set_cons_zero]
      refine wpS_this [9, 10] rfl (by kernel_rfl) (by simp only [pickL, nthL, List.cons_append, List.nil_append]; rfl) ?_
      repeat (go_big_quiet_step (fail))
      refine wpQuiet_nil ?_
      refine wpS_nil ?_
      refine then_normal ?_
      refine wp_ret ?_
      refine block_ret (then_ret ?_)
      refine bodyPost_ret (results_tmp rfl _ _ _) rfl ?_
      exact does_ret (Mem.only (M := []) HM89.out [] rfl) rfl rfl
  · have ge : (e == 0) = false := beq_eq_false_iff_ne.2 (by omega)
    have g1 : decide (1 ≤ e) = true := decide_eq_true (by omega)
    replace hm := Lib.hid hm
    have g2 : decide (e ≤ 1000000) = true := decide_eq_true (by omega)
    have g3 : decide (0 ≤ o) = true := decide_eq_true (by omega)
    have g4 : decide (o < 8) = true := decide_eq_true (by omega)
    refine wp_region_N [(0, 1), (1, 1), (2, 1), (3, 1), (4, 1), (5, 1), (6, 1), (7, 1), (8, 1), (9, 1), (10, 1), (11, 1), (12, 1), (13, 1), (14, 1), (15, 1), (16, 1), (17, 1), (18, 1), (19, 1), (20, 1), (21, 1), (22, 1)] (by kernel_rfl) ?_
    refine wpS_this [0, 1, 2, 3, 4, 5, 6, 7, 8, 9, 10, 11, 12, 13, 14, 15, 16, 17, 18, 19, 20, 21, 22] rfl (by kernel_rfl) (by simp only [pickL, nthL, List.cons_append, List.nil_append]; rfl) ?_
    repeat (go_big_quiet_step (fail))
    refine wpQuiet_nil ?_
    refine wpS_nil ?_
    refine then_normal ?_
    refine wp_seq ?_
    refine wp_seq ?_
    refine wp_region_N [(0, 1), (1, 3), (2, 1), (3, 1)] (by kernel_rfl) ?_
    have Cb7 := Mem.cell HM17.out 1 rfl
    refine wpS_this [0] rfl (by kernel_rfl) (by simp only [pickL, nthL, List.cons_append, List.nil_append]; rfl) ?_
    repeat (go_big_quiet_step (fail))
    refine wpQuiet_nil ?_
    clear Cb7
    refine wpS_does1 (i := 1) (d := some 44) (rem := [_, _]) (out := [_, _]) rfl (by rfl) rfl Try.call9 (may_d e o) rfl HM17.out [] rfl covS_nil rfl rfl ?_
    rintro W91 hm90 -
    rw [hm.out]
    have HM92 := Lib.hid hm90
    clear hm90
    simp only [Act.put, List.setIfInBounds_toArray, List.set_cons_succ, List.set_cons_zero]
    refine wpS_this [2, 3] rfl (by kernel_rfl) (by simp only [pickL, nthL, List.cons_append, List.nil_append]; rfl) ?_
    repeat (go_big_quiet_step (fail))
    refine wpQuiet_nil ?_
    refine wpS_nil ?_
    refine then_normal ?_
    refine wp_cond_false rfl ?_
    refine wp_skip ?_
    refine then_normal ?_
    refine wp_seq ?_
    rcases (show to < 0 ∨ (0 ≤ to ∧ 8 ≤ to) ∨ (0 ≤ to ∧ to < 8 ∧ e = 1000000) ∨ (0 ≤ to ∧ to < 8 ∧ e ≠ 1000000) from by omega) with ht | ⟨ht, ht2⟩ | ⟨ht, ht2, hx⟩ | ⟨ht, ht2, hx⟩
    · have hn : nodeE to = false := decide_eq_false (by omega)
      have g5 : decide (0 ≤ to) = false := decide_eq_false (by omega)
      obtain ⟨rf1, rf2, rf3⟩ := flip_no hf.out (.inr hn)
      subst f1
      subst f2
      subst fe
      clear hn
      refine wp_region_N [(0, 1), (1, 1), (2, 1), (3, 1), (4, 1), (5, 1), (6, 1)] (by kernel_rfl) ?_
      refine wpS_this [0, 1, 2, 3, 4, 5, 6] rfl (by kernel_rfl) (by simp only [pickL, nthL, List.cons_append, List.nil_append]; rfl) ?_
      repeat (go_big_quiet_step (fail))
      refine wpQuiet_nil ?_
      refine wpS_nil ?_
      refine then_normal ?_
      refine wp_seq ?_
      refine wp_block ?_
      refine wp_seq ?_
      refine wp_region_N [(0, 1), (1, 1), (2, 1), (3, 1), (4, 1), (5, 1), (6, 1)] (by kernel_rfl) ?_
      refine wpS_this [0, 1, 2, 3, 4, 5, 6] rfl (by kernel_rfl) (by simp only [pickL, nthL, List.cons_append, List.nil_append]; rfl) ?_
      repeat (go_big_quiet_step (fail))
      refine wpQuiet_nil ?_
      refine wpS_nil ?_
      refine then_normal ?_
      refine wp_cond_true rfl ?_
      refine wp_seq ?_
      refine wp_region_N [(0, 1), (1, 1), (2, 1), (3, 1), (4, 1), (5, 1), (6, 1), (7, 1), (8, 3), (9, 1), (10, 1)] (by kernel_rfl) ?_
      have Cb8 := Mem.cell HM92.out 0 rfl
      refine wpS_this [0, 1, 2, 3, 4] rfl (by kernel_rfl) (by simp only [pickL, nthL, List.cons_append, List.nil_append]; rfl) ?_
      repeat (go_big_quiet_step (fail))
      refine wpQuiet_nil ?_
      clear Cb8
      refine wpS_read (i := 5) (d := some 65) rfl (by rfl) (run_eqEb (p := (0, 0)) (q := (0, 0)) (decide_eq_true rfl) rfl rfl rfl) rfl ?_
      simp only [Act.put, List.setIfInBounds_toArray, List.set_cons_succ, List.set_cons_zero]
      refine wpS_this [6, 7] rfl (by kernel_rfl) (by simp only [pickL, nthL, List.cons_append, List.nil_append]; rfl) ?_
      repeat (go_big_quiet_step (fail))
      refine wpQuiet_nil ?_
      refine wpS_does0 (i := 8) (d := some 68) (rem := [_, _]) (out := [_, _]) rfl (by rfl) rfl Try.call15 (awake_d)  HM92.out [] rfl covS_nil rfl rfl ?_
      rintro W94 hm93 -
      have HM95 := Lib.hid hm93
      clear hm93
      simp only [Act.put, List.setIfInBounds_toArray, List.set_cons_succ, List.set_cons_zero]
      refine wpS_this [9, 10] rfl (by kernel_rfl) (by simp only [pickL, nthL, List.cons_append, List.nil_append]; rfl) ?_
      repeat (go_big_quiet_step (fail))
      refine wpQuiet_nil ?_
      refine wpS_nil ?_
      refine then_normal ?_
      refine wp_ret ?_
      refine block_ret (then_ret ?_)
      refine bodyPost_ret (results_tmp rfl _ _ _) rfl ?_
      exact does_ret (Mem.only (M := []) HM95.out [] rfl) rfl rfl
    · have hn : nodeE to = false := decide_eq_false (by omega)
      have g5 : decide (0 ≤ to) = true := decide_eq_true (by omega)
      have g6 : decide (to < 8) = false := decide_eq_false (by omega)
      obtain ⟨rf1, rf2, rf3⟩ := flip_no hf.out (.inr hn)
      subst f1
      subst f2
      subst fe
      clear hn
      refine wp_region_N [(0, 1), (1, 1), (2, 1), (3, 1), (4, 1), (5, 1), (6, 1)] (by kernel_rfl) ?_
      refine wpS_this [0, 1, 2, 3, 4, 5, 6] rfl (by kernel_rfl) (by simp only [pickL, nthL, List.cons_append, List.nil_append]; rfl) ?_
      repeat (go_big_quiet_step (fail))
      refine wpQuiet_nil ?_
      refine wpS_nil ?_
      refine then_normal ?_
      refine wp_seq ?_
      refine wp_block ?_
      refine wp_seq ?_
      refine wp_region_N [(0, 1), (1, 1), (2, 1), (3, 1), (4, 1), (5, 1), (6, 1)] (by kernel_rfl) ?_
      refine wpS_this [0, 1, 2, 3, 4, 5, 6] rfl (by kernel_rfl) (by simp only [pickL, nthL, List.cons_append, List.nil_append]; rfl) ?_
      repeat (go_big_quiet_step (fail))
      refine wpQuiet_nil ?_
      refine wpS_nil ?_
      refine then_normal ?_
      refine wp_cond_true rfl ?_
      refine wp_seq ?_
      refine wp_region_N [(0, 1), (1, 1), (2, 1), (3, 1), (4, 1), (5, 1), (6, 1), (7, 1), (8, 3), (9, 1), (10, 1)] (by kernel_rfl) ?_
      have Cb8 := Mem.cell HM92.out 0 rfl
      refine wpS_this [0, 1, 2, 3, 4] rfl (by kernel_rfl) (by simp only [pickL, nthL, List.cons_append, List.nil_append]; rfl) ?_
      repeat (go_big_quiet_step (fail))
      refine wpQuiet_nil ?_
      clear Cb8
      refine wpS_read (i := 5) (d := some 65) rfl (by rfl) (run_eqEb (p := (0, 0)) (q := (0, 0)) (decide_eq_true rfl) rfl rfl rfl) rfl ?_
      simp only [Act.put, List.setIfInBounds_toArray, List.set_cons_succ, List.set_cons_zero]
      refine wpS_this [6, 7] rfl (by kernel_rfl) (by simp only [pickL, nthL, List.cons_append, List.nil_append]; rfl) ?_
      repeat (go_big_quiet_step (fail))
      refine wpQuiet_nil ?_
      refine wpS_does0 (i := 8) (d := some 68) (rem := [_, _]) (out := [_, _]) rfl (by rfl) rfl Try.call15 (awake_d)  HM92.out [] rfl covS_nil rfl rfl ?_
      rintro W97 hm96 -
      have HM98 := Lib.hid hm96
      clear hm96
      simp only [Act.put, List.setIfInBounds_toArray, List.set_cons_succ, List.set_cons_zero]
      refine wpS_this [9, 10] rfl (by kernel_rfl) (by simp only [pickL, nthL, List.cons_append, List.nil_append]; rfl) ?_
      repeat (go_big_quiet_step (fail))
      refine wpQuiet_nil ?_
      refine wpS_nil ?_
      refine then_normal ?_
      refine wp_ret ?_
      refine block_ret (then_ret ?_)
      refine bodyPost_ret (results_tmp rfl _ _ _) rfl ?_
      exact does_ret (Mem.only (M := []) HM98.out [] rfl) rfl rfl
    · have hn : nodeE to = true := decide_eq_true (by omega)
      have g5 : decide (0 ≤ to) = true := decide_eq_true (by omega)
      have g6 : decide (to < 8) = true := decide_eq_true (by omega)
      have gx : (e == 1000000) = true := beq_iff_eq.2 hx
      obtain ⟨rf1, rf2, rf3⟩ := flip_over hf.out hm.out hn hx
      subst f1
      subst f2
      subst fe
      clear hn
      replace hx := Lib.hid hx
      refine wp_region_N [(0, 1), (1, 1), (2, 1), (3, 1), (4, 1), (5, 1), (6, 1)] (by kernel_rfl) ?_
      refine wpS_this [0, 1, 2, 3, 4, 5, 6] rfl (by kernel_rfl) (by simp only [pickL, nthL, List.cons_append, List.nil_append]; rfl) ?_
      repeat (go_big_quiet_step (fail))
      refine wpQuiet_nil ?_
      refine wpS_nil ?_
      refine then_normal ?_
      refine wp_seq ?_
      refine wp_block ?_
      refine wp_seq ?_
      refine wp_region_N [(0, 1), (1, 1), (2, 1), (3, 1), (4, 1), (5, 1), (6, 1)] (by kernel_rfl) ?_
      refine wpS_this [0, 1, 2, 3, 4, 5, 6] rfl (by kernel_rfl) (by simp only [pickL, nthL, List.cons_append, List.nil_append]; rfl) ?_
      repeat (go_big_quiet_step (fail))
      refine wpQuiet_nil ?_
      refine wpS_nil ?_
      refine then_normal ?_
      refine wp_cond_false rfl ?_
      refine wp_seq ?_
      refine wp_region_N [(0, 1), (1, 1), (2, 1)] (by kernel_rfl) ?_
      refine wpS_this [0, 1, 2] rfl (by kernel_rfl) (by simp only [pickL, nthL, List.cons_append, List.nil_append]; rfl) ?_
      repeat (go_big_quiet_step (fail))
      refine wpQuiet_nil ?_
      refine wpS_nil ?_
      refine then_normal ?_
      refine wp_cond_true rfl ?_
      refine wp_seq ?_
      refine wp_region_N [(0, 1), (1, 1), (2, 1), (3, 1), (4, 1), (5, 1), (6, 1), (7, 1), (8, 3), (9, 1), (10, 1)] (by kernel_rfl) ?_
      have Cb8 := Mem.cell HM92.out 0 rfl
      refine wpS_this [0, 1, 2, 3, 4] rfl (by kernel_rfl) (by simp only [pickL, nthL, List.cons_append, List.nil_append]; rfl) ?_
      repeat (go_big_quiet_step (fail))
      refine wpQuiet_nil ?_
      clear Cb8
      refine wpS_read (i := 5) (d := some 78) rfl (by rfl) (run_eqEb (p := (0, 0)) (q := (0, 0)) (decide_eq_true rfl) rfl rfl rfl) rfl ?_
      simp only [Act.put, List.setIfInBounds_toArray, List.set_cons_succ, List.set_cons_zero]
      refine wpS_this [6, 7] rfl (by kernel_rfl) (by simp only [pickL, nthL, List.cons_append, List.nil_append]; rfl) ?_
      repeat (go_big_quiet_step (fail))
      refine wpQuiet_nil ?_
      refine wpS_does0 (i := 8) (d := some 81) (rem := [_, _]) (out := [_, _]) rfl (by rfl) rfl Try.call15 (awake_d)  HM92.out [] rfl covS_nil rfl rfl ?_
      rintro W100 hm99 -
      have HM101 := Lib.hid hm99
      clear hm99
      simp only [Act.put, List.setIfInBounds_toArray, List.set_cons_succ, List.set_cons_zero]
      refine wpS_this [9, 10] rfl (by kernel_rfl) (by simp only [pickL, nthL, List.cons_append, List.nil_append]; rfl) ?_
      repeat (go_big_quiet_step (fail))
      refine wpQuiet_nil ?_
      refine wpS_nil ?_
      refine then_normal ?_
      refine wp_ret ?_
      refine block_ret (then_ret ?_)
      refine bodyPost_ret (results_tmp rfl _ _ _) rfl ?_
      exact does_ret (Mem.only (M := []) HM101.out [] rfl) rfl rfl
    · have hn : nodeE to = true := decide_eq_true (by omega)
      have g5 : decide (0 ≤ to) = true := decide_eq_true (by omega)
      have g6 : decide (to < 8) = true := decide_eq_true (by omega)
      have gx : (e == 1000000) = false := beq_eq_false_iff_ne.2 hx
      obtain ⟨rf1, rf2, rf3⟩ := flip_yes hf.out hm.out hn hx
      dsimp only at rf1
      subst f1
      subst f2
      subst fe
      clear hn
      replace hx := Lib.hid hx
      refine wp_region_N [(0, 1), (1, 1), (2, 1), (3, 1), (4, 1), (5, 1), (6, 1)] (by kernel_rfl) ?_
      refine wpS_this [0, 1, 2, 3, 4, 5, 6] rfl (by kernel_rfl) (by simp only [pickL, nthL, List.cons_append, List.nil_append]; rfl) ?_
      repeat (go_big_quiet_step (fail))
      refine wpQuiet_nil ?_
      refine wpS_nil ?_
      refine then_normal ?_
      refine wp_seq ?_
      refine wp_block ?_
      refine wp_seq ?_
      refine wp_region_N [(0, 1), (1, 1), (2, 1), (3, 1), (4, 1), (5, 1), (6, 1)] (by kernel_rfl) ?_
      refine wpS_this [0, 1, 2, 3, 4, 5, 6] rfl (by kernel_rfl) (by simp only [pickL, nthL, List.cons_append, List.nil_append]; rfl) ?_
      repeat (go_big_quiet_step (fail))
      refine wpQuiet_nil ?_
      refine wpS_nil ?_
      refine then_normal ?_
      refine wp_cond_false rfl ?_
      refine wp_seq ?_
      refine wp_region_N [(0, 1), (1, 1), (2, 1)] (by kernel_rfl) ?_
      refine wpS_this [0, 1, 2] rfl (by kernel_rfl) (by simp only [pickL, nthL, List.cons_append, List.nil_append]; rfl) ?_
      repeat (go_big_quiet_step (fail))
      refine wpQuiet_nil ?_
      refine wpS_nil ?_
      refine then_normal ?_
      refine wp_cond_false rfl ?_
      refine wp_skip ?_
      refine block_normal ?_
      refine then_normal ?_
      refine wp_seq ?_
      refine wp_region_N [(0, 1), (1, 1), (2, 1), (3, 1), (4, 1), (5, 1), (6, 1), (7, 1), (8, 1), (9, 1), (10, 1), (11, 3), (12, 1), (13, 1)] (by kernel_rfl) ?_
      have Cb8 := Mem.cell HM92.out 0 rfl
      refine wpS_this [0, 1, 2, 3, 4, 5, 6, 7] rfl (by kernel_rfl) (by simp only [pickL, nthL, List.cons_append, List.nil_append]; rfl) ?_
      repeat (go_big_quiet_step (fail))
      refine wpQuiet_nil ?_
      clear Cb8
      refine wpS_read (i := 8) (d := some 91) rfl (by rfl) (run_eqEb (p := (e + 1, to)) (q := (e + 1, to)) (decide_eq_true rfl) rfl rfl rfl) rfl ?_
      simp only [Act.put, List.setIfInBounds_toArray, List.set_cons_succ, List.set_cons_zero]
      refine wpS_this [9, 10] rfl (by kernel_rfl) (by simp only [pickL, nthL, List.cons_append, List.nil_append]; rfl) ?_
      repeat (go_big_quiet_step (fail))
      refine wpQuiet_nil ?_
      refine wpS_does0 (i := 11) (d := some 94) (rem := [_, _]) (out := [_, _]) rfl (by rfl) rfl Try.call15 (awake_d)  HM92.out [] rfl covS_nil rfl rfl ?_
      rintro W103 hm102 -
      have HM104 := Lib.hid hm102
      clear hm102
      simp only [Act.put, List.setIfInBounds_toArray, List.set_cons_succ, List.set_cons_zero]
      refine wpS_this [12, 13] rfl (by kernel_rfl) (by simp only [pickL, nthL, List.cons_append, List.nil_append]; rfl) ?_
      repeat (go_big_quiet_step (fail))
      refine wpQuiet_nil ?_
      refine wpS_nil ?_
      refine then_normal ?_
      refine wp_ret ?_
      refine bodyPost_ret (results_tmp rfl _ _ _) rfl ?_
      exact does_ret (Mem.only (M := []) HM104.out [] rfl) rfl rfl

end Go.Proofs.Ytonlnhcjfdeipaa
