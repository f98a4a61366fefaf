/- Entries: the reference's functions. -/
import Derived.Test.YtonlnhcjfdeipaaEntQ
import Derived.Test.YtonlnhcjfdeipaaSxRes
import Derived.Test.YtonlnhcjfdeipaaSxBase
namespace Go.Proofs.Ytonlnhcjfdeipaa
open Go Go.RowKit Go.BigFrame

theorem cmpE_eq {a1 a2 b1 b2 : Int} (h : a1 = b1) : cmpE (a1, a2) (b1, b2) = cmpI a2 b2 := by
  subst h
  unfold cmpE orI
  rcases cmpI_spec a1 a1 with ⟨h1, h2⟩ | ⟨h1, h2⟩ | ⟨h1, h2⟩
  · omega
  · dsimp only; rw [h2]; rfl
  · omega
theorem cmpE_ne {a1 a2 b1 b2 : Int} (h : ¬ a1 = b1) : cmpE (a1, a2) (b1, b2) = cmpI a1 b1 := by
  unfold cmpE orI
  rcases cmpI_spec a1 b1 with ⟨h1, h2⟩ | ⟨h1, h2⟩ | ⟨h1, h2⟩
  · dsimp only; rw [h2]; rfl
  · omega
  · dsimp only; rw [h2]; rfl
theorem or_cases (x y : Int) : ((x != 0) = true ∧ orI x y = x) ∨ ((x != 0) = false ∧ (y != 0) = true ∧ orI x y = y) ∨ ((x != 0) = false ∧ (y != 0) = false ∧ orI x y = 0) := by
  unfold orI
  by_cases hx : x = 0
  · by_cases hy : y = 0
    · exact .inr (.inr ⟨by simp [hx], by simp [hy], by simp [hx, hy]⟩)
    · exact .inr (.inl ⟨by simp [hx], by simp [hy], by simp [hx]⟩)
  · exact .inl ⟨by simp [hx], by simp [hx]⟩
theorem mayE_le {x : En} (h : mayE x = true) : 0 ≤ x.1 ∧ x.1 ≤ 1000000 := by
  have := of_decide_eq_true h
  omega
theorem flip_cases (e1 e2 to : Int) : mayE (e1, e2) = false ∨ (mayE (e1, e2) = true ∧ nodeE to = false) ∨ (mayE (e1, e2) = true ∧ nodeE to = true ∧ e1 = 1000000) ∨ (mayE (e1, e2) = true ∧ nodeE to = true ∧ ¬ e1 = 1000000) := by
  cases mayE (e1, e2) <;> cases nodeE to <;> simp
  exact Classical.em _
theorem rnode_any (n : Int) (w : World) : Gives Try.prog 17 #[.int .i64 n] w (.bool (nodeE n)) := by
  unfold Gives
  by_cases q0 : 0 ≤ n <;> by_cases q1 : n < 8
  all_goals try (exfalso; omega)
  all_goals first | (have H : Hid (nodeE n = true) := Lib.hid (by simp [nodeE]; omega)) | (have H : Hid (nodeE n = false) := Lib.hid (by simp [nodeE]; omega))
  all_goals
    go_enter Try.func17, Try.ntmps17
    go_wp2
    all_goals go_ret
    all_goals exact ⟨by rw [H.out]; rfl, Later.ex (by repeat (first | exact ext_refl _ | refine ext_alloc ?_ _ | refine ext_later ?_ _ | refine ext_drew ?_ | refine ext_drewN ?_ _))⟩
theorem rnode_d (n : Int) : Does Try.prog 17 #[.int .i64 n] [] (.bool (nodeE n)) [] := Does.of_any fun w => rnode_any n w
set_option maxHeartbeats 4000000 in
set_option maxRecDepth 100000 in
theorem rcmp_d (x y : Int) : Does Try.prog 20 #[.int .i64 x, .int .i64 y] [] (.int .i64 (cmpI x y)) [] := by
  intro w H hp
  have HM0 := Lib.hid (mem_refl hp)
  clear hp
  go_enter Try.func20, Try.ntmps20
  refine wp_seq ?_
  refine wp_region_N [(0, 1)] (by kernel_rfl) ?_
  refine wpS_this [0] rfl (by kernel_rfl) (by simp only [pickL, nthL, List.cons_append, List.nil_append]; rfl) ?_
  repeat (go_big_quiet_step (fail))
  refine wpQuiet_nil ?_
  refine wpS_nil ?_
  refine then_normal ?_
  refine wp_seq ?_
  refine wp_block ?_
  refine wp_seq ?_
  rcases cmpI_spec x y with ⟨h, hc⟩ | ⟨h, hc⟩ | ⟨h, hc⟩
  · have g1 : decide (x < y) = true := decide_eq_true h
    have hc := Lib.hid hc
    refine wp_region_N [(0, 1), (1, 1), (2, 1), (3, 1)] (by kernel_rfl) ?_
    refine wpS_this [0, 1, 2, 3] rfl (by kernel_rfl) (by simp only [pickL, nthL, List.cons_append, List.nil_append]; rfl) ?_
    repeat (go_big_quiet_step (fail))
    refine wpQuiet_nil ?_
    refine wpS_nil ?_
    refine then_normal ?_
    refine wp_cond_true rfl ?_
    refine wp_seq ?_
    refine wp_region_N [(0, 1)] (by kernel_rfl) ?_
    refine wpS_this [0] rfl (by kernel_rfl) (by simp only [pickL, nthL, List.cons_append, List.nil_append]; rfl) ?_
    repeat (go_big_quiet_step (fail))
    refine wpQuiet_nil ?_
    refine wpS_nil ?_
    refine then_normal ?_
    refine wp_ret ?_
    refine block_ret (then_ret ?_)
    refine bodyPost_ret (results_tmp rfl _ _ _) rfl ?_
    exact does_ret (Mem.only (M := []) HM0.out [] rfl) (congrArg (Value.int .i64) hc.out.symm) rfl
  · have g1 : decide (x < y) = false := decide_eq_false (by omega)
    have g2 : decide (y < x) = false := decide_eq_false (by omega)
    have hc := Lib.hid hc
    refine wp_region_N [(0, 1), (1, 1), (2, 1), (3, 1)] (by kernel_rfl) ?_
    refine wpS_this [0, 1, 2, 3] rfl (by kernel_rfl) (by simp only [pickL, nthL, List.cons_append, List.nil_append]; rfl) ?_
    repeat (go_big_quiet_step (fail))
    refine wpQuiet_nil ?_
    refine wpS_nil ?_
    refine then_normal ?_
    refine wp_cond_false rfl ?_
    refine wp_seq ?_
    refine wp_region_N [(0, 1), (1, 1), (2, 1), (3, 1)] (by kernel_rfl) ?_
    refine wpS_this [0, 1, 2, 3] rfl (by kernel_rfl) (by simp only [pickL, nthL, List.cons_append, List.nil_append]; rfl) ?_
    repeat (go_big_quiet_step (fail))
    refine wpQuiet_nil ?_
    refine wpS_nil ?_
    refine then_normal ?_
    refine wp_cond_false rfl ?_
    refine wp_skip ?_
    refine block_normal ?_
    refine then_normal ?_
    refine wp_seq ?_
    refine wp_region_N [(0, 1)] (by kernel_rfl) ?_
    refine wpS_this [0] rfl (by kernel_rfl) (by simp only [pickL, nthL, List.cons_append, List.nil_append]; rfl) ?_
    repeat (go_big_quiet_step (fail))
    refine wpQuiet_nil ?_
    refine wpS_nil ?_
    refine then_normal ?_
    refine wp_ret ?_
    refine bodyPost_ret (results_tmp rfl _ _ _) rfl ?_
    exact does_ret (Mem.only (M := []) HM0.out [] rfl) (congrArg (Value.int .i64) hc.out.symm) rfl
  · have g1 : decide (x < y) = false := decide_eq_false (by omega)
    have g2 : decide (y < x) = true := decide_eq_true (by omega)
    have hc := Lib.hid hc
    refine wp_region_N [(0, 1), (1, 1), (2, 1), (3, 1)] (by kernel_rfl) ?_
    refine wpS_this [0, 1, 2, 3] rfl (by kernel_rfl) (by simp only [pickL, nthL, List.cons_append, List.nil_append]; rfl) ?_
    repeat (go_big_quiet_step (fail))
    refine wpQuiet_nil ?_
    refine wpS_nil ?_
    refine then_normal ?_
    refine wp_cond_false rfl ?_
    refine wp_seq ?_
    refine wp_region_N [(0, 1), (1, 1), (2, 1), (3, 1)] (by kernel_rfl) ?_
    refine wpS_this [0, 1, 2, 3] rfl (by kernel_rfl) (by simp only [pickL, nthL, List.cons_append, List.nil_append]; rfl) ?_
    repeat (go_big_quiet_step (fail))
    refine wpQuiet_nil ?_
    refine wpS_nil ?_
    refine then_normal ?_
    refine wp_cond_true rfl ?_
    refine wp_seq ?_
    refine wp_region_N [(0, 1)] (by kernel_rfl) ?_
    refine wpS_this [0] rfl (by kernel_rfl) (by simp only [pickL, nthL, List.cons_append, List.nil_append]; rfl) ?_
    repeat (go_big_quiet_step (fail))
    refine wpQuiet_nil ?_
    refine wpS_nil ?_
    refine then_normal ?_
    refine wp_ret ?_
    refine block_ret (then_ret ?_)
    refine bodyPost_ret (results_tmp rfl _ _ _) rfl ?_
    exact does_ret (Mem.only (M := []) HM0.out [] rfl) (congrArg (Value.int .i64) hc.out.symm) rfl

set_option maxHeartbeats 4000000 in
set_option maxRecDepth 100000 in
theorem rmay_d (e1 e2 : Int) : Does Try.prog 10 #[.agg #[.int .i64 e1, .int .i64 e2]] [] (.bool (mayE (e1, e2))) [] := by
  intro w H hp
  have HM0 := Lib.hid (mem_refl hp)
  clear hp
  go_enter Try.func10, Try.ntmps10
  refine wp_seq ?_
  refine wp_region_N [(0, 3), (1, 1)] (by kernel_rfl) ?_
  refine wpS_boxA (i := 0) (dd := 1) rfl (by rfl) rfl rfl HM0.out covS_nil rfl ?_
  rintro b3 W2 hm1 -
  have HM4 := Lib.hid hm1
  clear hm1
  simp only [Act.put, List.setIfInBounds_toArray, List.set_cons_succ, List.set_cons_zero]
  refine wpS_this [1] rfl (by kernel_rfl) (by simp only [pickL, nthL, List.cons_append, List.nil_append]; rfl) ?_
  repeat (go_big_quiet_step (fail))
  refine wpQuiet_nil ?_
  refine wpS_nil ?_
  refine then_normal ?_
  refine wp_seq ?_
  rcases (show (e1 = 0 ∧ e2 = 0) ∨ (¬ (e1 = 0 ∧ e2 = 0) ∧ ¬ 1 ≤ e1) ∨ (¬ (e1 = 0 ∧ e2 = 0) ∧ 1 ≤ e1 ∧ ¬ e1 ≤ 1000000) ∨ (¬ (e1 = 0 ∧ e2 = 0) ∧ 1 ≤ e1 ∧ e1 ≤ 1000000) from by omega) with hz | ⟨hz, ha⟩ | ⟨hz, ha, hb⟩ | ⟨hz, ha, hb⟩
  · have gz : decide (((e1, e2) : En) = ((0, 0) : En)) = true := decide_eq_true (by rw [hz.1, hz.2])
    have hc : Hid (mayE (e1, e2) = true) := Lib.hid (by rw [hz.1, hz.2]; rfl)
    clear hz
    refine wp_region_N [(0, 1), (1, 1), (2, 1), (3, 1), (4, 1), (5, 1), (6, 1), (7, 1), (8, 1), (9, 1), (10, 1), (11, 1), (12, 1), (13, 1), (14, 1), (15, 3), (16, 1), (17, 1), (18, 1)] (by kernel_rfl) ?_
    have Cb1 := Mem.cell HM4.out 0 rfl
    refine wpS_this [0, 1] rfl (by kernel_rfl) (by simp only [pickL, nthL, List.cons_append, List.nil_append]; rfl) ?_
    repeat (go_big_quiet_step (fail))
    refine wpQuiet_nil ?_
    clear Cb1
    refine wpS_read (i := 2) (d := some 5) rfl (by rfl) (run_eqEb (p := (e1, e2)) (q := (0, 0)) gz rfl rfl rfl) rfl ?_
    simp only [Act.put, List.setIfInBounds_toArray, List.set_cons_succ, List.set_cons_zero]
    have Cb1 := Mem.cell HM4.out 0 rfl
    refine wpS_this [3, 4, 5, 6, 7, 8, 9, 10, 11, 12, 13, 14] rfl (by kernel_rfl) (by simp only [pickL, nthL, List.cons_append, List.nil_append]; rfl) ?_
    repeat (go_big_quiet_step (fail))
    refine wpQuiet_nil ?_
    clear Cb1
    refine wpS_skip (i := 15) (d := some 18) rfl (by rfl) rfl ?_
    simp only [Act.put, List.setIfInBounds_toArray, List.set_cons_succ, List.set_cons_zero]
    refine wpS_this [16, 17, 18] rfl (by kernel_rfl) (by simp only [pickL, nthL, List.cons_append, List.nil_append]; rfl) ?_
    repeat (go_big_quiet_step (fail))
    refine wpQuiet_nil ?_
    refine wpS_nil ?_
    refine then_normal ?_
    refine wp_ret ?_
    refine bodyPost_ret (results_tmp rfl _ _ _) rfl ?_
    rw [hc.out]
    exact does_ret (Mem.only (M := []) HM4.out [] rfl) rfl rfl
  · have gz : decide (((e1, e2) : En) = ((0, 0) : En)) = false := decide_eq_false (fun h => hz ⟨congrArg Prod.fst h, congrArg Prod.snd h⟩)
    have ga : decide (1 ≤ e1) = false := decide_eq_false (by omega)
    have hc : Hid (mayE (e1, e2) = false) := Lib.hid (by refine decide_eq_false ?_; dsimp only; omega)
    clear hz
    refine wp_region_N [(0, 1), (1, 1), (2, 1), (3, 1), (4, 1), (5, 1), (6, 1), (7, 1), (8, 1), (9, 1), (10, 1), (11, 1), (12, 1), (13, 1), (14, 1), (15, 3), (16, 1), (17, 1), (18, 1)] (by kernel_rfl) ?_
    have Cb1 := Mem.cell HM4.out 0 rfl
    refine wpS_this [0, 1] rfl (by kernel_rfl) (by simp only [pickL, nthL, List.cons_append, List.nil_append]; rfl) ?_
    repeat (go_big_quiet_step (fail))
    refine wpQuiet_nil ?_
    clear Cb1
    refine wpS_read (i := 2) (d := some 5) rfl (by rfl) (run_eqEb (p := (e1, e2)) (q := (0, 0)) gz rfl rfl rfl) rfl ?_
    simp only [Act.put, List.setIfInBounds_toArray, List.set_cons_succ, List.set_cons_zero]
    have Cb1 := Mem.cell HM4.out 0 rfl
    refine wpS_this [3, 4, 5, 6, 7, 8, 9, 10, 11, 12, 13, 14] rfl (by kernel_rfl) (by simp only [pickL, nthL, List.cons_append, List.nil_append]; rfl) ?_
    repeat (go_big_quiet_step (fail))
    refine wpQuiet_nil ?_
    clear Cb1
    refine wpS_skip (i := 15) (d := some 18) rfl (by rfl) rfl ?_
    simp only [Act.put, List.setIfInBounds_toArray, List.set_cons_succ, List.set_cons_zero]
    refine wpS_this [16, 17, 18] rfl (by kernel_rfl) (by simp only [pickL, nthL, List.cons_append, List.nil_append]; rfl) ?_
    repeat (go_big_quiet_step (fail))
    refine wpQuiet_nil ?_
    refine wpS_nil ?_
    refine then_normal ?_
    refine wp_ret ?_
    refine bodyPost_ret (results_tmp rfl _ _ _) rfl ?_
    rw [hc.out]
    exact does_ret (Mem.only (M := []) HM4.out [] rfl) rfl rfl
  · have gz : decide (((e1, e2) : En) = ((0, 0) : En)) = false := decide_eq_false (fun h => hz ⟨congrArg Prod.fst h, congrArg Prod.snd h⟩)
    have ga : decide (1 ≤ e1) = true := decide_eq_true (by omega)
    have gb : decide (e1 ≤ 1000000) = false := decide_eq_false (by omega)
    have hc : Hid (mayE (e1, e2) = false) := Lib.hid (by refine decide_eq_false ?_; dsimp only; omega)
    clear hz
    refine wp_region_N [(0, 1), (1, 1), (2, 1), (3, 1), (4, 1), (5, 1), (6, 1), (7, 1), (8, 1), (9, 1), (10, 1), (11, 1), (12, 1), (13, 1), (14, 1), (15, 3), (16, 1), (17, 1), (18, 1)] (by kernel_rfl) ?_
    have Cb1 := Mem.cell HM4.out 0 rfl
    refine wpS_this [0, 1] rfl (by kernel_rfl) (by simp only [pickL, nthL, List.cons_append, List.nil_append]; rfl) ?_
    repeat (go_big_quiet_step (fail))
    refine wpQuiet_nil ?_
    clear Cb1
    refine wpS_read (i := 2) (d := some 5) rfl (by rfl) (run_eqEb (p := (e1, e2)) (q := (0, 0)) gz rfl rfl rfl) rfl ?_
    simp only [Act.put, List.setIfInBounds_toArray, List.set_cons_succ, List.set_cons_zero]
    have Cb1 := Mem.cell HM4.out 0 rfl
    refine wpS_this [3, 4, 5, 6, 7, 8, 9, 10, 11, 12, 13, 14] rfl (by kernel_rfl) (by simp only [pickL, nthL, List.cons_append, List.nil_append]; rfl) ?_
    repeat (go_big_quiet_step (fail))
    refine wpQuiet_nil ?_
    clear Cb1
    refine wpS_skip (i := 15) (d := some 18) rfl (by rfl) rfl ?_
    simp only [Act.put, List.setIfInBounds_toArray, List.set_cons_succ, List.set_cons_zero]
    refine wpS_this [16, 17, 18] rfl (by kernel_rfl) (by simp only [pickL, nthL, List.cons_append, List.nil_append]; rfl) ?_
    repeat (go_big_quiet_step (fail))
    refine wpQuiet_nil ?_
    refine wpS_nil ?_
    refine then_normal ?_
    refine wp_ret ?_
    refine bodyPost_ret (results_tmp rfl _ _ _) rfl ?_
    rw [hc.out]
    exact does_ret (Mem.only (M := []) HM4.out [] rfl) rfl rfl
  · have gz : decide (((e1, e2) : En) = ((0, 0) : En)) = false := decide_eq_false (fun h => hz ⟨congrArg Prod.fst h, congrArg Prod.snd h⟩)
    have ga : decide (1 ≤ e1) = true := decide_eq_true (by omega)
    have gb : decide (e1 ≤ 1000000) = true := decide_eq_true (by omega)
    have hc : Hid (mayE (e1, e2) = nodeE e2) := Lib.hid (by unfold mayE nodeE; rw [Bool.eq_iff_iff, decide_eq_true_iff, decide_eq_true_iff]; dsimp only; omega)
    clear hz
    refine wp_region_N [(0, 1), (1, 1), (2, 1), (3, 1), (4, 1), (5, 1), (6, 1), (7, 1), (8, 1), (9, 1), (10, 1), (11, 1), (12, 1), (13, 1), (14, 1), (15, 3), (16, 1), (17, 1), (18, 1)] (by kernel_rfl) ?_
    have Cb1 := Mem.cell HM4.out 0 rfl
    refine wpS_this [0, 1] rfl (by kernel_rfl) (by simp only [pickL, nthL, List.cons_append, List.nil_append]; rfl) ?_
    repeat (go_big_quiet_step (fail))
    refine wpQuiet_nil ?_
    clear Cb1
    refine wpS_read (i := 2) (d := some 5) rfl (by rfl) (run_eqEb (p := (e1, e2)) (q := (0, 0)) gz rfl rfl rfl) rfl ?_
    simp only [Act.put, List.setIfInBounds_toArray, List.set_cons_succ, List.set_cons_zero]
    have Cb1 := Mem.cell HM4.out 0 rfl
    refine wpS_this [3, 4, 5, 6, 7, 8, 9, 10, 11, 12, 13, 14] rfl (by kernel_rfl) (by simp only [pickL, nthL, List.cons_append, List.nil_append]; rfl) ?_
    repeat (go_big_quiet_step (fail))
    refine wpQuiet_nil ?_
    clear Cb1
    refine wpS_does1 (i := 15) (d := some 18) (rem := [_]) (out := [_]) rfl (by rfl) rfl Try.call17 (rnode_d e2) rfl HM4.out [] rfl covS_nil rfl rfl ?_
    rintro W6 hm5 -
    have HM7 := Lib.hid hm5
    clear hm5
    simp only [Act.put, List.setIfInBounds_toArray, List.set_cons_succ, List.set_cons_zero]
    refine wpS_this [16, 17, 18] rfl (by kernel_rfl) (by simp only [pickL, nthL, List.cons_append, List.nil_append]; rfl) ?_
    repeat (go_big_quiet_step (fail))
    refine wpQuiet_nil ?_
    refine wpS_nil ?_
    refine then_normal ?_
    refine wp_ret ?_
    refine bodyPost_ret (results_tmp rfl _ _ _) rfl ?_
    rw [hc.out]
    exact does_ret (Mem.only (M := []) HM7.out [] rfl) rfl rfl

set_option maxHeartbeats 4000000 in
set_option maxRecDepth 100000 in
theorem rcompare_d (a1 a2 b1 b2 : Int) : Does Try.prog 12 #[.agg #[.int .i64 a1, .int .i64 a2], .agg #[.int .i64 b1, .int .i64 b2]] [] (.int .i64 (cmpE (a1, a2) (b1, b2))) [] := by
  intro w H hp
  have HM0 := Lib.hid (mem_refl hp)
  clear hp
  go_enter Try.func12, Try.ntmps12
  refine wp_seq ?_
  refine wp_region_N [(0, 3), (1, 3), (2, 1)] (by kernel_rfl) ?_
  refine wpS_boxA (i := 0) (dd := 2) rfl (by rfl) rfl rfl HM0.out covS_nil rfl ?_
  rintro b3 W2 hm1 -
  have HM4 := Lib.hid hm1
  clear hm1
  simp only [Act.put, List.setIfInBounds_toArray, List.set_cons_succ, List.set_cons_zero]
  refine wpS_boxA (i := 1) (dd := 3) rfl (by rfl) rfl rfl HM4.out covS_nil rfl ?_
  rintro b7 W6 hm5 -
  have HM8 := Lib.hid hm5
  clear hm5
  simp only [Act.put, List.setIfInBounds_toArray, List.set_cons_succ, List.set_cons_zero]
  refine wpS_this [2] rfl (by kernel_rfl) (by simp only [pickL, nthL, List.cons_append, List.nil_append]; rfl) ?_
  repeat (go_big_quiet_step (fail))
  refine wpQuiet_nil ?_
  refine wpS_nil ?_
  refine then_normal ?_
  refine wp_seq ?_
  refine wp_seq ?_
  by_cases h1 : a1 = b1
  · have g1 : (a1 != b1) = false := by rw [h1]; exact bne_self_eq_false _
    have hc : Hid (cmpE (a1, a2) (b1, b2) = cmpI a2 b2) := Lib.hid (cmpE_eq h1)
    clear h1
    refine wp_region_N [(0, 1), (1, 1), (2, 1), (3, 1), (4, 1)] (by kernel_rfl) ?_
    have Cb2 := Mem.cell HM8.out 1 rfl
    have Cb3 := Mem.cell HM8.out 0 rfl
    refine wpS_this [0, 1, 2, 3, 4] rfl (by kernel_rfl) (by simp only [pickL, nthL, List.cons_append, List.nil_append]; rfl) ?_
    repeat (go_big_quiet_step (fail))
    refine wpQuiet_nil ?_
    clear Cb2 Cb3
    refine wpS_nil ?_
    refine then_normal ?_
    refine wp_cond_false rfl ?_
    refine wp_skip ?_
    refine then_normal ?_
    refine wp_seq ?_
    refine wp_region_N [(0, 1), (1, 1), (2, 1), (3, 1), (4, 3), (5, 1)] (by kernel_rfl) ?_
    have Cb2 := Mem.cell HM8.out 1 rfl
    have Cb3 := Mem.cell HM8.out 0 rfl
    refine wpS_this [0, 1, 2, 3] rfl (by kernel_rfl) (by simp only [pickL, nthL, List.cons_append, List.nil_append]; rfl) ?_
    repeat (go_big_quiet_step (fail))
    refine wpQuiet_nil ?_
    clear Cb2 Cb3
    refine wpS_does2 (i := 4) (d := some 19) (rem := [_, _]) (out := [_, _]) rfl (by rfl) rfl Try.call20 (rcmp_d a2 b2) rfl rfl HM8.out [] rfl covS_nil rfl rfl ?_
    rintro W10 hm9 -
    have HM11 := Lib.hid hm9
    clear hm9
    simp only [Act.put, List.setIfInBounds_toArray, List.set_cons_succ, List.set_cons_zero]
    refine wpS_this [5] rfl (by kernel_rfl) (by simp only [pickL, nthL, List.cons_append, List.nil_append]; rfl) ?_
    repeat (go_big_quiet_step (fail))
    refine wpQuiet_nil ?_
    refine wpS_nil ?_
    refine then_normal ?_
    refine wp_ret ?_
    refine bodyPost_ret (results_tmp rfl _ _ _) rfl ?_
    rw [hc.out]
    exact does_ret (Mem.only (M := []) HM11.out [] rfl) rfl rfl
  · have g1 : (a1 != b1) = true := bne_iff_ne.2 h1
    have hc : Hid (cmpE (a1, a2) (b1, b2) = cmpI a1 b1) := Lib.hid (cmpE_ne h1)
    clear h1
    refine wp_region_N [(0, 1), (1, 1), (2, 1), (3, 1), (4, 1)] (by kernel_rfl) ?_
    have Cb2 := Mem.cell HM8.out 1 rfl
    have Cb3 := Mem.cell HM8.out 0 rfl
    refine wpS_this [0, 1, 2, 3, 4] rfl (by kernel_rfl) (by simp only [pickL, nthL, List.cons_append, List.nil_append]; rfl) ?_
    repeat (go_big_quiet_step (fail))
    refine wpQuiet_nil ?_
    clear Cb2 Cb3
    refine wpS_nil ?_
    refine then_normal ?_
    refine wp_cond_true rfl ?_
    refine wp_seq ?_
    refine wp_region_N [(0, 1), (1, 1), (2, 1), (3, 1), (4, 3), (5, 1)] (by kernel_rfl) ?_
    have Cb2 := Mem.cell HM8.out 1 rfl
    have Cb3 := Mem.cell HM8.out 0 rfl
    refine wpS_this [0, 1, 2, 3] rfl (by kernel_rfl) (by simp only [pickL, nthL, List.cons_append, List.nil_append]; rfl) ?_
    repeat (go_big_quiet_step (fail))
    refine wpQuiet_nil ?_
    clear Cb2 Cb3
    refine wpS_does2 (i := 4) (d := some 14) (rem := [_, _]) (out := [_, _]) rfl (by rfl) rfl Try.call20 (rcmp_d a1 b1) rfl rfl HM8.out [] rfl covS_nil rfl rfl ?_
    rintro W13 hm12 -
    have HM14 := Lib.hid hm12
    clear hm12
    simp only [Act.put, List.setIfInBounds_toArray, List.set_cons_succ, List.set_cons_zero]
    refine wpS_this [5] rfl (by kernel_rfl) (by simp only [pickL, nthL, List.cons_append, List.nil_append]; rfl) ?_
    repeat (go_big_quiet_step (fail))
    refine wpQuiet_nil ?_
    refine wpS_nil ?_
    refine then_normal ?_
    refine wp_ret ?_
    refine then_ret ?_
    refine bodyPost_ret (results_tmp rfl _ _ _) rfl ?_
    rw [hc.out]
    exact does_ret (Mem.only (M := []) HM14.out [] rfl) rfl rfl

set_option maxHeartbeats 4000000 in
set_option maxRecDepth 100000 in
theorem rjoin_d (a1 a2 b1 b2 j1 j2 : Int) (hj : joinE (a1, a2) (b1, b2) = (j1, j2)) : Does Try.prog 14 #[.agg #[.int .i64 a1, .int .i64 a2], .agg #[.int .i64 b1, .int .i64 b2]] [] (.agg #[.int .i64 j1, .int .i64 j2]) [] := by
  intro w H hp
  have HM0 := Lib.hid (mem_refl hp)
  clear hp
  go_enter Try.func14, Try.ntmps14
  refine wp_seq ?_
  refine wp_region_N [(0, 3), (1, 3), (2, 3)] (by kernel_rfl) ?_
  refine wpS_boxA (i := 0) (dd := 2) rfl (by rfl) rfl rfl HM0.out covS_nil rfl ?_
  rintro b3 W2 hm1 -
  have HM4 := Lib.hid hm1
  clear hm1
  simp only [Act.put, List.setIfInBounds_toArray, List.set_cons_succ, List.set_cons_zero]
  refine wpS_boxA (i := 1) (dd := 3) rfl (by rfl) rfl rfl HM4.out covS_nil rfl ?_
  rintro b7 W6 hm5 -
  have HM8 := Lib.hid hm5
  clear hm5
  simp only [Act.put, List.setIfInBounds_toArray, List.set_cons_succ, List.set_cons_zero]
  refine wpS_alloc (i := 2) (dd := 4) (z := .agg #[.int .i64 0, .int .i64 0]) (cs := #[.int .i64 0, .int .i64 0]) rfl (by rfl) rfl (by kernel_rfl) rfl HM8.out covS_nil rfl ?_
  rintro b11 W10 hm9 -
  have HM12 := Lib.hid hm9
  clear hm9
  simp only [Act.put, List.setIfInBounds_toArray, List.set_cons_succ, List.set_cons_zero]
  refine wpS_nil ?_
  refine then_normal ?_
  refine wp_seq ?_
  refine wp_seq ?_
  by_cases h1 : 0 < cmpE (b1, b2) (a1, a2)
  · have g1 : decide (0 < cmpE (b1, b2) (a1, a2)) = true := decide_eq_true h1
    have hc := Lib.hid (hj.symm.trans (show joinE (a1, a2) (b1, b2) = (b1, b2) from if_pos h1))
    clear h1 hj
    refine wp_region_N [(0, 1), (1, 1), (2, 3), (3, 1)] (by kernel_rfl) ?_
    have Cb3 := Mem.cell HM12.out 1 rfl
    have Cb2 := Mem.cell HM12.out 2 rfl
    refine wpS_this [0, 1] rfl (by kernel_rfl) (by simp only [pickL, nthL, List.cons_append, List.nil_append]; rfl) ?_
    repeat (go_big_quiet_step (fail))
    refine wpQuiet_nil ?_
    clear Cb3 Cb2
    refine wpS_does2 (i := 2) (d := some 7) (rem := [_, _, _]) (out := [_, _, _]) rfl (by rfl) rfl Try.call12 (rcompare_d b1 b2 a1 a2) rfl rfl HM12.out [] rfl covS_nil rfl rfl ?_
    rintro W14 hm13 -
    have HM15 := Lib.hid hm13
    clear hm13
    simp only [Act.put, List.setIfInBounds_toArray, List.set_cons_succ, List.set_cons_zero]
    refine wpS_this [3] rfl (by kernel_rfl) (by simp only [pickL, nthL, List.cons_append, List.nil_append]; rfl) ?_
    repeat (go_big_quiet_step (fail))
    refine wpQuiet_nil ?_
    refine wpS_nil ?_
    refine then_normal ?_
    refine wp_cond_true rfl ?_
    refine wp_seq ?_
    refine wp_region_N [(0, 1), (1, 3)] (by kernel_rfl) ?_
    have Cb3 := Mem.cell HM15.out 1 rfl
    refine wpS_this [0] rfl (by kernel_rfl) (by simp only [pickL, nthL, List.cons_append, List.nil_append]; rfl) ?_
    repeat (go_big_quiet_step (fail))
    refine wpQuiet_nil ?_
    clear Cb3
    refine wpS_storeA (i := 1) (L2 := [_, _]) (cs' := [_, _]) rfl (by rfl) rfl rfl rfl (by kernel_rfl) (by rfl) HM15.out 0 rfl rfl rfl rfl covS_nil rfl ?_
    rintro W17 hm16 -
    have HM18 := Lib.hid hm16
    clear hm16
    refine wpS_nil ?_
    refine then_normal ?_
    refine wp_ret ?_
    refine then_ret ?_
    refine ret_cell rfl HM18.out 0 rfl rfl Try.underlying23 rfl (by kernel_rfl) rfl ?_
    have e1 := congrArg Prod.fst hc.out
    have e2 := congrArg Prod.snd hc.out
    dsimp only at e1 e2
    rw [e1, e2]
    exact does_ret (Mem.only (M := []) HM18.out [] rfl) rfl rfl
  · have g1 : decide (0 < cmpE (b1, b2) (a1, a2)) = false := decide_eq_false h1
    have hc := Lib.hid (hj.symm.trans (show joinE (a1, a2) (b1, b2) = (a1, a2) from if_neg h1))
    clear h1 hj
    refine wp_region_N [(0, 1), (1, 1), (2, 3), (3, 1)] (by kernel_rfl) ?_
    have Cb3 := Mem.cell HM12.out 1 rfl
    have Cb2 := Mem.cell HM12.out 2 rfl
    refine wpS_this [0, 1] rfl (by kernel_rfl) (by simp only [pickL, nthL, List.cons_append, List.nil_append]; rfl) ?_
    repeat (go_big_quiet_step (fail))
    refine wpQuiet_nil ?_
    clear Cb3 Cb2
    refine wpS_does2 (i := 2) (d := some 7) (rem := [_, _, _]) (out := [_, _, _]) rfl (by rfl) rfl Try.call12 (rcompare_d b1 b2 a1 a2) rfl rfl HM12.out [] rfl covS_nil rfl rfl ?_
    rintro W20 hm19 -
    have HM21 := Lib.hid hm19
    clear hm19
    simp only [Act.put, List.setIfInBounds_toArray, List.set_cons_succ, List.set_cons_zero]
    refine wpS_this [3] rfl (by kernel_rfl) (by simp only [pickL, nthL, List.cons_append, List.nil_append]; rfl) ?_
    repeat (go_big_quiet_step (fail))
    refine wpQuiet_nil ?_
    refine wpS_nil ?_
    refine then_normal ?_
    refine wp_cond_false rfl ?_
    refine wp_skip ?_
    refine then_normal ?_
    refine wp_seq ?_
    refine wp_region_N [(0, 1), (1, 3)] (by kernel_rfl) ?_
    have Cb2 := Mem.cell HM21.out 2 rfl
    refine wpS_this [0] rfl (by kernel_rfl) (by simp only [pickL, nthL, List.cons_append, List.nil_append]; rfl) ?_
    repeat (go_big_quiet_step (fail))
    refine wpQuiet_nil ?_
    clear Cb2
    refine wpS_storeA (i := 1) (L2 := [_, _]) (cs' := [_, _]) rfl (by rfl) rfl rfl rfl (by kernel_rfl) (by rfl) HM21.out 0 rfl rfl rfl rfl covS_nil rfl ?_
    rintro W23 hm22 -
    have HM24 := Lib.hid hm22
    clear hm22
    refine wpS_nil ?_
    refine then_normal ?_
    refine wp_ret ?_
    refine ret_cell rfl HM24.out 0 rfl rfl Try.underlying23 rfl (by kernel_rfl) rfl ?_
    have e1 := congrArg Prod.fst hc.out
    have e2 := congrArg Prod.snd hc.out
    dsimp only at e1 e2
    rw [e1, e2]
    exact does_ret (Mem.only (M := []) HM24.out [] rfl) rfl rfl

set_option maxHeartbeats 4000000 in
set_option maxRecDepth 100000 in
theorem rflip_d (e1 e2 to f1 f2 fe : Int) (hf : flipE (e1, e2) to = ((f1, f2), fe)) : Does Try.prog 8 #[.agg #[.int .i64 e1, .int .i64 e2], .int .i64 to] [] (.tuple #[.agg #[.int .i64 f1, .int .i64 f2], .int .i64 fe]) [] := by
  intro w H hp
  have HM0 := Lib.hid (mem_refl hp)
  clear hp
  go_enter Try.func8, Try.ntmps8
  refine wp_seq ?_
  refine wp_region_N [(0, 3), (1, 3), (2, 1)] (by kernel_rfl) ?_
  refine wpS_boxA (i := 0) (dd := 2) rfl (by rfl) rfl rfl HM0.out covS_nil rfl ?_
  rintro b3 W2 hm1 -
  have HM4 := Lib.hid hm1
  clear hm1
  simp only [Act.put, List.setIfInBounds_toArray, List.set_cons_succ, List.set_cons_zero]
  refine wpS_alloc (i := 1) (dd := 4) (z := .agg #[.int .i64 0, .int .i64 0]) (cs := #[.int .i64 0, .int .i64 0]) rfl (by rfl) rfl (by kernel_rfl) rfl HM4.out covS_nil rfl ?_
  rintro b7 W6 hm5 -
  have HM8 := Lib.hid hm5
  clear hm5
  simp only [Act.put, List.setIfInBounds_toArray, List.set_cons_succ, List.set_cons_zero]
  refine wpS_this [2] rfl (by kernel_rfl) (by simp only [pickL, nthL, List.cons_append, List.nil_append]; rfl) ?_
  repeat (go_big_quiet_step (fail))
  refine wpQuiet_nil ?_
  refine wpS_nil ?_
  refine then_normal ?_
  refine wp_seq ?_
  refine wp_seq ?_
  rcases flip_cases e1 e2 to with hm | ⟨hm, hn⟩ | ⟨hm, hn, hx⟩ | ⟨hm, hn, hx⟩
  · have hc := Lib.hid (hf.symm.trans (show flipE (e1, e2) to = ((0, 0), 1) from by unfold flipE; simp [hm]))
    clear hf
    refine wp_region_N [(0, 1), (1, 3), (2, 1), (3, 1), (4, 1), (5, 3), (6, 1), (7, 1)] (by kernel_rfl) ?_
    have Cb2 := Mem.cell HM8.out 1 rfl
    refine wpS_this [0] rfl (by kernel_rfl) (by simp only [pickL, nthL, List.cons_append, List.nil_append]; rfl) ?_
    repeat (go_big_quiet_step (fail))
    refine wpQuiet_nil ?_
    clear Cb2
    refine wpS_does1 (i := 1) (d := some 7) (rem := [_, _]) (out := [_, _]) rfl (by rfl) rfl Try.call10 (rmay_d e1 e2) rfl HM8.out [] rfl covS_nil rfl rfl ?_
    rintro W10 hm9 -
    try rw [hm]
    have HM11 := Lib.hid hm9
    clear hm9
    simp only [Act.put, List.setIfInBounds_toArray, List.set_cons_succ, List.set_cons_zero]
    refine wpS_this [2, 3, 4] rfl (by kernel_rfl) (by simp only [pickL, nthL, List.cons_append, List.nil_append]; rfl) ?_
    repeat (go_big_quiet_step (fail))
    refine wpQuiet_nil ?_
    refine wpS_skip (i := 5) (d := some 11) rfl (by rfl) rfl ?_
    simp only [Act.put, List.setIfInBounds_toArray, List.set_cons_succ, List.set_cons_zero]
    refine wpS_this [6, 7] rfl (by kernel_rfl) (by simp only [pickL, nthL, List.cons_append, List.nil_append]; rfl) ?_
    repeat (go_big_quiet_step (fail))
    refine wpQuiet_nil ?_
    refine wpS_nil ?_
    refine then_normal ?_
    refine wp_cond_true rfl ?_
    refine wp_seq ?_
    refine wp_region_N [(0, 1), (1, 3), (2, 1)] (by kernel_rfl) ?_
    refine wpS_this [0] rfl (by kernel_rfl) (by simp only [pickL, nthL, List.cons_append, List.nil_append]; rfl) ?_
    repeat (go_big_quiet_step (fail))
    refine wpQuiet_nil ?_
    refine wpS_storeA (i := 1) (L2 := [_]) (cs' := [_, _]) rfl (by rfl) rfl rfl rfl (by kernel_rfl) (by rfl) HM11.out 0 rfl rfl rfl rfl covS_nil rfl ?_
    rintro W13 hm12 -
    have HM14 := Lib.hid hm12
    clear hm12
    refine wpS_this [2] rfl (by kernel_rfl) (by simp only [pickL, nthL, List.cons_append, List.nil_append]; rfl) ?_
    repeat (go_big_quiet_step (fail))
    refine wpQuiet_nil ?_
    refine wpS_nil ?_
    refine then_normal ?_
    refine wp_ret ?_
    refine then_ret ?_
    refine ret_cell_tmp rfl HM14.out 0 rfl rfl Try.underlying23 rfl (by kernel_rfl) rfl rfl ?_
    have r1 := congrArg (fun z => z.1.1) hc.out
    have r2 := congrArg (fun z => z.1.2) hc.out
    have r3 := congrArg (fun z => z.2) hc.out
    dsimp only at r1 r2 r3
    rw [r1, r2, r3]
    exact does_ret (Mem.only (M := []) HM14.out [] rfl) rfl rfl
  · have hc := Lib.hid (hf.symm.trans (show flipE (e1, e2) to = ((0, 0), 1) from by unfold flipE; simp [hn]))
    clear hf
    refine wp_region_N [(0, 1), (1, 3), (2, 1), (3, 1), (4, 1), (5, 3), (6, 1), (7, 1)] (by kernel_rfl) ?_
    have Cb2 := Mem.cell HM8.out 1 rfl
    refine wpS_this [0] rfl (by kernel_rfl) (by simp only [pickL, nthL, List.cons_append, List.nil_append]; rfl) ?_
    repeat (go_big_quiet_step (fail))
    refine wpQuiet_nil ?_
    clear Cb2
    refine wpS_does1 (i := 1) (d := some 7) (rem := [_, _]) (out := [_, _]) rfl (by rfl) rfl Try.call10 (rmay_d e1 e2) rfl HM8.out [] rfl covS_nil rfl rfl ?_
    rintro W16 hm15 -
    try rw [hm]
    have HM17 := Lib.hid hm15
    clear hm15
    simp only [Act.put, List.setIfInBounds_toArray, List.set_cons_succ, List.set_cons_zero]
    refine wpS_this [2, 3, 4] rfl (by kernel_rfl) (by simp only [pickL, nthL, List.cons_append, List.nil_append]; rfl) ?_
    repeat (go_big_quiet_step (fail))
    refine wpQuiet_nil ?_
    refine wpS_does1 (i := 5) (d := some 11) (rem := [_, _]) (out := [_, _]) rfl (by rfl) rfl Try.call17 (rnode_d to) rfl HM17.out [] rfl covS_nil rfl rfl ?_
    rintro W19 hm18 -
    rw [hn]
    have HM20 := Lib.hid hm18
    clear hm18
    simp only [Act.put, List.setIfInBounds_toArray, List.set_cons_succ, List.set_cons_zero]
    refine wpS_this [6, 7] rfl (by kernel_rfl) (by simp only [pickL, nthL, List.cons_append, List.nil_append]; rfl) ?_
    repeat (go_big_quiet_step (fail))
    refine wpQuiet_nil ?_
    refine wpS_nil ?_
    refine then_normal ?_
    refine wp_cond_true rfl ?_
    refine wp_seq ?_
    refine wp_region_N [(0, 1), (1, 3), (2, 1)] (by kernel_rfl) ?_
    refine wpS_this [0] rfl (by kernel_rfl) (by simp only [pickL, nthL, List.cons_append, List.nil_append]; rfl) ?_
    repeat (go_big_quiet_step (fail))
    refine wpQuiet_nil ?_
    refine wpS_storeA (i := 1) (L2 := [_]) (cs' := [_, _]) rfl (by rfl) rfl rfl rfl (by kernel_rfl) (by rfl) HM20.out 0 rfl rfl rfl rfl covS_nil rfl ?_
    rintro W22 hm21 -
    have HM23 := Lib.hid hm21
    clear hm21
    refine wpS_this [2] rfl (by kernel_rfl) (by simp only [pickL, nthL, List.cons_append, List.nil_append]; rfl) ?_
    repeat (go_big_quiet_step (fail))
    refine wpQuiet_nil ?_
    refine wpS_nil ?_
    refine then_normal ?_
    refine wp_ret ?_
    refine then_ret ?_
    refine ret_cell_tmp rfl HM23.out 0 rfl rfl Try.underlying23 rfl (by kernel_rfl) rfl rfl ?_
    have r1 := congrArg (fun z => z.1.1) hc.out
    have r2 := congrArg (fun z => z.1.2) hc.out
    have r3 := congrArg (fun z => z.2) hc.out
    dsimp only at r1 r2 r3
    rw [r1, r2, r3]
    exact does_ret (Mem.only (M := []) HM23.out [] rfl) rfl rfl
  · have hc := Lib.hid (hf.symm.trans (show flipE (e1, e2) to = ((0, 0), 6) from by unfold flipE; rw [if_pos ⟨hm, hn⟩, if_pos hx]))
    have gx : (e1 == 1000000) = true := beq_iff_eq.2 hx
    clear hf hx
    refine wp_region_N [(0, 1), (1, 3), (2, 1), (3, 1), (4, 1), (5, 3), (6, 1), (7, 1)] (by kernel_rfl) ?_
    have Cb2 := Mem.cell HM8.out 1 rfl
    refine wpS_this [0] rfl (by kernel_rfl) (by simp only [pickL, nthL, List.cons_append, List.nil_append]; rfl) ?_
    repeat (go_big_quiet_step (fail))
    refine wpQuiet_nil ?_
    clear Cb2
    refine wpS_does1 (i := 1) (d := some 7) (rem := [_, _]) (out := [_, _]) rfl (by rfl) rfl Try.call10 (rmay_d e1 e2) rfl HM8.out [] rfl covS_nil rfl rfl ?_
    rintro W25 hm24 -
    try rw [hm]
    have HM26 := Lib.hid hm24
    clear hm24
    simp only [Act.put, List.setIfInBounds_toArray, List.set_cons_succ, List.set_cons_zero]
    refine wpS_this [2, 3, 4] rfl (by kernel_rfl) (by simp only [pickL, nthL, List.cons_append, List.nil_append]; rfl) ?_
    repeat (go_big_quiet_step (fail))
    refine wpQuiet_nil ?_
    refine wpS_does1 (i := 5) (d := some 11) (rem := [_, _]) (out := [_, _]) rfl (by rfl) rfl Try.call17 (rnode_d to) rfl HM26.out [] rfl covS_nil rfl rfl ?_
    rintro W28 hm27 -
    rw [hn]
    have HM29 := Lib.hid hm27
    clear hm27
    simp only [Act.put, List.setIfInBounds_toArray, List.set_cons_succ, List.set_cons_zero]
    refine wpS_this [6, 7] rfl (by kernel_rfl) (by simp only [pickL, nthL, List.cons_append, List.nil_append]; rfl) ?_
    repeat (go_big_quiet_step (fail))
    refine wpQuiet_nil ?_
    refine wpS_nil ?_
    refine then_normal ?_
    refine wp_cond_false rfl ?_
    refine wp_skip ?_
    refine then_normal ?_
    refine wp_seq ?_
    refine wp_seq ?_
    refine wp_region_N [(0, 1), (1, 1), (2, 1)] (by kernel_rfl) ?_
    have Cb2 := Mem.cell HM29.out 1 rfl
    refine wpS_this [0, 1, 2] rfl (by kernel_rfl) (by simp only [pickL, nthL, List.cons_append, List.nil_append]; rfl) ?_
    repeat (go_big_quiet_step (fail))
    refine wpQuiet_nil ?_
    clear Cb2
    refine wpS_nil ?_
    refine then_normal ?_
    refine wp_cond_true rfl ?_
    refine wp_seq ?_
    refine wp_region_N [(0, 1), (1, 3), (2, 1)] (by kernel_rfl) ?_
    refine wpS_this [0] rfl (by kernel_rfl) (by simp only [pickL, nthL, List.cons_append, List.nil_append]; rfl) ?_
    repeat (go_big_quiet_step (fail))
    refine wpQuiet_nil ?_
    refine wpS_storeA (i := 1) (L2 := [_]) (cs' := [_, _]) rfl (by rfl) rfl rfl rfl (by kernel_rfl) (by rfl) HM29.out 0 rfl rfl rfl rfl covS_nil rfl ?_
    rintro W31 hm30 -
    have HM32 := Lib.hid hm30
    clear hm30
    refine wpS_this [2] rfl (by kernel_rfl) (by simp only [pickL, nthL, List.cons_append, List.nil_append]; rfl) ?_
    repeat (go_big_quiet_step (fail))
    refine wpQuiet_nil ?_
    refine wpS_nil ?_
    refine then_normal ?_
    refine wp_ret ?_
    refine then_ret ?_
    refine ret_cell_tmp rfl HM32.out 0 rfl rfl Try.underlying23 rfl (by kernel_rfl) rfl rfl ?_
    have r1 := congrArg (fun z => z.1.1) hc.out
    have r2 := congrArg (fun z => z.1.2) hc.out
    have r3 := congrArg (fun z => z.2) hc.out
    dsimp only at r1 r2 r3
    rw [r1, r2, r3]
    exact does_ret (Mem.only (M := []) HM32.out [] rfl) rfl rfl
  · have hc := Lib.hid (hf.symm.trans (show flipE (e1, e2) to = ((e1 + 1, to), 0) from by unfold flipE; rw [if_pos ⟨hm, hn⟩, if_neg hx]))
    have gx : (e1 == 1000000) = false := beq_eq_false_iff_ne.2 hx
    have hb := mayE_le hm
    have hb0 := hb.1
    have hb1 := hb.2
    clear hb
    clear hf hx
    refine wp_region_N [(0, 1), (1, 3), (2, 1), (3, 1), (4, 1), (5, 3), (6, 1), (7, 1)] (by kernel_rfl) ?_
    have Cb2 := Mem.cell HM8.out 1 rfl
    refine wpS_this [0] rfl (by kernel_rfl) (by simp only [pickL, nthL, List.cons_append, List.nil_append]; rfl) ?_
    repeat (go_big_quiet_step (fail))
    refine wpQuiet_nil ?_
    clear Cb2
    refine wpS_does1 (i := 1) (d := some 7) (rem := [_, _]) (out := [_, _]) rfl (by rfl) rfl Try.call10 (rmay_d e1 e2) rfl HM8.out [] rfl covS_nil rfl rfl ?_
    rintro W34 hm33 -
    try rw [hm]
    have HM35 := Lib.hid hm33
    clear hm33
    simp only [Act.put, List.setIfInBounds_toArray, List.set_cons_succ, List.set_cons_zero]
    refine wpS_this [2, 3, 4] rfl (by kernel_rfl) (by simp only [pickL, nthL, List.cons_append, List.nil_append]; rfl) ?_
    repeat (go_big_quiet_step (fail))
    refine wpQuiet_nil ?_
    refine wpS_does1 (i := 5) (d := some 11) (rem := [_, _]) (out := [_, _]) rfl (by rfl) rfl Try.call17 (rnode_d to) rfl HM35.out [] rfl covS_nil rfl rfl ?_
    rintro W37 hm36 -
    rw [hn]
    have HM38 := Lib.hid hm36
    clear hm36
    simp only [Act.put, List.setIfInBounds_toArray, List.set_cons_succ, List.set_cons_zero]
    refine wpS_this [6, 7] rfl (by kernel_rfl) (by simp only [pickL, nthL, List.cons_append, List.nil_append]; rfl) ?_
    repeat (go_big_quiet_step (fail))
    refine wpQuiet_nil ?_
    refine wpS_nil ?_
    refine then_normal ?_
    refine wp_cond_false rfl ?_
    refine wp_skip ?_
    refine then_normal ?_
    refine wp_seq ?_
    refine wp_seq ?_
    refine wp_region_N [(0, 1), (1, 1), (2, 1)] (by kernel_rfl) ?_
    have Cb2 := Mem.cell HM38.out 1 rfl
    refine wpS_this [0, 1, 2] rfl (by kernel_rfl) (by simp only [pickL, nthL, List.cons_append, List.nil_append]; rfl) ?_
    repeat (go_big_quiet_step (fail))
    refine wpQuiet_nil ?_
    clear Cb2
    refine wpS_nil ?_
    refine then_normal ?_
    refine wp_cond_false rfl ?_
    refine wp_skip ?_
    refine then_normal ?_
    refine wp_seq ?_
    refine wp_region_N [(0, 1), (1, 1), (2, 1), (3, 1), (4, 1), (5, 3), (6, 1)] (by kernel_rfl) ?_
    have Cb2 := Mem.cell HM38.out 1 rfl
    refine wpS_this [0, 1, 2, 3, 4] rfl (by kernel_rfl) (by simp only [pickL, nthL, List.cons_append, List.nil_append]; rfl) ?_
    repeat (go_big_quiet_step (fail))
    refine wpQuiet_nil ?_
    clear Cb2
    refine wpS_storeA (i := 5) (L2 := [_]) (cs' := [_, _]) rfl (by rfl) rfl rfl rfl (by kernel_rfl) (by rfl) HM38.out 0 rfl rfl rfl rfl covS_nil rfl ?_
    rintro W40 hm39 -
    have HM41 := Lib.hid hm39
    clear hm39
    refine wpS_this [6] rfl (by kernel_rfl) (by simp only [pickL, nthL, List.cons_append, List.nil_append]; rfl) ?_
    repeat (go_big_quiet_step (fail))
    refine wpQuiet_nil ?_
    refine wpS_nil ?_
    refine then_normal ?_
    refine wp_ret ?_
    refine ret_cell_tmp rfl HM41.out 0 rfl rfl Try.underlying23 rfl (by kernel_rfl) rfl rfl ?_
    have r1 := congrArg (fun z => z.1.1) hc.out
    have r2 := congrArg (fun z => z.1.2) hc.out
    have r3 := congrArg (fun z => z.2) hc.out
    dsimp only at r1 r2 r3
    rw [r1, r2, r3]
    exact does_ret (Mem.only (M := []) HM41.out [] rfl) rfl rfl

end Go.Proofs.Ytonlnhcjfdeipaa
