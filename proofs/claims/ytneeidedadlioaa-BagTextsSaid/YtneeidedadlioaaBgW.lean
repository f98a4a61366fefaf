/- Bags: the landed bag's May. -/
import Derived.Test.YtneeidedadlioaaBgN
namespace Go.Proofs.Ytneeidedadlioaa
open Go Go.RowKit Go.BigFrame

set_option maxHeartbeats 4000000 in
set_option maxRecDepth 100000 in
theorem bmay_d (R : At) (sa : Value) (a : Bg) (ha : Reads elemV R sa a.v) (la : a.v.length ≤ 4398046510976) : Does Try.prog 12 #[bgV a.k sa] [R] (.bool (mayB a)) [R] := by
  intro w H hp
  have HM0 := Lib.hid (mem_refl hp)
  clear hp
  obtain ⟨pa, ca, rfl⟩ := row_form (Mem.src HM0.out 0 rfl ha)
  go_enter Try.func12, Try.ntmps12
  refine wp_seq ?_
  refine wp_region_N [(0, 3), (1, 1)] (by kernel_rfl) ?_
  refine wpS_boxA (i := 0) (dd := 1) rfl (by rfl) rfl rfl HM0.out covS_nil rfl ?_
  rintro b3 W2 hm1 -
  have HM4 := Lib.hid hm1
  clear hm1
  simp only [Act.put, List.setIfInBounds_toArray, List.set_cons_succ, List.set_cons_zero]
  refine wpS_this [1] rfl (by kernel_rfl) (by simp only [pickL, nthL, List.cons_append, List.nil_append]; rfl) ?_
  repeat (go_big_quiet_step (fail))
  refine wpQuiet_nil ?_
  refine wpS_nil ?_
  refine then_normal ?_
  refine wp_seq ?_
  refine wp_seq ?_
  rcases (show mayV a.k = false ∨ (mayV a.k = true ∧ ¬ a.v.length ≤ 32) ∨ (mayV a.k = true ∧ a.v.length ≤ 32) from by cases mayV a.k <;> by_cases h : a.v.length ≤ 32 <;> simp [h]) with hm1 | ⟨hm1, hm2⟩ | ⟨hm1, hm2⟩
  · replace hm1 := Lib.hid hm1
    refine wp_region_N [(0, 1), (1, 1), (2, 3), (3, 1), (4, 1), (5, 1), (6, 1), (7, 1), (8, 1), (9, 1)] (by kernel_rfl) ?_
    refine wpS_this [0] rfl (by kernel_rfl) (by simp only [pickL, nthL, List.cons_append, List.nil_append]; rfl) ?_
    repeat (go_big_quiet_step (fail))
    refine wpQuiet_nil ?_
    refine wpS_loadA (i := 1) (d := some 6) (cells := vcC (a.k)) rfl (by rfl) rfl rfl (HM4.out.part 0 rfl (bgC_vc)) Try.underlying24 rfl (by kernel_rfl) rfl ?_
    simp only [Act.put, List.setIfInBounds_toArray, List.set_cons_succ, List.set_cons_zero]
    refine wpS_does1 (i := 2) (d := some 7) (rem := [_, _]) (out := [_, _]) rfl (by rfl) rfl Try.call17 (cmay_d a.k) rfl HM4.out [] rfl covS_nil rfl rfl ?_
    rintro W6 hm5 -
    rw [hm1.out]
    have HM7 := Lib.hid hm5
    clear hm5
    simp only [Act.put, List.setIfInBounds_toArray, List.set_cons_succ, List.set_cons_zero]
    refine wpS_this [3, 4, 5] rfl (by kernel_rfl) (by simp only [pickL, nthL, List.cons_append, List.nil_append]; rfl) ?_
    repeat (go_big_quiet_step (fail))
    refine wpQuiet_nil ?_
    refine wpS_skip (i := 6) (d := some 11) rfl (by rfl) rfl ?_
    simp only [Act.put, List.setIfInBounds_toArray, List.set_cons_succ, List.set_cons_zero]
    refine wpS_this [7, 8, 9] rfl (by kernel_rfl) (by simp only [pickL, nthL, List.cons_append, List.nil_append]; rfl) ?_
    repeat (go_big_quiet_step (fail))
    refine wpQuiet_nil ?_
    refine wpS_nil ?_
    refine then_normal ?_
    refine wp_cond_true rfl ?_
    refine wp_seq ?_
    refine wp_region_N [(0, 1)] (by kernel_rfl) ?_
    refine wpS_this [0] rfl (by kernel_rfl) (by simp only [pickL, nthL, List.cons_append, List.nil_append]; rfl) ?_
    repeat (go_big_quiet_step (fail))
    refine wpQuiet_nil ?_
    refine wpS_nil ?_
    refine then_normal ?_
    refine wp_ret ?_
    refine then_ret ?_
    refine bodyPost_ret (results_tmp rfl _ _ _) rfl ?_
    rw [mayB_no1 hm1.out]
    exact does_ret (Mem.only (M := [_]) HM7.out [1] rfl) rfl rfl
  · have g1 : decide ((32 : Int) < (a.v.length : Int)) = true := decide_eq_true (by omega)
    have g1' : decide (32 < a.v.length) = true := decide_eq_true (by omega)
    replace hm1 := Lib.hid hm1
    replace hm2 := Lib.hid hm2
    refine wp_region_N [(0, 1), (1, 1), (2, 3), (3, 1), (4, 1), (5, 1), (6, 1), (7, 1), (8, 1), (9, 1)] (by kernel_rfl) ?_
    refine wpS_this [0] rfl (by kernel_rfl) (by simp only [pickL, nthL, List.cons_append, List.nil_append]; rfl) ?_
    repeat (go_big_quiet_step (fail))
    refine wpQuiet_nil ?_
    refine wpS_loadA (i := 1) (d := some 6) (cells := vcC (a.k)) rfl (by rfl) rfl rfl (HM4.out.part 0 rfl (bgC_vc)) Try.underlying24 rfl (by kernel_rfl) rfl ?_
    simp only [Act.put, List.setIfInBounds_toArray, List.set_cons_succ, List.set_cons_zero]
    refine wpS_does1 (i := 2) (d := some 7) (rem := [_, _]) (out := [_, _]) rfl (by rfl) rfl Try.call17 (cmay_d a.k) rfl HM4.out [] rfl covS_nil rfl rfl ?_
    rintro W9 hm8 -
    rw [hm1.out]
    have HM10 := Lib.hid hm8
    clear hm8
    simp only [Act.put, List.setIfInBounds_toArray, List.set_cons_succ, List.set_cons_zero]
    refine wpS_this [3, 4, 5] rfl (by kernel_rfl) (by simp only [pickL, nthL, List.cons_append, List.nil_append]; rfl) ?_
    repeat (go_big_quiet_step (fail))
    refine wpQuiet_nil ?_
    refine wpS_load1 (i := 6) (d := some 11) (u := .slice pa a.v.length ca) rfl (by rfl) rfl rfl (HM10.out.part1 0 rfl bgC_sl) Try.underlying25 rfl rfl ?_
    simp only [Act.put, List.setIfInBounds_toArray, List.set_cons_succ, List.set_cons_zero]
    refine wpS_this [7, 8, 9] rfl (by kernel_rfl) (by simp only [pickL, nthL, List.cons_append, List.nil_append]; rfl) ?_
    repeat (go_big_quiet_step (fail))
    refine wpQuiet_nil ?_
    refine wpS_nil ?_
    refine then_normal ?_
    refine wp_cond_true rfl ?_
    refine wp_seq ?_
    refine wp_region_N [(0, 1)] (by kernel_rfl) ?_
    refine wpS_this [0] rfl (by kernel_rfl) (by simp only [pickL, nthL, List.cons_append, List.nil_append]; rfl) ?_
    repeat (go_big_quiet_step (fail))
    refine wpQuiet_nil ?_
    refine wpS_nil ?_
    refine then_normal ?_
    refine wp_ret ?_
    refine then_ret ?_
    refine bodyPost_ret (results_tmp rfl _ _ _) rfl ?_
    rw [mayB_no2 hm2.out]
    exact does_ret (Mem.only (M := [_]) HM10.out [1] rfl) rfl rfl
  · have g1 : decide ((32 : Int) < (a.v.length : Int)) = false := decide_eq_false (by omega)
    have g1' : decide (32 < a.v.length) = false := decide_eq_false (by omega)
    replace hm1 := Lib.hid hm1
    replace hm2 := Lib.hid hm2
    refine wp_region_N [(0, 1), (1, 1), (2, 3), (3, 1), (4, 1), (5, 1), (6, 1), (7, 1), (8, 1), (9, 1)] (by kernel_rfl) ?_
    refine wpS_this [0] rfl (by kernel_rfl) (by simp only [pickL, nthL, List.cons_append, List.nil_append]; rfl) ?_
    repeat (go_big_quiet_step (fail))
    refine wpQuiet_nil ?_
    refine wpS_loadA (i := 1) (d := some 6) (cells := vcC (a.k)) rfl (by rfl) rfl rfl (HM4.out.part 0 rfl (bgC_vc)) Try.underlying24 rfl (by kernel_rfl) rfl ?_
    simp only [Act.put, List.setIfInBounds_toArray, List.set_cons_succ, List.set_cons_zero]
    refine wpS_does1 (i := 2) (d := some 7) (rem := [_, _]) (out := [_, _]) rfl (by rfl) rfl Try.call17 (cmay_d a.k) rfl HM4.out [] rfl covS_nil rfl rfl ?_
    rintro W12 hm11 -
    rw [hm1.out]
    have HM13 := Lib.hid hm11
    clear hm11
    simp only [Act.put, List.setIfInBounds_toArray, List.set_cons_succ, List.set_cons_zero]
    refine wpS_this [3, 4, 5] rfl (by kernel_rfl) (by simp only [pickL, nthL, List.cons_append, List.nil_append]; rfl) ?_
    repeat (go_big_quiet_step (fail))
    refine wpQuiet_nil ?_
    refine wpS_load1 (i := 6) (d := some 11) (u := .slice pa a.v.length ca) rfl (by rfl) rfl rfl (HM13.out.part1 0 rfl bgC_sl) Try.underlying25 rfl rfl ?_
    simp only [Act.put, List.setIfInBounds_toArray, List.set_cons_succ, List.set_cons_zero]
    refine wpS_this [7, 8, 9] rfl (by kernel_rfl) (by simp only [pickL, nthL, List.cons_append, List.nil_append]; rfl) ?_
    repeat (go_big_quiet_step (fail))
    refine wpQuiet_nil ?_
    refine wpS_nil ?_
    refine then_normal ?_
    refine wp_cond_false rfl ?_
    refine wp_skip ?_
    refine then_normal ?_
    refine wp_seq ?_
    refine wp_seq ?_
    refine wp_region_N [(0, 1), (1, 1), (2, 1), (3, 1)] (by kernel_rfl) ?_
    refine wpS_this [0] rfl (by kernel_rfl) (by simp only [pickL, nthL, List.cons_append, List.nil_append]; rfl) ?_
    repeat (go_big_quiet_step (fail))
    refine wpQuiet_nil ?_
    refine wpS_load1 (i := 1) (d := some 16) (u := .slice pa a.v.length ca) rfl (by rfl) rfl rfl (HM13.out.part1 0 rfl bgC_sl) Try.underlying25 rfl rfl ?_
    simp only [Act.put, List.setIfInBounds_toArray, List.set_cons_succ, List.set_cons_zero]
    refine wpS_this [2, 3] rfl (by kernel_rfl) (by simp only [pickL, nthL, List.cons_append, List.nil_append]; rfl) ?_
    repeat (go_big_quiet_step (fail))
    refine wpQuiet_nil ?_
    refine wpS_nil ?_
    refine then_normal ?_
    refine wp_block ?_
    refine wp_loop_F [2, 3, 4, 18, 19, 20, 21, 22, 23, 24, 25, 26, 27, 28, 29, 30, 31, 32, 33, 34, 35, 36, 37, 38, 39, 40, 41, 42, 43, 44, 45, 46, 47, 48, 49, 50] (fun n vs W' => ∃ k : Nat, n = a.v.length - k ∧ vs 18 = .int .i64 (k : Int) ∧ k ≤ a.v.length ∧ OkT a k ∧ Mem [boxT b3 (.cells (bgC a.k (.slice pa a.v.length ca)).toArray 27 (0, 0)), R] H w W') (n0 := a.v.length) ?_ ?_
    · exact ⟨0, rfl, rfl, Nat.zero_le _, okT_zero a, (Mem.only (M := [_, _]) HM13.out [0, 0] rfl)⟩
    rintro n vs W' ⟨k, rfl, e18, hk, hok', hm⟩
    simp only [putAll, List.map_cons, List.map_nil, Act.put, List.setIfInBounds_toArray, List.set_cons_succ, List.set_cons_zero]
    rw [e18]
    clear e18
    have hok := Lib.hid hok'
    clear hok'
    have HM14 := Lib.hid hm
    clear hm
    refine wp_seq ?_
    refine wp_region_N [(0, 1)] (by kernel_rfl) ?_
    refine wpS_this [0] rfl (by kernel_rfl) (by simp only [pickL, nthL, List.cons_append, List.nil_append]; rfl) ?_
    repeat (go_big_quiet_step (fail))
    refine wpQuiet_nil ?_
    refine wpS_nil ?_
    refine then_normal ?_
    refine wp_seq ?_
    refine wp_cond_split rfl (fun h15 => ?_) (fun h15 => ?_)
    · have hk1 : k + 1 ≤ a.v.length := by have : (k : Int) < ((a.v.length : Nat) : Int) := (by simpa using h15); omega
      clear h15
      obtain ⟨y, hy'⟩ : ∃ y, a.v[k]? = some y := ⟨_, List.getElem?_eq_getElem (hk1)⟩
      have hy := Lib.hid hy'
      clear hy'
      refine wp_skip ?_
      refine then_normal ?_
      refine wp_seq ?_
      refine wp_block ?_
      refine wp_seq ?_
      refine wp_region_N [(0, 1), (1, 1), (2, 1), (3, 3), (4, 1), (5, 3)] (by kernel_rfl) ?_
      refine wpS_this [0] rfl (by kernel_rfl) (by simp only [pickL, nthL, List.cons_append, List.nil_append]; rfl) ?_
      repeat (go_big_quiet_step (fail))
      refine wpQuiet_nil ?_
      refine wpS_index (E := elemV) (i := 1) (d := some 21) rfl (by rfl) rfl rfl rfl (HM14.out.row 1 rfl (fun W H h => rowAt_src (ha W H h))) (hy.out) rfl ?_
      intro eb16 eo17 hc18
      simp only [Act.put, List.setIfInBounds_toArray, List.set_cons_succ, List.set_cons_zero]
      refine wpS_loadA (i := 2) (d := some 22) (cells := [.int .i64 y.1.1, .int .i64 y.1.2, .string y.2]) rfl (by rfl) rfl rfl hc18 Try.underlying41 rfl (by kernel_rfl) rfl ?_
      simp only [Act.put, List.setIfInBounds_toArray, List.set_cons_succ, List.set_cons_zero]
      refine wpS_alloc (i := 3) (dd := 4) (z := .agg #[.int .i64 0, .int .i64 0, .string ByteArray.empty]) (cs := #[.int .i64 0, .int .i64 0, .string ByteArray.empty]) rfl (by rfl) rfl (by kernel_rfl) rfl HM14.out covS_nil rfl ?_
      rintro b21 W20 hm19 -
      have HM22 := Lib.hid hm19
      clear hm19
      simp only [Act.put, List.setIfInBounds_toArray, List.set_cons_succ, List.set_cons_zero]
      refine wpS_this [4] rfl (by kernel_rfl) (by simp only [pickL, nthL, List.cons_append, List.nil_append]; rfl) ?_
      repeat (go_big_quiet_step (fail))
      refine wpQuiet_nil ?_
      refine wpS_storeA (i := 5) (L2 := [_, _]) (cs' := [.int .i64 y.1.1, .int .i64 y.1.2, .string y.2]) rfl (by rfl) rfl rfl rfl (by kernel_rfl) (by rfl) HM22.out 0 rfl rfl rfl rfl covS_nil rfl ?_
      rintro W24 hm23 -
      have HM25 := Lib.hid hm23
      clear hm23
      refine wpS_nil ?_
      refine then_normal ?_
      refine wp_seq ?_
      refine wp_seq ?_
      rcases (show hasV a.k y.1 = false ∨ (hasV a.k y.1 = true ∧ 64 < y.2.size) ∨ (hasV a.k y.1 = true ∧ ¬ 64 < y.2.size) from by cases hasV a.k y.1 <;> by_cases h : 64 < y.2.size <;> simp [h]) with hhas | ⟨hhas, hsz⟩ | ⟨hhas, hsz⟩
      · have hoy : Hid (okV a.k y = false) := Lib.hid (by unfold okV; rw [hhas]; rfl)
        replace hhas := Lib.hid hhas
        refine wp_region_N [(0, 1), (1, 1), (2, 1), (3, 1), (4, 3), (5, 1), (6, 1), (7, 1), (8, 1), (9, 1), (10, 1), (11, 1)] (by kernel_rfl) ?_
        refine wpS_this [0] rfl (by kernel_rfl) (by simp only [pickL, nthL, List.cons_append, List.nil_append]; rfl) ?_
        repeat (go_big_quiet_step (fail))
        refine wpQuiet_nil ?_
        refine wpS_loadA (i := 1) (d := some 24) (cells := vcC (a.k)) rfl (by rfl) rfl rfl (HM25.out.part 1 rfl (bgC_vc)) Try.underlying24 rfl (by kernel_rfl) rfl ?_
        simp only [Act.put, List.setIfInBounds_toArray, List.set_cons_succ, List.set_cons_zero]
        have Cb4 := Mem.cell HM25.out 0 rfl
        refine wpS_this [2, 3] rfl (by kernel_rfl) (by simp only [pickL, nthL, List.cons_append, List.nil_append]; rfl) ?_
        repeat (go_big_quiet_step (fail))
        refine wpQuiet_nil ?_
        clear Cb4
        refine wpS_does2 (i := 4) (d := some 27) (rem := [_, _, _]) (out := [_, _, _]) rfl (by rfl) rfl Try.call14 (chas_d a.k y.1.1 y.1.2) rfl rfl HM25.out [] rfl covS_nil rfl rfl ?_
        rintro W27 hm26 -
        rw [show hasV a.k (y.1.1, y.1.2) = _ from hhas.out]
        have HM28 := Lib.hid hm26
        clear hm26
        simp only [Act.put, List.setIfInBounds_toArray, List.set_cons_succ, List.set_cons_zero]
        have Cb4 := Mem.cell HM28.out 0 rfl
        refine wpS_this [5, 6, 7, 8, 9, 10, 11] rfl (by kernel_rfl) (by simp only [pickL, nthL, List.cons_append, List.nil_append]; rfl) ?_
        repeat (go_big_quiet_step (fail))
        refine wpQuiet_nil ?_
        clear Cb4
        refine wpS_nil ?_
        refine then_normal ?_
        refine wp_cond_true rfl ?_
        refine wp_seq ?_
        refine wp_region_N [(0, 1)] (by kernel_rfl) ?_
        refine wpS_this [0] rfl (by kernel_rfl) (by simp only [pickL, nthL, List.cons_append, List.nil_append]; rfl) ?_
        repeat (go_big_quiet_step (fail))
        refine wpQuiet_nil ?_
        refine wpS_nil ?_
        refine then_normal ?_
        refine wp_ret ?_
        refine then_ret (block_ret (then_ret (then_ret (block_ret (then_ret ?_)))))
        refine bodyPost_ret (results_tmp rfl _ _ _) rfl ?_
        rw [mayB_no3 hy.out hoy.out]
        exact does_ret (Mem.only (M := [_]) HM28.out [2] rfl) rfl rfl
      · have g2 : decide ((64 : Int) < (y.2.size : Int)) = true := decide_eq_true (by omega)
        have g2' : decide (64 < y.2.size) = true := decide_eq_true hsz
        have hoy : Hid (okV a.k y = false) := Lib.hid (by unfold okV; rw [hhas, decide_eq_false (by omega)]; rfl)
        replace hhas := Lib.hid hhas
        replace hsz := Lib.hid hsz
        refine wp_region_N [(0, 1), (1, 1), (2, 1), (3, 1), (4, 3), (5, 1), (6, 1), (7, 1), (8, 1), (9, 1), (10, 1), (11, 1)] (by kernel_rfl) ?_
        refine wpS_this [0] rfl (by kernel_rfl) (by simp only [pickL, nthL, List.cons_append, List.nil_append]; rfl) ?_
        repeat (go_big_quiet_step (fail))
        refine wpQuiet_nil ?_
        refine wpS_loadA (i := 1) (d := some 24) (cells := vcC (a.k)) rfl (by rfl) rfl rfl (HM25.out.part 1 rfl (bgC_vc)) Try.underlying24 rfl (by kernel_rfl) rfl ?_
        simp only [Act.put, List.setIfInBounds_toArray, List.set_cons_succ, List.set_cons_zero]
        have Cb4 := Mem.cell HM25.out 0 rfl
        refine wpS_this [2, 3] rfl (by kernel_rfl) (by simp only [pickL, nthL, List.cons_append, List.nil_append]; rfl) ?_
        repeat (go_big_quiet_step (fail))
        refine wpQuiet_nil ?_
        clear Cb4
        refine wpS_does2 (i := 4) (d := some 27) (rem := [_, _, _]) (out := [_, _, _]) rfl (by rfl) rfl Try.call14 (chas_d a.k y.1.1 y.1.2) rfl rfl HM25.out [] rfl covS_nil rfl rfl ?_
        rintro W30 hm29 -
        rw [show hasV a.k (y.1.1, y.1.2) = _ from hhas.out]
        have HM31 := Lib.hid hm29
        clear hm29
        simp only [Act.put, List.setIfInBounds_toArray, List.set_cons_succ, List.set_cons_zero]
        have Cb4 := Mem.cell HM31.out 0 rfl
        refine wpS_this [5, 6, 7, 8, 9, 10, 11] rfl (by kernel_rfl) (by simp only [pickL, nthL, List.cons_append, List.nil_append]; rfl) ?_
        repeat (go_big_quiet_step (fail))
        refine wpQuiet_nil ?_
        clear Cb4
        refine wpS_nil ?_
        refine then_normal ?_
        refine wp_cond_true rfl ?_
        refine wp_seq ?_
        refine wp_region_N [(0, 1)] (by kernel_rfl) ?_
        refine wpS_this [0] rfl (by kernel_rfl) (by simp only [pickL, nthL, List.cons_append, List.nil_append]; rfl) ?_
        repeat (go_big_quiet_step (fail))
        refine wpQuiet_nil ?_
        refine wpS_nil ?_
        refine then_normal ?_
        refine wp_ret ?_
        refine then_ret (block_ret (then_ret (then_ret (block_ret (then_ret ?_)))))
        refine bodyPost_ret (results_tmp rfl _ _ _) rfl ?_
        rw [mayB_no3 hy.out hoy.out]
        exact does_ret (Mem.only (M := [_]) HM31.out [2] rfl) rfl rfl
      · have g2 : decide ((64 : Int) < (y.2.size : Int)) = false := decide_eq_false (by omega)
        have g2' : decide (64 < y.2.size) = false := decide_eq_false hsz
        have hoy : Hid (okV a.k y = true) := Lib.hid (by unfold okV; rw [hhas, decide_eq_true (by omega)]; rfl)
        replace hhas := Lib.hid hhas
        replace hsz := Lib.hid hsz
        refine wp_region_N [(0, 1), (1, 1), (2, 1), (3, 1), (4, 3), (5, 1), (6, 1), (7, 1), (8, 1), (9, 1), (10, 1), (11, 1)] (by kernel_rfl) ?_
        refine wpS_this [0] rfl (by kernel_rfl) (by simp only [pickL, nthL, List.cons_append, List.nil_append]; rfl) ?_
        repeat (go_big_quiet_step (fail))
        refine wpQuiet_nil ?_
        refine wpS_loadA (i := 1) (d := some 24) (cells := vcC (a.k)) rfl (by rfl) rfl rfl (HM25.out.part 1 rfl (bgC_vc)) Try.underlying24 rfl (by kernel_rfl) rfl ?_
        simp only [Act.put, List.setIfInBounds_toArray, List.set_cons_succ, List.set_cons_zero]
        have Cb4 := Mem.cell HM25.out 0 rfl
        refine wpS_this [2, 3] rfl (by kernel_rfl) (by simp only [pickL, nthL, List.cons_append, List.nil_append]; rfl) ?_
        repeat (go_big_quiet_step (fail))
        refine wpQuiet_nil ?_
        clear Cb4
        refine wpS_does2 (i := 4) (d := some 27) (rem := [_, _, _]) (out := [_, _, _]) rfl (by rfl) rfl Try.call14 (chas_d a.k y.1.1 y.1.2) rfl rfl HM25.out [] rfl covS_nil rfl rfl ?_
        rintro W33 hm32 -
        rw [show hasV a.k (y.1.1, y.1.2) = _ from hhas.out]
        have HM34 := Lib.hid hm32
        clear hm32
        simp only [Act.put, List.setIfInBounds_toArray, List.set_cons_succ, List.set_cons_zero]
        have Cb4 := Mem.cell HM34.out 0 rfl
        refine wpS_this [5, 6, 7, 8, 9, 10, 11] rfl (by kernel_rfl) (by simp only [pickL, nthL, List.cons_append, List.nil_append]; rfl) ?_
        repeat (go_big_quiet_step (fail))
        refine wpQuiet_nil ?_
        clear Cb4
        refine wpS_nil ?_
        refine then_normal ?_
        refine wp_cond_false rfl ?_
        refine wp_skip ?_
        refine then_normal ?_
        refine wp_seq ?_
        rcases (show k = 0 ∨ ∃ j, k = j + 1 from by cases k with | zero => exact .inl rfl | succ j => exact .inr ⟨j, rfl⟩) with rfl | ⟨j, rfl⟩
        · have g3 : decide ((0 : Int) < ((0 : Nat) : Int)) = false := by decide
          have hpr : Hid ((0 : Nat) = 0 ∨ ∃ u, a.v[0 - 1]? = some u ∧ cmpE u.1 y.1 < 0) := Lib.hid (.inl rfl)
          refine wp_region_M (fun k => k ∈ ([b3, b21] : List Nat)) [(0, 1), (1, 1), (2, 1), (3, 1), (4, 1), (5, 1), (6, 1), (7, 1), (8, 1), (9, 1), (10, 1), (11, 1), (12, 3), (13, 1), (14, 1)] (by kernel_rfl) (by kernel_rfl) HM34.out ?_
          intro W35 hm36
          have HM37 := Lib.hid hm36
          clear hm36
          refine wpS_this [0, 1, 2, 3] rfl (by kernel_rfl) (by simp only [pickL, nthL, List.cons_append, List.nil_append]; rfl) ?_
          repeat (go_big_quiet_step (fail))
          refine wpQuiet_nil ?_
          refine wpS_skip (i := 4) (d := some 39) rfl (by rfl) rfl ?_
          simp only [Act.put, List.setIfInBounds_toArray, List.set_cons_succ, List.set_cons_zero]
          refine wpS_this [5, 6] rfl (by kernel_rfl) (by simp only [pickL, nthL, List.cons_append, List.nil_append]; rfl) ?_
          repeat (go_big_quiet_step (fail))
          refine wpQuiet_nil ?_
          refine wpS_skip (i := 7) (d := some 42) rfl (by rfl) rfl ?_
          simp only [Act.put, List.setIfInBounds_toArray, List.set_cons_succ, List.set_cons_zero]
          refine wpS_this [8] rfl (by kernel_rfl) (by simp only [pickL, nthL, List.cons_append, List.nil_append]; rfl) ?_
          repeat (go_big_quiet_step (fail))
          refine wpQuiet_nil ?_
          refine wpS_skip (i := 9) (d := some 44) rfl (by rfl) rfl ?_
          simp only [Act.put, List.setIfInBounds_toArray, List.set_cons_succ, List.set_cons_zero]
          have Cb4 := Mem.cell HM37.out 0 rfl
          refine wpS_this [10, 11] rfl (by kernel_rfl) (by simp only [pickL, nthL, List.cons_append, List.nil_append]; rfl) ?_
          repeat (go_big_quiet_step (fail))
          refine wpQuiet_nil ?_
          clear Cb4
          refine wpS_skip (i := 12) (d := some 47) rfl (by rfl) rfl ?_
          simp only [Act.put, List.setIfInBounds_toArray, List.set_cons_succ, List.set_cons_zero]
          refine wpS_this [13, 14] rfl (by kernel_rfl) (by simp only [pickL, nthL, List.cons_append, List.nil_append]; rfl) ?_
          repeat (go_big_quiet_step (fail))
          refine wpQuiet_nil ?_
          refine wpS_nil ?_
          refine then_normal ?_
          refine wp_cond_false rfl ?_
          refine wp_skip ?_
          refine block_normal ?_
          refine then_normal ?_
          refine wp_region_N [(0, 1), (1, 1)] (by kernel_rfl) ?_
          refine wpS_this [0, 1] rfl (by kernel_rfl) (by simp only [pickL, nthL, List.cons_append, List.nil_append]; rfl) ?_
          repeat (go_big_quiet_step (fail))
          refine wpQuiet_nil ?_
          refine wpS_nil ?_
          refine then_normal ?_
          refine ⟨by kernel_rfl, ?_⟩
          refine ⟨a.v.length - (0 + 1), by omega, 0 + 1, rfl, rfl, hk1, okT_step hok.out hy.out hoy.out hpr.out, (Mem.only (M := [_, _]) HM37.out [1, 1] rfl)⟩
        · have g3 : decide ((0 : Int) < ((j + 1 : Nat) : Int)) = true := decide_eq_true (by omega)
          have g3n : decide (0 < j + 1) = true := decide_eq_true (by omega)
          obtain ⟨u, hu'⟩ : ∃ u, a.v[j]? = some u := ⟨_, List.getElem?_eq_getElem (by omega)⟩
          have hu := Lib.hid hu'
          clear hu'
          obtain ⟨b, hb'⟩ := bool_letter (decide (0 ≤ cmpE u.1 y.1))
          have hbc := Lib.hid hb'
          clear hb'
          refine wp_region_M (fun k => k ∈ ([b3, b21] : List Nat)) [(0, 1), (1, 1), (2, 1), (3, 1), (4, 1), (5, 1), (6, 1), (7, 1), (8, 1), (9, 1), (10, 1), (11, 1), (12, 3), (13, 1), (14, 1)] (by kernel_rfl) (by kernel_rfl) HM34.out ?_
          intro W38 hm39
          have HM40 := Lib.hid hm39
          clear hm39
          refine wpS_this [0, 1, 2, 3] rfl (by kernel_rfl) (by simp only [pickL, nthL, List.cons_append, List.nil_append]; rfl) ?_
          repeat (go_big_quiet_step (fail))
          refine wpQuiet_nil ?_
          refine wpS_load1 (i := 4) (d := some 39) (u := .slice pa a.v.length ca) rfl (by rfl) rfl rfl (HM40.out.part1 1 rfl bgC_sl) Try.underlying25 rfl rfl ?_
          simp only [Act.put, List.setIfInBounds_toArray, List.set_cons_succ, List.set_cons_zero]
          refine wpS_this [5, 6] rfl (by kernel_rfl) (by simp only [pickL, nthL, List.cons_append, List.nil_append]; rfl) ?_
          repeat (go_big_quiet_step (fail))
          refine wpQuiet_nil ?_
          refine wpS_index (E := elemV) (i := 7) (d := some 42) rfl (by rfl) rfl rfl rfl (HM40.out.row 2 rfl (fun W H h => rowAt_src (ha W H h))) (hu.out) rfl ?_
          intro eb41 eo42 hc43
          simp only [Act.put, List.setIfInBounds_toArray, List.set_cons_succ, List.set_cons_zero]
          refine wpS_this [8] rfl (by kernel_rfl) (by simp only [pickL, nthL, List.cons_append, List.nil_append]; rfl) ?_
          repeat (go_big_quiet_step (fail))
          refine wpQuiet_nil ?_
          refine wpS_loadA (i := 9) (d := some 44) (cells := [.int .i64 u.1.1, .int .i64 u.1.2]) rfl (by rfl) rfl rfl (vl_dot hc43) Try.underlying39 rfl (by kernel_rfl) rfl ?_
          simp only [Act.put, List.setIfInBounds_toArray, List.set_cons_succ, List.set_cons_zero]
          have Cb4 := Mem.cell HM40.out 0 rfl
          refine wpS_this [10, 11] rfl (by kernel_rfl) (by simp only [pickL, nthL, List.cons_append, List.nil_append]; rfl) ?_
          repeat (go_big_quiet_step (fail))
          refine wpQuiet_nil ?_
          clear Cb4
          refine wpS_does2 (i := 12) (d := some 47) (rem := [_, _, _]) (out := [_, _, _]) rfl (by rfl) rfl Try.call28 (ccmp_d u.1.1 u.1.2 y.1.1 y.1.2) rfl rfl HM40.out [] rfl (covS_box 1 rfl (covS_box 0 rfl covS_nil)) rfl rfl ?_
          rintro W45 hm44 hg46
          have HM47 := Lib.hid hm44
          clear hm44
          simp only [Act.put, List.setIfInBounds_toArray, List.set_cons_succ, List.set_cons_zero]
          refine wpS_this [13, 14] rfl (by kernel_rfl) (by simp only [pickL, nthL, List.cons_append, List.nil_append]; rfl) ?_
          repeat (go_big_quiet_step (fail))
          refine wpQuiet_nil ?_
          refine wpS_nil ?_
          refine then_normal ?_
          refine wp_cond_split rfl (fun h48 => ?_) (fun h48 => ?_)
          · have hlt : Hid (¬ cmpE u.1 y.1 < 0) := Lib.hid (by have h0 : decide (0 ≤ cmpE u.1 y.1) = true := h48; have := of_decide_eq_true h0; omega)
            clear h48
            refine wp_seq ?_
            refine wp_region_N [(0, 1)] (by kernel_rfl) ?_
            refine wpS_this [0] rfl (by kernel_rfl) (by simp only [pickL, nthL, List.cons_append, List.nil_append]; rfl) ?_
            repeat (go_big_quiet_step (fail))
            refine wpQuiet_nil ?_
            refine wpS_nil ?_
            refine then_normal ?_
            refine wp_ret ?_
            refine block_ret (then_ret (then_ret (block_ret (then_ret ?_))))
            refine bodyPost_ret (results_tmp rfl _ _ _) rfl ?_
            rw [mayB_no4 hy.out hu.out (Nat.succ_ne_zero _) hlt.out]
            exact does_ret (Mem.only (M := [_]) HM47.out [2] rfl) rfl rfl
          · have hpr : Hid (j + 1 = 0 ∨ ∃ u, a.v[j + 1 - 1]? = some u ∧ cmpE u.1 y.1 < 0) := Lib.hid (.inr ⟨u, hu.out, by have h0 : decide (0 ≤ cmpE u.1 y.1) = false := h48; have := of_decide_eq_false h0; omega⟩)
            clear h48
            refine wp_skip ?_
            refine block_normal ?_
            refine then_normal ?_
            refine wp_region_N [(0, 1), (1, 1)] (by kernel_rfl) ?_
            refine wpS_this [0, 1] rfl (by kernel_rfl) (by simp only [pickL, nthL, List.cons_append, List.nil_append]; rfl) ?_
            repeat (go_big_quiet_step (fail))
            refine wpQuiet_nil ?_
            refine wpS_nil ?_
            refine then_normal ?_
            refine ⟨by kernel_rfl, ?_⟩
            refine ⟨a.v.length - ((j + 1) + 1), by omega, (j + 1) + 1, rfl, rfl, hk1, okT_step hok.out hy.out hoy.out hpr.out, (Mem.only (M := [_, _]) HM47.out [1, 1] rfl)⟩
    · have hge : Hid (a.v.length ≤ k) := Lib.hid (by have : ¬ (k : Int) < ((a.v.length : Nat) : Int) := (by simpa using h15); omega)
      clear h15
      refine wp_exit ?_
      refine then_exit (then_exit (block_exit ?_))
      refine then_normal ?_
      refine wp_seq ?_
      refine wp_region_N [(0, 1)] (by kernel_rfl) ?_
      refine wpS_this [0] rfl (by kernel_rfl) (by simp only [pickL, nthL, List.cons_append, List.nil_append]; rfl) ?_
      repeat (go_big_quiet_step (fail))
      refine wpQuiet_nil ?_
      refine wpS_nil ?_
      refine then_normal ?_
      refine wp_ret ?_
      refine bodyPost_ret (results_tmp rfl _ _ _) rfl ?_
      rw [okT_end hok.out hge.out hm1.out hm2.out]
      exact does_ret (Mem.only (M := [_]) HM14.out [1] rfl) rfl rfl

end Go.Proofs.Ytneeidedadlioaa
