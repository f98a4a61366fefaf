/- Space: the reference. -/
import Derived.Test.YthibiejneggmoaaDoorSpN
import Derived.Test.YthibiejneggmoaaDoorShelf
import Derived.Lib.ItoaLen
import Derived.Test.YthibiejneggmoaaDoorClmL
namespace Go.Proofs.YthibiejneggmoaaDoor
open Go Go.RowKit Go.BigFrame

theorem itoa_d (n : Nat) (h : n < 100) : Does Tryd.prog 21 #[.int .i64 (n : Int)] [] (.string ⟨(Lib.decDigits n).toArray⟩) [] :=
  Does.of_any fun W => (Tryd.strconv_Itoa_small n h W).mono fun e W' hh => by
    obtain ⟨he, hw⟩ := hh
    subst hw
    exact ⟨he, Later.ex (ext_refl _)⟩
theorem dec_ch {n : Nat} (h : n < 8) : (⟨(Lib.decDigits n).toArray⟩ : ByteArray) = ⟨#[chU (n : Int)]⟩ := by
  rw [Lib.decDigits_one (by omega)]
  unfold chU
  rw [if_neg (by omega)]
  rfl
set_option maxHeartbeats 4000000 in
set_option maxRecDepth 100000 in
theorem rwho_d (R : At) (v : Value) (T : List Int) (hT : ∀ W H, R.p W H → RowAt elemI W v T) (p : Nat) : Does Tryd.prog 17 #[v, .int .i64 (p : Int)] [R] (.int .i64 (whoL T p)) [R] := by
  intro w H hp
  have HM0 := Lib.hid (mem_refl hp)
  clear hp
  go_enter Tryd.func17, Tryd.ntmps17
  refine wp_seq ?_
  refine wp_region_N [(0, 1)] (by kernel_rfl) ?_
  refine wpS_this [0] rfl (by kernel_rfl) (by simp only [pickL, nthL, List.cons_append, List.nil_append]; rfl) ?_
  repeat (go_big_quiet_step (fail))
  refine wpQuiet_nil ?_
  refine wpS_nil ?_
  refine then_normal ?_
  refine wp_seq ?_
  refine wp_seq ?_
  obtain ⟨x, hx'⟩ := int_letter (atL T p)
  have hx := Lib.hid hx'
  clear hx'
  refine wp_region_N [(0, 1), (1, 1), (2, 3), (3, 1)] (by kernel_rfl) ?_
  refine wpS_this [0, 1] rfl (by kernel_rfl) (by simp only [pickL, nthL, List.cons_append, List.nil_append]; rfl) ?_
  repeat (go_big_quiet_step (fail))
  refine wpQuiet_nil ?_
  refine wpS_does2 (i := 2) (d := some 8) (rem := []) (out := [_]) rfl (by rfl) rfl Tryd.call22 (rat_d R _ T p hT) rfl rfl HM0.out [0] rfl covS_nil rfl rfl ?_
  rintro W2 hm1 -
  rw [hx.out]
  have HM3 := Lib.hid hm1
  clear hm1
  simp only [Act.put, List.setIfInBounds_toArray, List.set_cons_succ, List.set_cons_zero]
  refine wpS_this [3] rfl (by kernel_rfl) (by simp only [pickL, nthL, List.cons_append, List.nil_append]; rfl) ?_
  repeat (go_big_quiet_step (fail))
  refine wpQuiet_nil ?_
  refine wpS_nil ?_
  refine then_normal ?_
  refine wp_seq ?_
  rcases Bool.eq_false_or_eq_true (nodeE x) with h1 | h1
  · have hc : Hid (whoL T p = x) := Lib.hid (by rw [← hx.out]; exact whoL_node (by rw [hx.out]; exact h1))
    replace h1 := Lib.hid h1
    refine wp_region_N [(0, 1), (1, 3)] (by kernel_rfl) ?_
    refine wpS_this [0] rfl (by kernel_rfl) (by simp only [pickL, nthL, List.cons_append, List.nil_append]; rfl) ?_
    repeat (go_big_quiet_step (fail))
    refine wpQuiet_nil ?_
    refine wpS_does1 (i := 1) (d := some 10) (rem := [_]) (out := [_]) rfl (by rfl) rfl Tryd.call20 (rnode_d x) rfl HM3.out [] rfl covS_nil rfl rfl ?_
    rintro W5 hm4 -
    rw [h1.out]
    have HM6 := Lib.hid hm4
    clear hm4
    simp only [Act.put, List.setIfInBounds_toArray, List.set_cons_succ, List.set_cons_zero]
    refine wpS_nil ?_
    refine then_normal ?_
    refine wp_cond_true rfl ?_
    refine wp_seq ?_
    refine wp_region_N [(0, 1), (1, 1)] (by kernel_rfl) ?_
    refine wpS_this [0, 1] rfl (by kernel_rfl) (by simp only [pickL, nthL, List.cons_append, List.nil_append]; rfl) ?_
    repeat (go_big_quiet_step (fail))
    refine wpQuiet_nil ?_
    refine wpS_nil ?_
    refine then_normal ?_
    refine wp_ret ?_
    refine then_ret ?_
    refine bodyPost_ret (results_tmp rfl _ _ _) rfl ?_
    rw [hc.out]
    exact does_ret (Mem.only (M := [_]) HM6.out [0] rfl) rfl rfl
  · have hc : Hid (whoL T p = -1) := Lib.hid (whoL_none (by rw [hx.out]; exact h1))
    replace h1 := Lib.hid h1
    refine wp_region_N [(0, 1), (1, 3)] (by kernel_rfl) ?_
    refine wpS_this [0] rfl (by kernel_rfl) (by simp only [pickL, nthL, List.cons_append, List.nil_append]; rfl) ?_
    repeat (go_big_quiet_step (fail))
    refine wpQuiet_nil ?_
    refine wpS_does1 (i := 1) (d := some 10) (rem := [_]) (out := [_]) rfl (by rfl) rfl Tryd.call20 (rnode_d x) rfl HM3.out [] rfl covS_nil rfl rfl ?_
    rintro W8 hm7 -
    rw [h1.out]
    have HM9 := Lib.hid hm7
    clear hm7
    simp only [Act.put, List.setIfInBounds_toArray, List.set_cons_succ, List.set_cons_zero]
    refine wpS_nil ?_
    refine then_normal ?_
    refine wp_cond_false rfl ?_
    refine wp_skip ?_
    refine then_normal ?_
    refine wp_seq ?_
    refine wp_region_N [(0, 1)] (by kernel_rfl) ?_
    refine wpS_this [0] rfl (by kernel_rfl) (by simp only [pickL, nthL, List.cons_append, List.nil_append]; rfl) ?_
    repeat (go_big_quiet_step (fail))
    refine wpQuiet_nil ?_
    refine wpS_nil ?_
    refine then_normal ?_
    refine wp_ret ?_
    refine bodyPost_ret (results_tmp rfl _ _ _) rfl ?_
    rw [hc.out]
    exact does_ret (Mem.only (M := [_]) HM9.out [0] rfl) rfl rfl

set_option maxHeartbeats 4000000 in
set_option maxRecDepth 100000 in
theorem rcounts_d (R : At) (v : Value) (T : List Int) (hT : ∀ W H, R.p W H → RowAt elemI W v T) : DoesU Tryd.prog 6 #[v] [R] (fun u => [rowT elemI u (cntL T), R]) := by
  intro w H hp
  have HM0 := Lib.hid (mem_refl hp)
  clear hp
  go_enter Tryd.func6, Tryd.ntmps6
  refine wp_seq ?_
  refine wp_region_N [(0, 1)] (by kernel_rfl) ?_
  refine wpS_this [0] rfl (by kernel_rfl) (by simp only [pickL, nthL, List.cons_append, List.nil_append]; rfl) ?_
  repeat (go_big_quiet_step (fail))
  refine wpQuiet_nil ?_
  refine wpS_nil ?_
  refine then_normal ?_
  refine wp_seq ?_
  refine wp_region_N [(0, 3), (1, 1)] (by kernel_rfl) ?_
  refine wpS_makeI (i := 0) (dd := 6) (n := 8) rfl (by rfl) rfl rfl rfl (by omega) HM0.out covS_nil rfl ?_
  rintro ob W4 hm3 -
  have HM5 := Lib.hid hm3
  clear hm3
  simp only [Act.put, List.setIfInBounds_toArray, List.set_cons_succ, List.set_cons_zero]
  refine wpS_this [1] rfl (by kernel_rfl) (by simp only [pickL, nthL, List.cons_append, List.nil_append]; rfl) ?_
  repeat (go_big_quiet_step (fail))
  refine wpQuiet_nil ?_
  refine wpS_nil ?_
  refine then_normal ?_
  refine wp_seq ?_
  refine wp_seq ?_
  refine wp_region_N [(0, 1)] (by kernel_rfl) ?_
  refine wpS_this [0] rfl (by kernel_rfl) (by simp only [pickL, nthL, List.cons_append, List.nil_append]; rfl) ?_
  repeat (go_big_quiet_step (fail))
  refine wpQuiet_nil ?_
  refine wpS_nil ?_
  refine then_normal ?_
  refine wp_block ?_
  refine wp_loop_F [4, 5, 7, 8, 9, 10, 11, 12, 13, 14, 15, 16, 17, 18, 19, 20, 21] (fun n vs W' => ∃ k : Nat, n = 16 - k ∧ vs 7 = .int .i64 (k : Int) ∧ k ≤ 16 ∧ Mem [intsT ob (cntP (whoL T) k), R] H w W') (n0 := 16) ?_ ?_
  · refine ⟨0, rfl, rfl, Nat.zero_le _, ?_⟩
    rw [cntP_zero]
    exact (Mem.only (M := [_, _]) HM5.out [0, 0] rfl)
  rintro n vs W' ⟨k, rfl, e7, hk, hm⟩
  simp only [putAll, List.map_cons, List.map_nil, Act.put, List.setIfInBounds_toArray, List.set_cons_succ, List.set_cons_zero]
  rw [e7]
  clear e7
  have HM6 := Lib.hid hm
  clear hm
  refine wp_seq ?_
  refine wp_region_N [(0, 1)] (by kernel_rfl) ?_
  refine wpS_this [0] rfl (by kernel_rfl) (by simp only [pickL, nthL, List.cons_append, List.nil_append]; rfl) ?_
  repeat (go_big_quiet_step (fail))
  refine wpQuiet_nil ?_
  refine wpS_nil ?_
  refine then_normal ?_
  refine wp_seq ?_
  refine wp_cond_split rfl (fun h7 => ?_) (fun h7 => ?_)
  · have hk1 : k + 1 ≤ 16 := by have : (k : Int) < 16 := (by simpa using h7); omega
    clear h7
    refine wp_skip ?_
    refine then_normal ?_
    refine wp_seq ?_
    refine wp_block ?_
    refine wp_seq ?_
    refine wp_region_N [(0, 1), (1, 1)] (by kernel_rfl) ?_
    refine wpS_this [0, 1] rfl (by kernel_rfl) (by simp only [pickL, nthL, List.cons_append, List.nil_append]; rfl) ?_
    repeat (go_big_quiet_step (fail))
    refine wpQuiet_nil ?_
    refine wpS_nil ?_
    refine then_normal ?_
    refine wp_seq ?_
    obtain ⟨x, hx'⟩ := int_letter (whoL T k)
    have hx := Lib.hid hx'
    clear hx'
    refine wp_region_N [(0, 1), (1, 1), (2, 3), (3, 1)] (by kernel_rfl) ?_
    refine wpS_this [0, 1] rfl (by kernel_rfl) (by simp only [pickL, nthL, List.cons_append, List.nil_append]; rfl) ?_
    repeat (go_big_quiet_step (fail))
    refine wpQuiet_nil ?_
    refine wpS_does2 (i := 2) (d := some 12) (rem := [_]) (out := [_, _]) rfl (by rfl) rfl Tryd.call17 (rwho_d R _ T hT k) rfl rfl HM6.out [1] rfl covS_nil rfl rfl ?_
    rintro W9 hm8 -
    rw [hx.out]
    have HM10 := Lib.hid hm8
    clear hm8
    simp only [Act.put, List.setIfInBounds_toArray, List.set_cons_succ, List.set_cons_zero]
    refine wpS_this [3] rfl (by kernel_rfl) (by simp only [pickL, nthL, List.cons_append, List.nil_append]; rfl) ?_
    repeat (go_big_quiet_step (fail))
    refine wpQuiet_nil ?_
    refine wpS_nil ?_
    refine then_normal ?_
    refine wp_seq ?_
    by_cases h1 : 0 ≤ x
    · obtain ⟨xn, hxn, hx8⟩ := whoL_nat (T := T) (k := k) (by rw [hx.out]; exact h1)
      have hxx : x = (xn : Int) := hx.out.symm.trans hxn
      subst hxx
      have hst : Hid (cntP (whoL T) (k + 1) = (cntP (whoL T) k).set xn (((ctK (whoL T) (xn : Int) k : Nat) : Int) + 1)) := Lib.hid (cntP_hit hxn hx8)
      have hcb := ctK_le (whoL T) (xn : Int) k
      have g1 := decide_eq_true h1
      clear h1 hxn
      refine wp_region_N [(0, 1), (1, 1)] (by kernel_rfl) ?_
      refine wpS_this [0, 1] rfl (by kernel_rfl) (by simp only [pickL, nthL, List.cons_append, List.nil_append]; rfl) ?_
      repeat (go_big_quiet_step (fail))
      refine wpQuiet_nil ?_
      refine wpS_nil ?_
      refine then_normal ?_
      refine wp_cond_true rfl ?_
      refine wp_region_N [(0, 1), (1, 1), (2, 1), (3, 1), (4, 1), (5, 1), (6, 3)] (by kernel_rfl) ?_
      refine wpS_this [0, 1] rfl (by kernel_rfl) (by simp only [pickL, nthL, List.cons_append, List.nil_append]; rfl) ?_
      repeat (go_big_quiet_step (fail))
      refine wpQuiet_nil ?_
      refine wpS_index (E := elemI) (i := 2) (d := some 17) rfl (by rfl) rfl rfl rfl (HM10.out.row 1 rfl (ints_reads (cntP_len _ _))) (cntP_at (whoL T) k hx8) rfl ?_
      intro eb11 eo12 hc13
      simp only [Act.put, List.setIfInBounds_toArray, List.set_cons_succ, List.set_cons_zero]
      refine wpS_load1 (i := 3) (d := some 18) (u := .int .i64 ((ctK (whoL T) (xn : Int) k : Nat) : Int)) rfl (by rfl) rfl rfl (hc13 0 _ rfl) Tryd.underlying3 rfl rfl ?_
      simp only [Act.put, List.setIfInBounds_toArray, List.set_cons_succ, List.set_cons_zero]
      refine wpS_this [4] rfl (by kernel_rfl) (by simp only [pickL, nthL, List.cons_append, List.nil_append]; rfl) ?_
      repeat (go_big_quiet_step (fail))
      refine wpQuiet_nil ?_
      refine wpS_addrI (i := 5) (d := some 20) (b := ob) (n := 8) (j := xn) rfl (by rfl) rfl rfl rfl (hx8) rfl ?_
      simp only [Act.put, List.setIfInBounds_toArray, List.set_cons_succ, List.set_cons_zero]
      refine wpS_setI (i := 6) (z := ((ctK (whoL T) (xn : Int) k : Nat) : Int) + 1) (L2 := [_]) rfl (by rfl) rfl rfl rfl HM10.out 1 rfl rfl (by rw [cntP_len]; omega) covS_nil rfl ?_
      rintro W15 hm14 -
      have HM16 := Lib.hid hm14
      clear hm14
      refine wpS_nil ?_
      refine block_normal ?_
      refine then_normal ?_
      refine wp_region_N [(0, 1), (1, 1)] (by kernel_rfl) ?_
      refine wpS_this [0, 1] rfl (by kernel_rfl) (by simp only [pickL, nthL, List.cons_append, List.nil_append]; rfl) ?_
      repeat (go_big_quiet_step (fail))
      refine wpQuiet_nil ?_
      refine wpS_nil ?_
      refine then_normal ?_
      refine ⟨by kernel_rfl, ?_⟩
      refine ⟨16 - (k + 1), by omega, k + 1, rfl, rfl, hk1, ?_⟩
      rw [hst.out]
      exact (Mem.only (M := [_, _]) HM16.out [0, 0] rfl)
    · have hst : Hid (cntP (whoL T) (k + 1) = cntP (whoL T) k) := Lib.hid (cntP_miss (by rw [hx.out]; omega))
      have g1 := decide_eq_false h1
      clear h1
      refine wp_region_N [(0, 1), (1, 1)] (by kernel_rfl) ?_
      refine wpS_this [0, 1] rfl (by kernel_rfl) (by simp only [pickL, nthL, List.cons_append, List.nil_append]; rfl) ?_
      repeat (go_big_quiet_step (fail))
      refine wpQuiet_nil ?_
      refine wpS_nil ?_
      refine then_normal ?_
      refine wp_cond_false rfl ?_
      refine wp_skip ?_
      refine block_normal ?_
      refine then_normal ?_
      refine wp_region_N [(0, 1), (1, 1)] (by kernel_rfl) ?_
      refine wpS_this [0, 1] rfl (by kernel_rfl) (by simp only [pickL, nthL, List.cons_append, List.nil_append]; rfl) ?_
      repeat (go_big_quiet_step (fail))
      refine wpQuiet_nil ?_
      refine wpS_nil ?_
      refine then_normal ?_
      refine ⟨by kernel_rfl, ?_⟩
      refine ⟨16 - (k + 1), by omega, k + 1, rfl, rfl, hk1, ?_⟩
      rw [hst.out]
      exact (Mem.only (M := [_, _]) HM10.out [1, 0] rfl)
  · have hge : Hid (16 ≤ k) := Lib.hid (by have : ¬ (k : Int) < 16 := (by simpa using h7); omega)
    clear h7
    refine wp_exit ?_
    refine then_exit (then_exit (block_exit ?_))
    refine then_normal ?_
    refine wp_seq ?_
    refine wp_region_N [(0, 1), (1, 1)] (by kernel_rfl) ?_
    refine wpS_this [0, 1] rfl (by kernel_rfl) (by simp only [pickL, nthL, List.cons_append, List.nil_append]; rfl) ?_
    repeat (go_big_quiet_step (fail))
    refine wpQuiet_nil ?_
    refine wpS_nil ?_
    refine then_normal ?_
    refine wp_ret ?_
    refine bodyPost_ret (results_tmp rfl _ _ _) rfl ?_
    have hk16 : k = 16 := by have := hge.out; omega
    subst hk16
    exact doesU_ret (post := fun u => [rowT elemI u (cntL T), R]) (ints_row (cntP_len _ _) (by decide) (Mem.only (M := [_, _]) HM6.out [0, 0] rfl)) rfl

set_option maxHeartbeats 4000000 in
set_option maxRecDepth 100000 in
theorem rnext_d (R : At) (v : Value) (T : List Int) (hT : ∀ W H, R.p W H → RowAt elemI W v T) (p : Int) : Does Tryd.prog 8 #[v, .int .i64 p] [R] (.int .i64 (nextI T p)) [R] := by
  intro w H hp
  have HM0 := Lib.hid (mem_refl hp)
  clear hp
  go_enter Tryd.func8, Tryd.ntmps8
  refine wp_seq ?_
  refine wp_region_N [(0, 1)] (by kernel_rfl) ?_
  refine wpS_this [0] rfl (by kernel_rfl) (by simp only [pickL, nthL, List.cons_append, List.nil_append]; rfl) ?_
  repeat (go_big_quiet_step (fail))
  refine wpQuiet_nil ?_
  refine wpS_nil ?_
  refine then_normal ?_
  refine wp_seq ?_
  refine wp_seq ?_
  rcases next_ways T p with h1 | ⟨h1, h2⟩ | ⟨h1, h2, h3⟩ | ⟨h1, h2, h3⟩
  · have g1 := decide_eq_true h1
    have hno : Hid (nextI T p = 0) := Lib.hid (if_neg (by omega))
    clear h1
    refine wp_region_N [(0, 1), (1, 1), (2, 1), (3, 1), (4, 1), (5, 1), (6, 1), (7, 1), (8, 1), (9, 3), (10, 1), (11, 1)] (by kernel_rfl) ?_
    refine wpS_this [0, 1, 2, 3, 4, 5, 6, 7, 8] rfl (by kernel_rfl) (by simp only [pickL, nthL, List.cons_append, List.nil_append]; rfl) ?_
    repeat (go_big_quiet_step (fail))
    refine wpQuiet_nil ?_
    refine wpS_skip (i := 9) (d := some 15) rfl (by rfl) rfl ?_
    simp only [Act.put, List.setIfInBounds_toArray, List.set_cons_succ, List.set_cons_zero]
    refine wpS_this [10, 11] rfl (by kernel_rfl) (by simp only [pickL, nthL, List.cons_append, List.nil_append]; rfl) ?_
    repeat (go_big_quiet_step (fail))
    refine wpQuiet_nil ?_
    refine wpS_nil ?_
    refine then_normal ?_
    refine wp_cond_true rfl ?_
    refine wp_seq ?_
    refine wp_region_N [(0, 1)] (by kernel_rfl) ?_
    refine wpS_this [0] rfl (by kernel_rfl) (by simp only [pickL, nthL, List.cons_append, List.nil_append]; rfl) ?_
    repeat (go_big_quiet_step (fail))
    refine wpQuiet_nil ?_
    refine wpS_nil ?_
    refine then_normal ?_
    refine wp_ret ?_
    refine then_ret ?_
    refine bodyPost_ret (results_tmp rfl _ _ _) rfl ?_
    rw [hno.out]
    exact does_ret (Mem.only (M := [_]) HM0.out [0] rfl) rfl rfl
  · have g1 := decide_eq_false h1
    have g2 := decide_eq_true h2
    have hno : Hid (nextI T p = 0) := Lib.hid (if_neg (by omega))
    clear h1 h2
    refine wp_region_N [(0, 1), (1, 1), (2, 1), (3, 1), (4, 1), (5, 1), (6, 1), (7, 1), (8, 1), (9, 3), (10, 1), (11, 1)] (by kernel_rfl) ?_
    refine wpS_this [0, 1, 2, 3, 4, 5, 6, 7, 8] rfl (by kernel_rfl) (by simp only [pickL, nthL, List.cons_append, List.nil_append]; rfl) ?_
    repeat (go_big_quiet_step (fail))
    refine wpQuiet_nil ?_
    refine wpS_skip (i := 9) (d := some 15) rfl (by rfl) rfl ?_
    simp only [Act.put, List.setIfInBounds_toArray, List.set_cons_succ, List.set_cons_zero]
    refine wpS_this [10, 11] rfl (by kernel_rfl) (by simp only [pickL, nthL, List.cons_append, List.nil_append]; rfl) ?_
    repeat (go_big_quiet_step (fail))
    refine wpQuiet_nil ?_
    refine wpS_nil ?_
    refine then_normal ?_
    refine wp_cond_true rfl ?_
    refine wp_seq ?_
    refine wp_region_N [(0, 1)] (by kernel_rfl) ?_
    refine wpS_this [0] rfl (by kernel_rfl) (by simp only [pickL, nthL, List.cons_append, List.nil_append]; rfl) ?_
    repeat (go_big_quiet_step (fail))
    refine wpQuiet_nil ?_
    refine wpS_nil ?_
    refine then_normal ?_
    refine wp_ret ?_
    refine then_ret ?_
    refine bodyPost_ret (results_tmp rfl _ _ _) rfl ?_
    rw [hno.out]
    exact does_ret (Mem.only (M := [_]) HM0.out [0] rfl) rfl rfl
  · have g1 := decide_eq_false h1
    have g2 := decide_eq_false h2
    obtain ⟨q, rfl⟩ := Int.eq_ofNat_of_zero_le (show 0 ≤ p by omega)
    have hq16 : q < 16 := by omega
    clear h1 h2
    rw [Int.toNat_natCast] at h3
    obtain ⟨x, hx'⟩ := int_letter (whoL T q)
    have hx := Lib.hid hx'
    clear hx'
    have g3 : decide (x < 0) = true := decide_eq_true (by rw [← hx.out]; exact h3)
    have hno : Hid (nextI T (q : Int) = 0) := Lib.hid (nextI_no (by omega))
    clear h3
    refine wp_region_N [(0, 1), (1, 1), (2, 1), (3, 1), (4, 1), (5, 1), (6, 1), (7, 1), (8, 1), (9, 3), (10, 1), (11, 1)] (by kernel_rfl) ?_
    refine wpS_this [0, 1, 2, 3, 4, 5, 6, 7, 8] rfl (by kernel_rfl) (by simp only [pickL, nthL, List.cons_append, List.nil_append]; rfl) ?_
    repeat (go_big_quiet_step (fail))
    refine wpQuiet_nil ?_
    refine wpS_does2 (i := 9) (d := some 15) (rem := []) (out := [_]) rfl (by rfl) rfl Tryd.call17 (rwho_d R _ T hT q) rfl rfl HM0.out [0] rfl covS_nil rfl rfl ?_
    rintro W2 hm1 -
    rw [hx.out]
    have HM3 := Lib.hid hm1
    clear hm1
    simp only [Act.put, List.setIfInBounds_toArray, List.set_cons_succ, List.set_cons_zero]
    refine wpS_this [10, 11] rfl (by kernel_rfl) (by simp only [pickL, nthL, List.cons_append, List.nil_append]; rfl) ?_
    repeat (go_big_quiet_step (fail))
    refine wpQuiet_nil ?_
    refine wpS_nil ?_
    refine then_normal ?_
    refine wp_cond_true rfl ?_
    refine wp_seq ?_
    refine wp_region_N [(0, 1)] (by kernel_rfl) ?_
    refine wpS_this [0] rfl (by kernel_rfl) (by simp only [pickL, nthL, List.cons_append, List.nil_append]; rfl) ?_
    repeat (go_big_quiet_step (fail))
    refine wpQuiet_nil ?_
    refine wpS_nil ?_
    refine then_normal ?_
    refine wp_ret ?_
    refine then_ret ?_
    refine bodyPost_ret (results_tmp rfl _ _ _) rfl ?_
    rw [hno.out]
    exact does_ret (Mem.only (M := [_]) HM3.out [0] rfl) rfl rfl
  · have g1 := decide_eq_false h1
    have g2 := decide_eq_false h2
    obtain ⟨q, rfl⟩ := Int.eq_ofNat_of_zero_le (show 0 ≤ p by omega)
    have hq16 : q < 16 := by omega
    clear h1 h2
    rw [Int.toNat_natCast] at h3
    obtain ⟨x, hx'⟩ := int_letter (whoL T q)
    have hx := Lib.hid hx'
    clear hx'
    have g3 : decide (x < 0) = false := decide_eq_false (by rw [← hx.out]; exact h3)
    have hpos : Hid (0 ≤ whoL T q) := Lib.hid (by omega)
    clear h3
    refine wp_region_N [(0, 1), (1, 1), (2, 1), (3, 1), (4, 1), (5, 1), (6, 1), (7, 1), (8, 1), (9, 3), (10, 1), (11, 1)] (by kernel_rfl) ?_
    refine wpS_this [0, 1, 2, 3, 4, 5, 6, 7, 8] rfl (by kernel_rfl) (by simp only [pickL, nthL, List.cons_append, List.nil_append]; rfl) ?_
    repeat (go_big_quiet_step (fail))
    refine wpQuiet_nil ?_
    refine wpS_does2 (i := 9) (d := some 15) (rem := []) (out := [_]) rfl (by rfl) rfl Tryd.call17 (rwho_d R _ T hT q) rfl rfl HM0.out [0] rfl covS_nil rfl rfl ?_
    rintro W5 hm4 -
    rw [hx.out]
    have HM6 := Lib.hid hm4
    clear hm4
    simp only [Act.put, List.setIfInBounds_toArray, List.set_cons_succ, List.set_cons_zero]
    refine wpS_this [10, 11] rfl (by kernel_rfl) (by simp only [pickL, nthL, List.cons_append, List.nil_append]; rfl) ?_
    repeat (go_big_quiet_step (fail))
    refine wpQuiet_nil ?_
    refine wpS_nil ?_
    refine then_normal ?_
    refine wp_cond_false rfl ?_
    refine wp_skip ?_
    refine then_normal ?_
    refine wp_seq ?_
    refine wp_seq ?_
    refine wp_region_N [(0, 1)] (by kernel_rfl) ?_
    refine wpS_this [0] rfl (by kernel_rfl) (by simp only [pickL, nthL, List.cons_append, List.nil_append]; rfl) ?_
    repeat (go_big_quiet_step (fail))
    refine wpQuiet_nil ?_
    refine wpS_nil ?_
    refine then_normal ?_
    refine wp_block ?_
    refine wp_loop_F [4, 5, 18, 19, 20, 21, 22, 23, 24, 25, 26, 27, 28, 29, 30, 31, 32] (fun n vs W' => ∃ k : Nat, n = 16 - k ∧ vs 5 = .int .i64 (k : Int) ∧ 1 ≤ k ∧ k ≤ 16 ∧ (∀ j, 1 ≤ j → j < k → (fun j => whoL T j == whoL T q) ((q + j) % 16) = false) ∧ Mem [R] H w W') (n0 := 15) ?_ ?_
    · exact ⟨1, rfl, rfl, Nat.le_refl _, by decide, fun j h1 h2 => by omega, (Mem.only (M := [_]) HM6.out [0] rfl)⟩
    rintro n vs W' ⟨k, rfl, e5, hk0, hk, hf', hm⟩
    simp only [putAll, List.map_cons, List.map_nil, Act.put, List.setIfInBounds_toArray, List.set_cons_succ, List.set_cons_zero]
    rw [e5]
    clear e5
    have hf := Lib.hid hf'
    clear hf'
    have HM7 := Lib.hid hm
    clear hm
    refine wp_seq ?_
    refine wp_seq ?_
    refine wp_region_N [(0, 1), (1, 1)] (by kernel_rfl) ?_
    refine wpS_this [0, 1] rfl (by kernel_rfl) (by simp only [pickL, nthL, List.cons_append, List.nil_append]; rfl) ?_
    repeat (go_big_quiet_step (fail))
    refine wpQuiet_nil ?_
    refine wpS_nil ?_
    refine then_normal ?_
    refine wp_cond_split rfl (fun h8 => ?_) (fun h8 => ?_)
    · have hk1 : k + 1 ≤ 16 := by have : (k : Int) < 16 := (by simpa using h8); omega
      clear h8
      refine wp_skip ?_
      refine then_normal ?_
      refine wp_seq ?_
      refine wp_block ?_
      refine wp_seq ?_
      obtain ⟨q2, hq2'⟩ := nat_letter ((q + k) % 16)
      have hqm : Hid (((q : Int) + (k : Int)) % 16 = (q2 : Int)) := Lib.hid (by rw [← hq2']; omega)
      have hq2 := Lib.hid hq2'
      clear hq2'
      obtain ⟨y, hy'⟩ := int_letter (whoL T q2)
      have hy := Lib.hid hy'
      clear hy'
      by_cases h1 : y = x
      · have g3 : (y == x) = true := beq_iff_eq.2 h1
        have hye : Hid ((fun j => whoL T j == whoL T q) q2 = true) := Lib.hid (by show (whoL T q2 == whoL T q) = true; rw [hy.out, hx.out]; exact g3)
        clear h1
        refine wp_region_N [(0, 1), (1, 1), (2, 1), (3, 1), (4, 1), (5, 3), (6, 1), (7, 1), (8, 3), (9, 1)] (by kernel_rfl) ?_
        refine wpS_this [0, 1, 2, 3] rfl (by kernel_rfl) (by simp only [pickL, nthL, List.cons_append, List.nil_append]; rfl) ?_
        repeat (go_big_quiet_step (fail))
        refine wpQuiet_nil ?_
        refine wpS_this [4] rfl (by kernel_rfl) (by simp only [pickL, nthL, List.cons_append, List.nil_append]; rfl) ?_
        repeat (go_big_quiet_step (fail))
        refine wpQuiet_nil ?_
        rw [hqm.out]
        refine wpS_does2 (i := 5) (d := some 27) (rem := []) (out := [_]) rfl (by rfl) rfl Tryd.call17 (rwho_d R _ T hT q2) rfl rfl HM7.out [0] rfl covS_nil rfl rfl ?_
        rintro W10 hm9 -
        rw [hy.out]
        have HM11 := Lib.hid hm9
        clear hm9
        simp only [Act.put, List.setIfInBounds_toArray, List.set_cons_succ, List.set_cons_zero]
        refine wpS_this [6, 7] rfl (by kernel_rfl) (by simp only [pickL, nthL, List.cons_append, List.nil_append]; rfl) ?_
        repeat (go_big_quiet_step (fail))
        refine wpQuiet_nil ?_
        refine wpS_does2 (i := 8) (d := some 30) (rem := []) (out := [_]) rfl (by rfl) rfl Tryd.call17 (rwho_d R _ T hT q) rfl rfl HM11.out [0] rfl covS_nil rfl rfl ?_
        rintro W13 hm12 -
        rw [hx.out]
        have HM14 := Lib.hid hm12
        clear hm12
        simp only [Act.put, List.setIfInBounds_toArray, List.set_cons_succ, List.set_cons_zero]
        refine wpS_this [9] rfl (by kernel_rfl) (by simp only [pickL, nthL, List.cons_append, List.nil_append]; rfl) ?_
        repeat (go_big_quiet_step (fail))
        refine wpQuiet_nil ?_
        refine wpS_nil ?_
        refine then_normal ?_
        refine wp_cond_true rfl ?_
        refine wp_seq ?_
        refine wp_region_N [(0, 1), (1, 1)] (by kernel_rfl) ?_
        refine wpS_this [0, 1] rfl (by kernel_rfl) (by simp only [pickL, nthL, List.cons_append, List.nil_append]; rfl) ?_
        repeat (go_big_quiet_step (fail))
        refine wpQuiet_nil ?_
        refine wpS_nil ?_
        refine then_normal ?_
        refine wp_ret ?_
        refine block_ret (then_ret (then_ret (block_ret (then_ret ?_))))
        refine bodyPost_ret (results_tmp rfl _ _ _) rfl ?_
        rw [nextI_at hq16 hpos.out, show nextO (whoL T) q = k from nextN_is hk0 hk hf.out (.inr (by rw [hq2.out]; exact hye.out))]
        exact does_ret (Mem.only (M := [_]) HM14.out [0] rfl) rfl rfl
      · have g3 : (y == x) = false := beq_eq_false_iff_ne.2 h1
        have hne : Hid ((fun j => whoL T j == whoL T q) q2 = false) := Lib.hid (by show (whoL T q2 == whoL T q) = false; rw [hy.out, hx.out]; exact g3)
        clear h1
        refine wp_region_N [(0, 1), (1, 1), (2, 1), (3, 1), (4, 1), (5, 3), (6, 1), (7, 1), (8, 3), (9, 1)] (by kernel_rfl) ?_
        refine wpS_this [0, 1, 2, 3] rfl (by kernel_rfl) (by simp only [pickL, nthL, List.cons_append, List.nil_append]; rfl) ?_
        repeat (go_big_quiet_step (fail))
        refine wpQuiet_nil ?_
        refine wpS_this [4] rfl (by kernel_rfl) (by simp only [pickL, nthL, List.cons_append, List.nil_append]; rfl) ?_
        repeat (go_big_quiet_step (fail))
        refine wpQuiet_nil ?_
        rw [hqm.out]
        refine wpS_does2 (i := 5) (d := some 27) (rem := []) (out := [_]) rfl (by rfl) rfl Tryd.call17 (rwho_d R _ T hT q2) rfl rfl HM7.out [0] rfl covS_nil rfl rfl ?_
        rintro W16 hm15 -
        rw [hy.out]
        have HM17 := Lib.hid hm15
        clear hm15
        simp only [Act.put, List.setIfInBounds_toArray, List.set_cons_succ, List.set_cons_zero]
        refine wpS_this [6, 7] rfl (by kernel_rfl) (by simp only [pickL, nthL, List.cons_append, List.nil_append]; rfl) ?_
        repeat (go_big_quiet_step (fail))
        refine wpQuiet_nil ?_
        refine wpS_does2 (i := 8) (d := some 30) (rem := []) (out := [_]) rfl (by rfl) rfl Tryd.call17 (rwho_d R _ T hT q) rfl rfl HM17.out [0] rfl covS_nil rfl rfl ?_
        rintro W19 hm18 -
        rw [hx.out]
        have HM20 := Lib.hid hm18
        clear hm18
        simp only [Act.put, List.setIfInBounds_toArray, List.set_cons_succ, List.set_cons_zero]
        refine wpS_this [9] rfl (by kernel_rfl) (by simp only [pickL, nthL, List.cons_append, List.nil_append]; rfl) ?_
        repeat (go_big_quiet_step (fail))
        refine wpQuiet_nil ?_
        refine wpS_nil ?_
        refine then_normal ?_
        refine wp_cond_false rfl ?_
        refine wp_skip ?_
        refine block_normal ?_
        refine then_normal ?_
        refine wp_region_N [(0, 1), (1, 1), (2, 1)] (by kernel_rfl) ?_
        refine wpS_this [0, 1, 2] rfl (by kernel_rfl) (by simp only [pickL, nthL, List.cons_append, List.nil_append]; rfl) ?_
        repeat (go_big_quiet_step (fail))
        refine wpQuiet_nil ?_
        refine wpS_nil ?_
        refine then_normal ?_
        refine ⟨by kernel_rfl, ?_⟩
        refine ⟨16 - (k + 1), by omega, k + 1, rfl, rfl, by omega, hk1, fun j h1 h2 => ?_, (Mem.only (M := [_]) HM20.out [0] rfl)⟩
        rcases Nat.lt_or_eq_of_le (Nat.le_of_lt_succ h2) with h3 | rfl
        · rw [← hx.out]
          exact hf.out j h1 h3
        · rw [hq2.out, ← hx.out]
          exact hne.out
    · have hge : Hid (16 ≤ k) := Lib.hid (by have : ¬ (k : Int) < 16 := (by simpa using h8); omega)
      clear h8
      refine wp_exit ?_
      refine then_exit (then_exit (block_exit ?_))
      refine then_normal ?_
      refine wp_seq ?_
      refine wp_region_N [(0, 1)] (by kernel_rfl) ?_
      refine wpS_this [0] rfl (by kernel_rfl) (by simp only [pickL, nthL, List.cons_append, List.nil_append]; rfl) ?_
      repeat (go_big_quiet_step (fail))
      refine wpQuiet_nil ?_
      refine wpS_nil ?_
      refine then_normal ?_
      refine wp_ret ?_
      refine bodyPost_ret (results_tmp rfl _ _ _) rfl ?_
      rw [nextI_at hq16 hpos.out, show nextO (whoL T) q = 16 from nextN_is (by decide) (by decide) (fun j h1 h2 => hf.out j h1 (by have := hge.out; omega)) (.inl rfl)]
      exact does_ret (Mem.only (M := [_]) HM7.out [0] rfl) rfl rfl

set_option maxHeartbeats 4000000 in
set_option maxRecDepth 100000 in
theorem rleast_d (R : At) (v : Value) (T : List Int) (hT : ∀ W H, R.p W H → RowAt elemI W v T) (n0 : Int) : Does Tryd.prog 10 #[v, .int .i64 n0] [R] (.int .i64 (leastI T n0)) [R] := by
  intro w H hp
  have HM0 := Lib.hid (mem_refl hp)
  clear hp
  go_enter Tryd.func10, Tryd.ntmps10
  refine wp_seq ?_
  refine wp_region_N [(0, 1)] (by kernel_rfl) ?_
  refine wpS_this [0] rfl (by kernel_rfl) (by simp only [pickL, nthL, List.cons_append, List.nil_append]; rfl) ?_
  repeat (go_big_quiet_step (fail))
  refine wpQuiet_nil ?_
  refine wpS_nil ?_
  refine then_normal ?_
  refine wp_seq ?_
  refine wp_region_N [(0, 1)] (by kernel_rfl) ?_
  refine wpS_this [0] rfl (by kernel_rfl) (by simp only [pickL, nthL, List.cons_append, List.nil_append]; rfl) ?_
  repeat (go_big_quiet_step (fail))
  refine wpQuiet_nil ?_
  refine wpS_nil ?_
  refine then_normal ?_
  refine wp_seq ?_
  refine wp_seq ?_
  refine wp_region_N [(0, 1)] (by kernel_rfl) ?_
  refine wpS_this [0] rfl (by kernel_rfl) (by simp only [pickL, nthL, List.cons_append, List.nil_append]; rfl) ?_
  repeat (go_big_quiet_step (fail))
  refine wpQuiet_nil ?_
  refine wpS_nil ?_
  refine then_normal ?_
  refine wp_block ?_
  refine wp_loop_F [5, 6, 7, 8, 9, 10, 11, 12, 13, 14, 15, 16, 17, 18, 19, 20, 21, 22, 23, 24, 25, 26, 27, 28, 29, 30, 31] (fun n vs W' => ∃ k : Nat, n = 16 - k ∧ vs 8 = .int .i64 (k : Int) ∧ vs 5 = .int .i64 ((leastJ T n0 k : Nat) : Int) ∧ k ≤ 16 ∧ Mem [R] H w W') (n0 := 16) ?_ ?_
  · refine ⟨0, rfl, rfl, ?_, Nat.zero_le _, (Mem.only (M := [_]) HM0.out [0] rfl)⟩
    rw [show leastJ T n0 0 = 0 from by unfold leastJ; split <;> rfl]
    rfl
  rintro n vs W' ⟨k, rfl, e8, e5, hk, hm⟩
  simp only [putAll, List.map_cons, List.map_nil, Act.put, List.setIfInBounds_toArray, List.set_cons_succ, List.set_cons_zero]
  rw [e8, e5]
  clear e8 e5
  obtain ⟨m, hml'⟩ := nat_letter (leastJ T n0 k)
  have hm16 : m ≤ 16 := by rw [← hml']; exact leastJ_le _ _ _
  rw [hml']
  have hml := Lib.hid hml'
  clear hml'
  have HM1 := Lib.hid hm
  clear hm
  refine wp_seq ?_
  refine wp_region_N [(0, 1)] (by kernel_rfl) ?_
  refine wpS_this [0] rfl (by kernel_rfl) (by simp only [pickL, nthL, List.cons_append, List.nil_append]; rfl) ?_
  repeat (go_big_quiet_step (fail))
  refine wpQuiet_nil ?_
  refine wpS_nil ?_
  refine then_normal ?_
  refine wp_seq ?_
  refine wp_cond_split rfl (fun h2 => ?_) (fun h2 => ?_)
  · have hk1 : k + 1 ≤ 16 := by have : (k : Int) < 16 := (by simpa using h2); omega
    clear h2
    refine wp_skip ?_
    refine then_normal ?_
    refine wp_seq ?_
    refine wp_block ?_
    refine wp_seq ?_
    refine wp_region_N [(0, 1), (1, 1)] (by kernel_rfl) ?_
    refine wpS_this [0, 1] rfl (by kernel_rfl) (by simp only [pickL, nthL, List.cons_append, List.nil_append]; rfl) ?_
    repeat (go_big_quiet_step (fail))
    refine wpQuiet_nil ?_
    refine wpS_nil ?_
    refine then_normal ?_
    refine wp_seq ?_
    rcases (show nodeE n0 = false ∨ (nodeE n0 = true ∧ whoL T k = n0) ∨ (nodeE n0 = true ∧ ¬ whoL T k = n0) from by cases nodeE n0 <;> by_cases h0 : whoL T k = n0 <;> simp [h0]) with h1 | ⟨h1, h2⟩ | ⟨h1, h2⟩
    · have hst : Hid (leastJ T n0 (k + 1) = m) := Lib.hid ((leastJ_not h1).trans hml.out)
      replace h1 := Lib.hid h1
      refine wp_region_N [(0, 1), (1, 3), (2, 1), (3, 1), (4, 1), (5, 3), (6, 1), (7, 1), (8, 1)] (by kernel_rfl) ?_
      refine wpS_this [0] rfl (by kernel_rfl) (by simp only [pickL, nthL, List.cons_append, List.nil_append]; rfl) ?_
      repeat (go_big_quiet_step (fail))
      refine wpQuiet_nil ?_
      refine wpS_does1 (i := 1) (d := some 12) (rem := [_]) (out := [_]) rfl (by rfl) rfl Tryd.call20 (rnode_d n0) rfl HM1.out [] rfl covS_nil rfl rfl ?_
      rintro W4 hm3 -
      rw [h1.out]
      have HM5 := Lib.hid hm3
      clear hm3
      simp only [Act.put, List.setIfInBounds_toArray, List.set_cons_succ, List.set_cons_zero]
      refine wpS_this [2, 3, 4] rfl (by kernel_rfl) (by simp only [pickL, nthL, List.cons_append, List.nil_append]; rfl) ?_
      repeat (go_big_quiet_step (fail))
      refine wpQuiet_nil ?_
      refine wpS_skip (i := 5) (d := some 16) rfl (by rfl) rfl ?_
      simp only [Act.put, List.setIfInBounds_toArray, List.set_cons_succ, List.set_cons_zero]
      refine wpS_this [6, 7, 8] rfl (by kernel_rfl) (by simp only [pickL, nthL, List.cons_append, List.nil_append]; rfl) ?_
      repeat (go_big_quiet_step (fail))
      refine wpQuiet_nil ?_
      refine wpS_nil ?_
      refine then_normal ?_
      refine wp_cond_false rfl ?_
      refine wp_skip ?_
      refine block_normal ?_
      refine then_normal ?_
      refine wp_region_N [(0, 1), (1, 1)] (by kernel_rfl) ?_
      refine wpS_this [0, 1] rfl (by kernel_rfl) (by simp only [pickL, nthL, List.cons_append, List.nil_append]; rfl) ?_
      repeat (go_big_quiet_step (fail))
      refine wpQuiet_nil ?_
      refine wpS_nil ?_
      refine then_normal ?_
      refine ⟨by kernel_rfl, ?_⟩
      refine ⟨16 - (k + 1), by omega, k + 1, rfl, rfl, ?_, hk1, (Mem.only (M := [_]) HM5.out [0] rfl)⟩
      rw [hst.out]
      rfl
    · have hh := leastJ_hit (k := k) h1 h2
      rw [hml.out] at hh
      have hhid := Lib.hid hh
      clear hh
      have hnx0 : nextI T (k : Int) = (nextO (whoL T) k : Int) := nextI_at (by omega) (by rw [h2]; exact (nodeE_iff.1 h1).1)
      obtain ⟨d, hd'⟩ := nat_letter (nextO (whoL T) k)
      have hdr := nextO_range (whoL T) k
      rw [hd'] at hnx0 hdr
      have hnx := Lib.hid hnx0
      clear hnx0
      have hd := Lib.hid hd'
      clear hd'
      have hx : Hid (whoL T k = n0) := Lib.hid h2
      have g1 : (n0 == n0) = true := beq_self_eq_true _
      have hd1 := hdr.1
      have hd2 := hdr.2
      clear hdr h2
      replace h1 := Lib.hid h1
      refine wp_region_N [(0, 1), (1, 3), (2, 1), (3, 1), (4, 1), (5, 3), (6, 1), (7, 1), (8, 1)] (by kernel_rfl) ?_
      refine wpS_this [0] rfl (by kernel_rfl) (by simp only [pickL, nthL, List.cons_append, List.nil_append]; rfl) ?_
      repeat (go_big_quiet_step (fail))
      refine wpQuiet_nil ?_
      refine wpS_does1 (i := 1) (d := some 12) (rem := [_]) (out := [_]) rfl (by rfl) rfl Tryd.call20 (rnode_d n0) rfl HM1.out [] rfl covS_nil rfl rfl ?_
      rintro W7 hm6 -
      rw [h1.out]
      have HM8 := Lib.hid hm6
      clear hm6
      simp only [Act.put, List.setIfInBounds_toArray, List.set_cons_succ, List.set_cons_zero]
      refine wpS_this [2, 3, 4] rfl (by kernel_rfl) (by simp only [pickL, nthL, List.cons_append, List.nil_append]; rfl) ?_
      repeat (go_big_quiet_step (fail))
      refine wpQuiet_nil ?_
      refine wpS_does2 (i := 5) (d := some 16) (rem := []) (out := [_]) rfl (by rfl) rfl Tryd.call17 (rwho_d R _ T hT k) rfl rfl HM8.out [0] rfl covS_nil rfl rfl ?_
      rintro W10 hm9 -
      rw [hx.out]
      have HM11 := Lib.hid hm9
      clear hm9
      simp only [Act.put, List.setIfInBounds_toArray, List.set_cons_succ, List.set_cons_zero]
      refine wpS_this [6, 7, 8] rfl (by kernel_rfl) (by simp only [pickL, nthL, List.cons_append, List.nil_append]; rfl) ?_
      repeat (go_big_quiet_step (fail))
      refine wpQuiet_nil ?_
      refine wpS_nil ?_
      refine then_normal ?_
      refine wp_cond_true rfl ?_
      refine wp_seq ?_
      refine wp_region_N [(0, 1), (1, 1), (2, 3), (3, 1)] (by kernel_rfl) ?_
      refine wpS_this [0, 1] rfl (by kernel_rfl) (by simp only [pickL, nthL, List.cons_append, List.nil_append]; rfl) ?_
      repeat (go_big_quiet_step (fail))
      refine wpQuiet_nil ?_
      refine wpS_does2 (i := 2) (d := some 22) (rem := []) (out := [_]) rfl (by rfl) rfl Tryd.call8 (rnext_d R _ T hT (k : Int)) rfl rfl HM11.out [0] rfl covS_nil rfl rfl ?_
      rintro W13 hm12 -
      rw [hnx.out]
      have HM14 := Lib.hid hm12
      clear hm12
      simp only [Act.put, List.setIfInBounds_toArray, List.set_cons_succ, List.set_cons_zero]
      refine wpS_this [3] rfl (by kernel_rfl) (by simp only [pickL, nthL, List.cons_append, List.nil_append]; rfl) ?_
      repeat (go_big_quiet_step (fail))
      refine wpQuiet_nil ?_
      refine wpS_nil ?_
      refine then_normal ?_
      refine wp_seq ?_
      rcases (show m = 0 ∨ (¬ m = 0 ∧ d < m) ∨ (¬ m = 0 ∧ ¬ d < m) from by omega) with h3 | ⟨h3, h4⟩ | ⟨h3, h4⟩
      · have g2 : ((m : Int) == 0) = true := beq_iff_eq.2 (by omega)
        have g2' : (m == 0) = true := beq_iff_eq.2 h3
        have hst : Hid (leastJ T n0 (k + 1) = d) := Lib.hid (by rw [hhid.out, if_pos (.inl h3), hd.out])
        replace h3 := Lib.hid h3
        refine wp_region_N [(0, 1), (1, 1), (2, 1), (3, 1), (4, 1), (5, 1), (6, 1)] (by kernel_rfl) ?_
        refine wpS_this [0, 1, 2, 3, 4, 5, 6] rfl (by kernel_rfl) (by simp only [pickL, nthL, List.cons_append, List.nil_append]; rfl) ?_
        repeat (go_big_quiet_step (fail))
        refine wpQuiet_nil ?_
        refine wpS_nil ?_
        refine then_normal ?_
        refine wp_cond_true rfl ?_
        refine wp_region_N [(0, 1), (1, 1)] (by kernel_rfl) ?_
        refine wpS_this [0, 1] rfl (by kernel_rfl) (by simp only [pickL, nthL, List.cons_append, List.nil_append]; rfl) ?_
        repeat (go_big_quiet_step (fail))
        refine wpQuiet_nil ?_
        refine wpS_nil ?_
        refine block_normal ?_
        refine then_normal ?_
        refine wp_region_N [(0, 1), (1, 1)] (by kernel_rfl) ?_
        refine wpS_this [0, 1] rfl (by kernel_rfl) (by simp only [pickL, nthL, List.cons_append, List.nil_append]; rfl) ?_
        repeat (go_big_quiet_step (fail))
        refine wpQuiet_nil ?_
        refine wpS_nil ?_
        refine then_normal ?_
        refine ⟨by kernel_rfl, ?_⟩
        refine ⟨16 - (k + 1), by omega, k + 1, rfl, rfl, ?_, hk1, (Mem.only (M := [_]) HM14.out [0] rfl)⟩
        rw [hst.out]
        rfl
      · have g2 : ((m : Int) == 0) = false := beq_eq_false_iff_ne.2 (by omega)
        have g2' : (m == 0) = false := beq_eq_false_iff_ne.2 h3
        have g3 : decide ((d : Int) < (m : Int)) = true := decide_eq_true (by omega)
        have g3' := decide_eq_true h4
        have hst : Hid (leastJ T n0 (k + 1) = d) := Lib.hid (by rw [hhid.out, if_pos (.inr (by rw [hd.out]; exact h4)), hd.out])
        replace h3 := Lib.hid h3
        replace h4 := Lib.hid h4
        refine wp_region_N [(0, 1), (1, 1), (2, 1), (3, 1), (4, 1), (5, 1), (6, 1)] (by kernel_rfl) ?_
        refine wpS_this [0, 1, 2, 3, 4, 5, 6] rfl (by kernel_rfl) (by simp only [pickL, nthL, List.cons_append, List.nil_append]; rfl) ?_
        repeat (go_big_quiet_step (fail))
        refine wpQuiet_nil ?_
        refine wpS_nil ?_
        refine then_normal ?_
        refine wp_cond_true rfl ?_
        refine wp_region_N [(0, 1), (1, 1)] (by kernel_rfl) ?_
        refine wpS_this [0, 1] rfl (by kernel_rfl) (by simp only [pickL, nthL, List.cons_append, List.nil_append]; rfl) ?_
        repeat (go_big_quiet_step (fail))
        refine wpQuiet_nil ?_
        refine wpS_nil ?_
        refine block_normal ?_
        refine then_normal ?_
        refine wp_region_N [(0, 1), (1, 1)] (by kernel_rfl) ?_
        refine wpS_this [0, 1] rfl (by kernel_rfl) (by simp only [pickL, nthL, List.cons_append, List.nil_append]; rfl) ?_
        repeat (go_big_quiet_step (fail))
        refine wpQuiet_nil ?_
        refine wpS_nil ?_
        refine then_normal ?_
        refine ⟨by kernel_rfl, ?_⟩
        refine ⟨16 - (k + 1), by omega, k + 1, rfl, rfl, ?_, hk1, (Mem.only (M := [_]) HM14.out [0] rfl)⟩
        rw [hst.out]
        rfl
      · have g2 : ((m : Int) == 0) = false := beq_eq_false_iff_ne.2 (by omega)
        have g2' : (m == 0) = false := beq_eq_false_iff_ne.2 h3
        have g3 : decide ((d : Int) < (m : Int)) = false := decide_eq_false (by omega)
        have g3' := decide_eq_false h4
        have hst : Hid (leastJ T n0 (k + 1) = m) := Lib.hid (by rw [hhid.out, if_neg (by rw [hd.out]; omega)])
        replace h3 := Lib.hid h3
        replace h4 := Lib.hid h4
        refine wp_region_N [(0, 1), (1, 1), (2, 1), (3, 1), (4, 1), (5, 1), (6, 1)] (by kernel_rfl) ?_
        refine wpS_this [0, 1, 2, 3, 4, 5, 6] rfl (by kernel_rfl) (by simp only [pickL, nthL, List.cons_append, List.nil_append]; rfl) ?_
        repeat (go_big_quiet_step (fail))
        refine wpQuiet_nil ?_
        refine wpS_nil ?_
        refine then_normal ?_
        refine wp_cond_false rfl ?_
        refine wp_skip ?_
        refine block_normal ?_
        refine then_normal ?_
        refine wp_region_N [(0, 1), (1, 1)] (by kernel_rfl) ?_
        refine wpS_this [0, 1] rfl (by kernel_rfl) (by simp only [pickL, nthL, List.cons_append, List.nil_append]; rfl) ?_
        repeat (go_big_quiet_step (fail))
        refine wpQuiet_nil ?_
        refine wpS_nil ?_
        refine then_normal ?_
        refine ⟨by kernel_rfl, ?_⟩
        refine ⟨16 - (k + 1), by omega, k + 1, rfl, rfl, ?_, hk1, (Mem.only (M := [_]) HM14.out [0] rfl)⟩
        rw [hst.out]
        rfl
    · obtain ⟨x, hx'⟩ := int_letter (whoL T k)
      have hx := Lib.hid hx'
      clear hx'
      have g1 : (x == n0) = false := beq_eq_false_iff_ne.2 (by rw [← hx.out]; exact h2)
      have hst : Hid (leastJ T n0 (k + 1) = m) := Lib.hid ((leastJ_miss h2).trans hml.out)
      replace h1 := Lib.hid h1
      replace h2 := Lib.hid h2
      refine wp_region_N [(0, 1), (1, 3), (2, 1), (3, 1), (4, 1), (5, 3), (6, 1), (7, 1), (8, 1)] (by kernel_rfl) ?_
      refine wpS_this [0] rfl (by kernel_rfl) (by simp only [pickL, nthL, List.cons_append, List.nil_append]; rfl) ?_
      repeat (go_big_quiet_step (fail))
      refine wpQuiet_nil ?_
      refine wpS_does1 (i := 1) (d := some 12) (rem := [_]) (out := [_]) rfl (by rfl) rfl Tryd.call20 (rnode_d n0) rfl HM1.out [] rfl covS_nil rfl rfl ?_
      rintro W16 hm15 -
      rw [h1.out]
      have HM17 := Lib.hid hm15
      clear hm15
      simp only [Act.put, List.setIfInBounds_toArray, List.set_cons_succ, List.set_cons_zero]
      refine wpS_this [2, 3, 4] rfl (by kernel_rfl) (by simp only [pickL, nthL, List.cons_append, List.nil_append]; rfl) ?_
      repeat (go_big_quiet_step (fail))
      refine wpQuiet_nil ?_
      refine wpS_does2 (i := 5) (d := some 16) (rem := []) (out := [_]) rfl (by rfl) rfl Tryd.call17 (rwho_d R _ T hT k) rfl rfl HM17.out [0] rfl covS_nil rfl rfl ?_
      rintro W19 hm18 -
      rw [hx.out]
      have HM20 := Lib.hid hm18
      clear hm18
      simp only [Act.put, List.setIfInBounds_toArray, List.set_cons_succ, List.set_cons_zero]
      refine wpS_this [6, 7, 8] rfl (by kernel_rfl) (by simp only [pickL, nthL, List.cons_append, List.nil_append]; rfl) ?_
      repeat (go_big_quiet_step (fail))
      refine wpQuiet_nil ?_
      refine wpS_nil ?_
      refine then_normal ?_
      refine wp_cond_false rfl ?_
      refine wp_skip ?_
      refine block_normal ?_
      refine then_normal ?_
      refine wp_region_N [(0, 1), (1, 1)] (by kernel_rfl) ?_
      refine wpS_this [0, 1] rfl (by kernel_rfl) (by simp only [pickL, nthL, List.cons_append, List.nil_append]; rfl) ?_
      repeat (go_big_quiet_step (fail))
      refine wpQuiet_nil ?_
      refine wpS_nil ?_
      refine then_normal ?_
      refine ⟨by kernel_rfl, ?_⟩
      refine ⟨16 - (k + 1), by omega, k + 1, rfl, rfl, ?_, hk1, (Mem.only (M := [_]) HM20.out [0] rfl)⟩
      rw [hst.out]
      rfl
  · have hge : Hid (16 ≤ k) := Lib.hid (by have : ¬ (k : Int) < 16 := (by simpa using h2); omega)
    clear h2
    refine wp_exit ?_
    refine then_exit (then_exit (block_exit ?_))
    refine then_normal ?_
    refine wp_seq ?_
    refine wp_region_N [(0, 1), (1, 1)] (by kernel_rfl) ?_
    refine wpS_this [0, 1] rfl (by kernel_rfl) (by simp only [pickL, nthL, List.cons_append, List.nil_append]; rfl) ?_
    repeat (go_big_quiet_step (fail))
    refine wpQuiet_nil ?_
    refine wpS_nil ?_
    refine then_normal ?_
    refine wp_ret ?_
    refine bodyPost_ret (results_tmp rfl _ _ _) rfl ?_
    have hk16 : k = 16 := by have := hge.out; omega
    subst hk16
    rw [leastJ_end, hml.out]
    exact does_ret (Mem.only (M := [_]) HM1.out [0] rfl) rfl rfl

set_option maxHeartbeats 4000000 in
set_option maxRecDepth 100000 in
theorem runev_d (R : At) (v vm : Value) (T M : List Int) (hT : ∀ W H, R.p W H → RowAt elemI W v T) (hM : ∀ W H, R.p W H → RowAt elemI W vm M) (hl : M.length ≤ 1000) : Does Tryd.prog 12 #[v, vm] [R] (.int .i64 (unevI T M)) [R] := by
  intro w H hp
  have HM0 := Lib.hid (mem_refl hp)
  clear hp
  obtain ⟨pm, cm, rfl, -⟩ := (HM0.out.row 0 rfl hM).form
  go_enter Tryd.func12, Tryd.ntmps12
  refine wp_seq ?_
  refine wp_region_N [(0, 1)] (by kernel_rfl) ?_
  refine wpS_this [0] rfl (by kernel_rfl) (by simp only [pickL, nthL, List.cons_append, List.nil_append]; rfl) ?_
  repeat (go_big_quiet_step (fail))
  refine wpQuiet_nil ?_
  refine wpS_nil ?_
  refine then_normal ?_
  refine wp_seq ?_
  refine wp_region_N [(0, 1), (1, 3), (2, 1)] (by kernel_rfl) ?_
  refine wpS_this [0] rfl (by kernel_rfl) (by simp only [pickL, nthL, List.cons_append, List.nil_append]; rfl) ?_
  repeat (go_big_quiet_step (fail))
  refine wpQuiet_nil ?_
  refine wpS_doesU1 (i := 1) (d := some 12) (rem := []) rfl (by rfl) rfl Tryd.call6 (rcounts_d R _ T hT) rfl HM0.out [0] rfl covS_nil (fun _ => rfl) rfl ?_
  rintro u3 W2 hm1 -
  obtain ⟨pn, cn, hm1q⟩ := cnt_form hm1
  obtain ⟨rfl, hm1r⟩ := hm1q
  clear hm1
  have HM4 := Lib.hid hm1r
  clear hm1r
  simp only [Act.put, List.setIfInBounds_toArray, List.set_cons_succ, List.set_cons_zero]
  refine wpS_this [2] rfl (by kernel_rfl) (by simp only [pickL, nthL, List.cons_append, List.nil_append]; rfl) ?_
  repeat (go_big_quiet_step (fail))
  refine wpQuiet_nil ?_
  refine wpS_nil ?_
  refine then_normal ?_
  refine wp_seq ?_
  refine wp_region_N [(0, 1), (1, 1), (2, 1)] (by kernel_rfl) ?_
  refine wpS_this [0, 1, 2] rfl (by kernel_rfl) (by simp only [pickL, nthL, List.cons_append, List.nil_append]; rfl) ?_
  repeat (go_big_quiet_step (fail))
  refine wpQuiet_nil ?_
  refine wpS_nil ?_
  refine then_normal ?_
  refine wp_seq ?_
  refine wp_seq ?_
  refine wp_region_N [(0, 1), (1, 1), (2, 1)] (by kernel_rfl) ?_
  refine wpS_this [0, 1, 2] rfl (by kernel_rfl) (by simp only [pickL, nthL, List.cons_append, List.nil_append]; rfl) ?_
  repeat (go_big_quiet_step (fail))
  refine wpQuiet_nil ?_
  refine wpS_nil ?_
  refine then_normal ?_
  refine wp_block ?_
  refine wp_loop_F [6, 7, 8, 10, 15, 16, 17, 18, 19, 20, 21, 22, 23, 24, 25, 26, 27, 28, 29, 30, 31, 32, 33, 34, 35, 36, 37, 38, 39, 40, 41, 42, 43, 44, 45, 46, 47, 48, 49, 50] (fun n vs W' => ∃ (k : Nat) (g : Bool), n = M.length - k ∧ vs 15 = .int .i64 (k : Int) ∧ vs 6 = .int .i64 (uA (unevK (cntI T) (M.take k))) ∧ vs 7 = .int .i64 (uB (unevK (cntI T) (M.take k))) ∧ vs 8 = .bool g ∧ (unevK (cntI T) (M.take k)).isSome = g ∧ k ≤ M.length ∧ Mem [rowT elemI (.slice pn 8 cn) (cntL T), R] H w W') (n0 := M.length) ?_ ?_
  · exact ⟨0, false, rfl, rfl, rfl, rfl, rfl, rfl, Nat.zero_le _, (Mem.only (M := [_, _]) HM4.out [0, 0] rfl)⟩
  rintro n vs W' ⟨k, g, rfl, e15, e6, e7, e8, hg', hk, hm⟩
  simp only [putAll, List.map_cons, List.map_nil, Act.put, List.setIfInBounds_toArray, List.set_cons_succ, List.set_cons_zero]
  rw [e15, e6, e7, e8]
  clear e15 e6 e7 e8
  have hbd := unev_bound T M k
  obtain ⟨st, hst'⟩ : ∃ z, unevK (cntI T) (M.take k) = z := ⟨_, rfl⟩
  rw [hst'] at hbd hg' ⊢
  obtain ⟨ua, hua'⟩ := int_letter (uA st)
  obtain ⟨ub, hub'⟩ := int_letter (uB st)
  rw [hua', hub'] at hbd ⊢
  obtain ⟨⟨ha0, ha1⟩, hb0, hb1⟩ := hbd
  have hst := Lib.hid hst'
  clear hst'
  have hua := Lib.hid hua'
  clear hua'
  have hub := Lib.hid hub'
  clear hub'
  have hg := Lib.hid hg'
  clear hg'
  have HM5 := Lib.hid hm
  clear hm
  refine wp_seq ?_
  refine wp_region_N [(0, 1)] (by kernel_rfl) ?_
  refine wpS_this [0] rfl (by kernel_rfl) (by simp only [pickL, nthL, List.cons_append, List.nil_append]; rfl) ?_
  repeat (go_big_quiet_step (fail))
  refine wpQuiet_nil ?_
  refine wpS_nil ?_
  refine then_normal ?_
  refine wp_seq ?_
  refine wp_cond_split rfl (fun h6 => ?_) (fun h6 => ?_)
  · have hk1 : k + 1 ≤ M.length := by have : (k : Int) < ((M.length : Nat) : Int) := (by simpa using h6); omega
    clear h6
    obtain ⟨y, hy'⟩ : ∃ y, M[k]? = some y := ⟨_, List.getElem?_eq_getElem (hk1)⟩
    have hy := Lib.hid hy'
    clear hy'
    refine wp_skip ?_
    refine then_normal ?_
    refine wp_seq ?_
    refine wp_block ?_
    refine wp_seq ?_
    refine wp_region_N [(0, 1), (1, 1), (2, 1)] (by kernel_rfl) ?_
    refine wpS_index (E := elemI) (i := 0) (d := some 17) rfl (by rfl) rfl rfl rfl (HM5.out.row 1 rfl hM) (hy.out) rfl ?_
    intro eb7 eo8 hc9
    simp only [Act.put, List.setIfInBounds_toArray, List.set_cons_succ, List.set_cons_zero]
    refine wpS_load1 (i := 1) (d := some 18) (u := .int .i64 y) rfl (by rfl) rfl rfl (hc9 0 _ rfl) Tryd.underlying3 rfl rfl ?_
    simp only [Act.put, List.setIfInBounds_toArray, List.set_cons_succ, List.set_cons_zero]
    refine wpS_this [2] rfl (by kernel_rfl) (by simp only [pickL, nthL, List.cons_append, List.nil_append]; rfl) ?_
    repeat (go_big_quiet_step (fail))
    refine wpQuiet_nil ?_
    refine wpS_nil ?_
    refine then_normal ?_
    refine wp_seq ?_
    refine wp_seq ?_
    rcases Bool.eq_false_or_eq_true (nodeE y) with h1 | h1
    · obtain ⟨yn, hyn, hy8⟩ := whoL_nat' h1
      subst hyn
      have hcb := ctK_le (whoL T) (yn : Int) 16
      obtain ⟨c, hcc'⟩ := int_letter (cntI T (yn : Int))
      have hc0 : 0 ≤ c ∧ c ≤ 16 := by rw [← hcc']; unfold cntI; omega
      have hcn : Hid ((cntL T)[yn]? = some c) := Lib.hid (by rw [cntL_at hy8, ← hcc']; rfl)
      have hcc := Lib.hid hcc'
      clear hcc'
      obtain ⟨hc1, hc2⟩ := hc0
      clear hcb
      replace h1 := Lib.hid h1
      refine wp_region_N [(0, 1), (1, 3), (2, 1)] (by kernel_rfl) ?_
      refine wpS_this [0] rfl (by kernel_rfl) (by simp only [pickL, nthL, List.cons_append, List.nil_append]; rfl) ?_
      repeat (go_big_quiet_step (fail))
      refine wpQuiet_nil ?_
      refine wpS_does1 (i := 1) (d := some 20) (rem := [_, _]) (out := [_, _]) rfl (by rfl) rfl Tryd.call20 (rnode_d _) rfl HM5.out [] rfl covS_nil rfl rfl ?_
      rintro W11 hm10 -
      rw [h1.out]
      have HM12 := Lib.hid hm10
      clear hm10
      simp only [Act.put, List.setIfInBounds_toArray, List.set_cons_succ, List.set_cons_zero]
      refine wpS_this [2] rfl (by kernel_rfl) (by simp only [pickL, nthL, List.cons_append, List.nil_append]; rfl) ?_
      repeat (go_big_quiet_step (fail))
      refine wpQuiet_nil ?_
      refine wpS_nil ?_
      refine then_normal ?_
      refine wp_cond_false rfl ?_
      refine wp_skip ?_
      refine then_normal ?_
      refine wp_seq ?_
      refine wp_seq ?_
      rcases (show g = false ∨ (g = true ∧ ua < c ∧ c < ub) ∨ (g = true ∧ ua < c ∧ ¬ c < ub) ∨ (g = true ∧ ¬ ua < c ∧ c < ub) ∨ (g = true ∧ ¬ ua < c ∧ ¬ c < ub) from by cases g <;> simp <;> omega) with rfl | ⟨rfl, h2, h3⟩ | ⟨rfl, h2, h3⟩ | ⟨rfl, h2, h3⟩ | ⟨rfl, h2, h3⟩
      · have hs0 : st = none := by cases st with | none => rfl | some q => exact absurd hg.out (by simp)
        have hnew : Hid (unevK (cntI T) (M.take (k + 1)) = some (c, c)) := Lib.hid (by rw [unev_new hy.out h1.out (hst.out.trans hs0), hcc.out])
        clear hs0
        have hnA : Hid (uA (some (c, c)) = c) := Lib.hid rfl
        have hnB : Hid (uB (some (c, c)) = c) := Lib.hid rfl
        have hnG : Hid ((some (c, c)).isSome = true) := Lib.hid rfl
        refine wp_region_N [(0, 1), (1, 1), (2, 1), (3, 1), (4, 1), (5, 1), (6, 1), (7, 1), (8, 1), (9, 1)] (by kernel_rfl) ?_
        refine wpS_this [0, 1, 2, 3, 4] rfl (by kernel_rfl) (by simp only [pickL, nthL, List.cons_append, List.nil_append]; rfl) ?_
        repeat (go_big_quiet_step (fail))
        refine wpQuiet_nil ?_
        refine wpS_skip (i := 5) (d := some 27) rfl (by rfl) rfl ?_
        simp only [Act.put, List.setIfInBounds_toArray, List.set_cons_succ, List.set_cons_zero]
        refine wpS_skip (i := 6) (d := some 28) rfl (by rfl) rfl ?_
        simp only [Act.put, List.setIfInBounds_toArray, List.set_cons_succ, List.set_cons_zero]
        refine wpS_this [7, 8, 9] rfl (by kernel_rfl) (by simp only [pickL, nthL, List.cons_append, List.nil_append]; rfl) ?_
        repeat (go_big_quiet_step (fail))
        refine wpQuiet_nil ?_
        refine wpS_nil ?_
        refine then_normal ?_
        refine wp_cond_true rfl ?_
        refine wp_region_N [(0, 1), (1, 1), (2, 1), (3, 1), (4, 1)] (by kernel_rfl) ?_
        refine wpS_this [0, 1] rfl (by kernel_rfl) (by simp only [pickL, nthL, List.cons_append, List.nil_append]; rfl) ?_
        repeat (go_big_quiet_step (fail))
        refine wpQuiet_nil ?_
        refine wpS_index (E := elemI) (i := 2) (d := some 34) rfl (by rfl) rfl rfl rfl (HM12.out.row 0 rfl rowOwn) (hcn.out) rfl ?_
        intro eb13 eo14 hc15
        simp only [Act.put, List.setIfInBounds_toArray, List.set_cons_succ, List.set_cons_zero]
        refine wpS_load1 (i := 3) (d := some 35) (u := .int .i64 c) rfl (by rfl) rfl rfl (hc15 0 _ rfl) Tryd.underlying3 rfl rfl ?_
        simp only [Act.put, List.setIfInBounds_toArray, List.set_cons_succ, List.set_cons_zero]
        refine wpS_this [4] rfl (by kernel_rfl) (by simp only [pickL, nthL, List.cons_append, List.nil_append]; rfl) ?_
        repeat (go_big_quiet_step (fail))
        refine wpQuiet_nil ?_
        refine wpS_nil ?_
        refine then_normal ?_
        refine wp_seq ?_
        refine wp_seq ?_
        refine wp_region_N [(0, 1), (1, 1), (2, 1), (3, 1), (4, 1), (5, 1), (6, 1), (7, 1), (8, 1), (9, 1)] (by kernel_rfl) ?_
        refine wpS_this [0, 1, 2, 3, 4] rfl (by kernel_rfl) (by simp only [pickL, nthL, List.cons_append, List.nil_append]; rfl) ?_
        repeat (go_big_quiet_step (fail))
        refine wpQuiet_nil ?_
        refine wpS_skip (i := 5) (d := some 41) rfl (by rfl) rfl ?_
        simp only [Act.put, List.setIfInBounds_toArray, List.set_cons_succ, List.set_cons_zero]
        refine wpS_skip (i := 6) (d := some 42) rfl (by rfl) rfl ?_
        simp only [Act.put, List.setIfInBounds_toArray, List.set_cons_succ, List.set_cons_zero]
        refine wpS_this [7, 8, 9] rfl (by kernel_rfl) (by simp only [pickL, nthL, List.cons_append, List.nil_append]; rfl) ?_
        repeat (go_big_quiet_step (fail))
        refine wpQuiet_nil ?_
        refine wpS_nil ?_
        refine then_normal ?_
        refine wp_cond_true rfl ?_
        refine wp_region_N [(0, 1), (1, 1), (2, 1), (3, 1), (4, 1)] (by kernel_rfl) ?_
        refine wpS_this [0, 1] rfl (by kernel_rfl) (by simp only [pickL, nthL, List.cons_append, List.nil_append]; rfl) ?_
        repeat (go_big_quiet_step (fail))
        refine wpQuiet_nil ?_
        refine wpS_index (E := elemI) (i := 2) (d := some 48) rfl (by rfl) rfl rfl rfl (HM12.out.row 0 rfl rowOwn) (hcn.out) rfl ?_
        intro eb16 eo17 hc18
        simp only [Act.put, List.setIfInBounds_toArray, List.set_cons_succ, List.set_cons_zero]
        refine wpS_load1 (i := 3) (d := some 49) (u := .int .i64 c) rfl (by rfl) rfl rfl (hc18 0 _ rfl) Tryd.underlying3 rfl rfl ?_
        simp only [Act.put, List.setIfInBounds_toArray, List.set_cons_succ, List.set_cons_zero]
        refine wpS_this [4] rfl (by kernel_rfl) (by simp only [pickL, nthL, List.cons_append, List.nil_append]; rfl) ?_
        repeat (go_big_quiet_step (fail))
        refine wpQuiet_nil ?_
        refine wpS_nil ?_
        refine then_normal ?_
        refine wp_region_N [(0, 1)] (by kernel_rfl) ?_
        refine wpS_this [0] rfl (by kernel_rfl) (by simp only [pickL, nthL, List.cons_append, List.nil_append]; rfl) ?_
        repeat (go_big_quiet_step (fail))
        refine wpQuiet_nil ?_
        refine wpS_nil ?_
        refine block_normal ?_
        refine then_normal ?_
        refine wp_region_N [(0, 1), (1, 1)] (by kernel_rfl) ?_
        refine wpS_this [0, 1] rfl (by kernel_rfl) (by simp only [pickL, nthL, List.cons_append, List.nil_append]; rfl) ?_
        repeat (go_big_quiet_step (fail))
        refine wpQuiet_nil ?_
        refine wpS_nil ?_
        refine then_normal ?_
        refine ⟨by kernel_rfl, ?_⟩
        refine ⟨M.length - (k + 1), by omega, k + 1, _, rfl, rfl, ?_, ?_, rfl, ?_, hk1, (Mem.only (M := [_, _]) HM12.out [0, 0] rfl)⟩
        · rw [hnew.out]
          exact congrArg (Value.int .i64) hnA.out.symm
        · rw [hnew.out]
          exact congrArg (Value.int .i64) hnB.out.symm
        · rw [hnew.out]
          exact hnG.out
      · obtain ⟨qa, qb, hqs⟩ : ∃ qa qb, st = some (qa, qb) := by cases st with | none => exact absurd hg.out (by simp) | some q => exact ⟨q.1, q.2, rfl⟩
        have hqa : qa = ua := by rw [← hua.out, hqs]; rfl
        have hqb : qb = ub := by rw [← hub.out, hqs]; rfl
        rw [hqa, hqb] at hqs
        have hnew : Hid (unevK (cntI T) (M.take (k + 1)) = some (c, c)) := Lib.hid (by rw [unev_more hy.out h1.out (hst.out.trans hqs), hcc.out, show max ua c = c by omega, show min ub c = c by omega])
        clear hqs hqa hqb
        have hnA : Hid (uA (some (c, c)) = c) := Lib.hid rfl
        have hnB : Hid (uB (some (c, c)) = c) := Lib.hid rfl
        have hnG : Hid ((some (c, c)).isSome = true) := Lib.hid rfl
        have g2 : decide (ua < c) = true := decide_eq_true (by omega)
        have g3 : decide (c < ub) = true := decide_eq_true (by omega)
        replace h2 := Lib.hid h2
        replace h3 := Lib.hid h3
        refine wp_region_N [(0, 1), (1, 1), (2, 1), (3, 1), (4, 1), (5, 1), (6, 1), (7, 1), (8, 1), (9, 1)] (by kernel_rfl) ?_
        refine wpS_this [0, 1, 2, 3, 4] rfl (by kernel_rfl) (by simp only [pickL, nthL, List.cons_append, List.nil_append]; rfl) ?_
        repeat (go_big_quiet_step (fail))
        refine wpQuiet_nil ?_
        refine wpS_index (E := elemI) (i := 5) (d := some 27) rfl (by rfl) rfl rfl rfl (HM12.out.row 0 rfl rowOwn) (hcn.out) rfl ?_
        intro eb19 eo20 hc21
        simp only [Act.put, List.setIfInBounds_toArray, List.set_cons_succ, List.set_cons_zero]
        refine wpS_load1 (i := 6) (d := some 28) (u := .int .i64 c) rfl (by rfl) rfl rfl (hc21 0 _ rfl) Tryd.underlying3 rfl rfl ?_
        simp only [Act.put, List.setIfInBounds_toArray, List.set_cons_succ, List.set_cons_zero]
        refine wpS_this [7, 8, 9] rfl (by kernel_rfl) (by simp only [pickL, nthL, List.cons_append, List.nil_append]; rfl) ?_
        repeat (go_big_quiet_step (fail))
        refine wpQuiet_nil ?_
        refine wpS_nil ?_
        refine then_normal ?_
        refine wp_cond_true rfl ?_
        refine wp_region_N [(0, 1), (1, 1), (2, 1), (3, 1), (4, 1)] (by kernel_rfl) ?_
        refine wpS_this [0, 1] rfl (by kernel_rfl) (by simp only [pickL, nthL, List.cons_append, List.nil_append]; rfl) ?_
        repeat (go_big_quiet_step (fail))
        refine wpQuiet_nil ?_
        refine wpS_index (E := elemI) (i := 2) (d := some 34) rfl (by rfl) rfl rfl rfl (HM12.out.row 0 rfl rowOwn) (hcn.out) rfl ?_
        intro eb22 eo23 hc24
        simp only [Act.put, List.setIfInBounds_toArray, List.set_cons_succ, List.set_cons_zero]
        refine wpS_load1 (i := 3) (d := some 35) (u := .int .i64 c) rfl (by rfl) rfl rfl (hc24 0 _ rfl) Tryd.underlying3 rfl rfl ?_
        simp only [Act.put, List.setIfInBounds_toArray, List.set_cons_succ, List.set_cons_zero]
        refine wpS_this [4] rfl (by kernel_rfl) (by simp only [pickL, nthL, List.cons_append, List.nil_append]; rfl) ?_
        repeat (go_big_quiet_step (fail))
        refine wpQuiet_nil ?_
        refine wpS_nil ?_
        refine then_normal ?_
        refine wp_seq ?_
        refine wp_seq ?_
        refine wp_region_N [(0, 1), (1, 1), (2, 1), (3, 1), (4, 1), (5, 1), (6, 1), (7, 1), (8, 1), (9, 1)] (by kernel_rfl) ?_
        refine wpS_this [0, 1, 2, 3, 4] rfl (by kernel_rfl) (by simp only [pickL, nthL, List.cons_append, List.nil_append]; rfl) ?_
        repeat (go_big_quiet_step (fail))
        refine wpQuiet_nil ?_
        refine wpS_index (E := elemI) (i := 5) (d := some 41) rfl (by rfl) rfl rfl rfl (HM12.out.row 0 rfl rowOwn) (hcn.out) rfl ?_
        intro eb25 eo26 hc27
        simp only [Act.put, List.setIfInBounds_toArray, List.set_cons_succ, List.set_cons_zero]
        refine wpS_load1 (i := 6) (d := some 42) (u := .int .i64 c) rfl (by rfl) rfl rfl (hc27 0 _ rfl) Tryd.underlying3 rfl rfl ?_
        simp only [Act.put, List.setIfInBounds_toArray, List.set_cons_succ, List.set_cons_zero]
        refine wpS_this [7, 8, 9] rfl (by kernel_rfl) (by simp only [pickL, nthL, List.cons_append, List.nil_append]; rfl) ?_
        repeat (go_big_quiet_step (fail))
        refine wpQuiet_nil ?_
        refine wpS_nil ?_
        refine then_normal ?_
        refine wp_cond_true rfl ?_
        refine wp_region_N [(0, 1), (1, 1), (2, 1), (3, 1), (4, 1)] (by kernel_rfl) ?_
        refine wpS_this [0, 1] rfl (by kernel_rfl) (by simp only [pickL, nthL, List.cons_append, List.nil_append]; rfl) ?_
        repeat (go_big_quiet_step (fail))
        refine wpQuiet_nil ?_
        refine wpS_index (E := elemI) (i := 2) (d := some 48) rfl (by rfl) rfl rfl rfl (HM12.out.row 0 rfl rowOwn) (hcn.out) rfl ?_
        intro eb28 eo29 hc30
        simp only [Act.put, List.setIfInBounds_toArray, List.set_cons_succ, List.set_cons_zero]
        refine wpS_load1 (i := 3) (d := some 49) (u := .int .i64 c) rfl (by rfl) rfl rfl (hc30 0 _ rfl) Tryd.underlying3 rfl rfl ?_
        simp only [Act.put, List.setIfInBounds_toArray, List.set_cons_succ, List.set_cons_zero]
        refine wpS_this [4] rfl (by kernel_rfl) (by simp only [pickL, nthL, List.cons_append, List.nil_append]; rfl) ?_
        repeat (go_big_quiet_step (fail))
        refine wpQuiet_nil ?_
        refine wpS_nil ?_
        refine then_normal ?_
        refine wp_region_N [(0, 1)] (by kernel_rfl) ?_
        refine wpS_this [0] rfl (by kernel_rfl) (by simp only [pickL, nthL, List.cons_append, List.nil_append]; rfl) ?_
        repeat (go_big_quiet_step (fail))
        refine wpQuiet_nil ?_
        refine wpS_nil ?_
        refine block_normal ?_
        refine then_normal ?_
        refine wp_region_N [(0, 1), (1, 1)] (by kernel_rfl) ?_
        refine wpS_this [0, 1] rfl (by kernel_rfl) (by simp only [pickL, nthL, List.cons_append, List.nil_append]; rfl) ?_
        repeat (go_big_quiet_step (fail))
        refine wpQuiet_nil ?_
        refine wpS_nil ?_
        refine then_normal ?_
        refine ⟨by kernel_rfl, ?_⟩
        refine ⟨M.length - (k + 1), by omega, k + 1, _, rfl, rfl, ?_, ?_, rfl, ?_, hk1, (Mem.only (M := [_, _]) HM12.out [0, 0] rfl)⟩
        · rw [hnew.out]
          exact congrArg (Value.int .i64) hnA.out.symm
        · rw [hnew.out]
          exact congrArg (Value.int .i64) hnB.out.symm
        · rw [hnew.out]
          exact hnG.out
      · obtain ⟨qa, qb, hqs⟩ : ∃ qa qb, st = some (qa, qb) := by cases st with | none => exact absurd hg.out (by simp) | some q => exact ⟨q.1, q.2, rfl⟩
        have hqa : qa = ua := by rw [← hua.out, hqs]; rfl
        have hqb : qb = ub := by rw [← hub.out, hqs]; rfl
        rw [hqa, hqb] at hqs
        have hnew : Hid (unevK (cntI T) (M.take (k + 1)) = some (c, ub)) := Lib.hid (by rw [unev_more hy.out h1.out (hst.out.trans hqs), hcc.out, show max ua c = c by omega, show min ub c = ub by omega])
        clear hqs hqa hqb
        have hnA : Hid (uA (some (c, ub)) = c) := Lib.hid rfl
        have hnB : Hid (uB (some (c, ub)) = ub) := Lib.hid rfl
        have hnG : Hid ((some (c, ub)).isSome = true) := Lib.hid rfl
        have g2 : decide (ua < c) = true := decide_eq_true (by omega)
        have g3 : decide (c < ub) = false := decide_eq_false (by omega)
        replace h2 := Lib.hid h2
        replace h3 := Lib.hid h3
        refine wp_region_N [(0, 1), (1, 1), (2, 1), (3, 1), (4, 1), (5, 1), (6, 1), (7, 1), (8, 1), (9, 1)] (by kernel_rfl) ?_
        refine wpS_this [0, 1, 2, 3, 4] rfl (by kernel_rfl) (by simp only [pickL, nthL, List.cons_append, List.nil_append]; rfl) ?_
        repeat (go_big_quiet_step (fail))
        refine wpQuiet_nil ?_
        refine wpS_index (E := elemI) (i := 5) (d := some 27) rfl (by rfl) rfl rfl rfl (HM12.out.row 0 rfl rowOwn) (hcn.out) rfl ?_
        intro eb31 eo32 hc33
        simp only [Act.put, List.setIfInBounds_toArray, List.set_cons_succ, List.set_cons_zero]
        refine wpS_load1 (i := 6) (d := some 28) (u := .int .i64 c) rfl (by rfl) rfl rfl (hc33 0 _ rfl) Tryd.underlying3 rfl rfl ?_
        simp only [Act.put, List.setIfInBounds_toArray, List.set_cons_succ, List.set_cons_zero]
        refine wpS_this [7, 8, 9] rfl (by kernel_rfl) (by simp only [pickL, nthL, List.cons_append, List.nil_append]; rfl) ?_
        repeat (go_big_quiet_step (fail))
        refine wpQuiet_nil ?_
        refine wpS_nil ?_
        refine then_normal ?_
        refine wp_cond_true rfl ?_
        refine wp_region_N [(0, 1), (1, 1), (2, 1), (3, 1), (4, 1)] (by kernel_rfl) ?_
        refine wpS_this [0, 1] rfl (by kernel_rfl) (by simp only [pickL, nthL, List.cons_append, List.nil_append]; rfl) ?_
        repeat (go_big_quiet_step (fail))
        refine wpQuiet_nil ?_
        refine wpS_index (E := elemI) (i := 2) (d := some 34) rfl (by rfl) rfl rfl rfl (HM12.out.row 0 rfl rowOwn) (hcn.out) rfl ?_
        intro eb34 eo35 hc36
        simp only [Act.put, List.setIfInBounds_toArray, List.set_cons_succ, List.set_cons_zero]
        refine wpS_load1 (i := 3) (d := some 35) (u := .int .i64 c) rfl (by rfl) rfl rfl (hc36 0 _ rfl) Tryd.underlying3 rfl rfl ?_
        simp only [Act.put, List.setIfInBounds_toArray, List.set_cons_succ, List.set_cons_zero]
        refine wpS_this [4] rfl (by kernel_rfl) (by simp only [pickL, nthL, List.cons_append, List.nil_append]; rfl) ?_
        repeat (go_big_quiet_step (fail))
        refine wpQuiet_nil ?_
        refine wpS_nil ?_
        refine then_normal ?_
        refine wp_seq ?_
        refine wp_seq ?_
        refine wp_region_N [(0, 1), (1, 1), (2, 1), (3, 1), (4, 1), (5, 1), (6, 1), (7, 1), (8, 1), (9, 1)] (by kernel_rfl) ?_
        refine wpS_this [0, 1, 2, 3, 4] rfl (by kernel_rfl) (by simp only [pickL, nthL, List.cons_append, List.nil_append]; rfl) ?_
        repeat (go_big_quiet_step (fail))
        refine wpQuiet_nil ?_
        refine wpS_index (E := elemI) (i := 5) (d := some 41) rfl (by rfl) rfl rfl rfl (HM12.out.row 0 rfl rowOwn) (hcn.out) rfl ?_
        intro eb37 eo38 hc39
        simp only [Act.put, List.setIfInBounds_toArray, List.set_cons_succ, List.set_cons_zero]
        refine wpS_load1 (i := 6) (d := some 42) (u := .int .i64 c) rfl (by rfl) rfl rfl (hc39 0 _ rfl) Tryd.underlying3 rfl rfl ?_
        simp only [Act.put, List.setIfInBounds_toArray, List.set_cons_succ, List.set_cons_zero]
        refine wpS_this [7, 8, 9] rfl (by kernel_rfl) (by simp only [pickL, nthL, List.cons_append, List.nil_append]; rfl) ?_
        repeat (go_big_quiet_step (fail))
        refine wpQuiet_nil ?_
        refine wpS_nil ?_
        refine then_normal ?_
        refine wp_cond_false rfl ?_
        refine wp_skip ?_
        refine then_normal ?_
        refine wp_region_N [(0, 1)] (by kernel_rfl) ?_
        refine wpS_this [0] rfl (by kernel_rfl) (by simp only [pickL, nthL, List.cons_append, List.nil_append]; rfl) ?_
        repeat (go_big_quiet_step (fail))
        refine wpQuiet_nil ?_
        refine wpS_nil ?_
        refine block_normal ?_
        refine then_normal ?_
        refine wp_region_N [(0, 1), (1, 1)] (by kernel_rfl) ?_
        refine wpS_this [0, 1] rfl (by kernel_rfl) (by simp only [pickL, nthL, List.cons_append, List.nil_append]; rfl) ?_
        repeat (go_big_quiet_step (fail))
        refine wpQuiet_nil ?_
        refine wpS_nil ?_
        refine then_normal ?_
        refine ⟨by kernel_rfl, ?_⟩
        refine ⟨M.length - (k + 1), by omega, k + 1, _, rfl, rfl, ?_, ?_, rfl, ?_, hk1, (Mem.only (M := [_, _]) HM12.out [0, 0] rfl)⟩
        · rw [hnew.out]
          exact congrArg (Value.int .i64) hnA.out.symm
        · rw [hnew.out]
          exact congrArg (Value.int .i64) hnB.out.symm
        · rw [hnew.out]
          exact hnG.out
      · obtain ⟨qa, qb, hqs⟩ : ∃ qa qb, st = some (qa, qb) := by cases st with | none => exact absurd hg.out (by simp) | some q => exact ⟨q.1, q.2, rfl⟩
        have hqa : qa = ua := by rw [← hua.out, hqs]; rfl
        have hqb : qb = ub := by rw [← hub.out, hqs]; rfl
        rw [hqa, hqb] at hqs
        have hnew : Hid (unevK (cntI T) (M.take (k + 1)) = some (ua, c)) := Lib.hid (by rw [unev_more hy.out h1.out (hst.out.trans hqs), hcc.out, show max ua c = ua by omega, show min ub c = c by omega])
        clear hqs hqa hqb
        have hnA : Hid (uA (some (ua, c)) = ua) := Lib.hid rfl
        have hnB : Hid (uB (some (ua, c)) = c) := Lib.hid rfl
        have hnG : Hid ((some (ua, c)).isSome = true) := Lib.hid rfl
        have g2 : decide (ua < c) = false := decide_eq_false (by omega)
        have g3 : decide (c < ub) = true := decide_eq_true (by omega)
        replace h2 := Lib.hid h2
        replace h3 := Lib.hid h3
        refine wp_region_N [(0, 1), (1, 1), (2, 1), (3, 1), (4, 1), (5, 1), (6, 1), (7, 1), (8, 1), (9, 1)] (by kernel_rfl) ?_
        refine wpS_this [0, 1, 2, 3, 4] rfl (by kernel_rfl) (by simp only [pickL, nthL, List.cons_append, List.nil_append]; rfl) ?_
        repeat (go_big_quiet_step (fail))
        refine wpQuiet_nil ?_
        refine wpS_index (E := elemI) (i := 5) (d := some 27) rfl (by rfl) rfl rfl rfl (HM12.out.row 0 rfl rowOwn) (hcn.out) rfl ?_
        intro eb40 eo41 hc42
        simp only [Act.put, List.setIfInBounds_toArray, List.set_cons_succ, List.set_cons_zero]
        refine wpS_load1 (i := 6) (d := some 28) (u := .int .i64 c) rfl (by rfl) rfl rfl (hc42 0 _ rfl) Tryd.underlying3 rfl rfl ?_
        simp only [Act.put, List.setIfInBounds_toArray, List.set_cons_succ, List.set_cons_zero]
        refine wpS_this [7, 8, 9] rfl (by kernel_rfl) (by simp only [pickL, nthL, List.cons_append, List.nil_append]; rfl) ?_
        repeat (go_big_quiet_step (fail))
        refine wpQuiet_nil ?_
        refine wpS_nil ?_
        refine then_normal ?_
        refine wp_cond_false rfl ?_
        refine wp_skip ?_
        refine then_normal ?_
        refine wp_seq ?_
        refine wp_seq ?_
        refine wp_region_N [(0, 1), (1, 1), (2, 1), (3, 1), (4, 1), (5, 1), (6, 1), (7, 1), (8, 1), (9, 1)] (by kernel_rfl) ?_
        refine wpS_this [0, 1, 2, 3, 4] rfl (by kernel_rfl) (by simp only [pickL, nthL, List.cons_append, List.nil_append]; rfl) ?_
        repeat (go_big_quiet_step (fail))
        refine wpQuiet_nil ?_
        refine wpS_index (E := elemI) (i := 5) (d := some 41) rfl (by rfl) rfl rfl rfl (HM12.out.row 0 rfl rowOwn) (hcn.out) rfl ?_
        intro eb43 eo44 hc45
        simp only [Act.put, List.setIfInBounds_toArray, List.set_cons_succ, List.set_cons_zero]
        refine wpS_load1 (i := 6) (d := some 42) (u := .int .i64 c) rfl (by rfl) rfl rfl (hc45 0 _ rfl) Tryd.underlying3 rfl rfl ?_
        simp only [Act.put, List.setIfInBounds_toArray, List.set_cons_succ, List.set_cons_zero]
        refine wpS_this [7, 8, 9] rfl (by kernel_rfl) (by simp only [pickL, nthL, List.cons_append, List.nil_append]; rfl) ?_
        repeat (go_big_quiet_step (fail))
        refine wpQuiet_nil ?_
        refine wpS_nil ?_
        refine then_normal ?_
        refine wp_cond_true rfl ?_
        refine wp_region_N [(0, 1), (1, 1), (2, 1), (3, 1), (4, 1)] (by kernel_rfl) ?_
        refine wpS_this [0, 1] rfl (by kernel_rfl) (by simp only [pickL, nthL, List.cons_append, List.nil_append]; rfl) ?_
        repeat (go_big_quiet_step (fail))
        refine wpQuiet_nil ?_
        refine wpS_index (E := elemI) (i := 2) (d := some 48) rfl (by rfl) rfl rfl rfl (HM12.out.row 0 rfl rowOwn) (hcn.out) rfl ?_
        intro eb46 eo47 hc48
        simp only [Act.put, List.setIfInBounds_toArray, List.set_cons_succ, List.set_cons_zero]
        refine wpS_load1 (i := 3) (d := some 49) (u := .int .i64 c) rfl (by rfl) rfl rfl (hc48 0 _ rfl) Tryd.underlying3 rfl rfl ?_
        simp only [Act.put, List.setIfInBounds_toArray, List.set_cons_succ, List.set_cons_zero]
        refine wpS_this [4] rfl (by kernel_rfl) (by simp only [pickL, nthL, List.cons_append, List.nil_append]; rfl) ?_
        repeat (go_big_quiet_step (fail))
        refine wpQuiet_nil ?_
        refine wpS_nil ?_
        refine then_normal ?_
        refine wp_region_N [(0, 1)] (by kernel_rfl) ?_
        refine wpS_this [0] rfl (by kernel_rfl) (by simp only [pickL, nthL, List.cons_append, List.nil_append]; rfl) ?_
        repeat (go_big_quiet_step (fail))
        refine wpQuiet_nil ?_
        refine wpS_nil ?_
        refine block_normal ?_
        refine then_normal ?_
        refine wp_region_N [(0, 1), (1, 1)] (by kernel_rfl) ?_
        refine wpS_this [0, 1] rfl (by kernel_rfl) (by simp only [pickL, nthL, List.cons_append, List.nil_append]; rfl) ?_
        repeat (go_big_quiet_step (fail))
        refine wpQuiet_nil ?_
        refine wpS_nil ?_
        refine then_normal ?_
        refine ⟨by kernel_rfl, ?_⟩
        refine ⟨M.length - (k + 1), by omega, k + 1, _, rfl, rfl, ?_, ?_, rfl, ?_, hk1, (Mem.only (M := [_, _]) HM12.out [0, 0] rfl)⟩
        · rw [hnew.out]
          exact congrArg (Value.int .i64) hnA.out.symm
        · rw [hnew.out]
          exact congrArg (Value.int .i64) hnB.out.symm
        · rw [hnew.out]
          exact hnG.out
      · obtain ⟨qa, qb, hqs⟩ : ∃ qa qb, st = some (qa, qb) := by cases st with | none => exact absurd hg.out (by simp) | some q => exact ⟨q.1, q.2, rfl⟩
        have hqa : qa = ua := by rw [← hua.out, hqs]; rfl
        have hqb : qb = ub := by rw [← hub.out, hqs]; rfl
        rw [hqa, hqb] at hqs
        have hnew : Hid (unevK (cntI T) (M.take (k + 1)) = some (ua, ub)) := Lib.hid (by rw [unev_more hy.out h1.out (hst.out.trans hqs), hcc.out, show max ua c = ua by omega, show min ub c = ub by omega])
        clear hqs hqa hqb
        have hnA : Hid (uA (some (ua, ub)) = ua) := Lib.hid rfl
        have hnB : Hid (uB (some (ua, ub)) = ub) := Lib.hid rfl
        have hnG : Hid ((some (ua, ub)).isSome = true) := Lib.hid rfl
        have g2 : decide (ua < c) = false := decide_eq_false (by omega)
        have g3 : decide (c < ub) = false := decide_eq_false (by omega)
        replace h2 := Lib.hid h2
        replace h3 := Lib.hid h3
        refine wp_region_N [(0, 1), (1, 1), (2, 1), (3, 1), (4, 1), (5, 1), (6, 1), (7, 1), (8, 1), (9, 1)] (by kernel_rfl) ?_
        refine wpS_this [0, 1, 2, 3, 4] rfl (by kernel_rfl) (by simp only [pickL, nthL, List.cons_append, List.nil_append]; rfl) ?_
        repeat (go_big_quiet_step (fail))
        refine wpQuiet_nil ?_
        refine wpS_index (E := elemI) (i := 5) (d := some 27) rfl (by rfl) rfl rfl rfl (HM12.out.row 0 rfl rowOwn) (hcn.out) rfl ?_
        intro eb49 eo50 hc51
        simp only [Act.put, List.setIfInBounds_toArray, List.set_cons_succ, List.set_cons_zero]
        refine wpS_load1 (i := 6) (d := some 28) (u := .int .i64 c) rfl (by rfl) rfl rfl (hc51 0 _ rfl) Tryd.underlying3 rfl rfl ?_
        simp only [Act.put, List.setIfInBounds_toArray, List.set_cons_succ, List.set_cons_zero]
        refine wpS_this [7, 8, 9] rfl (by kernel_rfl) (by simp only [pickL, nthL, List.cons_append, List.nil_append]; rfl) ?_
        repeat (go_big_quiet_step (fail))
        refine wpQuiet_nil ?_
        refine wpS_nil ?_
        refine then_normal ?_
        refine wp_cond_false rfl ?_
        refine wp_skip ?_
        refine then_normal ?_
        refine wp_seq ?_
        refine wp_seq ?_
        refine wp_region_N [(0, 1), (1, 1), (2, 1), (3, 1), (4, 1), (5, 1), (6, 1), (7, 1), (8, 1), (9, 1)] (by kernel_rfl) ?_
        refine wpS_this [0, 1, 2, 3, 4] rfl (by kernel_rfl) (by simp only [pickL, nthL, List.cons_append, List.nil_append]; rfl) ?_
        repeat (go_big_quiet_step (fail))
        refine wpQuiet_nil ?_
        refine wpS_index (E := elemI) (i := 5) (d := some 41) rfl (by rfl) rfl rfl rfl (HM12.out.row 0 rfl rowOwn) (hcn.out) rfl ?_
        intro eb52 eo53 hc54
        simp only [Act.put, List.setIfInBounds_toArray, List.set_cons_succ, List.set_cons_zero]
        refine wpS_load1 (i := 6) (d := some 42) (u := .int .i64 c) rfl (by rfl) rfl rfl (hc54 0 _ rfl) Tryd.underlying3 rfl rfl ?_
        simp only [Act.put, List.setIfInBounds_toArray, List.set_cons_succ, List.set_cons_zero]
        refine wpS_this [7, 8, 9] rfl (by kernel_rfl) (by simp only [pickL, nthL, List.cons_append, List.nil_append]; rfl) ?_
        repeat (go_big_quiet_step (fail))
        refine wpQuiet_nil ?_
        refine wpS_nil ?_
        refine then_normal ?_
        refine wp_cond_false rfl ?_
        refine wp_skip ?_
        refine then_normal ?_
        refine wp_region_N [(0, 1)] (by kernel_rfl) ?_
        refine wpS_this [0] rfl (by kernel_rfl) (by simp only [pickL, nthL, List.cons_append, List.nil_append]; rfl) ?_
        repeat (go_big_quiet_step (fail))
        refine wpQuiet_nil ?_
        refine wpS_nil ?_
        refine block_normal ?_
        refine then_normal ?_
        refine wp_region_N [(0, 1), (1, 1)] (by kernel_rfl) ?_
        refine wpS_this [0, 1] rfl (by kernel_rfl) (by simp only [pickL, nthL, List.cons_append, List.nil_append]; rfl) ?_
        repeat (go_big_quiet_step (fail))
        refine wpQuiet_nil ?_
        refine wpS_nil ?_
        refine then_normal ?_
        refine ⟨by kernel_rfl, ?_⟩
        refine ⟨M.length - (k + 1), by omega, k + 1, _, rfl, rfl, ?_, ?_, rfl, ?_, hk1, (Mem.only (M := [_, _]) HM12.out [0, 0] rfl)⟩
        · rw [hnew.out]
          exact congrArg (Value.int .i64) hnA.out.symm
        · rw [hnew.out]
          exact congrArg (Value.int .i64) hnB.out.symm
        · rw [hnew.out]
          exact hnG.out
    · have hnew : Hid (unevK (cntI T) (M.take (k + 1)) = st) := Lib.hid ((unev_not hy.out h1).trans hst.out)
      have hnA : Hid (uA st = ua) := Lib.hid hua.out
      have hnB : Hid (uB st = ub) := Lib.hid hub.out
      have hnG : Hid (st.isSome = g) := Lib.hid hg.out
      replace h1 := Lib.hid h1
      refine wp_region_N [(0, 1), (1, 3), (2, 1)] (by kernel_rfl) ?_
      refine wpS_this [0] rfl (by kernel_rfl) (by simp only [pickL, nthL, List.cons_append, List.nil_append]; rfl) ?_
      repeat (go_big_quiet_step (fail))
      refine wpQuiet_nil ?_
      refine wpS_does1 (i := 1) (d := some 20) (rem := [_, _]) (out := [_, _]) rfl (by rfl) rfl Tryd.call20 (rnode_d _) rfl HM5.out [] rfl covS_nil rfl rfl ?_
      rintro W56 hm55 -
      rw [h1.out]
      have HM57 := Lib.hid hm55
      clear hm55
      simp only [Act.put, List.setIfInBounds_toArray, List.set_cons_succ, List.set_cons_zero]
      refine wpS_this [2] rfl (by kernel_rfl) (by simp only [pickL, nthL, List.cons_append, List.nil_append]; rfl) ?_
      repeat (go_big_quiet_step (fail))
      refine wpQuiet_nil ?_
      refine wpS_nil ?_
      refine then_normal ?_
      refine wp_cond_true rfl ?_
      refine wp_exit ?_
      refine then_exit (block_exit ?_)
      refine then_normal ?_
      refine wp_region_N [(0, 1), (1, 1)] (by kernel_rfl) ?_
      refine wpS_this [0, 1] rfl (by kernel_rfl) (by simp only [pickL, nthL, List.cons_append, List.nil_append]; rfl) ?_
      repeat (go_big_quiet_step (fail))
      refine wpQuiet_nil ?_
      refine wpS_nil ?_
      refine then_normal ?_
      refine ⟨by kernel_rfl, ?_⟩
      refine ⟨M.length - (k + 1), by omega, k + 1, _, rfl, rfl, ?_, ?_, rfl, ?_, hk1, (Mem.only (M := [_, _]) HM57.out [0, 0] rfl)⟩
      · rw [hnew.out]
        exact congrArg (Value.int .i64) hnA.out.symm
      · rw [hnew.out]
        exact congrArg (Value.int .i64) hnB.out.symm
      · rw [hnew.out]
        exact hnG.out
  · have hge : Hid (M.length ≤ k) := Lib.hid (by have : ¬ (k : Int) < ((M.length : Nat) : Int) := (by simpa using h6); omega)
    clear h6
    refine wp_exit ?_
    refine then_exit (then_exit (block_exit ?_))
    refine then_normal ?_
    refine wp_seq ?_
    refine wp_region_N [(0, 1), (1, 1), (2, 1), (3, 1)] (by kernel_rfl) ?_
    refine wpS_this [0, 1, 2, 3] rfl (by kernel_rfl) (by simp only [pickL, nthL, List.cons_append, List.nil_append]; rfl) ?_
    repeat (go_big_quiet_step (fail))
    refine wpQuiet_nil ?_
    refine wpS_nil ?_
    refine then_normal ?_
    refine wp_ret ?_
    refine bodyPost_ret (results_tmp rfl _ _ _) rfl ?_
    have hkm : k = M.length := by have := hge.out; omega
    rw [show unevI T M = ua - ub from by rw [← hua.out, ← hub.out, uA_sub, ← hst.out, hkm, List.take_length]; rfl]
    exact does_ret (Mem.only (M := [_]) HM5.out [1] rfl) rfl rfl

set_option maxHeartbeats 4000000 in
set_option maxRecDepth 100000 in
theorem rtext_d (R : At) (v : Value) (T : List Int) (hT : ∀ W H, R.p W H → RowAt elemI W v T) : Does Tryd.prog 14 #[v] [R] (.string (textB (whoL T) 16)) [R] := by
  intro w H hp
  have HM0 := Lib.hid (mem_refl hp)
  clear hp
  go_enter Tryd.func14, Tryd.ntmps14
  refine wp_seq ?_
  refine wp_region_N [(0, 1)] (by kernel_rfl) ?_
  refine wpS_this [0] rfl (by kernel_rfl) (by simp only [pickL, nthL, List.cons_append, List.nil_append]; rfl) ?_
  repeat (go_big_quiet_step (fail))
  refine wpQuiet_nil ?_
  refine wpS_nil ?_
  refine then_normal ?_
  refine wp_seq ?_
  refine wp_region_N [(0, 1)] (by kernel_rfl) ?_
  refine wpS_this [0] rfl (by kernel_rfl) (by simp only [pickL, nthL, List.cons_append, List.nil_append]; rfl) ?_
  repeat (go_big_quiet_step (fail))
  refine wpQuiet_nil ?_
  refine wpS_nil ?_
  refine then_normal ?_
  refine wp_seq ?_
  refine wp_seq ?_
  refine wp_region_N [(0, 1)] (by kernel_rfl) ?_
  refine wpS_this [0] rfl (by kernel_rfl) (by simp only [pickL, nthL, List.cons_append, List.nil_append]; rfl) ?_
  repeat (go_big_quiet_step (fail))
  refine wpQuiet_nil ?_
  refine wpS_nil ?_
  refine then_normal ?_
  refine wp_block ?_
  refine wp_loop_F [3, 4, 5, 6, 7, 8, 9, 10, 11, 12, 13, 14, 15, 16, 17, 18, 19, 20] (fun n vs W' => ∃ k : Nat, n = 16 - k ∧ vs 6 = .int .i64 (k : Int) ∧ vs 3 = .string (textB (whoL T) k) ∧ k ≤ 16 ∧ Mem [R] H w W') (n0 := 16) ?_ ?_
  · exact ⟨0, rfl, rfl, rfl, Nat.zero_le _, (Mem.only (M := [_]) HM0.out [0] rfl)⟩
  rintro n vs W' ⟨k, rfl, e6, e3, hk, hm⟩
  simp only [putAll, List.map_cons, List.map_nil, Act.put, List.setIfInBounds_toArray, List.set_cons_succ, List.set_cons_zero]
  rw [e6, e3]
  clear e6 e3
  obtain ⟨s, hs'⟩ : ∃ z, textB (whoL T) k = z := ⟨_, rfl⟩
  have hsz : s.size = k := by rw [← hs']; exact textB_size _ _
  rw [hs']
  have hs := Lib.hid hs'
  clear hs'
  have HM1 := Lib.hid hm
  clear hm
  refine wp_seq ?_
  refine wp_region_N [(0, 1)] (by kernel_rfl) ?_
  refine wpS_this [0] rfl (by kernel_rfl) (by simp only [pickL, nthL, List.cons_append, List.nil_append]; rfl) ?_
  repeat (go_big_quiet_step (fail))
  refine wpQuiet_nil ?_
  refine wpS_nil ?_
  refine then_normal ?_
  refine wp_seq ?_
  refine wp_cond_split rfl (fun h2 => ?_) (fun h2 => ?_)
  · have hk1 : k + 1 ≤ 16 := by have : (k : Int) < 16 := (by simpa using h2); omega
    clear h2
    refine wp_skip ?_
    refine then_normal ?_
    refine wp_seq ?_
    refine wp_block ?_
    refine wp_seq ?_
    refine wp_region_N [(0, 1), (1, 1)] (by kernel_rfl) ?_
    refine wpS_this [0, 1] rfl (by kernel_rfl) (by simp only [pickL, nthL, List.cons_append, List.nil_append]; rfl) ?_
    repeat (go_big_quiet_step (fail))
    refine wpQuiet_nil ?_
    refine wpS_nil ?_
    refine then_normal ?_
    refine wp_seq ?_
    obtain ⟨x, hx'⟩ := int_letter (whoL T k)
    have hx := Lib.hid hx'
    clear hx'
    refine wp_region_N [(0, 1), (1, 1), (2, 3), (3, 1)] (by kernel_rfl) ?_
    refine wpS_this [0, 1] rfl (by kernel_rfl) (by simp only [pickL, nthL, List.cons_append, List.nil_append]; rfl) ?_
    repeat (go_big_quiet_step (fail))
    refine wpQuiet_nil ?_
    refine wpS_does2 (i := 2) (d := some 11) (rem := []) (out := [_]) rfl (by rfl) rfl Tryd.call17 (rwho_d R _ T hT k) rfl rfl HM1.out [0] rfl covS_nil rfl rfl ?_
    rintro W4 hm3 -
    rw [hx.out]
    have HM5 := Lib.hid hm3
    clear hm3
    simp only [Act.put, List.setIfInBounds_toArray, List.set_cons_succ, List.set_cons_zero]
    refine wpS_this [3] rfl (by kernel_rfl) (by simp only [pickL, nthL, List.cons_append, List.nil_append]; rfl) ?_
    repeat (go_big_quiet_step (fail))
    refine wpQuiet_nil ?_
    refine wpS_nil ?_
    refine then_normal ?_
    refine wp_seq ?_
    by_cases h1 : 0 ≤ x
    · obtain ⟨xn, hxn, hx8⟩ := whoL_nat (T := T) (k := k) (by rw [hx.out]; exact h1)
      have hxx : x = (xn : Int) := hx.out.symm.trans hxn
      subst hxx
      have g1 := decide_eq_true h1
      clear h1 hxn
      refine wp_region_N [(0, 1), (1, 1)] (by kernel_rfl) ?_
      refine wpS_this [0, 1] rfl (by kernel_rfl) (by simp only [pickL, nthL, List.cons_append, List.nil_append]; rfl) ?_
      repeat (go_big_quiet_step (fail))
      refine wpQuiet_nil ?_
      refine wpS_nil ?_
      refine then_normal ?_
      refine wp_cond_true rfl ?_
      refine wp_region_N [(0, 1), (1, 1), (2, 3), (3, 1), (4, 1)] (by kernel_rfl) ?_
      refine wpS_this [0, 1] rfl (by kernel_rfl) (by simp only [pickL, nthL, List.cons_append, List.nil_append]; rfl) ?_
      repeat (go_big_quiet_step (fail))
      refine wpQuiet_nil ?_
      refine wpS_does1 (i := 2) (d := some 16) (rem := [_]) (out := [_]) rfl (by rfl) rfl Tryd.call21 (itoa_d xn (by omega)) rfl HM5.out [] rfl covS_nil rfl rfl ?_
      rintro W7 hm6 -
      rw [dec_ch hx8]
      have HM8 := Lib.hid hm6
      clear hm6
      simp only [Act.put, List.setIfInBounds_toArray, List.set_cons_succ, List.set_cons_zero]
      refine wpS_read (i := 3) (d := some 17) rfl (by rfl) (run_addS (u := s ++ ⟨#[chU (xn : Int)]⟩) (by rw [hsz]; show k + 1 ≤ _; omega) rfl rfl rfl rfl) rfl ?_
      simp only [Act.put, List.setIfInBounds_toArray, List.set_cons_succ, List.set_cons_zero]
      refine wpS_this [4] rfl (by kernel_rfl) (by simp only [pickL, nthL, List.cons_append, List.nil_append]; rfl) ?_
      repeat (go_big_quiet_step (fail))
      refine wpQuiet_nil ?_
      refine wpS_nil ?_
      refine block_normal ?_
      refine then_normal ?_
      refine wp_region_N [(0, 1), (1, 1)] (by kernel_rfl) ?_
      refine wpS_this [0, 1] rfl (by kernel_rfl) (by simp only [pickL, nthL, List.cons_append, List.nil_append]; rfl) ?_
      repeat (go_big_quiet_step (fail))
      refine wpQuiet_nil ?_
      refine wpS_nil ?_
      refine then_normal ?_
      refine ⟨by kernel_rfl, ?_⟩
      refine ⟨16 - (k + 1), by omega, k + 1, rfl, rfl, ?_, hk1, (Mem.only (M := [_]) HM8.out [0] rfl)⟩
      rw [textB_succ, hs.out, hx.out]
      rfl
    · have hneg : Hid (whoL T k < 0) := Lib.hid (by rw [hx.out]; omega)
      have g1 := decide_eq_false h1
      clear h1
      refine wp_region_N [(0, 1), (1, 1)] (by kernel_rfl) ?_
      refine wpS_this [0, 1] rfl (by kernel_rfl) (by simp only [pickL, nthL, List.cons_append, List.nil_append]; rfl) ?_
      repeat (go_big_quiet_step (fail))
      refine wpQuiet_nil ?_
      refine wpS_nil ?_
      refine then_normal ?_
      refine wp_cond_false rfl ?_
      refine wp_region_N [(0, 1), (1, 1), (2, 1)] (by kernel_rfl) ?_
      refine wpS_this [0] rfl (by kernel_rfl) (by simp only [pickL, nthL, List.cons_append, List.nil_append]; rfl) ?_
      repeat (go_big_quiet_step (fail))
      refine wpQuiet_nil ?_
      refine wpS_read (i := 1) (d := some 19) rfl (by rfl) (run_addS (u := s ++ ⟨#[45]⟩) (by rw [hsz]; show k + 1 ≤ _; omega) rfl rfl rfl rfl) rfl ?_
      simp only [Act.put, List.setIfInBounds_toArray, List.set_cons_succ, List.set_cons_zero]
      refine wpS_this [2] rfl (by kernel_rfl) (by simp only [pickL, nthL, List.cons_append, List.nil_append]; rfl) ?_
      repeat (go_big_quiet_step (fail))
      refine wpQuiet_nil ?_
      refine wpS_nil ?_
      refine block_normal ?_
      refine then_normal ?_
      refine wp_region_N [(0, 1), (1, 1)] (by kernel_rfl) ?_
      refine wpS_this [0, 1] rfl (by kernel_rfl) (by simp only [pickL, nthL, List.cons_append, List.nil_append]; rfl) ?_
      repeat (go_big_quiet_step (fail))
      refine wpQuiet_nil ?_
      refine wpS_nil ?_
      refine then_normal ?_
      refine ⟨by kernel_rfl, ?_⟩
      refine ⟨16 - (k + 1), by omega, k + 1, rfl, rfl, ?_, hk1, (Mem.only (M := [_]) HM5.out [0] rfl)⟩
      rw [textB_succ, hs.out, chU_neg hneg.out]
      rfl
  · have hge : Hid (16 ≤ k) := Lib.hid (by have : ¬ (k : Int) < 16 := (by simpa using h2); omega)
    clear h2
    refine wp_exit ?_
    refine then_exit (then_exit (block_exit ?_))
    refine then_normal ?_
    refine wp_seq ?_
    refine wp_region_N [(0, 1), (1, 1)] (by kernel_rfl) ?_
    refine wpS_this [0, 1] rfl (by kernel_rfl) (by simp only [pickL, nthL, List.cons_append, List.nil_append]; rfl) ?_
    repeat (go_big_quiet_step (fail))
    refine wpQuiet_nil ?_
    refine wpS_nil ?_
    refine then_normal ?_
    refine wp_ret ?_
    refine bodyPost_ret (results_tmp rfl _ _ _) rfl ?_
    have hk16 : k = 16 := by have := hge.out; omega
    subst hk16
    rw [hs.out]
    exact does_ret (Mem.only (M := [_]) HM1.out [0] rfl) rfl rfl

end Go.Proofs.YthibiejneggmoaaDoor
