/- The landed space: whose each part is, how many, how far, as texts. -/
import Derived.Test.YthibiejneggmoaaDoorSpN
import Derived.Test.YthibiejneggmoaaDoorSxByt
namespace Go.Proofs.YthibiejneggmoaaDoor
open Go Go.RowKit Go.BigFrame

theorem sp16 : IsArr 31 16 := ⟨Tryd.underlying31, by kernel_rfl⟩
theorem sp8 : IsArr 29 8 := ⟨Tryd.underlying29, by kernel_rfl⟩
theorem spU : IsArrU 35 16 := ⟨Tryd.underlying35, by kernel_rfl⟩
theorem spnode_any (n : Int) (w : World) : Gives Tryd.prog 19 #[.int .i64 n] w (.bool (nodeE n)) := by
  unfold Gives
  by_cases q0 : 0 ≤ n <;> by_cases q1 : n < 8
  all_goals try (exfalso; omega)
  all_goals first | (have H : Hid (nodeE n = true) := Lib.hid (by simp [nodeE]; omega)) | (have H : Hid (nodeE n = false) := Lib.hid (by simp [nodeE]; omega))
  all_goals
    go_enter Tryd.func19, Tryd.ntmps19
    go_wp2
    all_goals go_ret
    all_goals exact ⟨by rw [H.out]; rfl, Later.ex (by repeat (first | exact ext_refl _ | refine ext_alloc ?_ _ | refine ext_later ?_ _ | refine ext_drew ?_ | refine ext_drewN ?_ _))⟩
theorem spnode_d (n : Int) : Does Tryd.prog 19 #[.int .i64 n] [] (.bool (nodeE n)) [] := Does.of_any fun w => spnode_any n w
set_option maxHeartbeats 4000000 in
set_option maxRecDepth 100000 in
theorem own_d (R : At) (v : Value) (T : List Int) (hT : ∀ W H, R.p W H → RowAt elemI W v T) (_lT : T.length ≤ 1000) : Does Tryd.prog 16 #[v] [R] (aV (own16 T)) [R] := by
  intro w H hp
  have HM0 := Lib.hid (mem_refl hp)
  clear hp
  obtain ⟨pT, cT, rfl⟩ := rd_form (HM0.out.row 0 rfl hT)
  go_enter Tryd.func16, Tryd.ntmps16
  refine wp_seq ?_
  refine wp_region_N [(0, 3)] (by kernel_rfl) ?_
  refine wpS_alloc (i := 0) (dd := 2) (z := aV (List.replicate 16 0)) (cs := (((List.replicate 16 0) : List Int).map iV).toArray) rfl (by rfl) rfl (by kernel_rfl) rfl HM0.out covS_nil rfl ?_
  rintro rb W2 hm1 -
  have HM3 := Lib.hid hm1
  clear hm1
  simp only [Act.put, List.setIfInBounds_toArray, List.set_cons_succ, List.set_cons_zero]
  refine wpS_nil ?_
  refine then_normal ?_
  refine wp_seq ?_
  refine wp_region_N [(0, 3)] (by kernel_rfl) ?_
  refine wpS_alloc (i := 0) (dd := 3) (z := aV (List.replicate 16 0)) (cs := (((List.replicate 16 0) : List Int).map iV).toArray) rfl (by rfl) rfl (by kernel_rfl) rfl HM3.out covS_nil rfl ?_
  rintro ob W5 hm4 -
  have HM6 := Lib.hid hm4
  clear hm4
  simp only [Act.put, List.setIfInBounds_toArray, List.set_cons_succ, List.set_cons_zero]
  refine wpS_nil ?_
  refine then_normal ?_
  refine wp_seq ?_
  refine wp_seq ?_
  refine wp_region_N [(0, 1)] (by kernel_rfl) ?_
  refine wpS_this [0] rfl (by kernel_rfl) (by simp only [pickL, nthL, List.cons_append, List.nil_append]; rfl) ?_
  repeat (go_big_quiet_step (fail))
  refine wpQuiet_nil ?_
  refine wpS_nil ?_
  refine then_normal ?_
  refine wp_block ?_
  refine wp_loop_F [4, 5, 6, 7, 8, 9, 10, 11, 12, 13, 14, 15, 16, 17, 18, 19, 20, 21, 22, 23, 24, 25, 26, 27] (fun n vs W' => ∃ k : Nat, n = 16 - k ∧ vs 5 = .int .i64 (k : Int) ∧ k ≤ 16 ∧ Mem [R, arrT rb 31 (List.replicate 16 0), arrT ob 31 (fillK (whoL T) 0 16 k)] H w W') (n0 := 16) ?_ ?_
  · exact ⟨0, rfl, rfl, Nat.zero_le _, (Mem.only (M := [_, _, _]) HM6.out [2, 1, 0] rfl)⟩
  rintro n vs W' ⟨k, rfl, e5, hk, hm⟩
  simp only [putAll, List.map_cons, List.map_nil, Act.put, List.setIfInBounds_toArray, List.set_cons_succ, List.set_cons_zero]
  rw [e5]
  clear e5
  have HM7 := Lib.hid hm
  clear hm
  refine wp_seq ?_
  refine wp_region_N [(0, 1)] (by kernel_rfl) ?_
  refine wpS_this [0] rfl (by kernel_rfl) (by simp only [pickL, nthL, List.cons_append, List.nil_append]; rfl) ?_
  repeat (go_big_quiet_step (fail))
  refine wpQuiet_nil ?_
  refine wpS_nil ?_
  refine then_normal ?_
  refine wp_seq ?_
  refine wp_cond_split rfl (fun h8 => ?_) (fun h8 => ?_)
  · have hk1 : k + 1 ≤ 16 := by have : (k : Int) < 16 := (by simpa using h8); omega
    clear h8
    refine wp_skip ?_
    refine then_normal ?_
    refine wp_seq ?_
    refine wp_block ?_
    refine wp_seq ?_
    refine wp_region_N [(0, 1), (1, 1)] (by kernel_rfl) ?_
    refine wpS_this [0, 1] rfl (by kernel_rfl) (by simp only [pickL, nthL, List.cons_append, List.nil_append]; rfl) ?_
    repeat (go_big_quiet_step (fail))
    refine wpQuiet_nil ?_
    refine wpS_nil ?_
    refine then_normal ?_
    refine wp_seq ?_
    refine wp_region_N [(0, 1), (1, 1), (2, 3)] (by kernel_rfl) ?_
    refine wpS_this [0] rfl (by kernel_rfl) (by simp only [pickL, nthL, List.cons_append, List.nil_append]; rfl) ?_
    repeat (go_big_quiet_step (fail))
    refine wpQuiet_nil ?_
    refine wpS_addrArr (i := 1) (d := some 9) (b := ob) (j := k) sp16 rfl (by rfl) rfl rfl rfl (by omega) rfl ?_
    simp only [Act.put, List.setIfInBounds_toArray, List.set_cons_succ, List.set_cons_zero]
    refine wpS_setEl (i := 2) (z := (-1)) (L2 := [_, _]) rfl (by rfl) rfl rfl rfl HM7.out 2 rfl rfl (by rw [fillK_len hk]; omega) covS_nil rfl ?_
    rintro W10 hm9 -
    have HM11 := Lib.hid hm9
    clear hm9
    refine wpS_nil ?_
    refine then_normal ?_
    refine wp_seq ?_
    rcases part_ways T k with h1 | ⟨h1, y, hy, h2⟩ | ⟨h1, y, hy, h2⟩
    · have hc : Hid (whoL T k = -1) := Lib.hid (whoL_out h1)
      have g1 : decide ((k : Int) < (T.length : Int)) = false := decide_eq_false (by omega)
      have g1' : decide (k < T.length) = false := decide_eq_false (by omega)
      replace h1 := Lib.hid h1
      refine wp_region_N [(0, 1), (1, 1), (2, 1), (3, 1), (4, 1), (5, 1), (6, 1), (7, 1), (8, 1), (9, 3), (10, 1)] (by kernel_rfl) ?_
      refine wpS_this [0, 1, 2, 3, 4, 5, 6] rfl (by kernel_rfl) (by simp only [pickL, nthL, List.cons_append, List.nil_append]; rfl) ?_
      repeat (go_big_quiet_step (fail))
      refine wpQuiet_nil ?_
      refine wpS_skip (i := 7) (d := some 17) rfl (by rfl) rfl ?_
      simp only [Act.put, List.setIfInBounds_toArray, List.set_cons_succ, List.set_cons_zero]
      refine wpS_skip (i := 8) (d := some 18) rfl (by rfl) rfl ?_
      simp only [Act.put, List.setIfInBounds_toArray, List.set_cons_succ, List.set_cons_zero]
      refine wpS_skip (i := 9) (d := some 19) rfl (by rfl) rfl ?_
      simp only [Act.put, List.setIfInBounds_toArray, List.set_cons_succ, List.set_cons_zero]
      refine wpS_this [10] rfl (by kernel_rfl) (by simp only [pickL, nthL, List.cons_append, List.nil_append]; rfl) ?_
      repeat (go_big_quiet_step (fail))
      refine wpQuiet_nil ?_
      refine wpS_nil ?_
      refine then_normal ?_
      refine wp_cond_false rfl ?_
      refine wp_skip ?_
      refine block_normal ?_
      refine then_normal ?_
      refine wp_region_N [(0, 1), (1, 1)] (by kernel_rfl) ?_
      refine wpS_this [0, 1] rfl (by kernel_rfl) (by simp only [pickL, nthL, List.cons_append, List.nil_append]; rfl) ?_
      repeat (go_big_quiet_step (fail))
      refine wpQuiet_nil ?_
      refine wpS_nil ?_
      refine then_normal ?_
      refine ⟨by kernel_rfl, ?_⟩
      refine ⟨16 - (k + 1), by omega, k + 1, rfl, rfl, hk1, ?_⟩
      rw [← fillK_step hk1 hc.out]
      exact (Mem.only (M := [_, _, _]) HM11.out [1, 1, 0] rfl)
    · have hc : Hid (whoL T k = -1) := Lib.hid (whoL_none (by rw [atL_of hy]; exact h2))
      have g1 : decide ((k : Int) < (T.length : Int)) = true := decide_eq_true (by omega)
      have g1' : decide (k < T.length) = true := decide_eq_true h1
      have hy := Lib.hid hy
      replace h2 := Lib.hid h2
      replace h1 := Lib.hid h1
      refine wp_region_N [(0, 1), (1, 1), (2, 1), (3, 1), (4, 1), (5, 1), (6, 1), (7, 1), (8, 1), (9, 3), (10, 1)] (by kernel_rfl) ?_
      refine wpS_this [0, 1, 2, 3, 4, 5, 6] rfl (by kernel_rfl) (by simp only [pickL, nthL, List.cons_append, List.nil_append]; rfl) ?_
      repeat (go_big_quiet_step (fail))
      refine wpQuiet_nil ?_
      refine wpS_index (E := elemI) (i := 7) (d := some 17) rfl (by rfl) rfl rfl rfl (HM11.out.row 1 rfl hT) (hy.out) rfl ?_
      intro eb12 eo13 hc14
      simp only [Act.put, List.setIfInBounds_toArray, List.set_cons_succ, List.set_cons_zero]
      refine wpS_load1 (i := 8) (d := some 18) (u := .int .i64 y) rfl (by rfl) rfl rfl (hc14 0 _ rfl) Tryd.underlying3 rfl rfl ?_
      simp only [Act.put, List.setIfInBounds_toArray, List.set_cons_succ, List.set_cons_zero]
      refine wpS_does1 (i := 9) (d := some 19) (rem := [_, _, _]) (out := [_, _, _]) rfl (by rfl) rfl Tryd.call19 (spnode_d y) rfl HM11.out [] rfl covS_nil rfl rfl ?_
      rintro W16 hm15 -
      rw [h2.out]
      have HM17 := Lib.hid hm15
      clear hm15
      simp only [Act.put, List.setIfInBounds_toArray, List.set_cons_succ, List.set_cons_zero]
      refine wpS_this [10] rfl (by kernel_rfl) (by simp only [pickL, nthL, List.cons_append, List.nil_append]; rfl) ?_
      repeat (go_big_quiet_step (fail))
      refine wpQuiet_nil ?_
      refine wpS_nil ?_
      refine then_normal ?_
      refine wp_cond_false rfl ?_
      refine wp_skip ?_
      refine block_normal ?_
      refine then_normal ?_
      refine wp_region_N [(0, 1), (1, 1)] (by kernel_rfl) ?_
      refine wpS_this [0, 1] rfl (by kernel_rfl) (by simp only [pickL, nthL, List.cons_append, List.nil_append]; rfl) ?_
      repeat (go_big_quiet_step (fail))
      refine wpQuiet_nil ?_
      refine wpS_nil ?_
      refine then_normal ?_
      refine ⟨by kernel_rfl, ?_⟩
      refine ⟨16 - (k + 1), by omega, k + 1, rfl, rfl, hk1, ?_⟩
      rw [← fillK_step hk1 hc.out]
      exact (Mem.only (M := [_, _, _]) HM17.out [1, 1, 0] rfl)
    · have hc : Hid (whoL T k = y) := Lib.hid ((whoL_node (by rw [atL_of hy]; exact h2)).trans (atL_of hy))
      have g1 : decide ((k : Int) < (T.length : Int)) = true := decide_eq_true (by omega)
      have g1' : decide (k < T.length) = true := decide_eq_true h1
      have hy := Lib.hid hy
      replace h2 := Lib.hid h2
      replace h1 := Lib.hid h1
      refine wp_region_N [(0, 1), (1, 1), (2, 1), (3, 1), (4, 1), (5, 1), (6, 1), (7, 1), (8, 1), (9, 3), (10, 1)] (by kernel_rfl) ?_
      refine wpS_this [0, 1, 2, 3, 4, 5, 6] rfl (by kernel_rfl) (by simp only [pickL, nthL, List.cons_append, List.nil_append]; rfl) ?_
      repeat (go_big_quiet_step (fail))
      refine wpQuiet_nil ?_
      refine wpS_index (E := elemI) (i := 7) (d := some 17) rfl (by rfl) rfl rfl rfl (HM11.out.row 1 rfl hT) (hy.out) rfl ?_
      intro eb18 eo19 hc20
      simp only [Act.put, List.setIfInBounds_toArray, List.set_cons_succ, List.set_cons_zero]
      refine wpS_load1 (i := 8) (d := some 18) (u := .int .i64 y) rfl (by rfl) rfl rfl (hc20 0 _ rfl) Tryd.underlying3 rfl rfl ?_
      simp only [Act.put, List.setIfInBounds_toArray, List.set_cons_succ, List.set_cons_zero]
      refine wpS_does1 (i := 9) (d := some 19) (rem := [_, _, _]) (out := [_, _, _]) rfl (by rfl) rfl Tryd.call19 (spnode_d y) rfl HM11.out [] rfl covS_nil rfl rfl ?_
      rintro W22 hm21 -
      rw [h2.out]
      have HM23 := Lib.hid hm21
      clear hm21
      simp only [Act.put, List.setIfInBounds_toArray, List.set_cons_succ, List.set_cons_zero]
      refine wpS_this [10] rfl (by kernel_rfl) (by simp only [pickL, nthL, List.cons_append, List.nil_append]; rfl) ?_
      repeat (go_big_quiet_step (fail))
      refine wpQuiet_nil ?_
      refine wpS_nil ?_
      refine then_normal ?_
      refine wp_cond_true rfl ?_
      refine wp_region_N [(0, 1), (1, 1), (2, 1), (3, 1), (4, 1), (5, 1), (6, 3)] (by kernel_rfl) ?_
      refine wpS_this [0, 1, 2] rfl (by kernel_rfl) (by simp only [pickL, nthL, List.cons_append, List.nil_append]; rfl) ?_
      repeat (go_big_quiet_step (fail))
      refine wpQuiet_nil ?_
      refine wpS_index (E := elemI) (i := 3) (d := some 24) rfl (by rfl) rfl rfl rfl (HM23.out.row 1 rfl hT) (hy.out) rfl ?_
      intro eb24 eo25 hc26
      simp only [Act.put, List.setIfInBounds_toArray, List.set_cons_succ, List.set_cons_zero]
      refine wpS_load1 (i := 4) (d := some 25) (u := .int .i64 y) rfl (by rfl) rfl rfl (hc26 0 _ rfl) Tryd.underlying3 rfl rfl ?_
      simp only [Act.put, List.setIfInBounds_toArray, List.set_cons_succ, List.set_cons_zero]
      refine wpS_addrArr (i := 5) (d := some 26) (b := ob) (j := k) sp16 rfl (by rfl) rfl rfl rfl (by omega) rfl ?_
      simp only [Act.put, List.setIfInBounds_toArray, List.set_cons_succ, List.set_cons_zero]
      refine wpS_setEl (i := 6) (z := y) (L2 := [_, _]) rfl (by rfl) rfl rfl rfl HM23.out 0 rfl rfl (by rw [List.length_set, fillK_len hk]; omega) covS_nil rfl ?_
      rintro W28 hm27 -
      rw [List.set_set] at hm27
      have HM29 := Lib.hid hm27
      clear hm27
      refine wpS_nil ?_
      refine block_normal ?_
      refine then_normal ?_
      refine wp_region_N [(0, 1), (1, 1)] (by kernel_rfl) ?_
      refine wpS_this [0, 1] rfl (by kernel_rfl) (by simp only [pickL, nthL, List.cons_append, List.nil_append]; rfl) ?_
      repeat (go_big_quiet_step (fail))
      refine wpQuiet_nil ?_
      refine wpS_nil ?_
      refine then_normal ?_
      refine ⟨by kernel_rfl, ?_⟩
      refine ⟨16 - (k + 1), by omega, k + 1, rfl, rfl, hk1, ?_⟩
      rw [← fillK_step hk1 hc.out]
      exact (Mem.only (M := [_, _, _]) HM29.out [1, 1, 0] rfl)
  · have hge : Hid (16 ≤ k) := Lib.hid (by have : ¬ (k : Int) < 16 := (by simpa using h8); omega)
    clear h8
    have hk16 : k = 16 := by have := hge.out; omega
    subst hk16
    refine wp_exit ?_
    refine then_exit (then_exit (block_exit ?_))
    refine then_normal ?_
    refine wp_seq ?_
    refine wp_region_N [(0, 1), (1, 3)] (by kernel_rfl) ?_
    refine wpS_loadArr (i := 0) (d := some 28) sp16 rfl (by rfl) rfl rfl HM7.out 2 rfl (fillK_len (Nat.le_refl 16)) rfl ?_
    simp only [Act.put, List.setIfInBounds_toArray, List.set_cons_succ, List.set_cons_zero]
    refine wpS_storeArr (i := 1) (L2 := [_, _]) sp16 rfl (by rfl) rfl rfl rfl HM7.out 1 rfl rfl (List.length_replicate) (fillK_len (Nat.le_refl 16)) covS_nil rfl ?_
    rintro W31 hm30 -
    have HM32 := Lib.hid hm30
    clear hm30
    refine wpS_nil ?_
    refine then_normal ?_
    refine wp_ret ?_
    refine ret_arr rfl sp16 HM32.out 0 rfl rfl (fillK_len (Nat.le_refl 16)) rfl ?_
    exact does_ret (Mem.only (M := [_]) HM32.out [1] rfl) (by rw [fillK_end]; rfl) rfl

set_option maxHeartbeats 4000000 in
set_option maxRecDepth 100000 in
theorem cnt_d (T : List Int) : Does Tryd.prog 15 #[aV (own16 T)] [] (aV (cntL T)) [] := by
  intro w H hp
  have HM0 := Lib.hid (mem_refl hp)
  clear hp
  go_enter Tryd.func15, Tryd.ntmps15
  refine wp_seq ?_
  refine wp_region_N [(0, 3), (1, 3)] (by kernel_rfl) ?_
  refine wpS_boxA (i := 0) (dd := 1) rfl (by rfl) rfl rfl HM0.out covS_nil rfl ?_
  rintro ib W2 hm1 -
  have HM3 := Lib.hid hm1
  clear hm1
  simp only [Act.put, List.setIfInBounds_toArray, List.set_cons_succ, List.set_cons_zero]
  refine wpS_alloc (i := 1) (dd := 2) (z := aV (List.replicate 8 0)) (cs := (((List.replicate 8 0) : List Int).map iV).toArray) rfl (by rfl) rfl (by kernel_rfl) rfl HM3.out covS_nil rfl ?_
  rintro rb W5 hm4 -
  have HM6 := Lib.hid hm4
  clear hm4
  simp only [Act.put, List.setIfInBounds_toArray, List.set_cons_succ, List.set_cons_zero]
  refine wpS_nil ?_
  refine then_normal ?_
  refine wp_seq ?_
  refine wp_region_N [(0, 3)] (by kernel_rfl) ?_
  refine wpS_alloc (i := 0) (dd := 3) (z := aV (List.replicate 8 0)) (cs := (((List.replicate 8 0) : List Int).map iV).toArray) rfl (by rfl) rfl (by kernel_rfl) rfl HM6.out covS_nil rfl ?_
  rintro cb W8 hm7 -
  have HM9 := Lib.hid hm7
  clear hm7
  simp only [Act.put, List.setIfInBounds_toArray, List.set_cons_succ, List.set_cons_zero]
  refine wpS_nil ?_
  refine then_normal ?_
  refine wp_seq ?_
  refine wp_seq ?_
  refine wp_region_N [(0, 1), (1, 1)] (by kernel_rfl) ?_
  refine wpS_loadArr (i := 0) (d := some 6) sp16 rfl (by rfl) rfl rfl HM9.out 2 rfl (own16_len T) rfl ?_
  simp only [Act.put, List.setIfInBounds_toArray, List.set_cons_succ, List.set_cons_zero]
  refine wpS_this [1] rfl (by kernel_rfl) (by simp only [pickL, nthL, List.cons_append, List.nil_append]; rfl) ?_
  repeat (go_big_quiet_step (fail))
  refine wpQuiet_nil ?_
  refine wpS_nil ?_
  refine then_normal ?_
  refine wp_block ?_
  refine wp_loop_F [5, 7, 8, 9, 10, 11, 12, 13, 14, 15, 16, 17] (fun n vs W' => ∃ k : Nat, n = 16 - k ∧ vs 7 = .int .i64 (k : Int) ∧ k ≤ 16 ∧ Mem [arrT ib 31 (own16 T), arrT rb 29 (List.replicate 8 0), arrT cb 29 (cntP (whoL T) k)] H w W') (n0 := 16) ?_ ?_
  · refine ⟨0, rfl, rfl, Nat.zero_le _, ?_⟩
    rw [cntP_zero]
    exact (Mem.only (M := [_, _, _]) HM9.out [2, 1, 0] rfl)
  rintro n vs W' ⟨k, rfl, e7, hk, hm⟩
  simp only [putAll, List.map_cons, List.map_nil, Act.put, List.setIfInBounds_toArray, List.set_cons_succ, List.set_cons_zero]
  rw [e7]
  clear e7
  have HM10 := Lib.hid hm
  clear hm
  refine wp_seq ?_
  refine wp_region_N [(0, 1)] (by kernel_rfl) ?_
  refine wpS_this [0] rfl (by kernel_rfl) (by simp only [pickL, nthL, List.cons_append, List.nil_append]; rfl) ?_
  repeat (go_big_quiet_step (fail))
  refine wpQuiet_nil ?_
  refine wpS_nil ?_
  refine then_normal ?_
  refine wp_seq ?_
  refine wp_cond_split rfl (fun h11 => ?_) (fun h11 => ?_)
  · have hk1 : k + 1 ≤ 16 := by have : (k : Int) < 16 := (by simpa using h11); omega
    clear h11
    obtain ⟨x, hx'⟩ := int_letter (whoL T k)
    have hx := Lib.hid hx'
    clear hx'
    refine wp_skip ?_
    refine then_normal ?_
    refine wp_seq ?_
    refine wp_block ?_
    refine wp_seq ?_
    refine wp_region_N [(0, 1), (1, 1)] (by kernel_rfl) ?_
    refine wpS_indexArr (i := 0) (d := some 9) (j := k) sp16 rfl (by rfl) rfl rfl rfl ((own16_at hk1).trans (congrArg some hx.out)) (own16_len T) rfl ?_
    simp only [Act.put, List.setIfInBounds_toArray, List.set_cons_succ, List.set_cons_zero]
    refine wpS_this [1] rfl (by kernel_rfl) (by simp only [pickL, nthL, List.cons_append, List.nil_append]; rfl) ?_
    repeat (go_big_quiet_step (fail))
    refine wpQuiet_nil ?_
    refine wpS_nil ?_
    refine then_normal ?_
    refine wp_seq ?_
    by_cases h1 : 0 ≤ x
    · obtain ⟨xn, hxn, hx8⟩ := whoL_nat (T := T) (k := k) (by rw [hx.out]; exact h1)
      have hxx : x = (xn : Int) := hx.out.symm.trans hxn
      subst hxx
      have hst : Hid (cntP (whoL T) (k + 1) = (cntP (whoL T) k).set xn (((ctK (whoL T) (xn : Int) k : Nat) : Int) + 1)) := Lib.hid (cntP_hit hxn hx8)
      have hcb := ctK_le (whoL T) (xn : Int) k
      obtain ⟨c, hcc'⟩ := nat_letter (ctK (whoL T) (xn : Int) k)
      rw [hcc'] at hst hcb
      have g1 : ((xn : Int) != -1) = true := bne_iff_ne.2 (by omega)
      clear h1 hxn
      have hcc := Lib.hid hcc'
      clear hcc'
      refine wp_region_N [(0, 1), (1, 1)] (by kernel_rfl) ?_
      refine wpS_this [0, 1] rfl (by kernel_rfl) (by simp only [pickL, nthL, List.cons_append, List.nil_append]; rfl) ?_
      repeat (go_big_quiet_step (fail))
      refine wpQuiet_nil ?_
      refine wpS_nil ?_
      refine then_normal ?_
      refine wp_cond_true rfl ?_
      refine wp_region_N [(0, 1), (1, 1), (2, 1), (3, 1), (4, 1), (5, 3)] (by kernel_rfl) ?_
      refine wpS_this [0] rfl (by kernel_rfl) (by simp only [pickL, nthL, List.cons_append, List.nil_append]; rfl) ?_
      repeat (go_big_quiet_step (fail))
      refine wpQuiet_nil ?_
      refine wpS_addrArr (i := 1) (d := some 13) (b := cb) (j := xn) sp8 rfl (by rfl) rfl rfl rfl (by omega) rfl ?_
      simp only [Act.put, List.setIfInBounds_toArray, List.set_cons_succ, List.set_cons_zero]
      refine wpS_loadEl (i := 2) (d := some 14) (y := (c : Int)) rfl (by rfl) rfl rfl (HM10.out.arr 2 rfl (by rw [cntP_at _ _ hx8, hcc.out])) rfl ?_
      simp only [Act.put, List.setIfInBounds_toArray, List.set_cons_succ, List.set_cons_zero]
      refine wpS_this [3] rfl (by kernel_rfl) (by simp only [pickL, nthL, List.cons_append, List.nil_append]; rfl) ?_
      repeat (go_big_quiet_step (fail))
      refine wpQuiet_nil ?_
      refine wpS_addrArr (i := 4) (d := some 16) (b := cb) (j := xn) sp8 rfl (by rfl) rfl rfl rfl (by omega) rfl ?_
      simp only [Act.put, List.setIfInBounds_toArray, List.set_cons_succ, List.set_cons_zero]
      refine wpS_setEl (i := 5) (z := ((c : Int) + 1)) (L2 := [_, _]) rfl (by rfl) rfl rfl rfl HM10.out 2 rfl rfl (by rw [cntP_len]; omega) covS_nil rfl ?_
      rintro W13 hm12 -
      have HM14 := Lib.hid hm12
      clear hm12
      refine wpS_nil ?_
      refine block_normal ?_
      refine then_normal ?_
      refine wp_region_N [(0, 1), (1, 1)] (by kernel_rfl) ?_
      refine wpS_this [0, 1] rfl (by kernel_rfl) (by simp only [pickL, nthL, List.cons_append, List.nil_append]; rfl) ?_
      repeat (go_big_quiet_step (fail))
      refine wpQuiet_nil ?_
      refine wpS_nil ?_
      refine then_normal ?_
      refine ⟨by kernel_rfl, ?_⟩
      refine ⟨16 - (k + 1), by omega, k + 1, rfl, rfl, hk1, ?_⟩
      rw [hst.out]
      exact (Mem.only (M := [_, _, _]) HM14.out [1, 1, 0] rfl)
    · have hx1 : x = -1 := hx.out.symm.trans (whoL_neg (by rw [hx.out]; omega))
      have hst : Hid (cntP (whoL T) (k + 1) = cntP (whoL T) k) := Lib.hid (cntP_miss (by rw [hx.out]; omega))
      subst hx1
      clear h1
      refine wp_region_N [(0, 1), (1, 1)] (by kernel_rfl) ?_
      refine wpS_this [0, 1] rfl (by kernel_rfl) (by simp only [pickL, nthL, List.cons_append, List.nil_append]; rfl) ?_
      repeat (go_big_quiet_step (fail))
      refine wpQuiet_nil ?_
      refine wpS_nil ?_
      refine then_normal ?_
      refine wp_cond_false rfl ?_
      refine wp_skip ?_
      refine block_normal ?_
      refine then_normal ?_
      refine wp_region_N [(0, 1), (1, 1)] (by kernel_rfl) ?_
      refine wpS_this [0, 1] rfl (by kernel_rfl) (by simp only [pickL, nthL, List.cons_append, List.nil_append]; rfl) ?_
      repeat (go_big_quiet_step (fail))
      refine wpQuiet_nil ?_
      refine wpS_nil ?_
      refine then_normal ?_
      refine ⟨by kernel_rfl, ?_⟩
      refine ⟨16 - (k + 1), by omega, k + 1, rfl, rfl, hk1, ?_⟩
      rw [hst.out]
      exact (Mem.only (M := [_, _, _]) HM10.out [0, 0, 0] rfl)
  · have hge : Hid (16 ≤ k) := Lib.hid (by have : ¬ (k : Int) < 16 := (by simpa using h11); omega)
    clear h11
    have hk16 : k = 16 := by have := hge.out; omega
    subst hk16
    refine wp_exit ?_
    refine then_exit (then_exit (block_exit ?_))
    refine then_normal ?_
    refine wp_seq ?_
    refine wp_region_N [(0, 1), (1, 3)] (by kernel_rfl) ?_
    refine wpS_loadArr (i := 0) (d := some 18) sp8 rfl (by rfl) rfl rfl HM10.out 2 rfl (cntP_len _ _) rfl ?_
    simp only [Act.put, List.setIfInBounds_toArray, List.set_cons_succ, List.set_cons_zero]
    refine wpS_storeArr (i := 1) (L2 := [_, _]) sp8 rfl (by rfl) rfl rfl rfl HM10.out 1 rfl rfl (List.length_replicate) (cntP_len _ _) covS_nil rfl ?_
    rintro W16 hm15 -
    have HM17 := Lib.hid hm15
    clear hm15
    refine wpS_nil ?_
    refine then_normal ?_
    refine wp_ret ?_
    refine ret_arr rfl sp8 HM17.out 0 rfl rfl (cntP_len _ _) rfl ?_
    exact does_ret (Mem.only (M := []) HM17.out [] rfl) rfl rfl

set_option maxHeartbeats 4000000 in
set_option maxRecDepth 100000 in
theorem nx_d (T : List Int) (p : Nat) (hp : p < 16) : Does Tryd.prog 18 #[aV (own16 T), .int .i64 (p : Int)] [] (.int .i64 (nextO (whoL T) p : Int)) [] := by
  intro w H hp
  have HM0 := Lib.hid (mem_refl hp)
  clear hp
  go_enter Tryd.func18, Tryd.ntmps18
  refine wp_seq ?_
  obtain ⟨x, hx'⟩ := int_letter (whoL T p)
  have hx := Lib.hid hx'
  clear hx'
  refine wp_region_N [(0, 3), (1, 1)] (by kernel_rfl) ?_
  refine wpS_boxA (i := 0) (dd := 2) rfl (by rfl) rfl rfl HM0.out covS_nil rfl ?_
  rintro ib W2 hm1 -
  have HM3 := Lib.hid hm1
  clear hm1
  simp only [Act.put, List.setIfInBounds_toArray, List.set_cons_succ, List.set_cons_zero]
  refine wpS_this [1] rfl (by kernel_rfl) (by simp only [pickL, nthL, List.cons_append, List.nil_append]; rfl) ?_
  repeat (go_big_quiet_step (fail))
  refine wpQuiet_nil ?_
  refine wpS_nil ?_
  refine then_normal ?_
  refine wp_seq ?_
  refine wp_region_N [(0, 1)] (by kernel_rfl) ?_
  refine wpS_this [0] rfl (by kernel_rfl) (by simp only [pickL, nthL, List.cons_append, List.nil_append]; rfl) ?_
  repeat (go_big_quiet_step (fail))
  refine wpQuiet_nil ?_
  refine wpS_nil ?_
  refine then_normal ?_
  refine wp_seq ?_
  refine wp_block ?_
  refine wp_loop_F [5, 6, 7, 8, 9, 10, 11, 12, 13, 14, 15, 16, 17] (fun n vs W' => ∃ k : Nat, n = 16 - k ∧ vs 5 = .int .i64 (k : Int) ∧ 1 ≤ k ∧ k ≤ 16 ∧ (∀ j, 1 ≤ j → j < k → (fun j => whoL T j == whoL T p) ((p + j) % 16) = false) ∧ Mem [arrT ib 31 (own16 T)] H w W') (n0 := 15) ?_ ?_
  · exact ⟨1, rfl, rfl, Nat.le_refl _, by decide, fun j h1 h2 => by omega, (Mem.only (M := [_]) HM3.out [0] rfl)⟩
  rintro n vs W' ⟨k, rfl, e5, hk0, hk, hf', hm⟩
  simp only [putAll, List.map_cons, List.map_nil, Act.put, List.setIfInBounds_toArray, List.set_cons_succ, List.set_cons_zero]
  rw [e5]
  clear e5
  have hf := Lib.hid hf'
  clear hf'
  obtain ⟨q, hq'⟩ := nat_letter ((p + k) % 16)
  have hqm : Hid (((p : Int) + (k : Int)) % 16 = (q : Int)) := Lib.hid (by rw [← hq']; omega)
  have hq16 : q < 16 := by rw [← hq']; exact Nat.mod_lt _ (by decide)
  have hq := Lib.hid hq'
  clear hq'
  obtain ⟨y, hy'⟩ := int_letter (whoL T q)
  have hy := Lib.hid hy'
  clear hy'
  have HM4 := Lib.hid hm
  clear hm
  refine wp_seq ?_
  refine wp_seq ?_
  by_cases h1 : y = x
  · have g3 : (y != x) = false := by rw [h1]; exact bne_self_eq_false _
    have hye : Hid ((fun j => whoL T j == whoL T p) q = true) := Lib.hid (by show (whoL T q == whoL T p) = true; rw [hy.out, hx.out]; exact beq_iff_eq.2 h1)
    clear h1
    refine wp_region_M (fun k => k ∈ ([] : List Nat)) [(0, 1), (1, 1), (2, 1), (3, 1), (4, 1), (5, 1), (6, 1), (7, 1), (8, 1), (9, 1)] (by kernel_rfl) (by kernel_rfl) HM4.out ?_
    intro W5 hm6
    have HM7 := Lib.hid hm6
    clear hm6
    refine wpS_this [0, 1, 2] rfl (by kernel_rfl) (by simp only [pickL, nthL, List.cons_append, List.nil_append]; rfl) ?_
    repeat (go_big_quiet_step (fail))
    refine wpQuiet_nil ?_
    refine wpS_this [3] rfl (by kernel_rfl) (by simp only [pickL, nthL, List.cons_append, List.nil_append]; rfl) ?_
    repeat (go_big_quiet_step (fail))
    refine wpQuiet_nil ?_
    rw [hqm.out]
    refine wpS_addrArr (i := 4) (d := some 10) (b := ib) (j := q) sp16 rfl (by rfl) rfl rfl rfl (by omega) rfl ?_
    simp only [Act.put, List.setIfInBounds_toArray, List.set_cons_succ, List.set_cons_zero]
    refine wpS_loadEl (i := 5) (d := some 11) (y := y) rfl (by rfl) rfl rfl (HM7.out.arr 0 rfl ((own16_at hq16).trans (congrArg some hy.out))) rfl ?_
    simp only [Act.put, List.setIfInBounds_toArray, List.set_cons_succ, List.set_cons_zero]
    refine wpS_this [6] rfl (by kernel_rfl) (by simp only [pickL, nthL, List.cons_append, List.nil_append]; rfl) ?_
    repeat (go_big_quiet_step (fail))
    refine wpQuiet_nil ?_
    refine wpS_addrArr (i := 7) (d := some 13) (b := ib) (j := p) sp16 rfl (by rfl) rfl rfl rfl (by omega) rfl ?_
    simp only [Act.put, List.setIfInBounds_toArray, List.set_cons_succ, List.set_cons_zero]
    refine wpS_loadEl (i := 8) (d := some 14) (y := x) rfl (by rfl) rfl rfl (HM7.out.arr 0 rfl ((own16_at hp).trans (congrArg some hx.out))) rfl ?_
    simp only [Act.put, List.setIfInBounds_toArray, List.set_cons_succ, List.set_cons_zero]
    refine wpS_this [9] rfl (by kernel_rfl) (by simp only [pickL, nthL, List.cons_append, List.nil_append]; rfl) ?_
    repeat (go_big_quiet_step (fail))
    refine wpQuiet_nil ?_
    refine wpS_nil ?_
    refine then_normal ?_
    refine wp_cond_false rfl ?_
    refine wp_exit ?_
    refine then_exit (then_exit (block_exit ?_))
    refine then_normal ?_
    refine wp_seq ?_
    refine wp_region_N [(0, 1), (1, 1)] (by kernel_rfl) ?_
    refine wpS_this [0, 1] rfl (by kernel_rfl) (by simp only [pickL, nthL, List.cons_append, List.nil_append]; rfl) ?_
    repeat (go_big_quiet_step (fail))
    refine wpQuiet_nil ?_
    refine wpS_nil ?_
    refine then_normal ?_
    refine wp_ret ?_
    refine bodyPost_ret (results_tmp rfl _ _ _) rfl ?_
    rw [show nextO (whoL T) p = k from nextN_is hk0 hk hf.out (.inr (by rw [hq.out]; exact hye.out))]
    exact does_ret (Mem.only (M := []) HM7.out [] rfl) rfl rfl
  · have g3 : (y != x) = true := bne_iff_ne.2 h1
    have hne : Hid ((fun j => whoL T j == whoL T p) q = false) := Lib.hid (by show (whoL T q == whoL T p) = false; rw [hy.out, hx.out]; exact beq_eq_false_iff_ne.2 h1)
    have hk1 : k + 1 ≤ 16 := by
        rcases Nat.lt_or_eq_of_le hk with h3 | h3
        · exact h3
        · exact absurd (hy.out.symm.trans ((congrArg (whoL T) (by rw [← hq.out, h3]; omega)).trans hx.out)) h1
    clear h1
    refine wp_region_M (fun k => k ∈ ([] : List Nat)) [(0, 1), (1, 1), (2, 1), (3, 1), (4, 1), (5, 1), (6, 1), (7, 1), (8, 1), (9, 1)] (by kernel_rfl) (by kernel_rfl) HM4.out ?_
    intro W8 hm9
    have HM10 := Lib.hid hm9
    clear hm9
    refine wpS_this [0, 1, 2] rfl (by kernel_rfl) (by simp only [pickL, nthL, List.cons_append, List.nil_append]; rfl) ?_
    repeat (go_big_quiet_step (fail))
    refine wpQuiet_nil ?_
    refine wpS_this [3] rfl (by kernel_rfl) (by simp only [pickL, nthL, List.cons_append, List.nil_append]; rfl) ?_
    repeat (go_big_quiet_step (fail))
    refine wpQuiet_nil ?_
    rw [hqm.out]
    refine wpS_addrArr (i := 4) (d := some 10) (b := ib) (j := q) sp16 rfl (by rfl) rfl rfl rfl (by omega) rfl ?_
    simp only [Act.put, List.setIfInBounds_toArray, List.set_cons_succ, List.set_cons_zero]
    refine wpS_loadEl (i := 5) (d := some 11) (y := y) rfl (by rfl) rfl rfl (HM10.out.arr 0 rfl ((own16_at hq16).trans (congrArg some hy.out))) rfl ?_
    simp only [Act.put, List.setIfInBounds_toArray, List.set_cons_succ, List.set_cons_zero]
    refine wpS_this [6] rfl (by kernel_rfl) (by simp only [pickL, nthL, List.cons_append, List.nil_append]; rfl) ?_
    repeat (go_big_quiet_step (fail))
    refine wpQuiet_nil ?_
    refine wpS_addrArr (i := 7) (d := some 13) (b := ib) (j := p) sp16 rfl (by rfl) rfl rfl rfl (by omega) rfl ?_
    simp only [Act.put, List.setIfInBounds_toArray, List.set_cons_succ, List.set_cons_zero]
    refine wpS_loadEl (i := 8) (d := some 14) (y := x) rfl (by rfl) rfl rfl (HM10.out.arr 0 rfl ((own16_at hp).trans (congrArg some hx.out))) rfl ?_
    simp only [Act.put, List.setIfInBounds_toArray, List.set_cons_succ, List.set_cons_zero]
    refine wpS_this [9] rfl (by kernel_rfl) (by simp only [pickL, nthL, List.cons_append, List.nil_append]; rfl) ?_
    repeat (go_big_quiet_step (fail))
    refine wpQuiet_nil ?_
    refine wpS_nil ?_
    refine then_normal ?_
    refine wp_cond_true rfl ?_
    refine wp_skip ?_
    refine then_normal ?_
    refine wp_block ?_
    refine wp_region_N [(0, 1), (1, 1), (2, 1)] (by kernel_rfl) ?_
    refine wpS_this [0, 1, 2] rfl (by kernel_rfl) (by simp only [pickL, nthL, List.cons_append, List.nil_append]; rfl) ?_
    repeat (go_big_quiet_step (fail))
    refine wpQuiet_nil ?_
    refine wpS_nil ?_
    refine block_normal ?_
    refine then_normal ?_
    refine ⟨by kernel_rfl, ?_⟩
    refine ⟨16 - (k + 1), by omega, k + 1, rfl, rfl, by omega, hk1, ?_, (Mem.only (M := [_]) HM10.out [0] rfl)⟩
    intro j h1 h2
    rcases Nat.lt_or_eq_of_le (Nat.le_of_lt_succ h2) with h3 | rfl
    · exact hf.out j h1 h3
    · rw [hq.out]
      exact hne.out

set_option maxHeartbeats 4000000 in
set_option maxRecDepth 100000 in
theorem spcnt_d (R : At) (v : Value) (T : List Int) (hT : ∀ W H, R.p W H → RowAt elemI W v T) (lT : T.length ≤ 1000) : DoesU Tryd.prog 5 #[v] [R] (fun u => [rdRow u (cntL T), R]) := by
  intro w H hp
  have HM0 := Lib.hid (mem_refl hp)
  clear hp
  go_enter Tryd.func5, Tryd.ntmps5
  refine wp_seq ?_
  refine wp_region_N [(0, 1)] (by kernel_rfl) ?_
  refine wpS_this [0] rfl (by kernel_rfl) (by simp only [pickL, nthL, List.cons_append, List.nil_append]; rfl) ?_
  repeat (go_big_quiet_step (fail))
  refine wpQuiet_nil ?_
  refine wpS_nil ?_
  refine then_normal ?_
  refine wp_seq ?_
  refine wp_region_N [(0, 1), (1, 3), (2, 3), (3, 3), (4, 3)] (by kernel_rfl) ?_
  refine wpS_this [0] rfl (by kernel_rfl) (by simp only [pickL, nthL, List.cons_append, List.nil_append]; rfl) ?_
  repeat (go_big_quiet_step (fail))
  refine wpQuiet_nil ?_
  refine wpS_does1 (i := 1) (d := some 5) (rem := []) (out := [_]) rfl (by rfl) rfl Tryd.call16 (own_d R v T hT lT) rfl HM0.out [0] rfl covS_nil rfl rfl ?_
  rintro W2 hm1 -
  have HM3 := Lib.hid hm1
  clear hm1
  simp only [Act.put, List.setIfInBounds_toArray, List.set_cons_succ, List.set_cons_zero]
  refine wpS_does1 (i := 2) (d := some 6) (rem := [_]) (out := [_]) rfl (by rfl) rfl Tryd.call15 (cnt_d T) rfl HM3.out [] rfl covS_nil rfl rfl ?_
  rintro W5 hm4 -
  have HM6 := Lib.hid hm4
  clear hm4
  simp only [Act.put, List.setIfInBounds_toArray, List.set_cons_succ, List.set_cons_zero]
  refine wpS_alloc (i := 3) (dd := 3) (z := aV (List.replicate 8 0)) (cs := (((List.replicate 8 0) : List Int).map iV).toArray) rfl (by rfl) rfl (by kernel_rfl) rfl HM6.out covS_nil rfl ?_
  rintro cb W8 hm7 -
  have HM9 := Lib.hid hm7
  clear hm7
  simp only [Act.put, List.setIfInBounds_toArray, List.set_cons_succ, List.set_cons_zero]
  refine wpS_storeArr (i := 4) (L2 := [_]) sp8 rfl (by rfl) rfl rfl rfl HM9.out 0 rfl rfl (List.length_replicate) (cntL_len T) covS_nil rfl ?_
  rintro W11 hm10 -
  have HM12 := Lib.hid hm10
  clear hm10
  refine wpS_nil ?_
  refine then_normal ?_
  refine wp_seq ?_
  refine wp_region_N [(0, 1), (1, 1)] (by kernel_rfl) ?_
  refine wpS_sliceArr (i := 0) (d := some 7) (b := cb) sp8 rfl (by rfl) rfl rfl (by decide) rfl ?_
  simp only [Act.put, List.setIfInBounds_toArray, List.set_cons_succ, List.set_cons_zero]
  refine wpS_this [1] rfl (by kernel_rfl) (by simp only [pickL, nthL, List.cons_append, List.nil_append]; rfl) ?_
  repeat (go_big_quiet_step (fail))
  refine wpQuiet_nil ?_
  refine wpS_nil ?_
  refine then_normal ?_
  refine wp_ret ?_
  refine bodyPost_ret (results_tmp rfl _ _ _) rfl ?_
  exact doesU_ret (post := fun u => [rdRow u (cntL T), R]) (Mem.rdArr (cntL_len T) (Mem.only (M := [_, _]) HM12.out [0, 0] rfl)) rfl

set_option maxHeartbeats 4000000 in
set_option maxRecDepth 100000 in
theorem spnext_d (R : At) (v : Value) (T : List Int) (hT : ∀ W H, R.p W H → RowAt elemI W v T) (lT : T.length ≤ 1000) (p : Int) : Does Tryd.prog 7 #[v, .int .i64 p] [R] (.int .i64 (nextI T p)) [R] := by
  intro w H hp
  have HM0 := Lib.hid (mem_refl hp)
  clear hp
  go_enter Tryd.func7, Tryd.ntmps7
  refine wp_seq ?_
  refine wp_region_N [(0, 1)] (by kernel_rfl) ?_
  refine wpS_this [0] rfl (by kernel_rfl) (by simp only [pickL, nthL, List.cons_append, List.nil_append]; rfl) ?_
  repeat (go_big_quiet_step (fail))
  refine wpQuiet_nil ?_
  refine wpS_nil ?_
  refine then_normal ?_
  refine wp_seq ?_
  refine wp_region_N [(0, 1), (1, 3), (2, 3), (3, 3)] (by kernel_rfl) ?_
  refine wpS_this [0] rfl (by kernel_rfl) (by simp only [pickL, nthL, List.cons_append, List.nil_append]; rfl) ?_
  repeat (go_big_quiet_step (fail))
  refine wpQuiet_nil ?_
  refine wpS_does1 (i := 1) (d := some 7) (rem := []) (out := [_]) rfl (by rfl) rfl Tryd.call16 (own_d R v T hT lT) rfl HM0.out [0] rfl covS_nil rfl rfl ?_
  rintro W2 hm1 -
  have HM3 := Lib.hid hm1
  clear hm1
  simp only [Act.put, List.setIfInBounds_toArray, List.set_cons_succ, List.set_cons_zero]
  refine wpS_alloc (i := 2) (dd := 5) (z := aV (List.replicate 16 0)) (cs := (((List.replicate 16 0) : List Int).map iV).toArray) rfl (by rfl) rfl (by kernel_rfl) rfl HM3.out covS_nil rfl ?_
  rintro ob W5 hm4 -
  have HM6 := Lib.hid hm4
  clear hm4
  simp only [Act.put, List.setIfInBounds_toArray, List.set_cons_succ, List.set_cons_zero]
  refine wpS_storeArr (i := 3) (L2 := [_]) sp16 rfl (by rfl) rfl rfl rfl HM6.out 0 rfl rfl (List.length_replicate) (own16_len T) covS_nil rfl ?_
  rintro W8 hm7 -
  have HM9 := Lib.hid hm7
  clear hm7
  refine wpS_nil ?_
  refine then_normal ?_
  refine wp_seq ?_
  refine wp_seq ?_
  rcases next_ways T p with h1 | ⟨h1, h2⟩ | ⟨h1, h2, h3⟩ | ⟨h1, h2, h3⟩
  · have g1 := decide_eq_true h1
    have hno : Hid (nextI T p = 0) := Lib.hid (if_neg (by omega))
    clear h1
    refine wp_region_N [(0, 1), (1, 1), (2, 1), (3, 1), (4, 1), (5, 1), (6, 1), (7, 1), (8, 1), (9, 1), (10, 1), (11, 1)] (by kernel_rfl) ?_
    refine wpS_this [0, 1, 2, 3, 4, 5, 6, 7] rfl (by kernel_rfl) (by simp only [pickL, nthL, List.cons_append, List.nil_append]; rfl) ?_
    repeat (go_big_quiet_step (fail))
    refine wpQuiet_nil ?_
    refine wpS_skip (i := 8) (d := some 16) rfl (by rfl) rfl ?_
    simp only [Act.put, List.setIfInBounds_toArray, List.set_cons_succ, List.set_cons_zero]
    refine wpS_skip (i := 9) (d := some 17) rfl (by rfl) rfl ?_
    simp only [Act.put, List.setIfInBounds_toArray, List.set_cons_succ, List.set_cons_zero]
    refine wpS_this [10, 11] rfl (by kernel_rfl) (by simp only [pickL, nthL, List.cons_append, List.nil_append]; rfl) ?_
    repeat (go_big_quiet_step (fail))
    refine wpQuiet_nil ?_
    refine wpS_nil ?_
    refine then_normal ?_
    refine wp_cond_true rfl ?_
    refine wp_seq ?_
    refine wp_region_N [(0, 1)] (by kernel_rfl) ?_
    refine wpS_this [0] rfl (by kernel_rfl) (by simp only [pickL, nthL, List.cons_append, List.nil_append]; rfl) ?_
    repeat (go_big_quiet_step (fail))
    refine wpQuiet_nil ?_
    refine wpS_nil ?_
    refine then_normal ?_
    refine wp_ret ?_
    refine then_ret ?_
    refine bodyPost_ret (results_tmp rfl _ _ _) rfl ?_
    rw [hno.out]
    exact does_ret (Mem.only (M := [_]) HM9.out [1] rfl) rfl rfl
  · have g1 := decide_eq_false h1
    have g2 := decide_eq_true h2
    have hno : Hid (nextI T p = 0) := Lib.hid (if_neg (by omega))
    clear h1 h2
    refine wp_region_N [(0, 1), (1, 1), (2, 1), (3, 1), (4, 1), (5, 1), (6, 1), (7, 1), (8, 1), (9, 1), (10, 1), (11, 1)] (by kernel_rfl) ?_
    refine wpS_this [0, 1, 2, 3, 4, 5, 6, 7] rfl (by kernel_rfl) (by simp only [pickL, nthL, List.cons_append, List.nil_append]; rfl) ?_
    repeat (go_big_quiet_step (fail))
    refine wpQuiet_nil ?_
    refine wpS_skip (i := 8) (d := some 16) rfl (by rfl) rfl ?_
    simp only [Act.put, List.setIfInBounds_toArray, List.set_cons_succ, List.set_cons_zero]
    refine wpS_skip (i := 9) (d := some 17) rfl (by rfl) rfl ?_
    simp only [Act.put, List.setIfInBounds_toArray, List.set_cons_succ, List.set_cons_zero]
    refine wpS_this [10, 11] rfl (by kernel_rfl) (by simp only [pickL, nthL, List.cons_append, List.nil_append]; rfl) ?_
    repeat (go_big_quiet_step (fail))
    refine wpQuiet_nil ?_
    refine wpS_nil ?_
    refine then_normal ?_
    refine wp_cond_true rfl ?_
    refine wp_seq ?_
    refine wp_region_N [(0, 1)] (by kernel_rfl) ?_
    refine wpS_this [0] rfl (by kernel_rfl) (by simp only [pickL, nthL, List.cons_append, List.nil_append]; rfl) ?_
    repeat (go_big_quiet_step (fail))
    refine wpQuiet_nil ?_
    refine wpS_nil ?_
    refine then_normal ?_
    refine wp_ret ?_
    refine then_ret ?_
    refine bodyPost_ret (results_tmp rfl _ _ _) rfl ?_
    rw [hno.out]
    exact does_ret (Mem.only (M := [_]) HM9.out [1] rfl) rfl rfl
  · have g1 := decide_eq_false h1
    have g2 := decide_eq_false h2
    obtain ⟨q, rfl⟩ := Int.eq_ofNat_of_zero_le (show 0 ≤ p by omega)
    have hq16 : q < 16 := by omega
    clear h1 h2
    rw [Int.toNat_natCast] at h3
    have hx : Hid (whoL T q = -1) := Lib.hid (whoL_neg h3)
    have hno : Hid (nextI T (q : Int) = 0) := Lib.hid (nextI_no (by omega))
    clear h3
    refine wp_region_N [(0, 1), (1, 1), (2, 1), (3, 1), (4, 1), (5, 1), (6, 1), (7, 1), (8, 1), (9, 1), (10, 1), (11, 1)] (by kernel_rfl) ?_
    refine wpS_this [0, 1, 2, 3, 4, 5, 6, 7] rfl (by kernel_rfl) (by simp only [pickL, nthL, List.cons_append, List.nil_append]; rfl) ?_
    repeat (go_big_quiet_step (fail))
    refine wpQuiet_nil ?_
    refine wpS_addrArr (i := 8) (d := some 16) (b := ob) (j := q) sp16 rfl (by rfl) rfl rfl rfl (by omega) rfl ?_
    simp only [Act.put, List.setIfInBounds_toArray, List.set_cons_succ, List.set_cons_zero]
    refine wpS_loadEl (i := 9) (d := some 17) (y := (-1)) rfl (by rfl) rfl rfl (HM9.out.arr 0 rfl ((own16_at hq16).trans (congrArg some hx.out))) rfl ?_
    simp only [Act.put, List.setIfInBounds_toArray, List.set_cons_succ, List.set_cons_zero]
    refine wpS_this [10, 11] rfl (by kernel_rfl) (by simp only [pickL, nthL, List.cons_append, List.nil_append]; rfl) ?_
    repeat (go_big_quiet_step (fail))
    refine wpQuiet_nil ?_
    refine wpS_nil ?_
    refine then_normal ?_
    refine wp_cond_true rfl ?_
    refine wp_seq ?_
    refine wp_region_N [(0, 1)] (by kernel_rfl) ?_
    refine wpS_this [0] rfl (by kernel_rfl) (by simp only [pickL, nthL, List.cons_append, List.nil_append]; rfl) ?_
    repeat (go_big_quiet_step (fail))
    refine wpQuiet_nil ?_
    refine wpS_nil ?_
    refine then_normal ?_
    refine wp_ret ?_
    refine then_ret ?_
    refine bodyPost_ret (results_tmp rfl _ _ _) rfl ?_
    rw [hno.out]
    exact does_ret (Mem.only (M := [_]) HM9.out [1] rfl) rfl rfl
  · have g1 := decide_eq_false h1
    have g2 := decide_eq_false h2
    obtain ⟨q, rfl⟩ := Int.eq_ofNat_of_zero_le (show 0 ≤ p by omega)
    have hq16 : q < 16 := by omega
    clear h1 h2
    rw [Int.toNat_natCast] at h3
    obtain ⟨x, hx'⟩ := int_letter (whoL T q)
    have hx := Lib.hid hx'
    clear hx'
    have g3 : (x == -1) = false := beq_eq_false_iff_ne.2 (by have := hx.out; omega)
    have hpos : Hid (0 ≤ whoL T q) := Lib.hid (by omega)
    clear h3
    refine wp_region_N [(0, 1), (1, 1), (2, 1), (3, 1), (4, 1), (5, 1), (6, 1), (7, 1), (8, 1), (9, 1), (10, 1), (11, 1)] (by kernel_rfl) ?_
    refine wpS_this [0, 1, 2, 3, 4, 5, 6, 7] rfl (by kernel_rfl) (by simp only [pickL, nthL, List.cons_append, List.nil_append]; rfl) ?_
    repeat (go_big_quiet_step (fail))
    refine wpQuiet_nil ?_
    refine wpS_addrArr (i := 8) (d := some 16) (b := ob) (j := q) sp16 rfl (by rfl) rfl rfl rfl (by omega) rfl ?_
    simp only [Act.put, List.setIfInBounds_toArray, List.set_cons_succ, List.set_cons_zero]
    refine wpS_loadEl (i := 9) (d := some 17) (y := x) rfl (by rfl) rfl rfl (HM9.out.arr 0 rfl ((own16_at hq16).trans (congrArg some hx.out))) rfl ?_
    simp only [Act.put, List.setIfInBounds_toArray, List.set_cons_succ, List.set_cons_zero]
    refine wpS_this [10, 11] rfl (by kernel_rfl) (by simp only [pickL, nthL, List.cons_append, List.nil_append]; rfl) ?_
    repeat (go_big_quiet_step (fail))
    refine wpQuiet_nil ?_
    refine wpS_nil ?_
    refine then_normal ?_
    refine wp_cond_false rfl ?_
    refine wp_skip ?_
    refine then_normal ?_
    refine wp_seq ?_
    refine wp_region_N [(0, 1), (1, 1), (2, 3), (3, 1)] (by kernel_rfl) ?_
    refine wpS_loadArr (i := 0) (d := some 20) sp16 rfl (by rfl) rfl rfl HM9.out 0 rfl (own16_len T) rfl ?_
    simp only [Act.put, List.setIfInBounds_toArray, List.set_cons_succ, List.set_cons_zero]
    refine wpS_this [1] rfl (by kernel_rfl) (by simp only [pickL, nthL, List.cons_append, List.nil_append]; rfl) ?_
    repeat (go_big_quiet_step (fail))
    refine wpQuiet_nil ?_
    refine wpS_does2 (i := 2) (d := some 22) (rem := [_, _]) (out := [_, _]) rfl (by rfl) rfl Tryd.call18 (nx_d T q hq16) rfl rfl HM9.out [] rfl covS_nil rfl rfl ?_
    rintro W11 hm10 -
    have HM12 := Lib.hid hm10
    clear hm10
    simp only [Act.put, List.setIfInBounds_toArray, List.set_cons_succ, List.set_cons_zero]
    refine wpS_this [3] rfl (by kernel_rfl) (by simp only [pickL, nthL, List.cons_append, List.nil_append]; rfl) ?_
    repeat (go_big_quiet_step (fail))
    refine wpQuiet_nil ?_
    refine wpS_nil ?_
    refine then_normal ?_
    refine wp_ret ?_
    refine bodyPost_ret (results_tmp rfl _ _ _) rfl ?_
    rw [nextI_at hq16 hpos.out]
    exact does_ret (Mem.only (M := [_]) HM12.out [1] rfl) rfl rfl

set_option maxHeartbeats 4000000 in
set_option maxRecDepth 100000 in
theorem spleast_d (R : At) (v : Value) (T : List Int) (hT : ∀ W H, R.p W H → RowAt elemI W v T) (lT : T.length ≤ 1000) (n0 : Int) : Does Tryd.prog 9 #[v, .int .i64 n0] [R] (.int .i64 (leastI T n0)) [R] := by
  intro w H hp
  have HM0 := Lib.hid (mem_refl hp)
  clear hp
  go_enter Tryd.func9, Tryd.ntmps9
  refine wp_seq ?_
  refine wp_region_N [(0, 1)] (by kernel_rfl) ?_
  refine wpS_this [0] rfl (by kernel_rfl) (by simp only [pickL, nthL, List.cons_append, List.nil_append]; rfl) ?_
  repeat (go_big_quiet_step (fail))
  refine wpQuiet_nil ?_
  refine wpS_nil ?_
  refine then_normal ?_
  refine wp_seq ?_
  refine wp_seq ?_
  rcases Bool.eq_false_or_eq_true (nodeE n0) with h1 | h1
  · have hnn := Lib.hid h1
    clear h1
    refine wp_region_N [(0, 1), (1, 3), (2, 1)] (by kernel_rfl) ?_
    refine wpS_this [0] rfl (by kernel_rfl) (by simp only [pickL, nthL, List.cons_append, List.nil_append]; rfl) ?_
    repeat (go_big_quiet_step (fail))
    refine wpQuiet_nil ?_
    refine wpS_does1 (i := 1) (d := some 11) (rem := [_]) (out := [_]) rfl (by rfl) rfl Tryd.call19 (spnode_d n0) rfl HM0.out [] rfl covS_nil rfl rfl ?_
    rintro W2 hm1 -
    rw [hnn.out]
    have HM3 := Lib.hid hm1
    clear hm1
    simp only [Act.put, List.setIfInBounds_toArray, List.set_cons_succ, List.set_cons_zero]
    refine wpS_this [2] rfl (by kernel_rfl) (by simp only [pickL, nthL, List.cons_append, List.nil_append]; rfl) ?_
    repeat (go_big_quiet_step (fail))
    refine wpQuiet_nil ?_
    refine wpS_nil ?_
    refine then_normal ?_
    refine wp_cond_false rfl ?_
    refine wp_skip ?_
    refine then_normal ?_
    refine wp_seq ?_
    refine wp_region_N [(0, 1), (1, 3), (2, 3), (3, 3), (4, 1)] (by kernel_rfl) ?_
    refine wpS_this [0] rfl (by kernel_rfl) (by simp only [pickL, nthL, List.cons_append, List.nil_append]; rfl) ?_
    repeat (go_big_quiet_step (fail))
    refine wpQuiet_nil ?_
    refine wpS_does1 (i := 1) (d := some 14) (rem := []) (out := [_]) rfl (by rfl) rfl Tryd.call16 (own_d R v T hT lT) rfl HM3.out [0] rfl covS_nil rfl rfl ?_
    rintro W5 hm4 -
    have HM6 := Lib.hid hm4
    clear hm4
    simp only [Act.put, List.setIfInBounds_toArray, List.set_cons_succ, List.set_cons_zero]
    refine wpS_alloc (i := 2) (dd := 5) (z := aV (List.replicate 16 0)) (cs := (((List.replicate 16 0) : List Int).map iV).toArray) rfl (by rfl) rfl (by kernel_rfl) rfl HM6.out covS_nil rfl ?_
    rintro ob W8 hm7 -
    have HM9 := Lib.hid hm7
    clear hm7
    simp only [Act.put, List.setIfInBounds_toArray, List.set_cons_succ, List.set_cons_zero]
    refine wpS_storeArr (i := 3) (L2 := [_]) sp16 rfl (by rfl) rfl rfl rfl HM9.out 0 rfl rfl (List.length_replicate) (own16_len T) covS_nil rfl ?_
    rintro W11 hm10 -
    have HM12 := Lib.hid hm10
    clear hm10
    refine wpS_this [4] rfl (by kernel_rfl) (by simp only [pickL, nthL, List.cons_append, List.nil_append]; rfl) ?_
    repeat (go_big_quiet_step (fail))
    refine wpQuiet_nil ?_
    refine wpS_nil ?_
    refine then_normal ?_
    refine wp_seq ?_
    refine wp_seq ?_
    refine wp_region_N [(0, 1), (1, 1)] (by kernel_rfl) ?_
    refine wpS_loadArr (i := 0) (d := some 15) sp16 rfl (by rfl) rfl rfl HM12.out 0 rfl (own16_len T) rfl ?_
    simp only [Act.put, List.setIfInBounds_toArray, List.set_cons_succ, List.set_cons_zero]
    refine wpS_this [1] rfl (by kernel_rfl) (by simp only [pickL, nthL, List.cons_append, List.nil_append]; rfl) ?_
    repeat (go_big_quiet_step (fail))
    refine wpQuiet_nil ?_
    refine wpS_nil ?_
    refine then_normal ?_
    refine wp_block ?_
    refine wp_loop_F [6, 7, 8, 9, 16, 17, 18, 19, 20, 21, 22, 23, 24, 25, 26, 27, 28, 29, 30, 31, 32, 33, 34] (fun n vs W' => ∃ k : Nat, n = 16 - k ∧ vs 16 = .int .i64 (k : Int) ∧ vs 6 = .int .i64 ((leastJ T n0 k : Nat) : Int) ∧ k ≤ 16 ∧ Mem [R, arrT ob 31 (own16 T)] H w W') (n0 := 16) ?_ ?_
    · refine ⟨0, rfl, rfl, ?_, Nat.zero_le _, (Mem.only (M := [_, _]) HM12.out [1, 0] rfl)⟩
      rw [show leastJ T n0 0 = 0 from by unfold leastJ; split <;> rfl]
      rfl
    rintro n vs W' ⟨k, rfl, e16, e6, hk, hm⟩
    simp only [putAll, List.map_cons, List.map_nil, Act.put, List.setIfInBounds_toArray, List.set_cons_succ, List.set_cons_zero]
    rw [e16, e6]
    clear e16 e6
    obtain ⟨m, hml'⟩ := nat_letter (leastJ T n0 k)
    have hm16 : m ≤ 16 := by rw [← hml']; exact leastJ_le _ _ _
    rw [hml']
    have hml := Lib.hid hml'
    clear hml'
    have HM13 := Lib.hid hm
    clear hm
    refine wp_seq ?_
    refine wp_region_N [(0, 1)] (by kernel_rfl) ?_
    refine wpS_this [0] rfl (by kernel_rfl) (by simp only [pickL, nthL, List.cons_append, List.nil_append]; rfl) ?_
    repeat (go_big_quiet_step (fail))
    refine wpQuiet_nil ?_
    refine wpS_nil ?_
    refine then_normal ?_
    refine wp_seq ?_
    refine wp_cond_split rfl (fun h14 => ?_) (fun h14 => ?_)
    · have hk1 : k + 1 ≤ 16 := by have : (k : Int) < 16 := (by simpa using h14); omega
      clear h14
      obtain ⟨x, hx'⟩ := int_letter (whoL T k)
      have hx := Lib.hid hx'
      clear hx'
      refine wp_skip ?_
      refine then_normal ?_
      refine wp_seq ?_
      refine wp_block ?_
      refine wp_seq ?_
      refine wp_region_N [(0, 1), (1, 1), (2, 1), (3, 1)] (by kernel_rfl) ?_
      refine wpS_this [0] rfl (by kernel_rfl) (by simp only [pickL, nthL, List.cons_append, List.nil_append]; rfl) ?_
      repeat (go_big_quiet_step (fail))
      refine wpQuiet_nil ?_
      refine wpS_indexArr (i := 1) (d := some 19) (j := k) sp16 rfl (by rfl) rfl rfl rfl ((own16_at hk1).trans (congrArg some hx.out)) (own16_len T) rfl ?_
      simp only [Act.put, List.setIfInBounds_toArray, List.set_cons_succ, List.set_cons_zero]
      refine wpS_this [2, 3] rfl (by kernel_rfl) (by simp only [pickL, nthL, List.cons_append, List.nil_append]; rfl) ?_
      repeat (go_big_quiet_step (fail))
      refine wpQuiet_nil ?_
      refine wpS_nil ?_
      refine then_normal ?_
      refine wp_seq ?_
      refine wp_seq ?_
      by_cases h2 : x = n0
      · have hh := leastJ_hit (k := k) hnn.out (hx.out.trans h2)
        rw [hml.out] at hh
        have hhid := Lib.hid hh
        clear hh
        obtain ⟨d, hd'⟩ := nat_letter (nextO (whoL T) k)
        have hdr := nextO_range (whoL T) k
        rw [hd'] at hdr
        have hd := Lib.hid hd'
        clear hd'
        have g1 : (x != n0) = false := by rw [h2]; exact bne_self_eq_false _
        have hd1 := hdr.1
        have hd2 := hdr.2
        clear hdr h2
        refine wp_region_N [(0, 1), (1, 1), (2, 1)] (by kernel_rfl) ?_
        refine wpS_this [0, 1, 2] rfl (by kernel_rfl) (by simp only [pickL, nthL, List.cons_append, List.nil_append]; rfl) ?_
        repeat (go_big_quiet_step (fail))
        refine wpQuiet_nil ?_
        refine wpS_nil ?_
        refine then_normal ?_
        refine wp_cond_false rfl ?_
        refine wp_skip ?_
        refine then_normal ?_
        refine wp_seq ?_
        refine wp_region_N [(0, 1), (1, 1), (2, 3), (3, 1)] (by kernel_rfl) ?_
        refine wpS_loadArr (i := 0) (d := some 23) sp16 rfl (by rfl) rfl rfl HM13.out 1 rfl (own16_len T) rfl ?_
        simp only [Act.put, List.setIfInBounds_toArray, List.set_cons_succ, List.set_cons_zero]
        refine wpS_this [1] rfl (by kernel_rfl) (by simp only [pickL, nthL, List.cons_append, List.nil_append]; rfl) ?_
        repeat (go_big_quiet_step (fail))
        refine wpQuiet_nil ?_
        refine wpS_does2 (i := 2) (d := some 25) (rem := [_, _]) (out := [_, _]) rfl (by rfl) rfl Tryd.call18 (nx_d T k hk1) rfl rfl HM13.out [] rfl covS_nil rfl rfl ?_
        rintro W16 hm15 -
        rw [hd.out]
        have HM17 := Lib.hid hm15
        clear hm15
        simp only [Act.put, List.setIfInBounds_toArray, List.set_cons_succ, List.set_cons_zero]
        refine wpS_this [3] rfl (by kernel_rfl) (by simp only [pickL, nthL, List.cons_append, List.nil_append]; rfl) ?_
        repeat (go_big_quiet_step (fail))
        refine wpQuiet_nil ?_
        refine wpS_nil ?_
        refine then_normal ?_
        refine wp_seq ?_
        rcases (show m = 0 ∨ (¬ m = 0 ∧ d < m) ∨ (¬ m = 0 ∧ ¬ d < m) from by omega) with h3 | ⟨h3, h4⟩ | ⟨h3, h4⟩
        · have g2 : ((m : Int) == 0) = true := beq_iff_eq.2 (by omega)
          have g2' : (m == 0) = true := beq_iff_eq.2 h3
          have hst : Hid (leastJ T n0 (k + 1) = d) := Lib.hid (by rw [hhid.out, if_pos (.inl h3), hd.out])
          replace h3 := Lib.hid h3
          refine wp_region_N [(0, 1), (1, 1), (2, 1), (3, 1), (4, 1), (5, 1), (6, 1)] (by kernel_rfl) ?_
          refine wpS_this [0, 1, 2, 3, 4, 5, 6] rfl (by kernel_rfl) (by simp only [pickL, nthL, List.cons_append, List.nil_append]; rfl) ?_
          repeat (go_big_quiet_step (fail))
          refine wpQuiet_nil ?_
          refine wpS_nil ?_
          refine then_normal ?_
          refine wp_cond_true rfl ?_
          refine wp_region_N [(0, 1), (1, 1)] (by kernel_rfl) ?_
          refine wpS_this [0, 1] rfl (by kernel_rfl) (by simp only [pickL, nthL, List.cons_append, List.nil_append]; rfl) ?_
          repeat (go_big_quiet_step (fail))
          refine wpQuiet_nil ?_
          refine wpS_nil ?_
          refine block_normal ?_
          refine then_normal ?_
          refine wp_region_N [(0, 1), (1, 1)] (by kernel_rfl) ?_
          refine wpS_this [0, 1] rfl (by kernel_rfl) (by simp only [pickL, nthL, List.cons_append, List.nil_append]; rfl) ?_
          repeat (go_big_quiet_step (fail))
          refine wpQuiet_nil ?_
          refine wpS_nil ?_
          refine then_normal ?_
          refine ⟨by kernel_rfl, ?_⟩
          refine ⟨16 - (k + 1), by omega, k + 1, rfl, rfl, ?_, hk1, (Mem.only (M := [_, _]) HM17.out [0, 0] rfl)⟩
          rw [hst.out]
          rfl
        · have g2 : ((m : Int) == 0) = false := beq_eq_false_iff_ne.2 (by omega)
          have g2' : (m == 0) = false := beq_eq_false_iff_ne.2 h3
          have g3 : decide ((d : Int) < (m : Int)) = true := decide_eq_true (by omega)
          have g3' := decide_eq_true h4
          have hst : Hid (leastJ T n0 (k + 1) = d) := Lib.hid (by rw [hhid.out, if_pos (.inr (by rw [hd.out]; exact h4)), hd.out])
          replace h3 := Lib.hid h3
          replace h4 := Lib.hid h4
          refine wp_region_N [(0, 1), (1, 1), (2, 1), (3, 1), (4, 1), (5, 1), (6, 1)] (by kernel_rfl) ?_
          refine wpS_this [0, 1, 2, 3, 4, 5, 6] rfl (by kernel_rfl) (by simp only [pickL, nthL, List.cons_append, List.nil_append]; rfl) ?_
          repeat (go_big_quiet_step (fail))
          refine wpQuiet_nil ?_
          refine wpS_nil ?_
          refine then_normal ?_
          refine wp_cond_true rfl ?_
          refine wp_region_N [(0, 1), (1, 1)] (by kernel_rfl) ?_
          refine wpS_this [0, 1] rfl (by kernel_rfl) (by simp only [pickL, nthL, List.cons_append, List.nil_append]; rfl) ?_
          repeat (go_big_quiet_step (fail))
          refine wpQuiet_nil ?_
          refine wpS_nil ?_
          refine block_normal ?_
          refine then_normal ?_
          refine wp_region_N [(0, 1), (1, 1)] (by kernel_rfl) ?_
          refine wpS_this [0, 1] rfl (by kernel_rfl) (by simp only [pickL, nthL, List.cons_append, List.nil_append]; rfl) ?_
          repeat (go_big_quiet_step (fail))
          refine wpQuiet_nil ?_
          refine wpS_nil ?_
          refine then_normal ?_
          refine ⟨by kernel_rfl, ?_⟩
          refine ⟨16 - (k + 1), by omega, k + 1, rfl, rfl, ?_, hk1, (Mem.only (M := [_, _]) HM17.out [0, 0] rfl)⟩
          rw [hst.out]
          rfl
        · have g2 : ((m : Int) == 0) = false := beq_eq_false_iff_ne.2 (by omega)
          have g2' : (m == 0) = false := beq_eq_false_iff_ne.2 h3
          have g3 : decide ((d : Int) < (m : Int)) = false := decide_eq_false (by omega)
          have g3' := decide_eq_false h4
          have hst : Hid (leastJ T n0 (k + 1) = m) := Lib.hid (by rw [hhid.out, if_neg (by rw [hd.out]; omega)])
          replace h3 := Lib.hid h3
          replace h4 := Lib.hid h4
          refine wp_region_N [(0, 1), (1, 1), (2, 1), (3, 1), (4, 1), (5, 1), (6, 1)] (by kernel_rfl) ?_
          refine wpS_this [0, 1, 2, 3, 4, 5, 6] rfl (by kernel_rfl) (by simp only [pickL, nthL, List.cons_append, List.nil_append]; rfl) ?_
          repeat (go_big_quiet_step (fail))
          refine wpQuiet_nil ?_
          refine wpS_nil ?_
          refine then_normal ?_
          refine wp_cond_false rfl ?_
          refine wp_skip ?_
          refine block_normal ?_
          refine then_normal ?_
          refine wp_region_N [(0, 1), (1, 1)] (by kernel_rfl) ?_
          refine wpS_this [0, 1] rfl (by kernel_rfl) (by simp only [pickL, nthL, List.cons_append, List.nil_append]; rfl) ?_
          repeat (go_big_quiet_step (fail))
          refine wpQuiet_nil ?_
          refine wpS_nil ?_
          refine then_normal ?_
          refine ⟨by kernel_rfl, ?_⟩
          refine ⟨16 - (k + 1), by omega, k + 1, rfl, rfl, ?_, hk1, (Mem.only (M := [_, _]) HM17.out [0, 0] rfl)⟩
          rw [hst.out]
          rfl
      · have g1 : (x != n0) = true := bne_iff_ne.2 h2
        have hst : Hid (leastJ T n0 (k + 1) = m) := Lib.hid ((leastJ_miss (by rw [hx.out]; exact h2)).trans hml.out)
        replace h2 := Lib.hid h2
        refine wp_region_N [(0, 1), (1, 1), (2, 1)] (by kernel_rfl) ?_
        refine wpS_this [0, 1, 2] rfl (by kernel_rfl) (by simp only [pickL, nthL, List.cons_append, List.nil_append]; rfl) ?_
        repeat (go_big_quiet_step (fail))
        refine wpQuiet_nil ?_
        refine wpS_nil ?_
        refine then_normal ?_
        refine wp_cond_true rfl ?_
        refine wp_exit ?_
        refine then_exit (block_exit ?_)
        refine then_normal ?_
        refine wp_region_N [(0, 1), (1, 1)] (by kernel_rfl) ?_
        refine wpS_this [0, 1] rfl (by kernel_rfl) (by simp only [pickL, nthL, List.cons_append, List.nil_append]; rfl) ?_
        repeat (go_big_quiet_step (fail))
        refine wpQuiet_nil ?_
        refine wpS_nil ?_
        refine then_normal ?_
        refine ⟨by kernel_rfl, ?_⟩
        refine ⟨16 - (k + 1), by omega, k + 1, rfl, rfl, ?_, hk1, (Mem.only (M := [_, _]) HM13.out [0, 0] rfl)⟩
        rw [hst.out]
        rfl
    · have hge : Hid (16 ≤ k) := Lib.hid (by have : ¬ (k : Int) < 16 := (by simpa using h14); omega)
      clear h14
      have hk16 : k = 16 := by have := hge.out; omega
      subst hk16
      refine wp_exit ?_
      refine then_exit (then_exit (block_exit ?_))
      refine then_normal ?_
      refine wp_seq ?_
      refine wp_region_N [(0, 1), (1, 1)] (by kernel_rfl) ?_
      refine wpS_this [0, 1] rfl (by kernel_rfl) (by simp only [pickL, nthL, List.cons_append, List.nil_append]; rfl) ?_
      repeat (go_big_quiet_step (fail))
      refine wpQuiet_nil ?_
      refine wpS_nil ?_
      refine then_normal ?_
      refine wp_ret ?_
      refine bodyPost_ret (results_tmp rfl _ _ _) rfl ?_
      rw [leastJ_end, hml.out]
      exact does_ret (Mem.only (M := [_]) HM13.out [0] rfl) rfl rfl
  · have hno : Hid (leastI T n0 = 0) := Lib.hid (if_neg (by rw [h1]; simp))
    have hnn := Lib.hid h1
    clear h1
    refine wp_region_N [(0, 1), (1, 3), (2, 1)] (by kernel_rfl) ?_
    refine wpS_this [0] rfl (by kernel_rfl) (by simp only [pickL, nthL, List.cons_append, List.nil_append]; rfl) ?_
    repeat (go_big_quiet_step (fail))
    refine wpQuiet_nil ?_
    refine wpS_does1 (i := 1) (d := some 11) (rem := [_]) (out := [_]) rfl (by rfl) rfl Tryd.call19 (spnode_d n0) rfl HM0.out [] rfl covS_nil rfl rfl ?_
    rintro W19 hm18 -
    rw [hnn.out]
    have HM20 := Lib.hid hm18
    clear hm18
    simp only [Act.put, List.setIfInBounds_toArray, List.set_cons_succ, List.set_cons_zero]
    refine wpS_this [2] rfl (by kernel_rfl) (by simp only [pickL, nthL, List.cons_append, List.nil_append]; rfl) ?_
    repeat (go_big_quiet_step (fail))
    refine wpQuiet_nil ?_
    refine wpS_nil ?_
    refine then_normal ?_
    refine wp_cond_true rfl ?_
    refine wp_seq ?_
    refine wp_region_N [(0, 1)] (by kernel_rfl) ?_
    refine wpS_this [0] rfl (by kernel_rfl) (by simp only [pickL, nthL, List.cons_append, List.nil_append]; rfl) ?_
    repeat (go_big_quiet_step (fail))
    refine wpQuiet_nil ?_
    refine wpS_nil ?_
    refine then_normal ?_
    refine wp_ret ?_
    refine then_ret ?_
    refine bodyPost_ret (results_tmp rfl _ _ _) rfl ?_
    rw [hno.out]
    exact does_ret (Mem.only (M := [_]) HM20.out [0] rfl) rfl rfl

set_option maxHeartbeats 4000000 in
set_option maxRecDepth 100000 in
theorem spunev_d (R : At) (v vm : Value) (T M : List Int) (hT : ∀ W H, R.p W H → RowAt elemI W v T) (lT : T.length ≤ 1000) (hM : ∀ W H, R.p W H → RowAt elemI W vm M) (lM : M.length ≤ 1000) : Does Tryd.prog 11 #[v, vm] [R] (.int .i64 (unevI T M)) [R] := by
  intro w H hp
  have HM0 := Lib.hid (mem_refl hp)
  clear hp
  obtain ⟨pm, cm, rfl, -⟩ := (HM0.out.row 0 rfl hM).form
  go_enter Tryd.func11, Tryd.ntmps11
  refine wp_seq ?_
  refine wp_region_N [(0, 1)] (by kernel_rfl) ?_
  refine wpS_this [0] rfl (by kernel_rfl) (by simp only [pickL, nthL, List.cons_append, List.nil_append]; rfl) ?_
  repeat (go_big_quiet_step (fail))
  refine wpQuiet_nil ?_
  refine wpS_nil ?_
  refine then_normal ?_
  refine wp_seq ?_
  refine wp_region_N [(0, 1), (1, 3), (2, 3), (3, 3), (4, 3)] (by kernel_rfl) ?_
  refine wpS_this [0] rfl (by kernel_rfl) (by simp only [pickL, nthL, List.cons_append, List.nil_append]; rfl) ?_
  repeat (go_big_quiet_step (fail))
  refine wpQuiet_nil ?_
  refine wpS_does1 (i := 1) (d := some 11) (rem := []) (out := [_]) rfl (by rfl) rfl Tryd.call16 (own_d R v T hT lT) rfl HM0.out [0] rfl covS_nil rfl rfl ?_
  rintro W2 hm1 -
  have HM3 := Lib.hid hm1
  clear hm1
  simp only [Act.put, List.setIfInBounds_toArray, List.set_cons_succ, List.set_cons_zero]
  refine wpS_does1 (i := 2) (d := some 12) (rem := [_]) (out := [_]) rfl (by rfl) rfl Tryd.call15 (cnt_d T) rfl HM3.out [] rfl covS_nil rfl rfl ?_
  rintro W5 hm4 -
  have HM6 := Lib.hid hm4
  clear hm4
  simp only [Act.put, List.setIfInBounds_toArray, List.set_cons_succ, List.set_cons_zero]
  refine wpS_alloc (i := 3) (dd := 5) (z := aV (List.replicate 8 0)) (cs := (((List.replicate 8 0) : List Int).map iV).toArray) rfl (by rfl) rfl (by kernel_rfl) rfl HM6.out covS_nil rfl ?_
  rintro cb W8 hm7 -
  have HM9 := Lib.hid hm7
  clear hm7
  simp only [Act.put, List.setIfInBounds_toArray, List.set_cons_succ, List.set_cons_zero]
  refine wpS_storeArr (i := 4) (L2 := [_]) sp8 rfl (by rfl) rfl rfl rfl HM9.out 0 rfl rfl (List.length_replicate) (cntL_len T) covS_nil rfl ?_
  rintro W11 hm10 -
  have HM12 := Lib.hid hm10
  clear hm10
  refine wpS_nil ?_
  refine then_normal ?_
  refine wp_seq ?_
  refine wp_region_N [(0, 1), (1, 1)] (by kernel_rfl) ?_
  refine wpS_this [0, 1] rfl (by kernel_rfl) (by simp only [pickL, nthL, List.cons_append, List.nil_append]; rfl) ?_
  repeat (go_big_quiet_step (fail))
  refine wpQuiet_nil ?_
  refine wpS_nil ?_
  refine then_normal ?_
  refine wp_seq ?_
  refine wp_seq ?_
  refine wp_region_N [(0, 1), (1, 1), (2, 1)] (by kernel_rfl) ?_
  refine wpS_this [0, 1, 2] rfl (by kernel_rfl) (by simp only [pickL, nthL, List.cons_append, List.nil_append]; rfl) ?_
  repeat (go_big_quiet_step (fail))
  refine wpQuiet_nil ?_
  refine wpS_nil ?_
  refine then_normal ?_
  refine wp_block ?_
  refine wp_loop_F [6, 7, 9, 15, 16, 17, 18, 19, 20, 21, 22, 23, 24, 25, 26, 27, 28, 29, 30, 31] (fun n vs W' => ∃ k : Nat, n = M.length - k ∧ vs 15 = .int .i64 (k : Int) ∧ vs 6 = .int .i64 (uL (unevK (cntI T) (M.take k))) ∧ vs 7 = .int .i64 (uA (unevK (cntI T) (M.take k))) ∧ k ≤ M.length ∧ Mem [R, arrT cb 29 (cntL T)] H w W') (n0 := M.length) ?_ ?_
  · exact ⟨0, rfl, rfl, rfl, rfl, Nat.zero_le _, (Mem.only (M := [_, _]) HM12.out [1, 0] rfl)⟩
  rintro n vs W' ⟨k, rfl, e15, e6, e7, hk, hm⟩
  simp only [putAll, List.map_cons, List.map_nil, Act.put, List.setIfInBounds_toArray, List.set_cons_succ, List.set_cons_zero]
  rw [e15, e6, e7]
  clear e15 e6 e7
  have hbd := (unev_bound T M k).1
  have hbd2 := unev_bound2 T M k
  obtain ⟨ua, hua'⟩ := int_letter (uA (unevK (cntI T) (M.take k)))
  obtain ⟨ub, hub'⟩ := int_letter (uL (unevK (cntI T) (M.take k)))
  rw [hua'] at hbd
  rw [hub'] at hbd2
  rw [hua', hub']
  obtain ⟨ha0, ha1⟩ := hbd
  obtain ⟨hb0, hb1⟩ := hbd2
  have hua := Lib.hid hua'
  clear hua'
  have hub := Lib.hid hub'
  clear hub'
  have HM13 := Lib.hid hm
  clear hm
  refine wp_seq ?_
  refine wp_region_N [(0, 1)] (by kernel_rfl) ?_
  refine wpS_this [0] rfl (by kernel_rfl) (by simp only [pickL, nthL, List.cons_append, List.nil_append]; rfl) ?_
  repeat (go_big_quiet_step (fail))
  refine wpQuiet_nil ?_
  refine wpS_nil ?_
  refine then_normal ?_
  refine wp_seq ?_
  refine wp_cond_split rfl (fun h14 => ?_) (fun h14 => ?_)
  · have hk1 : k + 1 ≤ M.length := by have : (k : Int) < ((M.length : Nat) : Int) := (by simpa using h14); omega
    clear h14
    obtain ⟨y, hy'⟩ : ∃ y, M[k]? = some y := ⟨_, List.getElem?_eq_getElem (hk1)⟩
    have hy := Lib.hid hy'
    clear hy'
    refine wp_skip ?_
    refine then_normal ?_
    refine wp_seq ?_
    refine wp_block ?_
    refine wp_seq ?_
    refine wp_region_N [(0, 1), (1, 1), (2, 1)] (by kernel_rfl) ?_
    refine wpS_index (E := elemI) (i := 0) (d := some 17) rfl (by rfl) rfl rfl rfl (HM13.out.row 0 rfl hM) (hy.out) rfl ?_
    intro eb15 eo16 hc17
    simp only [Act.put, List.setIfInBounds_toArray, List.set_cons_succ, List.set_cons_zero]
    refine wpS_load1 (i := 1) (d := some 18) (u := .int .i64 y) rfl (by rfl) rfl rfl (hc17 0 _ rfl) Tryd.underlying3 rfl rfl ?_
    simp only [Act.put, List.setIfInBounds_toArray, List.set_cons_succ, List.set_cons_zero]
    refine wpS_this [2] rfl (by kernel_rfl) (by simp only [pickL, nthL, List.cons_append, List.nil_append]; rfl) ?_
    repeat (go_big_quiet_step (fail))
    refine wpQuiet_nil ?_
    refine wpS_nil ?_
    refine then_normal ?_
    refine wp_seq ?_
    rcases Bool.eq_false_or_eq_true (nodeE y) with h1 | h1
    · have hmo := unev_more2 (T := T) hy.out h1
      obtain ⟨yn, hyn, hy8⟩ := whoL_nat' h1
      subst hyn
      have hcb := ctK_le (whoL T) (yn : Int) 16
      obtain ⟨c, hcc'⟩ := int_letter (cntI T (yn : Int))
      have hc0 : 0 ≤ c ∧ c ≤ 16 := by rw [← hcc']; unfold cntI; omega
      have hcn : Hid ((cntL T)[yn]? = some c) := Lib.hid (by rw [cntL_at hy8, ← hcc']; rfl)
      rw [hcc', hub.out, hua.out] at hmo
      have hnB : Hid (uL (unevK (cntI T) (M.take (k + 1))) = if c < ub then c else ub) := Lib.hid (by rw [hmo.1]; split <;> omega)
      have hnA : Hid (uA (unevK (cntI T) (M.take (k + 1))) = if ua < c then c else ua) := Lib.hid (by rw [hmo.2]; split <;> omega)
      clear hmo
      have hcc := Lib.hid hcc'
      clear hcc'
      obtain ⟨hc1, hc2⟩ := hc0
      clear hcb
      replace h1 := Lib.hid h1
      refine wp_region_N [(0, 1), (1, 3)] (by kernel_rfl) ?_
      refine wpS_this [0] rfl (by kernel_rfl) (by simp only [pickL, nthL, List.cons_append, List.nil_append]; rfl) ?_
      repeat (go_big_quiet_step (fail))
      refine wpQuiet_nil ?_
      refine wpS_does1 (i := 1) (d := some 20) (rem := [_, _]) (out := [_, _]) rfl (by rfl) rfl Tryd.call19 (spnode_d _) rfl HM13.out [] rfl covS_nil rfl rfl ?_
      rintro W19 hm18 -
      rw [h1.out]
      have HM20 := Lib.hid hm18
      clear hm18
      simp only [Act.put, List.setIfInBounds_toArray, List.set_cons_succ, List.set_cons_zero]
      refine wpS_nil ?_
      refine then_normal ?_
      refine wp_cond_true rfl ?_
      refine wp_region_M (fun k => k ∈ ([] : List Nat)) [(0, 1), (1, 1), (2, 1), (3, 1), (4, 1), (5, 1), (6, 1), (7, 1), (8, 1), (9, 1), (10, 1), (11, 1)] (by kernel_rfl) (by kernel_rfl) HM20.out ?_
      intro W21 hm22
      have HM23 := Lib.hid hm22
      clear hm22
      refine wpS_this [0, 1] rfl (by kernel_rfl) (by simp only [pickL, nthL, List.cons_append, List.nil_append]; rfl) ?_
      repeat (go_big_quiet_step (fail))
      refine wpQuiet_nil ?_
      refine wpS_addrArr (i := 2) (d := some 23) (b := cb) (j := yn) sp8 rfl (by rfl) rfl rfl rfl (by omega) rfl ?_
      simp only [Act.put, List.setIfInBounds_toArray, List.set_cons_succ, List.set_cons_zero]
      refine wpS_loadEl (i := 3) (d := some 24) (y := c) rfl (by rfl) rfl rfl (HM23.out.arr 1 rfl (hcn.out)) rfl ?_
      simp only [Act.put, List.setIfInBounds_toArray, List.set_cons_succ, List.set_cons_zero]
      refine wpS_this [4, 5, 6] rfl (by kernel_rfl) (by simp only [pickL, nthL, List.cons_append, List.nil_append]; rfl) ?_
      repeat (go_big_quiet_step (fail))
      refine wpQuiet_nil ?_
      refine wpS_addrArr (i := 7) (d := some 28) (b := cb) (j := yn) sp8 rfl (by rfl) rfl rfl rfl (by omega) rfl ?_
      simp only [Act.put, List.setIfInBounds_toArray, List.set_cons_succ, List.set_cons_zero]
      refine wpS_loadEl (i := 8) (d := some 29) (y := c) rfl (by rfl) rfl rfl (HM23.out.arr 1 rfl (hcn.out)) rfl ?_
      simp only [Act.put, List.setIfInBounds_toArray, List.set_cons_succ, List.set_cons_zero]
      refine wpS_this [9, 10, 11] rfl (by kernel_rfl) (by simp only [pickL, nthL, List.cons_append, List.nil_append]; rfl) ?_
      repeat (go_big_quiet_step (fail))
      refine wpQuiet_nil ?_
      refine wpS_nil ?_
      refine block_normal ?_
      refine then_normal ?_
      refine wp_region_N [(0, 1), (1, 1)] (by kernel_rfl) ?_
      refine wpS_this [0, 1] rfl (by kernel_rfl) (by simp only [pickL, nthL, List.cons_append, List.nil_append]; rfl) ?_
      repeat (go_big_quiet_step (fail))
      refine wpQuiet_nil ?_
      refine wpS_nil ?_
      refine then_normal ?_
      refine ⟨by kernel_rfl, ?_⟩
      refine ⟨M.length - (k + 1), by omega, k + 1, rfl, rfl, ?_, ?_, hk1, (Mem.only (M := [_, _]) HM23.out [0, 0] rfl)⟩
      · exact congrArg (Value.int .i64) hnB.out.symm
      · exact congrArg (Value.int .i64) hnA.out.symm
    · have hnB : Hid (uL (unevK (cntI T) (M.take (k + 1))) = ub) := Lib.hid (by rw [unev_not hy.out h1]; exact hub.out)
      have hnA : Hid (uA (unevK (cntI T) (M.take (k + 1))) = ua) := Lib.hid (by rw [unev_not hy.out h1]; exact hua.out)
      replace h1 := Lib.hid h1
      refine wp_region_N [(0, 1), (1, 3)] (by kernel_rfl) ?_
      refine wpS_this [0] rfl (by kernel_rfl) (by simp only [pickL, nthL, List.cons_append, List.nil_append]; rfl) ?_
      repeat (go_big_quiet_step (fail))
      refine wpQuiet_nil ?_
      refine wpS_does1 (i := 1) (d := some 20) (rem := [_, _]) (out := [_, _]) rfl (by rfl) rfl Tryd.call19 (spnode_d _) rfl HM13.out [] rfl covS_nil rfl rfl ?_
      rintro W25 hm24 -
      rw [h1.out]
      have HM26 := Lib.hid hm24
      clear hm24
      simp only [Act.put, List.setIfInBounds_toArray, List.set_cons_succ, List.set_cons_zero]
      refine wpS_nil ?_
      refine then_normal ?_
      refine wp_cond_false rfl ?_
      refine wp_skip ?_
      refine block_normal ?_
      refine then_normal ?_
      refine wp_region_N [(0, 1), (1, 1)] (by kernel_rfl) ?_
      refine wpS_this [0, 1] rfl (by kernel_rfl) (by simp only [pickL, nthL, List.cons_append, List.nil_append]; rfl) ?_
      repeat (go_big_quiet_step (fail))
      refine wpQuiet_nil ?_
      refine wpS_nil ?_
      refine then_normal ?_
      refine ⟨by kernel_rfl, ?_⟩
      refine ⟨M.length - (k + 1), by omega, k + 1, rfl, rfl, ?_, ?_, hk1, (Mem.only (M := [_, _]) HM26.out [0, 0] rfl)⟩
      · exact congrArg (Value.int .i64) hnB.out.symm
      · exact congrArg (Value.int .i64) hnA.out.symm
  · have hge : Hid (M.length ≤ k) := Lib.hid (by have : ¬ (k : Int) < ((M.length : Nat) : Int) := (by simpa using h14); omega)
    clear h14
    refine wp_exit ?_
    refine then_exit (then_exit (block_exit ?_))
    refine then_normal ?_
    refine wp_seq ?_
    refine wp_region_N [(0, 1), (1, 1), (2, 1), (3, 1), (4, 1)] (by kernel_rfl) ?_
    refine wpS_this [0, 1, 2, 3, 4] rfl (by kernel_rfl) (by simp only [pickL, nthL, List.cons_append, List.nil_append]; rfl) ?_
    repeat (go_big_quiet_step (fail))
    refine wpQuiet_nil ?_
    refine wpS_nil ?_
    refine then_normal ?_
    refine wp_ret ?_
    refine bodyPost_ret (results_tmp rfl _ _ _) rfl ?_
    have hkm : k = M.length := by have := hge.out; omega
    have hun := unev_end T M
    rw [hkm, List.take_length] at hua hub
    rw [hua.out, hub.out] at hun
    rw [show unevI T M = if ua - ub < 0 then 0 else ua - ub from by rw [hun]; split <;> omega]
    exact does_ret (Mem.only (M := [_]) HM13.out [0] rfl) rfl rfl

set_option maxHeartbeats 4000000 in
set_option maxRecDepth 100000 in
theorem sptext_d (R : At) (v : Value) (T : List Int) (hT : ∀ W H, R.p W H → RowAt elemI W v T) (lT : T.length ≤ 1000) : Does Tryd.prog 13 #[v] [R] (.string (textB (whoL T) 16)) [R] := by
  intro w H hp
  have HM0 := Lib.hid (mem_refl hp)
  clear hp
  go_enter Tryd.func13, Tryd.ntmps13
  refine wp_seq ?_
  refine wp_region_N [(0, 1)] (by kernel_rfl) ?_
  refine wpS_this [0] rfl (by kernel_rfl) (by simp only [pickL, nthL, List.cons_append, List.nil_append]; rfl) ?_
  repeat (go_big_quiet_step (fail))
  refine wpQuiet_nil ?_
  refine wpS_nil ?_
  refine then_normal ?_
  refine wp_seq ?_
  refine wp_region_N [(0, 3)] (by kernel_rfl) ?_
  refine wpS_alloc (i := 0) (dd := 3) (z := .agg ((List.replicate 16 (0 : UInt8)).map uV).toArray) (cs := ((List.replicate 16 (0 : UInt8)).map uV).toArray) rfl (by rfl) rfl (by kernel_rfl) rfl HM0.out covS_nil rfl ?_
  rintro tb W2 hm1 -
  have HM3 := Lib.hid hm1
  clear hm1
  simp only [Act.put, List.setIfInBounds_toArray, List.set_cons_succ, List.set_cons_zero]
  refine wpS_nil ?_
  refine then_normal ?_
  refine wp_seq ?_
  refine wp_seq ?_
  refine wp_region_N [(0, 1), (1, 3), (2, 1)] (by kernel_rfl) ?_
  refine wpS_this [0] rfl (by kernel_rfl) (by simp only [pickL, nthL, List.cons_append, List.nil_append]; rfl) ?_
  repeat (go_big_quiet_step (fail))
  refine wpQuiet_nil ?_
  refine wpS_does1 (i := 1) (d := some 7) (rem := [_]) (out := [_, _]) rfl (by rfl) rfl Tryd.call16 (own_d R v T hT lT) rfl HM3.out [1] rfl covS_nil rfl rfl ?_
  rintro W5 hm4 -
  have HM6 := Lib.hid hm4
  clear hm4
  simp only [Act.put, List.setIfInBounds_toArray, List.set_cons_succ, List.set_cons_zero]
  refine wpS_this [2] rfl (by kernel_rfl) (by simp only [pickL, nthL, List.cons_append, List.nil_append]; rfl) ?_
  repeat (go_big_quiet_step (fail))
  refine wpQuiet_nil ?_
  refine wpS_nil ?_
  refine then_normal ?_
  refine wp_block ?_
  refine wp_loop_F [4, 5, 8, 9, 10, 11, 12, 13, 14, 15, 16, 17, 18, 19, 20, 21] (fun n vs W' => ∃ k : Nat, n = 16 - k ∧ vs 8 = .int .i64 (k : Int) ∧ k ≤ 16 ∧ Mem [R, arrU tb 35 (fillK (fun p => chU (whoL T p)) 0 16 k)] H w W') (n0 := 16) ?_ ?_
  · exact ⟨0, rfl, rfl, Nat.zero_le _, (Mem.only (M := [_, _]) HM6.out [0, 0] rfl)⟩
  rintro n vs W' ⟨k, rfl, e8, hk, hm⟩
  simp only [putAll, List.map_cons, List.map_nil, Act.put, List.setIfInBounds_toArray, List.set_cons_succ, List.set_cons_zero]
  rw [e8]
  clear e8
  have HM7 := Lib.hid hm
  clear hm
  refine wp_seq ?_
  refine wp_region_N [(0, 1)] (by kernel_rfl) ?_
  refine wpS_this [0] rfl (by kernel_rfl) (by simp only [pickL, nthL, List.cons_append, List.nil_append]; rfl) ?_
  repeat (go_big_quiet_step (fail))
  refine wpQuiet_nil ?_
  refine wpS_nil ?_
  refine then_normal ?_
  refine wp_seq ?_
  refine wp_cond_split rfl (fun h8 => ?_) (fun h8 => ?_)
  · have hk1 : k + 1 ≤ 16 := by have : (k : Int) < 16 := (by simpa using h8); omega
    clear h8
    obtain ⟨x, hx'⟩ := int_letter (whoL T k)
    have hx := Lib.hid hx'
    clear hx'
    refine wp_skip ?_
    refine then_normal ?_
    refine wp_seq ?_
    refine wp_block ?_
    refine wp_seq ?_
    refine wp_region_N [(0, 1), (1, 1), (2, 1), (3, 1)] (by kernel_rfl) ?_
    refine wpS_this [0] rfl (by kernel_rfl) (by simp only [pickL, nthL, List.cons_append, List.nil_append]; rfl) ?_
    repeat (go_big_quiet_step (fail))
    refine wpQuiet_nil ?_
    refine wpS_indexArr (i := 1) (d := some 11) (j := k) sp16 rfl (by rfl) rfl rfl rfl ((own16_at hk1).trans (congrArg some hx.out)) (own16_len T) rfl ?_
    simp only [Act.put, List.setIfInBounds_toArray, List.set_cons_succ, List.set_cons_zero]
    refine wpS_this [2, 3] rfl (by kernel_rfl) (by simp only [pickL, nthL, List.cons_append, List.nil_append]; rfl) ?_
    repeat (go_big_quiet_step (fail))
    refine wpQuiet_nil ?_
    refine wpS_nil ?_
    refine then_normal ?_
    refine wp_seq ?_
    refine wp_region_N [(0, 1), (1, 1), (2, 3)] (by kernel_rfl) ?_
    refine wpS_this [0] rfl (by kernel_rfl) (by simp only [pickL, nthL, List.cons_append, List.nil_append]; rfl) ?_
    repeat (go_big_quiet_step (fail))
    refine wpQuiet_nil ?_
    refine wpS_addrArrU (i := 1) (d := some 13) (b := tb) (j := k) spU rfl (by rfl) rfl rfl rfl (by omega) rfl ?_
    simp only [Act.put, List.setIfInBounds_toArray, List.set_cons_succ, List.set_cons_zero]
    refine wpS_setElU (i := 2) (z := 45) (L2 := [_]) (rfl) rfl (by rfl) rfl rfl rfl HM7.out 1 rfl rfl (by rw [fillK_len hk]; omega) covS_nil rfl ?_
    rintro W10 hm9 -
    have HM11 := Lib.hid hm9
    clear hm9
    refine wpS_nil ?_
    refine then_normal ?_
    refine wp_seq ?_
    by_cases h1 : 0 ≤ x
    · obtain ⟨xn, hxn, hx8⟩ := whoL_nat (T := T) (k := k) (by rw [hx.out]; exact h1)
      have hxx : x = (xn : Int) := hx.out.symm.trans hxn
      subst hxx
      have g1 : ((xn : Int) != -1) = true := bne_iff_ne.2 (by omega)
      have hc : Hid ((fun p => chU (whoL T p)) k = chU (xn : Int)) := Lib.hid (congrArg chU hxn)
      have hcu := Lib.hid (chU_num hx8)
      clear h1 hxn
      refine wp_region_N [(0, 1), (1, 1)] (by kernel_rfl) ?_
      refine wpS_this [0, 1] rfl (by kernel_rfl) (by simp only [pickL, nthL, List.cons_append, List.nil_append]; rfl) ?_
      repeat (go_big_quiet_step (fail))
      refine wpQuiet_nil ?_
      refine wpS_nil ?_
      refine then_normal ?_
      refine wp_cond_true rfl ?_
      refine wp_region_N [(0, 1), (1, 1), (2, 1), (3, 1), (4, 1), (5, 3)] (by kernel_rfl) ?_
      refine wpS_this [0, 1, 2, 3] rfl (by kernel_rfl) (by simp only [pickL, nthL, List.cons_append, List.nil_append]; rfl) ?_
      repeat (go_big_quiet_step (fail))
      refine wpQuiet_nil ?_
      refine wpS_addrArrU (i := 4) (d := some 20) (b := tb) (j := k) spU rfl (by rfl) rfl rfl rfl (by omega) rfl ?_
      simp only [Act.put, List.setIfInBounds_toArray, List.set_cons_succ, List.set_cons_zero]
      refine wpS_setElU (i := 5) (z := chU (xn : Int)) (L2 := [_]) (hcu.out) rfl (by rfl) rfl rfl rfl HM11.out 0 rfl rfl (by rw [List.length_set, fillK_len hk]; omega) covS_nil rfl ?_
      rintro W13 hm12 -
      rw [List.set_set] at hm12
      have HM14 := Lib.hid hm12
      clear hm12
      refine wpS_nil ?_
      refine block_normal ?_
      refine then_normal ?_
      refine wp_region_N [(0, 1), (1, 1)] (by kernel_rfl) ?_
      refine wpS_this [0, 1] rfl (by kernel_rfl) (by simp only [pickL, nthL, List.cons_append, List.nil_append]; rfl) ?_
      repeat (go_big_quiet_step (fail))
      refine wpQuiet_nil ?_
      refine wpS_nil ?_
      refine then_normal ?_
      refine ⟨by kernel_rfl, ?_⟩
      refine ⟨16 - (k + 1), by omega, k + 1, rfl, rfl, hk1, ?_⟩
      rw [← fillK_step hk1 hc.out]
      exact (Mem.only (M := [_, _]) HM14.out [1, 0] rfl)
    · have hx1 : x = -1 := hx.out.symm.trans (whoL_neg (by rw [hx.out]; omega))
      subst hx1
      have hc : Hid ((fun p => chU (whoL T p)) k = 45) := Lib.hid ((congrArg chU hx.out).trans rfl)
      clear h1
      refine wp_region_N [(0, 1), (1, 1)] (by kernel_rfl) ?_
      refine wpS_this [0, 1] rfl (by kernel_rfl) (by simp only [pickL, nthL, List.cons_append, List.nil_append]; rfl) ?_
      repeat (go_big_quiet_step (fail))
      refine wpQuiet_nil ?_
      refine wpS_nil ?_
      refine then_normal ?_
      refine wp_cond_false rfl ?_
      refine wp_skip ?_
      refine block_normal ?_
      refine then_normal ?_
      refine wp_region_N [(0, 1), (1, 1)] (by kernel_rfl) ?_
      refine wpS_this [0, 1] rfl (by kernel_rfl) (by simp only [pickL, nthL, List.cons_append, List.nil_append]; rfl) ?_
      repeat (go_big_quiet_step (fail))
      refine wpQuiet_nil ?_
      refine wpS_nil ?_
      refine then_normal ?_
      refine ⟨by kernel_rfl, ?_⟩
      refine ⟨16 - (k + 1), by omega, k + 1, rfl, rfl, hk1, ?_⟩
      rw [← fillK_step hk1 hc.out]
      exact (Mem.only (M := [_, _]) HM11.out [1, 0] rfl)
  · have hge : Hid (16 ≤ k) := Lib.hid (by have : ¬ (k : Int) < 16 := (by simpa using h8); omega)
    clear h8
    have hk16 : k = 16 := by have := hge.out; omega
    subst hk16
    refine wp_exit ?_
    refine then_exit (then_exit (block_exit ?_))
    refine then_normal ?_
    refine wp_seq ?_
    refine wp_region_N [(0, 1), (1, 1), (2, 1)] (by kernel_rfl) ?_
    refine wpS_sliceArrU (i := 0) (d := some 22) (b := tb) spU rfl (by rfl) rfl rfl (by decide) rfl ?_
    simp only [Act.put, List.setIfInBounds_toArray, List.set_cons_succ, List.set_cons_zero]
    refine wpS_textU (i := 1) (d := some 23) (b := tb) rfl (by rfl) rfl rfl HM7.out 1 rfl (fillK_len (Nat.le_refl 16)) rfl ?_
    simp only [Act.put, List.setIfInBounds_toArray, List.set_cons_succ, List.set_cons_zero]
    refine wpS_this [2] rfl (by kernel_rfl) (by simp only [pickL, nthL, List.cons_append, List.nil_append]; rfl) ?_
    repeat (go_big_quiet_step (fail))
    refine wpQuiet_nil ?_
    refine wpS_nil ?_
    refine then_normal ?_
    refine wp_ret ?_
    refine bodyPost_ret (results_tmp rfl _ _ _) rfl ?_
    rw [fillK_end]
    exact does_ret (Mem.only (M := [_]) HM7.out [0] rfl) rfl rfl

end Go.Proofs.YthibiejneggmoaaDoor
