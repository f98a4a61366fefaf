/- ClmE: ClmE. -/
import Derived.Test.YthibiejneggmoaaClmD
namespace Go.Proofs.Ythibiejneggmoaa
section
open Go Go.RowKit Go.BigFrame
set_option maxHeartbeats 4000000 in
set_option maxRecDepth 100000 in
theorem keep_d (now M : List Int) (Q : Int → Int) (hok : MemOk M) (hQ0 : ∀ n, n ∉ M → Q n = 0) (hQ17 : ∀ n, Q n ≤ 17) : Does Try.prog 22 #[aV (ownL now), aV (tabN Q)] [] (.tuple #[aV (keepK now M Q 16).1, aV (tabN (keepK now M Q 16).2)]) [] := by
  intro w H hp
  have HM0 := Lib.hid (mem_refl hp)
  clear hp
  go_enter Try.func22, Try.ntmps22
  refine wp_seq ?_
  refine wp_region_N [(0, 3), (1, 3), (2, 3), (3, 3)] (by kernel_rfl) ?_
  refine wpS_boxA (i := 0) (dd := 2) rfl (by rfl) rfl rfl HM0.out covS_nil rfl ?_
  rintro ib W2 hm1 -
  have HM3 := Lib.hid hm1
  clear hm1
  simp only [Act.put, List.setIfInBounds_toArray, List.set_cons_succ, List.set_cons_zero]
  refine wpS_boxA (i := 1) (dd := 3) rfl (by rfl) rfl rfl HM3.out covS_nil rfl ?_
  rintro qb W5 hm4 -
  have HM6 := Lib.hid hm4
  clear hm4
  simp only [Act.put, List.setIfInBounds_toArray, List.set_cons_succ, List.set_cons_zero]
  refine wpS_alloc (i := 2) (dd := 4) (z := aV (List.replicate 16 0)) (cs := (((List.replicate 16 0) : List Int).map iV).toArray) rfl (by rfl) rfl (by kernel_rfl) rfl HM6.out covS_nil rfl ?_
  rintro rb W8 hm7 -
  have HM9 := Lib.hid hm7
  clear hm7
  simp only [Act.put, List.setIfInBounds_toArray, List.set_cons_succ, List.set_cons_zero]
  refine wpS_alloc (i := 3) (dd := 5) (z := aV (List.replicate 8 0)) (cs := (((List.replicate 8 0) : List Int).map iV).toArray) rfl (by rfl) rfl (by kernel_rfl) rfl HM9.out covS_nil rfl ?_
  rintro sb W11 hm10 -
  have HM12 := Lib.hid hm10
  clear hm10
  simp only [Act.put, List.setIfInBounds_toArray, List.set_cons_succ, List.set_cons_zero]
  refine wpS_nil ?_
  refine then_normal ?_
  refine wp_seq ?_
  refine wp_cut_F [6, 7, 10, 11] (fun vs W' => ∃ kb lb, vs 6 = .pointer (some ⟨kb, 0, none⟩) ∧ vs 7 = .pointer (some ⟨lb, 0, none⟩) ∧ vs 10 = aV (ownL now) ∧ vs 11 = aV (tabN Q) ∧ Mem [arrT ib 34 (ownL now), arrT qb 37 (tabN Q), arrT rb 34 (List.replicate 16 0), arrT sb 37 (List.replicate 8 0), arrT kb 34 (ownL now), arrT lb 37 (tabN Q)] H w W') ?_ ?_
  · refine wp_region_taken [] (fun k => k ∈ ([ib, qb] : List Nat)) (by kernel_rfl) rfl rfl ?_
    have hm13 := HM12.out.drew
    have HM14 := Lib.hid hm13
    clear hm13
    refine wpT_takeS (i := 0) (by kernel_rfl) (by kernel_rfl) ?_
    refine wpS_loadArr2 (i := 0) (d := some 10) is16 rfl (by rfl) rfl rfl (by simp) HM14.out 3 rfl (ownL_len now) rfl ?_
    simp only [Act.put, List.setIfInBounds_toArray, List.set_cons_succ, List.set_cons_zero]
    refine wpS_nil ?_
    refine wpT_takeS (i := 1) (by kernel_rfl) (by kernel_rfl) ?_
    refine wpS_loadArr2 (i := 1) (d := some 11) is8 rfl (by rfl) rfl rfl (by simp) HM14.out 2 rfl (tabN_len Q) rfl ?_
    simp only [Act.put, List.setIfInBounds_toArray, List.set_cons_succ, List.set_cons_zero]
    refine wpS_nil ?_
    refine wpT_ready 2 [3] (by kernel_rfl) (allT_cons ?_ (allT_cons ?_ allT_nil))
    · refine opT_S (by kernel_rfl) ?_
      refine wpS_alloc (i := 2) (dd := 6) (z := aV (List.replicate 16 0)) (cs := (((List.replicate 16 0) : List Int).map iV).toArray) rfl (by rfl) rfl (by kernel_rfl) rfl HM14.out (covS_box 3 rfl (covS_box 2 rfl covS_nil)) rfl ?_
      rintro kb W16 hm15 hg17
      have HM18 := Lib.hid hm15
      clear hm15
      simp only [Act.put, List.setIfInBounds_toArray, List.set_cons_succ, List.set_cons_zero]
      refine wpS_nil ?_
      refine wpT_ready 3 [] (by kernel_rfl) (allT_cons ?_ allT_nil)
      refine opT_S (by kernel_rfl) ?_
      refine wpS_alloc (i := 3) (dd := 7) (z := aV (List.replicate 8 0)) (cs := (((List.replicate 8 0) : List Int).map iV).toArray) rfl (by rfl) rfl (by kernel_rfl) rfl HM18.out (covS_box 4 rfl (covS_box 3 rfl covS_nil)) rfl ?_
      rintro lb W20 hm19 hg21
      have HM22 := Lib.hid hm19
      clear hm19
      simp only [Act.put, List.setIfInBounds_toArray, List.set_cons_succ, List.set_cons_zero]
      refine wpS_nil ?_
      refine wpT_ready 4 [] (by kernel_rfl) (allT_cons ?_ allT_nil)
      refine opT_S (by kernel_rfl) ?_
      refine wpS_storeArr (i := 4) (L2 := [_, _, _, _, _]) is16 rfl (by rfl) rfl rfl rfl HM22.out 1 rfl rfl (List.length_replicate) (ownL_len now) (covS_box 4 rfl (covS_box 3 rfl covS_nil)) rfl ?_
      rintro W24 hm23 hg25
      have HM26 := Lib.hid hm23
      clear hm23
      refine wpS_nil ?_
      refine wpT_ready 5 [] (by kernel_rfl) (allT_cons ?_ allT_nil)
      refine opT_S (by kernel_rfl) ?_
      refine wpS_storeArr (i := 5) (L2 := [_, _, _, _, _]) is8 rfl (by rfl) rfl rfl rfl HM26.out 1 rfl rfl (List.length_replicate) (tabN_len Q) (covS_box 4 rfl (covS_box 3 rfl covS_nil)) rfl ?_
      rintro W28 hm27 hg29
      have HM30 := Lib.hid hm27
      clear hm27
      refine wpS_nil ?_
      refine wpT_end (by kernel_rfl) ?_
      refine then_normal ?_
      refine ⟨by kernel_rfl, ?_⟩
      exact ⟨_, _, rfl, rfl, rfl, rfl, (Mem.only (M := [_, _, _, _, _, _]) HM30.out [5, 4, 3, 2, 1, 0] rfl)⟩
    · refine opT_S (by kernel_rfl) ?_
      refine wpS_alloc (i := 3) (dd := 7) (z := aV (List.replicate 8 0)) (cs := (((List.replicate 8 0) : List Int).map iV).toArray) rfl (by rfl) rfl (by kernel_rfl) rfl HM14.out (covS_box 3 rfl (covS_box 2 rfl covS_nil)) rfl ?_
      rintro lb W32 hm31 hg33
      have HM34 := Lib.hid hm31
      clear hm31
      simp only [Act.put, List.setIfInBounds_toArray, List.set_cons_succ, List.set_cons_zero]
      refine wpS_nil ?_
      refine wpT_ready 2 [] (by kernel_rfl) (allT_cons ?_ allT_nil)
      refine opT_S (by kernel_rfl) ?_
      refine wpS_alloc (i := 2) (dd := 6) (z := aV (List.replicate 16 0)) (cs := (((List.replicate 16 0) : List Int).map iV).toArray) rfl (by rfl) rfl (by kernel_rfl) rfl HM34.out (covS_box 4 rfl (covS_box 3 rfl covS_nil)) rfl ?_
      rintro kb W36 hm35 hg37
      have HM38 := Lib.hid hm35
      clear hm35
      simp only [Act.put, List.setIfInBounds_toArray, List.set_cons_succ, List.set_cons_zero]
      refine wpS_nil ?_
      refine wpT_ready 4 [] (by kernel_rfl) (allT_cons ?_ allT_nil)
      refine opT_S (by kernel_rfl) ?_
      refine wpS_storeArr (i := 4) (L2 := [_, _, _, _, _]) is16 rfl (by rfl) rfl rfl rfl HM38.out 0 rfl rfl (List.length_replicate) (ownL_len now) (covS_box 4 rfl (covS_box 3 rfl covS_nil)) rfl ?_
      rintro W40 hm39 hg41
      have HM42 := Lib.hid hm39
      clear hm39
      refine wpS_nil ?_
      refine wpT_ready 5 [] (by kernel_rfl) (allT_cons ?_ allT_nil)
      refine opT_S (by kernel_rfl) ?_
      refine wpS_storeArr (i := 5) (L2 := [_, _, _, _, _]) is8 rfl (by rfl) rfl rfl rfl HM42.out 1 rfl rfl (List.length_replicate) (tabN_len Q) (covS_box 4 rfl (covS_box 3 rfl covS_nil)) rfl ?_
      rintro W44 hm43 hg45
      have HM46 := Lib.hid hm43
      clear hm43
      refine wpS_nil ?_
      refine wpT_end (by kernel_rfl) ?_
      refine then_normal ?_
      refine ⟨by kernel_rfl, ?_⟩
      exact ⟨_, _, rfl, rfl, rfl, rfl, (Mem.only (M := [_, _, _, _, _, _]) HM46.out [5, 4, 3, 2, 1, 0] rfl)⟩
  rintro vs W' ⟨kb, lb, e6, e7, e10, e11, hm⟩
  simp only [putAll, List.map_cons, List.map_nil, Act.put, List.setIfInBounds_toArray, List.set_cons_succ, List.set_cons_zero]
  rw [e6, e7, e10, e11]
  clear e6 e7 e10 e11
  have HM47 := Lib.hid hm
  clear hm
  refine then_normal ?_
  refine wp_seq ?_
  refine wp_seq ?_
  refine wp_region_N [(0, 1), (1, 1)] (by kernel_rfl) ?_
  refine wpS_loadArr (i := 0) (d := some 12) is16 rfl (by rfl) rfl rfl HM47.out 0 rfl (ownL_len now) rfl ?_
  simp only [Act.put, List.setIfInBounds_toArray, List.set_cons_succ, List.set_cons_zero]
  refine wpS_this [1] rfl (by kernel_rfl) (by simp only [pickL, nthL, List.cons_append, List.nil_append]; rfl) ?_
  repeat (go_big_quiet_step (fail))
  refine wpQuiet_nil ?_
  refine wpS_nil ?_
  refine then_normal ?_
  refine wp_block ?_
  refine wp_loop_F [8, 9, 13, 14, 15, 16, 17, 18, 19, 20, 21, 22, 23, 24, 25, 26, 27, 28, 29, 30] (fun n vs W' => ∃ k : Nat, n = 16 - k ∧ vs 13 = .int .i64 (k : Int) ∧ k ≤ 16 ∧ Mem [arrT ib 34 (ownL now), arrT qb 37 (tabN Q), arrT rb 34 (List.replicate 16 0), arrT sb 37 (List.replicate 8 0), arrT kb 34 (kL now M Q k), arrT lb 37 (tabN (keepK now M Q k).2)] H w W') (n0 := 16) ?_ ?_
  · refine ⟨0, rfl, rfl, Nat.zero_le _, ?_⟩
    rw [kL_zero]
    exact (Mem.only (M := [_, _, _, _, _, _]) HM47.out [0, 0, 0, 0, 0, 0] rfl)
  rintro n vs W' ⟨k, rfl, e13, hk, hm⟩
  simp only [putAll, List.map_cons, List.map_nil, Act.put, List.setIfInBounds_toArray, List.set_cons_succ, List.set_cons_zero]
  rw [e13]
  clear e13
  have HM48 := Lib.hid hm
  clear hm
  refine wp_seq ?_
  refine wp_region_N [(0, 1)] (by kernel_rfl) ?_
  refine wpS_this [0] rfl (by kernel_rfl) (by simp only [pickL, nthL, List.cons_append, List.nil_append]; rfl) ?_
  repeat (go_big_quiet_step (fail))
  refine wpQuiet_nil ?_
  refine wpS_nil ?_
  refine then_normal ?_
  refine wp_seq ?_
  refine wp_cond_split rfl (fun h49 => ?_) (fun h49 => ?_)
  · have hk1 : k + 1 ≤ 16 := by have : (k : Int) < ((16 : Nat) : Int) := (by simpa using h49); omega
    clear h49
    obtain ⟨x, hx'⟩ : ∃ z : Int, ownI (atL now k) = z := ⟨_, rfl⟩
    have hxr : x = -1 ∨ (0 ≤ x ∧ x < 8) := by rw [← hx']; exact (ownI_range (atL now k)).imp id fun h => ⟨h.1, h.2.1⟩
    have hx := Lib.hid hx'
    clear hx'
    refine wp_skip ?_
    refine then_normal ?_
    refine wp_seq ?_
    refine wp_block ?_
    refine wp_seq ?_
    refine wp_region_N [(0, 1), (1, 1), (2, 1), (3, 1)] (by kernel_rfl) ?_
    refine wpS_this [0] rfl (by kernel_rfl) (by simp only [pickL, nthL, List.cons_append, List.nil_append]; rfl) ?_
    repeat (go_big_quiet_step (fail))
    refine wpQuiet_nil ?_
    refine wpS_indexArr (i := 1) (d := some 16) (j := k) is16 rfl (by rfl) rfl rfl rfl (by rw [ownL_at now (by omega), hx.out]) (ownL_len now) rfl ?_
    simp only [Act.put, List.setIfInBounds_toArray, List.set_cons_succ, List.set_cons_zero]
    refine wpS_this [2, 3] rfl (by kernel_rfl) (by simp only [pickL, nthL, List.cons_append, List.nil_append]; rfl) ?_
    repeat (go_big_quiet_step (fail))
    refine wpQuiet_nil ?_
    refine wpS_nil ?_
    refine then_normal ?_
    refine wp_seq ?_
    refine wp_seq ?_
    rcases hxr with hx1 | ⟨hx0, hx8⟩
    · subst hx1
      refine wp_region_N [(0, 1), (1, 1)] (by kernel_rfl) ?_
      refine wpS_this [0, 1] rfl (by kernel_rfl) (by simp only [pickL, nthL, List.cons_append, List.nil_append]; rfl) ?_
      repeat (go_big_quiet_step (fail))
      refine wpQuiet_nil ?_
      refine wpS_nil ?_
      refine then_normal ?_
      refine wp_cond_true rfl ?_
      refine wp_exit ?_
      refine then_exit (block_exit ?_)
      refine then_normal ?_
      refine wp_region_N [(0, 1), (1, 1)] (by kernel_rfl) ?_
      refine wpS_this [0, 1] rfl (by kernel_rfl) (by simp only [pickL, nthL, List.cons_append, List.nil_append]; rfl) ?_
      repeat (go_big_quiet_step (fail))
      refine wpQuiet_nil ?_
      refine wpS_nil ?_
      refine then_normal ?_
      refine ⟨by kernel_rfl, ?_⟩
      refine ⟨16 - (k + 1), by omega, k + 1, rfl, rfl, hk1, ?_⟩
      obtain ⟨h1, h2⟩ := kL_none (Q := Q) hok (show k < 16 by omega) hx.out
      rw [h1, h2]
      exact (Mem.only (M := [_, _, _, _, _, _]) HM48.out [0, 0, 0, 0, 0, 0] rfl)
    · obtain ⟨j, rfl⟩ : ∃ j : Nat, x = (j : Int) := ⟨x.toNat, by omega⟩
      have g1 : ((j : Int) == -1) = false := beq_eq_false_iff_ne.2 (by omega)
      refine wp_region_N [(0, 1), (1, 1)] (by kernel_rfl) ?_
      refine wpS_this [0, 1] rfl (by kernel_rfl) (by simp only [pickL, nthL, List.cons_append, List.nil_append]; rfl) ?_
      repeat (go_big_quiet_step (fail))
      refine wpQuiet_nil ?_
      refine wpS_nil ?_
      refine then_normal ?_
      refine wp_cond_false rfl ?_
      refine wp_skip ?_
      refine then_normal ?_
      refine wp_seq ?_
      by_cases hcp : 0 < (keepK now M Q k).2 (j : Int)
      · obtain ⟨c, hc'⟩ : ∃ z : Int, (keepK now M Q k).2 (j : Int) = z := ⟨_, rfl⟩
        rw [hc'] at hcp
        have hc17 : c ≤ 17 := by rw [← hc']; exact Int.le_trans (keepK_le k _) (hQ17 _)
        have hc := Lib.hid hc'
        clear hc'
        have g2 : decide ((0 : Int) < c) = true := decide_eq_true hcp
        refine wp_region_N [(0, 1), (1, 1), (2, 1), (3, 1)] (by kernel_rfl) ?_
        refine wpS_this [0] rfl (by kernel_rfl) (by simp only [pickL, nthL, List.cons_append, List.nil_append]; rfl) ?_
        repeat (go_big_quiet_step (fail))
        refine wpQuiet_nil ?_
        refine wpS_addrArr (i := 1) (d := some 20) (b := lb) (j := j) is8 rfl (by rfl) rfl rfl rfl (by omega) rfl ?_
        simp only [Act.put, List.setIfInBounds_toArray, List.set_cons_succ, List.set_cons_zero]
        refine wpS_loadEl (i := 2) (d := some 21) (y := c) rfl (by rfl) rfl rfl (HM48.out.arr 5 rfl (by rw [tabN_at _ (by omega), hc.out])) rfl ?_
        simp only [Act.put, List.setIfInBounds_toArray, List.set_cons_succ, List.set_cons_zero]
        refine wpS_this [3] rfl (by kernel_rfl) (by simp only [pickL, nthL, List.cons_append, List.nil_append]; rfl) ?_
        repeat (go_big_quiet_step (fail))
        refine wpQuiet_nil ?_
        refine wpS_nil ?_
        refine then_normal ?_
        refine wp_cond_true rfl ?_
        refine wp_region_N [(0, 1), (1, 1), (2, 1), (3, 1), (4, 1), (5, 3)] (by kernel_rfl) ?_
        refine wpS_this [0] rfl (by kernel_rfl) (by simp only [pickL, nthL, List.cons_append, List.nil_append]; rfl) ?_
        repeat (go_big_quiet_step (fail))
        refine wpQuiet_nil ?_
        refine wpS_addrArr (i := 1) (d := some 24) (b := lb) (j := j) is8 rfl (by rfl) rfl rfl rfl (by omega) rfl ?_
        simp only [Act.put, List.setIfInBounds_toArray, List.set_cons_succ, List.set_cons_zero]
        refine wpS_loadEl (i := 2) (d := some 25) (y := c) rfl (by rfl) rfl rfl (HM48.out.arr 5 rfl (by rw [tabN_at _ (by omega), hc.out])) rfl ?_
        simp only [Act.put, List.setIfInBounds_toArray, List.set_cons_succ, List.set_cons_zero]
        refine wpS_this [3] rfl (by kernel_rfl) (by simp only [pickL, nthL, List.cons_append, List.nil_append]; rfl) ?_
        repeat (go_big_quiet_step (fail))
        refine wpQuiet_nil ?_
        refine wpS_addrArr (i := 4) (d := some 27) (b := lb) (j := j) is8 rfl (by rfl) rfl rfl rfl (by omega) rfl ?_
        simp only [Act.put, List.setIfInBounds_toArray, List.set_cons_succ, List.set_cons_zero]
        refine wpS_setEl (i := 5) (z := (c - 1)) (L2 := [_, _, _, _, _]) rfl (by rfl) rfl rfl rfl HM48.out 5 rfl rfl (by rw [tabN_len]; omega) covS_nil rfl ?_
        rintro W51 hm50 -
        have HM52 := Lib.hid hm50
        clear hm50
        refine wpS_nil ?_
        refine block_normal ?_
        refine then_normal ?_
        refine wp_region_N [(0, 1), (1, 1)] (by kernel_rfl) ?_
        refine wpS_this [0, 1] rfl (by kernel_rfl) (by simp only [pickL, nthL, List.cons_append, List.nil_append]; rfl) ?_
        repeat (go_big_quiet_step (fail))
        refine wpQuiet_nil ?_
        refine wpS_nil ?_
        refine then_normal ?_
        refine ⟨by kernel_rfl, ?_⟩
        refine ⟨16 - (k + 1), by omega, k + 1, rfl, rfl, hk1, ?_⟩
        obtain ⟨h1, h2⟩ := kL_keep hQ0 (show k < 16 by omega) hx.out (by omega) (by rw [hc.out]; exact hcp)
        rw [h1, h2, ← tabN_set _ (by omega), hc.out]
        exact (Mem.only (M := [_, _, _, _, _, _]) HM52.out [1, 1, 1, 1, 1, 0] rfl)
      · obtain ⟨c, hc'⟩ : ∃ z : Int, (keepK now M Q k).2 (j : Int) = z := ⟨_, rfl⟩
        rw [hc'] at hcp
        have hc := Lib.hid hc'
        clear hc'
        have g2 : decide ((0 : Int) < c) = false := decide_eq_false hcp
        refine wp_region_N [(0, 1), (1, 1), (2, 1), (3, 1)] (by kernel_rfl) ?_
        refine wpS_this [0] rfl (by kernel_rfl) (by simp only [pickL, nthL, List.cons_append, List.nil_append]; rfl) ?_
        repeat (go_big_quiet_step (fail))
        refine wpQuiet_nil ?_
        refine wpS_addrArr (i := 1) (d := some 20) (b := lb) (j := j) is8 rfl (by rfl) rfl rfl rfl (by omega) rfl ?_
        simp only [Act.put, List.setIfInBounds_toArray, List.set_cons_succ, List.set_cons_zero]
        refine wpS_loadEl (i := 2) (d := some 21) (y := c) rfl (by rfl) rfl rfl (HM48.out.arr 5 rfl (by rw [tabN_at _ (by omega), hc.out])) rfl ?_
        simp only [Act.put, List.setIfInBounds_toArray, List.set_cons_succ, List.set_cons_zero]
        refine wpS_this [3] rfl (by kernel_rfl) (by simp only [pickL, nthL, List.cons_append, List.nil_append]; rfl) ?_
        repeat (go_big_quiet_step (fail))
        refine wpQuiet_nil ?_
        refine wpS_nil ?_
        refine then_normal ?_
        refine wp_cond_false rfl ?_
        refine wp_region_N [(0, 1), (1, 1), (2, 3)] (by kernel_rfl) ?_
        refine wpS_this [0] rfl (by kernel_rfl) (by simp only [pickL, nthL, List.cons_append, List.nil_append]; rfl) ?_
        repeat (go_big_quiet_step (fail))
        refine wpQuiet_nil ?_
        refine wpS_addrArr (i := 1) (d := some 29) (b := kb) (j := k) is16 rfl (by rfl) rfl rfl rfl (by omega) rfl ?_
        simp only [Act.put, List.setIfInBounds_toArray, List.set_cons_succ, List.set_cons_zero]
        refine wpS_setEl (i := 2) (z := (-1)) (L2 := [_, _, _, _, _]) rfl (by rfl) rfl rfl rfl HM48.out 4 rfl rfl (by rw [kL_len now M Q hk]; omega) covS_nil rfl ?_
        rintro W54 hm53 -
        have HM55 := Lib.hid hm53
        clear hm53
        refine wpS_nil ?_
        refine block_normal ?_
        refine then_normal ?_
        refine wp_region_N [(0, 1), (1, 1)] (by kernel_rfl) ?_
        refine wpS_this [0, 1] rfl (by kernel_rfl) (by simp only [pickL, nthL, List.cons_append, List.nil_append]; rfl) ?_
        repeat (go_big_quiet_step (fail))
        refine wpQuiet_nil ?_
        refine wpS_nil ?_
        refine then_normal ?_
        refine ⟨by kernel_rfl, ?_⟩
        refine ⟨16 - (k + 1), by omega, k + 1, rfl, rfl, hk1, ?_⟩
        obtain ⟨h1, h2⟩ := kL_drop (M := M) (Q := Q) (show k < 16 by omega) hx.out (by omega) (by rw [hc.out]; exact hcp)
        rw [h1, h2]
        exact (Mem.only (M := [_, _, _, _, _, _]) HM55.out [1, 1, 1, 1, 0, 0] rfl)
  · have hkn : k = 16 := by have : ¬ (k : Int) < 16 := (by simpa using h49); omega
    clear h49
    subst hkn
    refine wp_exit ?_
    refine then_exit (then_exit (block_exit ?_))
    refine then_normal ?_
    refine wp_seq ?_
    refine wp_region_M (fun k => k ∈ ([lb] : List Nat)) [(0, 1), (1, 2), (2, 3), (3, 3)] (by kernel_rfl) (by kernel_rfl) HM48.out ?_
    intro W56 hm57
    have HM58 := Lib.hid hm57
    clear hm57
    refine wpS_loadArr (i := 0) (d := some 31) is16 rfl (by rfl) rfl rfl HM58.out 4 rfl (kL_len now M Q (Nat.le_refl 16)) rfl ?_
    simp only [Act.put, List.setIfInBounds_toArray, List.set_cons_succ, List.set_cons_zero]
    refine wpS_loadArr2 (i := 1) (d := some 32) is8 rfl (by rfl) rfl rfl (by simp) HM58.out 5 rfl (tabN_len _) rfl ?_
    simp only [Act.put, List.setIfInBounds_toArray, List.set_cons_succ, List.set_cons_zero]
    refine wpS_storeArr (i := 2) (L2 := [_, _, _, _, _]) is16 rfl (by rfl) rfl rfl rfl HM58.out 2 rfl rfl (List.length_replicate) (kL_len now M Q (Nat.le_refl 16)) (covS_box 4 rfl covS_nil) rfl ?_
    rintro W60 hm59 hg61
    have HM62 := Lib.hid hm59
    clear hm59
    refine wpS_storeArr (i := 3) (L2 := [_, _, _, _, _]) is8 rfl (by rfl) rfl rfl rfl HM62.out 3 rfl rfl (List.length_replicate) (tabN_len _) (covS_box 4 rfl covS_nil) rfl ?_
    rintro W64 hm63 hg65
    have HM66 := Lib.hid hm63
    clear hm63
    refine wpS_nil ?_
    refine then_normal ?_
    refine wp_ret ?_
    refine ret_arr2 rfl is16 is8 HM66.out 1 0 rfl rfl rfl rfl (kL_len now M Q (Nat.le_refl 16)) (tabN_len _) rfl ?_
    exact does_ret (Mem.only (M := []) HM66.out [] rfl) (by rw [kL_end]) rfl
end
end Go.Proofs.Ythibiejneggmoaa
